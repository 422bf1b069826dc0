import PyProof.Rows.All
import Wide.All
import OpenK.AllK
import Wide.FinOn
import Lean
import PyProof.EqAt
import PyProof.EqKinds
import PyProof.TupleCall
import KE.KSortTup
import KE.KSortAsk
import PySem.Challenge.RW_evenkin_k87_tables_of_turnings
set_option Elab.async false
set_option linter.all false
set_option maxRecDepth 100000
namespace L2
open PySem PySem.Spec PyProof.Rows
abbrev Key:=Sum Int Str
def keyIs:Key→Value→Bool
 | .inl k,v=>Value.isInt k v
 | .inr x,v=>Value.isStrOf x v
def keyH (w:World):Key→Int
 | .inl k=>hashInt k
 | .inr x=>hashStr w x
theorem keyIs_shape:∀ {k:Key} {v:Value},keyIs k v=true→(∃ i t,k=Sum.inl i∧v=Value.int i t) ∨ (∃ x t,k=Sum.inr x∧v=Value.str x t)
 | .inl i,v,h=>by
  obtain ⟨t,e⟩:=Value.isInt_shape (k:=i) (v:=v) h
  exact .inl ⟨i,t,rfl,e⟩
 | .inr x,v,h=>by
  obtain ⟨t,e⟩:=Value.isStrOf_shape (x:=x) (v:=v) h
  exact .inr ⟨x,t,rfl,e⟩
theorem keyIs_int (i:Int) (t:Tok):keyIs (.inl i) (.int i t)=true:=by simp [keyIs,Value.isInt]
theorem keyIs_str (x:Str) (t:Tok):keyIs (.inr x) (.str x t)=true:=by simp [keyIs,Value.isStrOf]
theorem key_ll (a b:Int):decide ((Sum.inl a:Key)=Sum.inl b)=(a == b):=by
 by_cases e:a=b
 ·subst e; simp
 ·have h:¬ (Sum.inl a:Key)=Sum.inl b:=fun q=>e (Sum.inl.inj q)
  rw [decide_eq_false h]
  exact (beq_eq_false_iff_ne.mpr e).symm
theorem key_rr (a b:Str):decide ((Sum.inr a:Key)=Sum.inr b)=decide (a=b):=by
 by_cases e:a=b
 ·subst e; simp
 ·have h:¬ (Sum.inr a:Key)=Sum.inr b:=fun q=>e (Sum.inr.inj q)
  rw [decide_eq_false h,decide_eq_false e]
theorem key_lr (a:Int) (b:Str):decide ((Sum.inl a:Key)=Sum.inr b)=false:=decide_eq_false (fun q=>nomatch q)
theorem key_rl (a:Str) (b:Int):decide ((Sum.inr a:Key)=Sum.inl b)=false:=decide_eq_false (fun q=>nomatch q)
def mixKind (prog:Program) (w:World):PySem.KeyKind prog w Key where
 is:=keyIs
 hash:=keyH w
 inj:=fun v a b ha hb=>by
  rcases keyIs_shape ha with ⟨i,t,rfl,rfl⟩ | ⟨x,t,rfl,rfl⟩
  ·rcases keyIs_shape hb with ⟨j,u,rfl,e⟩ | ⟨y,u,rfl,e⟩
   ·injection e with e1 _; rw [e1]
   ·exact nomatch e
  ·rcases keyIs_shape hb with ⟨j,u,rfl,e⟩ | ⟨y,u,rfl,e⟩
   ·exact nomatch e
   ·injection e with e1 _; rw [e1]
 byValue:=fun k v h=>by
  rcases keyIs_shape h with ⟨i,t,rfl,rfl⟩ | ⟨x,t,rfl,rfl⟩ <;> rfl
 pyHash:=fun hv h=>by
  rcases keyIs_shape hv with ⟨i,t,rfl,rfl⟩ | ⟨x,t,rfl,rfl⟩
  ·exact wpAny_pyHash_int h
  ·exact wpAny_pyHash_str h
 eqBool:=fun hu hv h=>by
  rcases keyIs_shape hu with ⟨i,t,rfl,rfl⟩ | ⟨x,t,rfl,rfl⟩
  ·rcases keyIs_shape hv with ⟨j,u,rfl,rfl⟩ | ⟨y,u,rfl,rfl⟩
   ·rw [key_ll] at h; exact wpAny_eqBool_int h
   ·rw [key_lr] at h; exact SeqAt.EqAt.int_str i t y u _ _ _ _ h
  ·rcases keyIs_shape hv with ⟨j,u,rfl,rfl⟩ | ⟨y,u,rfl,rfl⟩
   ·rw [key_rl] at h; exact SeqAt.EqAt.str_int x t j u _ _ _ _ h
   ·rw [key_rr] at h; exact wpAny_eqBool_str h
 «strs»:=fun k x t v h=>by
  rcases keyIs_shape h with ⟨i,u,rfl,e⟩ | ⟨y,u,rfl,e⟩
  ·exact nomatch e
  ·injection e with e1 _
   subst e1
   cases v <;> rfl
theorem mixKind_int (prog:Program) (w:World) (i:Int) (t:Tok):(mixKind prog w).is (.inl i) (.int i t)=true:=keyIs_int i t
theorem mixKind_str (prog:Program) (w:World) (x:Str) (t:Tok):(mixKind prog w).is (.inr x) (.str x t)=true:=keyIs_str x t
end L2
namespace L2
open PySem PySem.Spec PyProof.Rows
inductive V where
 | non | bl (b:Bool) | int (i:Int) | str (x:Str) | byt (b:Array UInt8) | flt (b:UInt64) | ref (a:Addr) | ty (n:String)
 deriving DecidableEq
def RelV:V→Value→Prop
 | .non,u=>u=Value.none
 | .bl b,u=>u=Value.bool b
 | .int i,u=>∃ t,u=Value.int i t
 | .str x,u=>∃ t,u=Value.str x t
 | .byt b,u=>∃ t,u=Value.bytes b t
 | .flt b,u=>∃ t,u=Value.float b t
 | .ref a,u=>u=Value.ref a
 | .ty n,u=>u=Value.type n
abbrev Vals:List V→List Value→Prop:=Paired RelV
theorem Vals.length {xs:List V} {us:List Value} (r:Vals xs us):xs.length=us.length:=Paired.length r
theorem Vals.get:∀ {xs:List V} {us:List Value} {i:Nat} {x:V},Vals xs us→xs[i]? = some x→∃ u,us[i]? = some u∧RelV x u
 | _,_,_,_,.nil,e=>by simp at e
 | _,_,0,_,.cons r _,e=>by simp at e; subst e; exact ⟨_,rfl,r⟩
 | _,_,i+1,x,.cons _ t,e=>by
  obtain ⟨u,h1,h2⟩:=Vals.get (i:=i) (x:=x) t (by simpa using e)
  exact ⟨u,by simpa using h1,h2⟩
theorem Vals.set {x:V} {u:Value} (r:RelV x u):∀ {xs:List V} {us:List Value} (i:Nat),Vals xs us→Vals (xs.set i x) (us.set i u)
 | _,_,_,.nil=>.nil
 | _,_,0,.cons _ t=>.cons r t
 | _,_,i+1,.cons q t=>.cons q (Vals.set r i t)
theorem Vals.append:∀ {xs ys:List V} {us ws:List Value},Vals xs us→Vals ys ws→Vals (xs++ys) (us++ws)
 | _,_,_,_,.nil,s=>s
 | _,_,_,_,.cons r t,s=>.cons r (Vals.append t s)
theorem Vals.take:∀ {xs:List V} {us:List Value} (n:Nat),Vals xs us→Vals (xs.take n) (us.take n)
 | _,_,0,_=>.nil
 | _,_,_+1,.nil=>.nil
 | _,_,n+1,.cons r t=>.cons r (Vals.take n t)
theorem Vals.drop:∀ {xs:List V} {us:List Value} (n:Nat),Vals xs us→Vals (xs.drop n) (us.drop n)
 | _,_,0,r=>r
 | _,_,_+1,.nil=>.nil
 | _,_,n+1,.cons _ t=>Vals.drop n t
def RelO:Option V→Option Value→Prop
 | some v,some u=>RelV v u
 | none,none=>True
 | _,_=>False
def KV {κ:Type}:List (κ × V)→List (κ × Value)→Prop:=Paired fun (p:κ × V) (q:κ × Value)=>p.1=q.1∧RelV p.2 q.2
def kV:Key→V
 | .inl i=>.int i
 | .inr x=>.str x
inductive HO where
 | lst (xs:List V)
 | tup (xs:List V)
 | dK (kvs:List (Key × V)) | dT (kvs:List (List Key × V))
 | set (S:Int→Bool) (n:Nat)
 | ins (C dx:Addr) (fs:List (Str × V))
 | own (x:Addr)
 | xd (fs:List (Str × V))
 | met (f x:Addr)
 | rng (lo hi:Int)
 | frz (o:Obj) (u:HO)
 | tbl (ps:Array Value)
 | ext (φ:Heap→Prop)
abbrev Hp:=Addr→Option HO
def upd (H:Hp) (a:Addr) (o:HO):Hp:=fun b=>if b=a then some o else H b
theorem upd_same {H:Hp} {a:Addr} {o:HO}:upd H a o a=some o:=by unfold upd; rw [if_pos rfl]
theorem upd_ne {H:Hp} {a b:Addr} {o:HO} (h:b≠a):upd H a o b=H b:=by unfold upd; rw [if_neg h]
theorem upd_upd {H:Hp} {a:Addr} {o u:HO}:upd (upd H a o) a u=upd H a u:=by
 funext b; unfold upd; split <;> rfl
theorem ne_of_none {H:Hp} {a b:Addr} {o:HO} (h:H a=some o) (h':H b=none):a≠b:=by
 intro e; subst e; rw [h] at h'; cases h'
section
variable (P:Program) (w:World)
def ObjOk (H:Hp) (h:Heap) (a:Addr):HO→Prop
 | .lst xs=>xs.length≤sizeLine∧∃ (its:List Value) (n:Nat),Vals xs its∧h.get? a=some { cls:=.type "list",data:=.seq its.toArray n }
 | .tup xs=>xs.length≤sizeLine∧∃ its:List Value,Vals xs its∧IsTup h a its.toArray
 | .dK kvs=>kvs.length≤sizeLine∧(a == sysModules)=false∧∃ vs,KV kvs vs∧h.DictOf (mixKind P w) a vs
 | .dT kvs=>kvs.length≤sizeLine∧(a == sysModules)=false∧∃ xs:List (List Key × Addr × Value),
   Paired (fun (p:List Key × V) (q:List Key × Addr × Value)=>p.1=q.1∧H q.2.1=some (.tup (p.1.map kV))∧RelV p.2 q.2.2) kvs xs ∧
   ∃ o es ep,h.get? a=some o∧o.ExactDict∧o.data=.dict es ep∧es.toList=xs.map (entryOfKey (tupleKind (mixKind P w)))∧(xs.map (·.1)).Nodup
 | .set S n=>h.SetOf (intKind P w) a S n
 | .ins C dx fs=>H dx=some (.own a)∧fs.length≤1000∧dx≠a∧h.get? a=some (PySem.W.instObj C dx) ∧
   ∃ mA,h.Ns1 dx mA∧(∀ f,RelO (fs.lookup f) (mA f))∧PySem.Within mA (fs.map (·.1))
 | .own _=>∃ o,h.get? a=some o
 | .xd fs=>∃ mA,h.Ns1 a mA∧∀ f,RelO (fs.lookup f) (mA f)
 | .rng lo hi=>∃ t u v,h.get? a=some { cls:=.type "range",data:=.fields #[.int lo t,.int hi u,.int 1 v] }
 | .frz o u=>h.get? a=some o∧ObjOk H h a u
 | .tbl ps=>h.get? a=some { cls:=.none,data:=.fields ps }
 | .met f x=>h.get? a=some (PySem.W.methodObj (.ref f) (.ref x))
 | .ext φ=>φ h∧(∃ o,h.get? a=some o)∧∀ h1 h2:Heap,φ h1→(∀ o,h1.get? a=some o→h2.get? a=some o)→φ h2
def HOk (H:Hp) (h:Heap):Prop:=∀ a o,H a=some o→ObjOk P w H h a o
end
section
variable {P:Program} {w:World} {H H':Hp} {h h':Heap} {a:Addr} {o:HO}
theorem ObjOk.lt (x:ObjOk P w H h a o):a < h.objs.size:=by
 cases o with
 | lst xs=>obtain ⟨_,_,_,_,e⟩:=x; exact Heap.lt_size e
 | tup xs=>obtain ⟨_,_,_,p⟩:=x; exact p.lt
 | dK kvs=>obtain ⟨_,_,_,_,o,_,_,e,_⟩:=x; exact Heap.lt_size e
 | dT kvs=>obtain ⟨_,_,_,_,o,_,_,e,_⟩:=x; exact Heap.lt_size e
 | set S n=>obtain ⟨o,_,_,_,e,_⟩:=x; exact Heap.lt_size e
 | ins C dx fs=>obtain ⟨_,_,_,e,_⟩:=x; exact Heap.lt_size e
 | own y=>obtain ⟨_,e⟩:=x; exact Heap.lt_size e
 | xd fs=>obtain ⟨_,⟨_,_,_,e,_⟩,_⟩:=x; exact Heap.lt_size e
 | rng lo hi=>obtain ⟨_,_,_,e⟩:=x; exact Heap.lt_size e
 | frz ob u=>obtain ⟨e,_⟩:=x; exact Heap.lt_size e
 | tbl ps=>exact Heap.lt_size (show h.get? a=some _ from x)
 | met f y=>exact Heap.lt_size (show h.get? a=some _ from x)
 | ext φ=>obtain ⟨_,⟨_,e⟩,_⟩:=x; exact Heap.lt_size e
theorem Paired.mapP {α β:Type} {F G:α→β→Prop}:∀ {l₁:List α} {l₂:List β},Paired F l₁ l₂→(∀ a b,F a b→G a b)→Paired G l₁ l₂
 | _,_,.nil,_=>.nil
 | _,_,.cons r t,f=>.cons (f _ _ r) (Paired.mapP t f)
theorem ObjOk.stay (x:ObjOk P w H h a o) (k:∀ b u,(b=a ∨ H b=some (.own a))→h.get? b=some u→h'.get? b=some u)
  (ho:∀ b,H b=some (.own a)→H' b=some (.own a)) (ht:∀ b xs,H b=some (.tup xs)→H' b=some (.tup xs)):ObjOk P w H' h' a o:=by
 induction o with
 | lst xs=>obtain ⟨z,its,n,r,e⟩:=x; exact ⟨z,its,n,r,k _ _ (.inl rfl) e⟩
 | tup xs=>obtain ⟨z,its,r,ob,e,c⟩:=x; exact ⟨z,its,r,ob,k _ _ (.inl rfl) e,c⟩
 | dK kvs=>obtain ⟨z,y,vs,r,ob,es,ep,e,c⟩:=x; exact ⟨z,y,vs,r,ob,es,ep,k _ _ (.inl rfl) e,c⟩
 | dT kvs =>
  obtain ⟨z,y,xs,r,ob,es,ep,e,c⟩:=x
  exact ⟨z,y,xs,Paired.mapP r fun p q z=>⟨z.1,ht _ _ z.2.1,z.2.2⟩,ob,es,ep,k _ _ (.inl rfl) e,c⟩
 | set S n=>obtain ⟨ob,es,ep,t,e,c⟩:=x; exact ⟨ob,es,ep,t,k _ _ (.inl rfl) e,c⟩
 | ins C dx fs =>
  obtain ⟨d,z,ne,e,mA,⟨od,es,ep,e2,c⟩,r⟩:=x
  exact ⟨ho _ d,z,ne,k _ _ (.inl rfl) e,mA,⟨od,es,ep,k _ _ (.inr d) e2,c⟩,r⟩
 | own y=>obtain ⟨ob,e⟩:=x; exact ⟨ob,k _ _ (.inl rfl) e⟩
 | xd fs=>obtain ⟨mA,⟨od,es,ep,e,c⟩,r⟩:=x; exact ⟨mA,⟨od,es,ep,k _ _ (.inl rfl) e,c⟩,r⟩
 | rng lo hi=>obtain ⟨t,u,v,e⟩:=x; exact ⟨t,u,v,k _ _ (.inl rfl) e⟩
 | frz ob u ih=>obtain ⟨e,q⟩:=x; exact ⟨k _ _ (.inl rfl) e,ih q⟩
 | tbl ps =>
  have e:h.get? a=some { cls:=.none,data:=.fields ps }:=x
  show h'.get? a=some { cls:=.none,data:=.fields ps }
  exact k a _ (.inl rfl) e
 | met f y =>
  have e:h.get? a=some (PySem.W.methodObj (.ref f) (.ref y)):=x
  show h'.get? a=some (PySem.W.methodObj (.ref f) (.ref y))
  exact k a _ (.inl rfl) e
 | ext φ=>obtain ⟨p,⟨o,e⟩,st⟩:=x; exact ⟨st _ _ p fun o q=>k _ _ (.inl rfl) q,⟨o,k _ _ (.inl rfl) e⟩,st⟩
theorem HOk.lt (x:HOk P w H h) (e:H a=some o):a < h.objs.size:=(x a o e).lt
theorem HOk.fresh (x:HOk P w H h) (e:h.objs.size≤a):H a=none:=by
 cases q:H a with
 | none=>rfl
 | some u=>exact absurd (Nat.lt_of_lt_of_le (x.lt q) e) (Nat.lt_irrefl _)
theorem HOk.kept (x:HOk P w H h) (k:∀ b u,h.get? b=some u→h'.get? b=some u):HOk P w H h':=fun a o e =>
 (x a o e).stay (fun b u _ q=>k b u q) (fun _ q=>q) fun _ _ q=>q
theorem HOk.laid (x:HOk P w H h) (k:∀ b u,h.get? b=some u→h'.get? b=some u) (hp:h.objs.size≤a) (new:ObjOk P w (upd H a o) h' a o):HOk P w (upd H a o) h':=fun b u e=>by
 have hn:=x.fresh hp
 by_cases hb:b=a
 ·subst hb; rw [upd_same] at e; cases e; exact new
 ·rw [upd_ne hb] at e
  exact (x b u e).stay (fun c v _ q=>k c v q) (fun c q=>by rw [upd_ne (ne_of_none q hn)]; exact q) fun c xs q=>by rw [upd_ne (ne_of_none q hn)]; exact q
end
def Rd (H:Hp) (a:Addr) (u:HO):Prop:=H a=some u ∨ ∃ o,H a=some (.frz o u)
theorem Rd.ok {P:Program} {w:World} {H:Hp} {h:Heap} {a:Addr} {u:HO} (r:Rd H a u) (x:HOk P w H h):ObjOk P w H h a u:=by
 rcases r with r | ⟨o,r⟩
 ·exact x a u r
 ·obtain ⟨_,q⟩:=x a _ r
  exact q
def Mut:Option HO→Prop
 | some (.lst _)=>True
 | some (.dK _)=>True
 | some (.dT _)=>True
 | some (.set _ _)=>True
 | some (.ins _ _ _)=>True
 | some (.ext _)=>True
 | _=>False
section
variable {P:Program} {w:World} {H:Hp} {h h':Heap} {x e:Addr} {o':HO}
theorem HOk.write (ok:HOk P w H h) (mu:Mut (H x)) (he:e=x ∨ H e=some (.own x)) (k:∀ b u,b≠e→h.get? b=some u→h'.get? b=some u) (heo:∃ u,h'.get? e=some u)
  (new:ObjOk P w (upd H x o') h' x o'):HOk P w (upd H x o') h':=fun b u q=>by
 have nown:∀ c y,H c=some (.own y)→c≠x:=fun c y r z=>by subst z; rw [r] at mu; exact mu
 have ntup:∀ c xs,H c=some (.tup xs)→c≠x:=fun c xs r z=>by subst z; rw [r] at mu; exact mu
 by_cases hb:b=x
 ·subst hb; rw [upd_same] at q; cases q; exact new
 ·rw [upd_ne hb] at q
  by_cases hbe:b=e
  ·have q':H b=some (.own x):=by
    rcases he with z | z
    ·exact absurd (hbe.trans z) hb
    ·rw [hbe]; exact z
   rw [q] at q'; cases q'
   obtain ⟨v,hv⟩:=heo
   exact ⟨v,by rw [hbe]; exact hv⟩
  ·refine (ok b u q).stay (fun c v hc r=>k c v ?_ r) (fun c r=>by rw [upd_ne (nown c b r)]; exact r) fun c xs r=>by rw [upd_ne (ntup c xs r)]; exact r
   rcases hc with rfl | hc
   ·exact hbe
   ·rintro rfl
    rcases he with z | z
    ·exact nown c b hc z
    ·rw [hc] at z; cases z; exact hb rfl
end
structure Un (fs ex:List Addr) (H H':Hp) (h h':Heap):Prop where
 keep:∀ b o,h.get? b=some o→H b=none→b ∉ fs→b ∉ ex→h'.get? b=some o
 slot:∀ b o,h.get? b=some o→H b=none→b ∈ fs→b ∉ ex→∃ sl,h'.get? b=some { o with slots:=sl }
 free:∀ b o,h.get? b=some o→H b=none→b ∉ ex→H' b=none
 there:∀ b o,h.get? b=some o→b ∉ ex→∃ o',h'.get? b=some o'
 tups:∀ b xs,H b=some (.tup xs)→H' b=some (.tup xs)
 frzs:∀ b o u,H b=some (.frz o u)→H' b=some (.frz o u)
 tbls:∀ b ps,H b=some (.tbl ps)→∃ more,H' b=some (.tbl (ps++more))
section
variable {fs fs' ex ex':List Addr} {H H1 H2:Hp} {h h1 h2 h':Heap} {a x e:Addr} {o:HO}
theorem Un.any (u:Un fs ex H H1 h h1) {b:Addr} {ob:Obj} (q:h.get? b=some ob) (n:H b=none) (hx:b ∉ ex):∃ sl,h1.get? b=some { ob with slots:=sl }:=by
 by_cases hb:b ∈ fs
 ·exact u.slot b ob q n hb hx
 ·exact ⟨ob.slots,u.keep b ob q n hb hx⟩
theorem Un.kept (k:∀ b u,h.get? b=some u→h'.get? b=some u):Un fs ex H H h h' :=
 ⟨fun b ob q _ _ _=>k b ob q,fun b ob q _ _ _=>⟨ob.slots,k b ob q⟩,fun _ _ _ n _=>n,fun b ob q _=>⟨ob,k b ob q⟩,fun _ _ q=>q,fun _ _ _ q=>q,fun _ ps q=>⟨#[],by rw [q]; simp⟩⟩
theorem Un.refl:Un fs ex H H h h:=Un.kept fun _ _ q=>q
theorem Un.laid (k:∀ b u,h.get? b=some u→h'.get? b=some u) (hp:h.objs.size≤a) (hn:H a=none):Un fs ex H (upd H a o) h h' where
 keep:=fun b u q _ _ _=>k b u q
 slot:=fun b u q _ _ _=>⟨u.slots,k b u q⟩
 free:=fun b u q n _=>by rw [upd_ne (Nat.ne_of_lt (Nat.lt_of_lt_of_le (Heap.lt_size q) hp))]; exact n
 there:=fun b u q _=>⟨u,k b u q⟩
 tups:=fun b xs q=>by rw [upd_ne (ne_of_none q hn)]; exact q
 frzs:=fun b u xs q=>by rw [upd_ne (ne_of_none q hn)]; exact q
 tbls:=fun b ps q=>⟨#[],by rw [upd_ne (ne_of_none q hn),q]; simp⟩
theorem Un.write (mu:Mut (H x)) (he:e=x ∨ H e=some (.own x)) (k:∀ b u,b≠e→h.get? b=some u→h'.get? b=some u) (heo:∃ u,h'.get? e=some u):Un fs ex H (upd H x o) h h':=by
 have hx:∀ b,H b=none→b≠x:=fun b n z=>by subst z; rw [n] at mu; exact mu
 have hb:∀ b,H b=none→b≠e:=fun b n z=>by
  subst z
  rcases he with r | r
  ·exact hx b n r
  ·rw [n] at r; cases r
 have hm:∀ b u,H b=some u→¬ Mut (some u)→b≠x:=fun b u q nm z=>by subst z; rw [q] at mu; exact nm mu
 refine ⟨fun b u q n _ _=>k b u (hb b n) q,fun b u q n _ _=>⟨u.slots,k b u (hb b n) q⟩,fun b u q n _=>by rw [upd_ne (hx b n)]; exact n,fun b u q _=>?_,
  fun b xs q=>by rw [upd_ne (hm b _ q fun z=>z)]; exact q,fun b u xs q=>by rw [upd_ne (hm b _ q fun z=>z)]; exact q,fun b ps q=>⟨#[],by rw [upd_ne (hm b _ q fun z=>z),q]; simp⟩⟩
 by_cases hbe:b=e
 ·subst hbe; exact heo
 ·exact ⟨u,k b u hbe q⟩
end
def trk (h:Heap) (H:Hp):List Addr:=(List.range h.objs.size).filter fun a=>(H a).isSome
def hidT (h:Heap) (H:Hp):Heap:=PySem.W.hideAll h (trk h H)
theorem hidT_size (h:Heap) (H:Hp):(hidT h H).objs.size=h.objs.size:=PySem.W.hideAll_size _ _
theorem hidT_get {h:Heap} {H:Hp} {b:Addr} {o:Obj} (e:h.get? b=some o) (n:H b=none):(hidT h H).get? b=some o :=
 PySem.W.hideAll_get _ e fun hm=>by
  have q:(H b).isSome=true:=(List.mem_filter.mp hm).2
  rw [n] at q; simp at q
theorem of_hidT {h:Heap} {H:Hp} {b:Addr} {o:Obj} (e:(hidT h H).get? b=some o):h.get? b=some o∧H b=none:=by
 have e':h.get? b=some o:=PySem.W.of_hideAll (trk h H) e
 refine ⟨e',?_⟩
 cases q:H b with
 | none=>rfl
 | some x =>
  have hm:b ∈ trk h H:=List.mem_filter.mpr ⟨List.mem_range.mpr (Heap.lt_size e'),by simp [q]⟩
  have z:(hidT h H).get? b=none:=PySem.W.hideAll_none (trk h H) hm
  rw [z] at e; cases e
def allNews (g h:Heap) (L:Addr):List (Addr × Obj):=(List.range h.objs.size).filterMap fun a=>if a=L ∨ (g.get? a).isSome=true then none else (h.get? a).map fun o=>(a,o)
def rest (g h:Heap) (L d:Addr):List (Addr × Obj):=(allNews g h L).filter fun p=>decide (p.1≠d)
end L2
namespace L2
open PySem PySem.Spec PyProof.Rows
structure Mod (K:PySem.W.Frag) (mg:Str→Option Value) (base:Heap):Prop where
 kin:K.In base
 glob:base.Ns mainGlobals mg
 blt:∃ mb,base.Ns builtinsNs mb∧∀ x:Str,x≠"__name__"→mb x=bootBuiltins x
 nolimit:base.NoLimit
structure Cx where
 prog:Program
 w:World
 K:PySem.W.Frag
 mg:Str→Option Value
 base:Heap
 A:Around
 N:List Str
 s₀:Shared
 H₀:Hp
 env:Env
 outer:List Env
 stack:List Env
 ex:List Addr
 fn:Str→Bool
 calm:Bool
 pn:List (Addr × Obj)
 xe:Value→Shared→Prop
def frs (l:List Env):List Addr:=l.filterMap (·.frame)
abbrev Cx.fs (X:Cx):List Addr:=frs X.outer
def Vis (sc:Scope) (x:Str):Prop:=sc.names.lookup x=some .local ∨ sc.names.lookup x=some .cell ∨ sc.names.lookup x=some .free
def Loc (sc:Scope) (x:Str):Prop:=sc.names.lookup x=some .local ∨ sc.names.lookup x=some .cell
def Look (env:Env) (h:Heap) (m:Str→Option Value) (x:Str) (u:Value):Prop :=
 (env.kindOf x=some .local∧m x=some u) ∨ ((env.kindOf x=some .cell ∨ env.kindOf x=some .free)∧∃ c,env.cells.lookup x=some c∧h.IsCell c (some u))
structure Cx.Ok (X:Cx):Prop where
 mod:Mod X.K X.mg X.base
 kind:X.env.scope.kind=.function
 glob:X.env.globals=mainGlobals
 blt:X.env.builtins=builtinsNs
 above:X.s₀.heap.objs.size≤X.env.locals
 inj:∀ x y c,X.env.cells.lookup x=some c→X.env.cells.lookup y=some c→x=y
 has:∀ x,(X.env.kindOf x=some .cell ∨ X.env.kindOf x=some .free)→∃ c,X.env.cells.lookup x=some c
 cab:∀ x c,X.fn x=true→X.env.cells.lookup x=some c→X.s₀.heap.objs.size≤c
 hd:X.calm=true→X.A.handled=none
 frames:X.A.frames=some X.stack
 stk:X.stack=X.outer ∨ (X.stack=X.env :: X.outer∧X.env.frame=some X.env.locals)
 exf:∀ b ∈ X.ex,b≠X.env.locals∧∀ x c,X.env.cells.lookup x=some c→c≠b
 bs:∀ b o,X.base.get? b=some o→X.s₀.heap.get? b=some o∧X.H₀ b=none
 bsz:X.base.objs.size≤X.s₀.heap.objs.size
 noex:∀ b o,X.base.get? b=some o→b ∉ X.ex
 exfs:∀ b ∈ X.ex,b ∉ X.fs
 funs:X.s₀.heap.FunFrames X.base X.outer
 frf:∀ b ∈ X.fs,X.H₀ b=none
structure Inv (X:Cx) (pins:List (Addr × Obj)) (σ:List (Option V)) (H:Hp) (s:Shared):Prop where
 ok:X.Ok
 os:s.os=X.s₀.os
 bare:AllBare s.gens
 base:Un X.fs X.ex X.H₀ H X.s₀.heap s.heap
 loc:∃ m,s.heap.Ns X.env.locals m∧∀ (i:Nat) (x:Str) (v:V),X.N[i]? = some x→σ[i]? = some (some v)→Vis X.env.scope x→∃ u,RelV v u∧Look X.env s.heap m x u
 cell:∀ x c,X.env.cells.lookup x=some c→∃ v,s.heap.IsCell c v
 free:H X.env.locals=none
 freeC:∀ x c,X.env.cells.lookup x=some c→H c=none
 pin:∀ p ∈ X.pn++pins,s.heap.get? p.1=some p.2∧H p.1=none∧p.1≠X.env.locals∧p.1 ∉ X.fs∧∀ v,p.2.data≠.cell v
 hok:HOk X.prog X.w H s.heap
 len:σ.length=X.N.length
section
variable {X:Cx} {pins:List (Addr × Obj)} {σ:List (Option V)} {H H':Hp} {s:Shared} {h':Heap}
theorem Cx.Ok.nofr (ok:X.Ok) {b:Addr} {o:Obj} (e:X.base.get? b=some o):b ∉ X.fs:=fun hb=>by
 have:=(ok.funs.mem hb).1
 rw [e] at this; cases this
theorem Inv.bs (I:Inv X pins σ H s):∀ b o,X.base.get? b=some o→s.heap.get? b=some o∧H b=none:=fun b o e =>
 ⟨I.base.keep b o (I.ok.bs b o e).1 (I.ok.bs b o e).2 (I.ok.nofr e) (I.ok.noex b o e),I.base.free b o (I.ok.bs b o e).1 (I.ok.bs b o e).2 (I.ok.noex b o e)⟩
theorem Inv.bk (I:Inv X pins σ H s):∀ b o,X.base.get? b=some o→s.heap.get? b=some o:=fun b o e=>(I.bs b o e).1
theorem Inv.mod (I:Inv X pins σ H s):Mod X.K X.mg X.base:=I.ok.mod
theorem Inv.kIn (I:Inv X pins σ H s):X.K.In s.heap:=I.ok.mod.kin.keeps I.bk
theorem Inv.lt (I:Inv X pins σ H s):X.env.locals < s.heap.objs.size:=let ⟨_,hn,_⟩:=I.loc; hn.lt
theorem Inv.sz (I:Inv X pins σ H s):X.s₀.heap.objs.size≤s.heap.objs.size:=Nat.le_trans I.ok.above (Nat.le_of_lt I.lt)
theorem Inv.nofs (I:Inv X pins σ H s) {a:Addr} (h:s.heap.objs.size≤a):a ∉ X.fs:=fun hb=>by
 obtain ⟨_,o,ho,_⟩:=I.ok.funs.mem hb
 exact absurd (Nat.lt_of_lt_of_le (Heap.lt_size ho) (Nat.le_trans I.sz h)) (Nat.lt_irrefl _)
theorem Inv.cne (I:Inv X pins σ H s):∀ x c,X.env.cells.lookup x=some c→c≠X.env.locals:=fun x c e z=>by
 obtain ⟨v,o,ho,hd⟩:=I.cell x c e
 obtain ⟨m,⟨o',es,ep,ho',hd',_⟩,_⟩:=I.loc
 rw [z,ho'] at ho; cases ho; rw [hd'] at hd; cases hd
theorem Inv.funs (I:Inv X pins σ H s):s.heap.FunFrames X.base X.outer:=by
 have all:∀ (l:List Env),(∀ b ∈ frs l,b ∈ X.fs)→X.s₀.heap.FunFrames X.base l→s.heap.FunFrames X.base l:=by
  intro l
  induction l with
  | nil=>intro _ _; trivial
  | cons env r ih =>
   intro hs hl
   obtain ⟨hk,⟨L,o,hf,hn,ho,hd⟩,hr⟩:=hl
   have hL:L ∈ X.fs:=hs L (by unfold frs; rw [List.filterMap_cons,hf]; exact List.mem_cons_self)
   obtain ⟨sl,e⟩:=I.base.slot L o ho (I.ok.frf L hL) hL fun z=>I.ok.exfs L z hL
   exact ⟨hk,⟨L,_,hf,hn,e,hd⟩,ih (fun b hb=>hs b (by unfold frs; rw [List.filterMap_cons,hf]; exact List.mem_cons_of_mem _ hb)) hr⟩
 exact all X.outer (fun _ hb=>hb) I.ok.funs
theorem Inv.stack (I:Inv X pins σ H s):s.heap.FunFrames X.base X.stack:=by
 rcases I.ok.stk with e | ⟨e,hf⟩
 ·rw [e]; exact I.funs
 ·rw [e]
  obtain ⟨m,hn,_⟩:=I.loc
  refine .cons (by rw [I.ok.kind]; decide) hf hn ?_ I.funs
  exact Heap.get?_none_of_le (Nat.le_trans I.ok.bsz I.ok.above)
theorem Inv.stkSub (I:Inv X pins σ H s):∀ b ∈ frs X.stack,b ∈ X.env.locals :: X.fs:=fun b hb=>by
 rcases I.ok.stk with e | ⟨e,hf⟩
 ·rw [e] at hb; exact List.mem_cons_of_mem _ hb
 ·rw [e] at hb
  unfold frs at hb
  rw [List.filterMap_cons,hf] at hb
  exact hb
theorem Inv.stkFree (I:Inv X pins σ H s):∀ b ∈ frs X.stack,H b=none:=fun b hb=>by
 rcases List.mem_cons.mp (I.stkSub b hb) with e | hb
 ·rw [e]; exact I.free
 ·obtain ⟨_,o,ho,_⟩:=I.ok.funs.mem hb
  exact I.base.free b o ho (I.ok.frf b hb) fun z=>I.ok.exfs b z hb
theorem Inv.step {g':Array GenState} {t':Nat} {d':Drawn} {ch:List Addr} (I:Inv X pins σ H s)
  (hch:∀ b ∈ ch,(b ∈ X.ex ∨ X.s₀.heap.objs.size≤b)∧b≠X.env.locals∧(∀ x c,X.env.cells.lookup x=some c→c≠b)∧∀ p ∈ X.pn++pins,p.1≠b)
  (keep:∀ b o,b≠X.env.locals→b ∉ X.fs→b ∉ ch→s.heap.get? b=some o→H b=none→h'.get? b=some o)
  (slot:∀ b o,b≠X.env.locals→b ∈ X.fs→b ∉ ch→s.heap.get? b=some o→H b=none→∃ sl,h'.get? b=some { o with slots:=sl }) (free:∀ b o,b ∉ ch→s.heap.get? b=some o→H b=none→H' b=none)
  (there:∀ b o,b ∉ ch→s.heap.get? b=some o→∃ o',h'.get? b=some o')
  (tups:∀ b xs,H b=some (.tup xs)→H' b=some (.tup xs)) (frzs:∀ b o u,H b=some (.frz o u)→H' b=some (.frz o u)) (tbls:∀ b ps,H b=some (.tbl ps)→∃ more,H' b=some (.tbl (ps++more)))
  (ns:∀ m,s.heap.Ns X.env.locals m→h'.Ns X.env.locals m) (hok:HOk X.prog X.w H' h') (hg:AllBare g') :
  Inv X pins σ H' { s with heap:=h',gens:=g',drawn:=d',toks:=t' }:=by
 have neL:∀ b o,X.s₀.heap.get? b=some o→b≠X.env.locals:=fun b o e=>Nat.ne_of_lt (Nat.lt_of_lt_of_le (Heap.lt_size e) I.ok.above)
 have neC:∀ b o,X.s₀.heap.get? b=some o→b ∉ X.ex→b ∉ ch:=fun b o e hx hb=>by
  rcases (hch b hb).1 with z | z
  ·exact hx z
  ·exact absurd (Nat.lt_of_lt_of_le (Heap.lt_size e) z) (Nat.lt_irrefl _)
 have cellK:∀ x c,X.env.cells.lookup x=some c→∀ v,s.heap.IsCell c v→h'.IsCell c v:=fun x c e v ⟨o,ho,hd⟩=>by
  have nch:c ∉ ch:=fun z=>(hch c z).2.2.1 x c e rfl
  by_cases hc:c ∈ X.fs
  ·obtain ⟨sl,q⟩:=slot c o (I.cne x c e) hc nch ho (I.freeC x c e)
   exact ⟨_,q,hd⟩
  ·exact ⟨o,keep c o (I.cne x c e) hc nch ho (I.freeC x c e),hd⟩
 refine ⟨I.ok,I.os,hg,⟨fun b o e n hb hx=>?_,fun b o e n hb hx=>?_,fun b o e n hx=>?_,fun b o e hx=>?_,fun b xs e=>tups b xs (I.base.tups b xs e),fun b o xs e=>frzs b o xs (I.base.frzs b o xs e),fun b ps e=>?_⟩,?_,fun x c e=>?_,?_,fun x c e=>?_,fun p hp=>?_,hok,I.len⟩
 ·exact keep b o (neL b o e) hb (neC b o e hx) (I.base.keep b o e n hb hx) (I.base.free b o e n hx)
 ·obtain ⟨sl,e1⟩:=I.base.slot b o e n hb hx
  obtain ⟨sl',e2⟩:=slot b _ (neL b o e) hb (neC b o e hx) e1 (I.base.free b o e n hx)
  exact ⟨sl',e2⟩
 ·obtain ⟨o',e1⟩:=I.base.there b o e hx
  exact free b o' (neC b o e hx) e1 (I.base.free b o e n hx)
 ·obtain ⟨o',e1⟩:=I.base.there b o e hx
  exact there b o' (neC b o e hx) e1
 ·obtain ⟨m1,e1⟩:=I.base.tbls b ps e
  obtain ⟨m2,e2⟩:=tbls b _ e1
  exact ⟨m1++m2,by rw [e2,Array.append_assoc]⟩
 ·obtain ⟨m,hn,hl⟩:=I.loc
  refine ⟨m,ns m hn,fun i x v e1 e2 e3=>?_⟩
  obtain ⟨u,r,l⟩:=hl i x v e1 e2 e3
  refine ⟨u,r,?_⟩
  rcases l with l | ⟨k,c,e,z⟩
  ·exact .inl l
  ·exact .inr ⟨k,c,e,cellK x c e _ z⟩
 ·obtain ⟨v,z⟩:=I.cell x c e
  exact ⟨v,cellK x c e v z⟩
 ·obtain ⟨m,⟨o,_,_,ho,_⟩,_⟩:=I.loc
  exact free _ o (fun z=>(hch _ z).2.1 rfl) ho I.free
 ·obtain ⟨v,o,ho,hd⟩:=I.cell x c e
  exact free c o (fun z=>(hch c z).2.2.1 x c e rfl) ho (I.freeC x c e)
 ·obtain ⟨e,n,ne,nf,d⟩:=I.pin p hp
  have nch:p.1 ∉ ch:=fun z=>(hch p.1 z).2.2.2 p hp rfl
  exact ⟨keep p.1 p.2 ne nf nch e n,free p.1 p.2 nch e n,ne,nf,d⟩
theorem Inv.un {t':Nat} (I:Inv X pins σ H s) (u:Un X.fs [] H H' s.heap h') (hok:HOk X.prog X.w H' h'):Inv X pins σ H' { s with heap:=h',toks:=t' }:=by
 obtain ⟨m,⟨o,es,ep,ho,r⟩,_⟩:=id I.loc
 obtain ⟨sl,hL⟩:=u.any ho I.free (by simp)
 exact I.step (g':=s.gens) (d':=s.drawn) (ch:=[]) (fun _ z=>nomatch z) (fun b o _ hb _ e n=>u.keep b o e n hb (by simp)) (fun b o _ hb _ e n=>u.slot b o e n hb (by simp)) (fun b o _ e n=>u.free b o e n (by simp)) (fun b o _ e=>u.there b o e (by simp)) u.tups u.frzs u.tbls (fun m' hm=>by
  obtain ⟨o',es',ep',ho',r'⟩:=hm
  rw [ho] at ho'; cases ho'
  exact ⟨_,es',ep',hL,r'⟩) hok I.bare
theorem Inv.call {g':Array GenState} {t':Nat} {d':Drawn} {ch:List Addr} (I:Inv X pins σ H s) (u:Un (frs X.stack) ch H H' s.heap h') (hok:HOk X.prog X.w H' h') (hg:AllBare g')
  (hch:∀ b ∈ ch,(b ∈ X.ex ∨ X.s₀.heap.objs.size≤b)∧b≠X.env.locals∧(∀ x c,X.env.cells.lookup x=some c→c≠b)∧∀ p ∈ X.pn++pins,p.1≠b) :
  Inv X pins σ H' { s with heap:=h',gens:=g',drawn:=d',toks:=t' }:=by
 obtain ⟨m,⟨o,es,ep,ho,r⟩,_⟩:=id I.loc
 obtain ⟨sl,hL⟩:=u.any ho I.free fun z=>(hch _ z).2.1 rfl
 exact I.step (ch:=ch) hch (fun b o hL hb hc e n=>u.keep b o e n (fun z=>(List.mem_cons.mp (I.stkSub b z)).elim hL hb) hc) (fun b o _ _ hc e n=>u.any e n hc) (fun b o hc e n=>u.free b o e n hc) (fun b o hc e=>u.there b o e hc) u.tups u.frzs u.tbls (fun m' hm=>by
  obtain ⟨o',es',ep',ho',r'⟩:=hm
  rw [ho] at ho'; cases ho'
  exact ⟨_,es',ep',hL,r'⟩) hok hg
theorem Inv.turned {t':Nat} {it:Addr} (I:Inv X pins σ H s) (k:∀ b o,b≠it→s.heap.get? b=some o→h'.get? b=some o) (hn:H it=none) (hL:it≠X.env.locals)
  (h1:it ∈ X.ex ∨ X.s₀.heap.objs.size≤it) (h2:∀ x c,X.env.cells.lookup x=some c→c≠it) (h3:∀ p ∈ X.pn++pins,p.1≠it):Inv X pins σ H { s with heap:=h',toks:=t' }:=by
 have nit:∀ b u,H b=some u→b≠it:=fun b u e z=>by rw [z,hn] at e; cases e
 refine I.step (g':=s.gens) (d':=s.drawn) (ch:=[it]) (fun b hb=>?_) (fun b o _ _ hc e _=>k b o (fun z=>hc (by simp [z])) e) (fun b o _ _ hc e _=>⟨o.slots,k b o (fun z=>hc (by simp [z])) e⟩) (fun _ _ _ _ n=>n)
  (fun b o hc e=>⟨o,k b o (fun z=>hc (by simp [z])) e⟩) (fun _ _ e=>e) (fun _ _ _ e=>e) (fun b ps e=>⟨#[],by rw [e]; simp⟩) (fun m hm=>?_) (fun b u e=>?_) I.bare
 ·have e:b=it:=by simpa using hb
  subst e
  exact ⟨h1,hL,h2,h3⟩
 ·obtain ⟨o,es,ep,ho,r⟩:=hm
  exact ⟨o,es,ep,k _ o (Ne.symm hL) ho,r⟩
 ·refine (I.hok b u e).stay (fun c v hc q=>k c v ?_ q) (fun _ q=>q) fun _ _ q=>q
  rcases hc with z | z
  ·rw [z]; exact nit b u e
  ·exact nit c _ z
theorem Inv.tok (I:Inv X pins σ H s) (t:Nat):Inv X pins σ H { s with toks:=t }:=I.un (h':=s.heap) (t':=t) Un.refl I.hok
theorem Inv.kept {t':Nat} (I:Inv X pins σ H s) (k:∀ b u,s.heap.get? b=some u→h'.get? b=some u):Inv X pins σ H { s with heap:=h',toks:=t' }:=I.un (Un.kept k) (I.hok.kept k)
theorem Inv.laid {a:Addr} {o:HO} {t':Nat} (I:Inv X pins σ H s) (k:∀ b u,s.heap.get? b=some u→h'.get? b=some u) (hp:s.heap.objs.size≤a) (new:ObjOk X.prog X.w (upd H a o) h' a o) :
  Inv X pins σ (upd H a o) { s with heap:=h',toks:=t' }:=I.un (Un.laid k hp (I.hok.fresh hp)) (I.hok.laid k hp new)
theorem Inv.write {x e:Addr} {o:HO} {t':Nat} (I:Inv X pins σ H s) (mu:Mut (H x)) (he:e=x ∨ H e=some (.own x)) (k:∀ b u,b≠e→s.heap.get? b=some u→h'.get? b=some u) (heo:∃ u,h'.get? e=some u)
  (new:ObjOk X.prog X.w (upd H x o) h' x o):Inv X pins σ (upd H x o) { s with heap:=h',toks:=t' }:=I.un (Un.write mu he k heo) (I.hok.write mu he k heo new)
theorem Inv.pins_of {pins':List (Addr × Obj)} (I:Inv X pins σ H s) (h:∀ p ∈ pins',s.heap.get? p.1=some p.2∧H p.1=none∧p.1≠X.env.locals∧p.1 ∉ X.fs∧∀ v,p.2.data≠.cell v):Inv X pins' σ H s :=
 ⟨I.ok,I.os,I.bare,I.base,I.loc,I.cell,I.free,I.freeC,fun p hp=>(List.mem_append.mp hp).elim (fun z=>I.pin p (List.mem_append_left _ z)) (h p),I.hok,I.len⟩
theorem nodup_ix {N:List Str} (hN:N.Nodup) {i j:Nat} {x:Str} (a:N[i]? = some x) (b:N[j]? = some x):i=j:=by
 obtain ⟨h1,e1⟩:=List.getElem?_eq_some_iff.mp a
 obtain ⟨h2,e2⟩:=List.getElem?_eq_some_iff.mp b
 exact (List.getElem_inj hN).mp (e1.trans e2.symm)
theorem store_ok2 {M:Model} {A:Around} {E:Value→Shared→Prop} {i:Nat} {x:Str} {v:V} {u:Value} {Q:Unit→Shared→Prop} (I:Inv X pins σ H s) (hN:X.N.Nodup) (hi:X.N[i]? = some x) (hx:Loc X.env.scope x) (r:RelV v u)
  (h:∀ s',Inv X pins (σ.set i (some v)) H s'→(∃ a,Heap.SameBut a s.heap s'.heap∧(a=X.env.locals ∨ X.env.cells.lookup x=some a))→Q () s') (hf:X.fn x=true ∨ X.env.scope.names.lookup x=some .local:=by first | exact .inl rfl | exact .inr rfl | assumption):wpAny M A (storeName X.env x u) Q E s:=by
 obtain ⟨m,hn,hl⟩:=id I.loc
 have hcls:(X.env.scope.kind == .class || (X.env.scope.kind == .module && X.env.locals != X.env.globals))=false:=by rw [I.ok.kind]; rfl
 have hiσ:i < σ.length:=by rw [I.len]; exact (List.getElem?_eq_some_iff.mp hi).1
 have cne:=I.cne
 have tracked:∀ {a:Addr} {h':Heap},(∃ o,s.heap.get? a=some o∧H a=none)→Heap.SameBut a s.heap h'→HOk X.prog X.w H h':=fun {a h'} ha hs b ob e=>by
  obtain ⟨_,_,hfree⟩:=ha
  refine (I.hok b ob e).stay (fun c w' hc q=>(hs.2 c ?_).trans q) (fun _ q=>q) fun _ _ q=>q
  rintro rfl
  rcases hc with rfl | hc
  ·rw [hfree] at e; cases e
  ·rw [hfree] at hc; cases hc
 rcases hx with hk | hk
 ·refine wpAny_storeName_local hk hn (fun h' hn' hs=>?_) hcls
  obtain ⟨oL,_,_,hoL,_⟩:=id hn
  refine h _ ⟨I.ok,I.os,I.bare,⟨fun b o e n hb hx=>?_,fun b o e n hb hx=>?_,I.base.free,fun b o e hx=>?_,I.base.tups,I.base.frzs,I.base.tbls⟩,⟨_,hn',fun j y v' e1 e2 e3=>?_⟩,fun y c e=>?_,I.free,I.freeC,fun p hp=>?_,tracked ⟨oL,hoL,I.free⟩ hs,by simpa using I.len⟩ ⟨_,hs,.inl rfl⟩
  ·exact (hs.2 b (Nat.ne_of_lt (Nat.lt_of_lt_of_le (Heap.lt_size e) I.ok.above))).trans (I.base.keep b o e n hb hx)
  ·obtain ⟨sl,e1⟩:=I.base.slot b o e n hb hx
   exact ⟨sl,(hs.2 b (Nat.ne_of_lt (Nat.lt_of_lt_of_le (Heap.lt_size e) I.ok.above))).trans e1⟩
  ·obtain ⟨o',e1⟩:=I.base.there b o e hx
   exact ⟨o',(hs.2 b (Nat.ne_of_lt (Nat.lt_of_lt_of_le (Heap.lt_size e) I.ok.above))).trans e1⟩
  ·by_cases hj:j=i
   ·subst hj
    rw [hi] at e1; cases e1
    rw [List.getElem?_set_self hiσ] at e2
    cases e2
    exact ⟨u,r,.inl ⟨hk,by simp⟩⟩
   ·rw [List.getElem?_set_ne (Ne.symm hj)] at e2
    obtain ⟨u',r',q⟩:=hl j y v' e1 e2 e3
    refine ⟨u',r',?_⟩
    rcases q with ⟨k,e⟩ | ⟨k,c,e,z⟩
    ·refine .inl ⟨k,?_⟩
     have:y≠x:=fun e=>hj (nodup_ix hN e1 (e ▸ hi))
     simp [this,e]
    ·exact .inr ⟨k,c,e,z.sameBut hs (cne y c e)⟩
  ·obtain ⟨w',z⟩:=I.cell y c e
   exact ⟨w',z.sameBut hs (cne y c e)⟩
  ·obtain ⟨e,n,ne,nf,d⟩:=I.pin p hp
   exact ⟨(hs.2 p.1 ne).trans e,n,ne,nf,d⟩
 ·have hfn:X.fn x=true:=by
   rcases hf with z | z
   ·exact z
   ·rw [z] at hk; cases hk
  obtain ⟨c,hc⟩:=I.ok.has x (.inl hk)
  obtain ⟨w',z⟩:=I.cell x c hc
  refine wpAny_storeName_cell I.ok.kind hk hc z (fun h' hc' hs=>?_)
  obtain ⟨oc,hoc,hocd⟩:=id z
  refine h { s with heap:=h' } ⟨I.ok,I.os,I.bare,⟨fun b o e n hb hx=>?_,fun b o e n hb hx=>?_,I.base.free,fun b o e hx=>?_,I.base.tups,I.base.frzs,I.base.tbls⟩,⟨m,hn.sameBut hs (Ne.symm (cne x c hc)),fun j y v' e1 e2 e3=>?_⟩,fun y c' e=>?_,I.free,I.freeC,fun p hp=>?_,tracked ⟨oc,hoc,I.freeC x c hc⟩ hs,by simpa using I.len⟩ ⟨c,hs,.inr hc⟩
  ·exact (hs.2 b (Nat.ne_of_lt (Nat.lt_of_lt_of_le (Heap.lt_size e) (I.ok.cab x c hfn hc)))).trans (I.base.keep b o e n hb hx)
  ·obtain ⟨sl,e1⟩:=I.base.slot b o e n hb hx
   exact ⟨sl,(hs.2 b (Nat.ne_of_lt (Nat.lt_of_lt_of_le (Heap.lt_size e) (I.ok.cab x c hfn hc)))).trans e1⟩
  ·obtain ⟨o',e1⟩:=I.base.there b o e hx
   exact ⟨o',(hs.2 b (Nat.ne_of_lt (Nat.lt_of_lt_of_le (Heap.lt_size e) (I.ok.cab x c hfn hc)))).trans e1⟩
  ·by_cases hj:j=i
   ·subst hj
    rw [hi] at e1; cases e1
    rw [List.getElem?_set_self hiσ] at e2
    cases e2
    exact ⟨u,r,.inr ⟨.inl hk,c,hc,hc'⟩⟩
   ·rw [List.getElem?_set_ne (Ne.symm hj)] at e2
    obtain ⟨u',r',q⟩:=hl j y v' e1 e2 e3
    refine ⟨u',r',?_⟩
    rcases q with q | ⟨k,c',e,z'⟩
    ·exact .inl q
    ·refine .inr ⟨k,c',e,z'.sameBut hs ?_⟩
     rintro rfl
     exact hj (nodup_ix hN e1 (I.ok.inj _ _ _ e hc ▸ hi))
  ·by_cases hcc:c'=c
   ·subst hcc; exact ⟨_,hc'⟩
   ·obtain ⟨w2,z2⟩:=I.cell y c' e
    exact ⟨w2,z2.sameBut hs hcc⟩
  ·obtain ⟨e,n,ne,nf,d⟩:=I.pin p hp
   refine ⟨(hs.2 p.1 ?_).trans e,n,ne,nf,d⟩
   intro q
   rw [q,hoc] at e
   have q':oc=p.2:=Option.some.inj e
   exact d w' (by rw [←q']; exact hocd)
theorem store_ok {M:Model} {A:Around} {E:Value→Shared→Prop} {i:Nat} {x:Str} {v:V} {u:Value} {Q:Unit→Shared→Prop} (I:Inv X pins σ H s) (hN:X.N.Nodup) (hi:X.N[i]? = some x) (hx:Loc X.env.scope x) (r:RelV v u)
  (h:∀ s',Inv X pins (σ.set i (some v)) H s'→Q () s') (hf:X.fn x=true ∨ X.env.scope.names.lookup x=some .local:=by first | exact .inl rfl | exact .inr rfl | assumption):wpAny M A (storeName X.env x u) Q E s :=
 store_ok2 I hN hi hx r (fun s' I' _=>h s' I') hf
theorem Inv.call' {s':Shared} {ch:List Addr} (I:Inv X pins σ H s) (ho:s'.os=s.os) (u:Un (frs X.stack) ch H H' s.heap s'.heap) (hok:HOk X.prog X.w H' s'.heap) (hg:AllBare s'.gens)
  (hch:∀ b ∈ ch,(b ∈ X.ex ∨ X.s₀.heap.objs.size≤b)∧b≠X.env.locals∧(∀ x c,X.env.cells.lookup x=some c→c≠b)∧∀ p ∈ X.pn++pins,p.1≠b):Inv X pins σ H' s':=by
 obtain ⟨h',g',d',t',o'⟩:=s'
 have e:o'=s.os:=ho
 subst e
 exact I.call (g':=g') (t':=t') (d':=d') u hok hg hch
end
abbrev XK:=Value→Option Addr→Hp→Prop
abbrev St:=List (Option V)
abbrev VK:=V→Hp→Prop
abbrev TE:=St→Hp→VK→Prop
abbrev TT:=St→Hp→(Bool→Hp→Prop)→Prop
abbrev TA:=St→Hp→(List V→Hp→Prop)→Prop
structure Ends where
 nx:St→Hp→Prop
 rt:VK
 bk:St→Hp→Prop:=fun _ _=>False
 ct:St→Hp→Prop:=fun _ _=>False
abbrev TS:=Ends→St→Hp→Prop
def EP (X:Cx) (pins:List (Addr × Obj)) (σ:St) (Q:VK) (u:Value) (s':Shared):Prop:=∃ v H',Inv X pins σ H' s'∧RelV v u∧Q v H'
def TP (X:Cx) (pins:List (Addr × Obj)) (σ:St) (Q:Bool→Hp→Prop) (b:Bool) (s':Shared):Prop:=∃ H',Inv X pins σ H' s'∧Q b H'
def AP (X:Cx) (pins:List (Addr × Obj)) (σ:St) (Q:List V→Hp→Prop) (us:List Value) (s':Shared):Prop:=∃ vs H',Inv X pins σ H' s'∧Vals vs us∧Q vs H'
def SP (X:Cx) (pins:List (Addr × Obj)) (D:Ends) (f:Flow) (s':Shared):Prop :=
 match f with
 | .next=>∃ σ' H',Inv X pins σ' H' s'∧D.nx σ' H'
 | .brk=>∃ σ' H',Inv X pins σ' H' s'∧D.bk σ' H'
 | .cont=>∃ σ' H',Inv X pins σ' H' s'∧D.ct σ' H'
 | .ret u=>∃ v σ' H',Inv X pins σ' H' s'∧RelV v u∧D.rt v H'
def PE (X:Cx) (e:Expr) (t:TE):Prop :=
 ∀ (pins:List (Addr × Obj)) (s:Shared) (σ:St) (H:Hp) (Q:VK),Inv X pins σ H s→t σ H Q→wpAny (model X.prog X.w) X.A (eval e X.env) (EP X pins σ Q) X.xe s
def PT (X:Cx) (e:Expr) (t:TT):Prop :=
 ∀ (pins:List (Addr × Obj)) (s:Shared) (σ:St) (H:Hp) (Q:Bool→Hp→Prop),Inv X pins σ H s→t σ H Q→wpAny (model X.prog X.w) X.A (isTrue e X.env (eval e X.env)) (TP X pins σ Q) X.xe s
def PW (X:Cx) (e:Expr) (t:TT):Prop :=
 ∀ (whole:Sem Value) (pins:List (Addr × Obj)) (s:Shared) (σ:St) (H:Hp) (Q:Bool→Hp→Prop),Inv X pins σ H s→t σ H Q→wpAny (model X.prog X.w) X.A (isTrue e X.env whole) (TP X pins σ Q) X.xe s
theorem PW.pt {X:Cx} {e:Expr} {t:TT} (h:PW X e t):PT X e t:=h _
def PA (X:Cx) (es:List Expr) (t:TA):Prop :=
 ∀ (pos:Pos) (pins:List (Addr × Obj)) (s:Shared) (σ:St) (H:Hp) (Q:List V→Hp→Prop),Inv X pins σ H s→t σ H Q→wpAny (model X.prog X.w) X.A (spliced (backTo pos (starEach es X.env))) (AP X pins σ Q) X.xe s
def PS (X:Cx) (st:Stmt) (t:TS):Prop :=
 ∀ (pins:List (Addr × Obj)) (s:Shared) (σ:St) (H:Hp) (D:Ends),Inv X pins σ H s→t D σ H→wpAny (model X.prog X.w) X.A (exec st X.env) (SP X pins D) X.xe s
def PSs (X:Cx) (st:List Stmt) (t:TS):Prop :=
 ∀ (pins:List (Addr × Obj)) (s:Shared) (σ:St) (H:Hp) (D:Ends),Inv X pins σ H s→t D σ H→wpAny (model X.prog X.w) X.A (execs st X.env) (SP X pins D) X.xe s
theorem thn {α:Type} {t:Sem α} {Q Q':α→Shared→Prop} {M:Model} {A:Around} {E:Value→Shared→Prop} {s:Shared} (h:wpAny M A t Q E s) (hQ:∀ a s,Q a s→Q' a s):wpAny M A t Q' E s:=wpAny_mono h hQ fun _ _ x=>x
end L2
namespace L2
open PySem PySem.Spec PyProof.Rows
section
variable {X:Cx}
theorem bin {a b:Expr} {ta tb:TE} (ha:PE X a ta) (hb:PE X b tb) {pins:List (Addr × Obj)} {s:Shared} {σ:St} {H:Hp} {R:V→V→Hp→Prop} (I:Inv X pins σ H s) (h:ta σ H fun x H1=>tb σ H1 fun y H2=>R x y H2)
  {α:Type} {Q:α→Shared→Prop} {f:Value→Value→Sem α}
  (hf:∀ v u s2 x y H2,Inv X pins σ H2 s2→RelV x v→RelV y u→R x y H2→wpAny (model X.prog X.w) X.A (f v u) Q X.xe s2) :
  wpAny (model X.prog X.w) X.A (eval a X.env) (fun v s₁=>wpAny (model X.prog X.w) X.A (eval b X.env) (fun u s₂=>wpAny (model X.prog X.w) X.A (f v u) Q X.xe s₂) X.xe s₁) X.xe s:=by
 refine thn (ha pins s σ H _ I h) fun v s1 ⟨x,H1,I1,r1,q1⟩=>?_
 refine thn (hb pins s1 σ H1 _ I1 q1) fun u s2 ⟨y,H2,I2,r2,q2⟩=>?_
 exact hf v u s2 x y H2 I2 r1 r2 q2
def tVar (i:Nat):TE:=fun σ H Q=>∃ v,σ[i]? = some (some v)∧Q v H
def tC (v:V):TE:=fun _ H Q=>Q v H
theorem pe_var {i:Nat} {x:Str} {pos:Pos} (hN:X.N[i]? = some x) (hv:Vis X.env.scope x) (hd:(x == ("__debug__" : Str))=false:=by decide) (hcd:(x == ("__classdict__" : Str))=false:=by decide):PE X (.Name x pos) (tVar i):=by
 intro pins s σ H Q I h
 obtain ⟨v,e,h⟩:=h
 obtain ⟨m,hn,hl⟩:=I.loc
 obtain ⟨u,r,l⟩:=hl i x v hN e hv
 have fin:EP X pins σ Q u s:=⟨v,H,I,r,h⟩
 rcases l with ⟨hk,hm⟩ | ⟨hk,c,hc,hcell⟩
 ·exact wpAny_Name (wpAny_loadName_local I.ok.kind hk hn hm fin) hd
 ·rcases hk with hk | hk
  ·exact wpAny_Name (wpAny_loadName_cell I.ok.kind hk hc hcell fin) hd
  ·exact wpAny_Name (wpAny_loadName_free I.ok.kind hk hc hcell fin hcd) hd
theorem pe_int {i j pos}:PE X (.Constant (.int i) j pos) (tC (.int i)):=fun _ _ _ H _ I h=>wpAny_Constant_int ⟨.int i,H,I.tok _,⟨_,rfl⟩,h⟩
theorem pe_bl {b j pos}:PE X (.Constant (.bool b) j pos) (tC (.bl b)):=fun _ _ _ H _ I h=>Constant_bool ⟨.bl b,H,I,rfl,h⟩
theorem pe_non {j pos}:PE X (.Constant .none j pos) (tC .non):=fun _ _ _ H _ I h=>Constant_none ⟨.non,H,I,rfl,h⟩
def Gl (X:Cx) (x:Str):Prop:=X.env.kindOf x=some .globalImplicit
theorem ld_glob {E:Value→Shared→Prop} {pins:List (Addr × Obj)} {s:Shared} {σ:St} {H:Hp} {x:Str} {u:Value} {pos:Pos} {Q:Value→Shared→Prop} (I:Inv X pins σ H s) (hg:Gl X x) (hm:X.mg x=some u) (h:Q u s)
  (hd:(x == ("__debug__" : Str))=false:=by decide):wpAny (model X.prog X.w) X.A (eval (.Name x pos) X.env) Q E s :=
 Calls.Name_function_global I.ok.kind hg (Calls.loadGlobal_global (by rw [I.ok.glob]; exact I.mod.glob.keeps I.bk) hm h) hd
theorem ld_blt {E:Value→Shared→Prop} {pins:List (Addr × Obj)} {s:Shared} {σ:St} {H:Hp} {x:Str} {u:Value} {pos:Pos} {Q:Value→Shared→Prop} (I:Inv X pins σ H s) (hg:Gl X x) (hm:X.mg x=none) (hv:bootBuiltins x=some u) (h:Q u s)
  (hn:x≠"__name__":=by decide) (hd:(x == ("__debug__" : Str))=false:=by decide):wpAny (model X.prog X.w) X.A (eval (.Name x pos) X.env) Q E s:=by
 obtain ⟨mb,h1,h2⟩:=I.mod.blt
 exact Calls.Name_function_global I.ok.kind hg (Calls.loadGlobal_builtin (by rw [I.ok.glob]; exact I.mod.glob.keeps I.bk) hm (by rw [I.ok.blt]; exact h1.keeps I.bk) ((h2 x hn).trans hv) h) hd
theorem pe_bltn {x:Str} {v:V} {u:Value} {pos:Pos} (hg:Gl X x) (hm:X.mg x=none) (hv:bootBuiltins x=some u) (r:RelV v u) (hn:x≠"__name__":=by decide) (hd:(x == ("__debug__" : Str))=false:=by decide):PE X (.Name x pos) (tC v) :=
 fun _ _ _ H _ I h=>ld_blt I hg hm hv ⟨v,H,I,r,h⟩ hn hd
variable {a b:Expr} {ta tb:TE} {pos:Pos}
def PC (X:Cx) (op:CmpOp) (a b:Expr) (t:TE):Prop :=
 ∀ (pins:List (Addr × Obj)) (s:Shared) (σ:St) (H:Hp) (Q:VK),Inv X pins σ H s→t σ H Q →
  wpAny (model X.prog X.w) X.A (eval a X.env) (fun v s₁=>wpAny (model X.prog X.w) X.A (eval b X.env) (fun u s₂=>wpAny (model X.prog X.w) X.A (compareOp op v u) (EP X pins σ Q) X.xe s₂) X.xe s₁) X.xe s
def tB (t:TE):TT:=fun σ H Q=>t σ H fun x H1=>∃ c,x=.bl c∧Q c H1
theorem pt_cmp {op:CmpOp} {t:TE} (h:PC X op a b t) (h1:behindInMarks op b=false:=by first | exact nobehind _ (by decide) (by decide) | rfl):PT X (.Compare a [op] [b] pos) (tB t):=by
 intro pins s σ H Q I hw
 refine wpAny_isTrue_Compare1 (thn (h pins s σ H _ I hw) fun v s1 h1=>thn h1 fun u s2 h2=>thn h2 fun c s3 ⟨x,H1,I1,r1,q1⟩=>?_) h1
 obtain ⟨d,rfl,q⟩:=q1
 cases r1
 exact wpAny_truthy_bool ⟨H1,I1,q⟩
theorem pt_val {e:Expr} {t:TE} (h:PE X e t) (he:∀ whole,isTrue e X.env whole=(do let v ← whole; standAt e.pos; holding [v] (truthy v)):=by intro _; rfl):PT X e (tB t):=by
 intro pins s σ H Q I hw
 refine isTrue_plain (thn (h pins s σ H _ I hw) fun v s1 ⟨x,H1,I1,r1,q1⟩=>?_) (he _)
 obtain ⟨d,rfl,q⟩:=q1
 cases r1
 exact wpAny_truthy_bool ⟨H1,I1,q⟩
variable {tA tB':TT} {rest:List Expr}
def tAnd (t u:TT):TT:=fun σ H Q=>t σ H fun c H1=>if c=true then u σ H1 Q else Q false H1
def tOr (t u:TT):TT:=fun σ H Q=>t σ H fun c H1=>if c=true then Q true H1 else u σ H1 Q
def tNot (t:TT):TT:=fun σ H Q=>t σ H fun c H1=>Q (!c) H1
theorem pw_and1 (ha:PT X a tA):PW X (.BoolOp .And [a] pos) tA:=by
 intro wh pins s σ H Q I h
 refine isTrue_and (thn (ha pins s σ H Q I h) fun c s1 e=>?_)
 cases c with
 | true=>exact isTrue_and_nil e
 | false=>exact e
theorem pw_or1 (ha:PT X a tA):PW X (.BoolOp .Or [a] pos) tA:=by
 intro wh pins s σ H Q I h
 refine isTrue_or (thn (ha pins s σ H Q I h) fun c s1 e=>?_)
 cases c with
 | false=>exact isTrue_or_nil e
 | true=>exact e
theorem pw_and (ha:PT X a tA) (hb:PW X (.BoolOp .And (b :: rest) pos) tB'):PW X (.BoolOp .And (a :: b :: rest) pos) (tAnd tA tB'):=by
 intro wh pins s σ H Q I h
 refine isTrue_and (thn (ha pins s σ H _ I h) fun c s1 ⟨H1,I1,q1⟩=>?_)
 cases c with
 | true=>exact hb wh pins s1 σ H1 Q I1 q1
 | false=>exact ⟨H1,I1,q1⟩
theorem pw_or (ha:PT X a tA) (hb:PW X (.BoolOp .Or (b :: rest) pos) tB'):PW X (.BoolOp .Or (a :: b :: rest) pos) (tOr tA tB'):=by
 intro wh pins s σ H Q I h
 refine isTrue_or (thn (ha pins s σ H _ I h) fun c s1 ⟨H1,I1,q1⟩=>?_)
 cases c with
 | true=>exact ⟨H1,I1,q1⟩
 | false=>exact hb wh pins s1 σ H1 Q I1 q1
theorem pt_not (ha:PT X a tA):PT X (.UnaryOp .Not a pos) (tNot tA):=by
 intro pins s σ H Q I h
 exact isTrue_not (ha pins s σ H (fun c H1=>Q (!c) H1) I h)
def tAndV (ta tb:TE):TE:=fun σ H Q=>ta σ H fun x H1=>∃ c,x=.bl c∧if c=true then tb σ H1 Q else Q (.bl false) H1
def tOrV (ta tb:TE):TE:=fun σ H Q=>ta σ H fun x H1=>∃ c,x=.bl c∧if c=true then Q (.bl true) H1 else tb σ H1 Q
def tNotV (ta:TE):TE:=fun σ H Q=>ta σ H fun x H1=>∃ c,x=.bl c∧Q (.bl (!c)) H1
theorem pe_one {op} {t:TE} (h:PE X a t):PE X (.BoolOp op [a] pos) t:=fun pins s σ H Q I hw=>BoolOp_one (h pins s σ H Q I hw)
theorem pe_and (ha:PE X a ta) (hb:PE X (.BoolOp .And (b :: rest) pos) tb):PE X (.BoolOp .And (a :: b :: rest) pos) (tAndV ta tb):=by
 intro pins s σ H Q I h
 refine BoolOp_and (thn (ha pins s σ H _ I h) fun v s1 ⟨x,H1,I1,r1,q1⟩=>?_)
 obtain ⟨c,rfl,q1⟩:=q1
 cases r1
 refine wpAny_truthy_bool ?_
 cases c with
 | true=>exact hb pins s1 σ H1 Q I1 q1
 | false=>exact ⟨.bl false,H1,I1,rfl,q1⟩
theorem pe_or (ha:PE X a ta) (hb:PE X (.BoolOp .Or (b :: rest) pos) tb):PE X (.BoolOp .Or (a :: b :: rest) pos) (tOrV ta tb):=by
 intro pins s σ H Q I h
 refine BoolOp_or (thn (ha pins s σ H _ I h) fun v s1 ⟨x,H1,I1,r1,q1⟩=>?_)
 obtain ⟨c,rfl,q1⟩:=q1
 cases r1
 refine wpAny_truthy_bool ?_
 cases c with
 | false=>exact hb pins s1 σ H1 Q I1 q1
 | true=>exact ⟨.bl true,H1,I1,rfl,q1⟩
theorem pe_not (ha:PE X a ta):PE X (.UnaryOp .Not a pos) (tNotV ta):=by
 intro pins s σ H Q I h
 refine UnaryOp_ (thn (ha pins s σ H _ I h) fun v s1 ⟨x,H1,I1,r1,q1⟩=>?_)
 obtain ⟨c,rfl,q1⟩:=q1
 cases r1
 exact not_of (wpAny_truthy_bool ⟨.bl (!c),H1,I1,rfl,q1⟩)
def tIf (t:TT) (ta tb:TE):TE:=fun σ H Q=>t σ H fun c H1=>if c=true then ta σ H1 Q else tb σ H1 Q
theorem pe_ifExp {c:Expr} (hc:PT X c tA) (ha:PE X a ta) (hb:PE X b tb):PE X (.IfExp c a b pos) (tIf tA ta tb):=by
 intro pins s σ H Q I h
 refine wpAny_IfExp (thn (hc pins s σ H _ I h) fun d s1 ⟨H1,I1,q1⟩=>?_)
 cases d with
 | true=>exact ha pins s1 σ H1 Q I1 q1
 | false=>exact hb pins s1 σ H1 Q I1 q1
end
end L2
namespace L2
open PySem PySem.Spec PyProof.Rows
def SqL (K:PySem.W.Frag) (H:Hp) (a:Addr) (xs:List V):Prop :=
 Rd H a (.lst xs) ∨
  ∃ (o:Obj) (its:Array Value) (n:Nat),K.lookup a=some o∧o.cls=.type "list"∧o.dict=none∧o.data=.seq its n∧its.size≤sizeLine∧Vals xs its.toList
def SqT (K:PySem.W.Frag) (H:Hp) (a:Addr) (xs:List V):Prop :=
 Rd H a (.tup xs) ∨
  ∃ (o:Obj) (its:Array Value) (n:Nat),K.lookup a=some o∧o.cls=.type "tuple"∧o.data=.seq its n∧its.size≤sizeLine∧Vals xs its.toList
def absV:Value→Option V
 | .none=>some .non
 | .bool b=>some (.bl b)
 | .int i _=>some (.int i)
 | .str x _=>some (.str x)
 | .bytes b _=>some (.byt b)
 | .float b _=>some (.flt b)
 | .ref a=>some (.ref a)
 | .type n=>some (.ty n)
 | _=>none
theorem RelV.abs {x:V} {u:Value} (r:RelV x u):absV u=some x:=by
 cases x with
 | non=>cases r; rfl
 | bl _=>cases r; rfl
 | int _=>obtain ⟨t,rfl⟩:=r; rfl
 | str _=>obtain ⟨t,rfl⟩:=r; rfl
 | byt _=>obtain ⟨t,rfl⟩:=r; rfl
 | flt _=>obtain ⟨t,rfl⟩:=r; rfl
 | ref _=>cases r; rfl
 | ty _=>cases r; rfl
theorem RelV.inj {x y:V} {u:Value} (r:RelV x u) (q:RelV y u):x=y:=Option.some.inj (r.abs.symm.trans q.abs)
theorem Vals.inj:∀ {xs ys:List V} {us:List Value},Vals xs us→Vals ys us→xs=ys
 | _,_,_,.nil,.nil=>rfl
 | _,_,_,.cons r t,.cons r' t'=>by rw [r.inj r',Vals.inj t t']
section
variable {X:Cx} {pins:List (Addr × Obj)} {σ:St} {H:Hp} {s:Shared} {a:Addr} {xs ys:List V}
theorem SqL.of {K:PySem.W.Frag} (h:H a=some (.lst xs)):SqL K H a xs:=.inl (.inl h)
theorem SqT.of {K:PySem.W.Frag} (h:H a=some (.tup xs)):SqT K H a xs:=.inl (.inl h)
theorem Inv.list (I:Inv X pins σ H s) (h:SqL X.K H a xs):∃ its:List Value,Vals xs its∧PlainL s.heap a its.toArray∧xs.length≤sizeLine:=by
 rcases h with h | ⟨o,its,n,hk,hc,hd,hs,hz,r⟩
 ·obtain ⟨z,its,n,r,e⟩:=h.ok I.hok
  exact ⟨its,r,⟨_,n,e,rfl,rfl,rfl⟩,z⟩
 ·refine ⟨its.toList,r,⟨o,n,I.kIn a o hk,hc,hd,by simpa using hs⟩,?_⟩
  have e:=r.length
  simp only [Array.length_toList] at e
  omega
theorem Inv.tuple (I:Inv X pins σ H s) (h:SqT X.K H a xs):∃ its:List Value,Vals xs its∧IsTup s.heap a its.toArray∧xs.length≤sizeLine:=by
 rcases h with h | ⟨o,its,n,hk,hc,hs,hz,r⟩
 ·obtain ⟨z,its,r,p⟩:=h.ok I.hok
  exact ⟨its,r,p,z⟩
 ·refine ⟨its.toList,r,⟨o,I.kIn a o hk,hc,n,by simpa using hs⟩,?_⟩
  have e:=r.length
  simp only [Array.length_toList] at e
  omega
theorem Inv.list_inj (I:Inv X pins σ H s) (h:SqL X.K H a xs) (h':SqL X.K H a ys):xs=ys:=by
 obtain ⟨its,r,⟨o,n,e,_,_,d⟩,_⟩:=I.list h
 obtain ⟨its',r',⟨o',n',e',_,_,d'⟩,_⟩:=I.list h'
 rw [e] at e'; cases e'
 rw [d] at d'
 injection d' with d1 _
 have:its=its':=by simpa using congrArg Array.toList d1
 subst this
 exact r.inj r'
end
abbrev Cx.wish (X:Cx) (E:Value→Shared→Prop):Cx:={ X with xe:=E }
abbrev Cx.nox (X:Cx):Cx:=X.wish fun _ _=>False
theorem Cx.Ok.wish {X:Cx} (ok:X.Ok) (E:Value→Shared→Prop):(X.wish E).Ok :=
 ⟨ok.mod,ok.kind,ok.glob,ok.blt,ok.above,ok.inj,ok.has,ok.cab,ok.hd,ok.frames,ok.stk,ok.exf,ok.bs,ok.bsz,ok.noex,ok.exfs,ok.funs,ok.frf⟩
theorem Cx.Ok.unwish {X:Cx} {E:Value→Shared→Prop} (ok:(X.wish E).Ok):X.Ok :=
 ⟨ok.mod,ok.kind,ok.glob,ok.blt,ok.above,ok.inj,ok.has,ok.cab,ok.hd,ok.frames,ok.stk,ok.exf,ok.bs,ok.bsz,ok.noex,ok.exfs,ok.funs,ok.frf⟩
section
variable {X:Cx} {pins:List (Addr × Obj)} {σ:St} {H:Hp} {s:Shared} {E:Value→Shared→Prop}
theorem Inv.wish (I:Inv X pins σ H s) (E:Value→Shared→Prop):Inv (X.wish E) pins σ H s:=⟨I.ok.wish E,I.os,I.bare,I.base,I.loc,I.cell,I.free,I.freeC,I.pin,I.hok,I.len⟩
theorem Inv.unwish (I:Inv (X.wish E) pins σ H s):Inv X pins σ H s:=⟨I.ok.unwish,I.os,I.bare,I.base,I.loc,I.cell,I.free,I.freeC,I.pin,I.hok,I.len⟩
theorem SP.unwish {D:Ends} {f:Flow} {s':Shared} (h:SP (X.wish E) pins D f s'):SP X pins D f s':=by
 cases f with
 | next=>obtain ⟨σ',H',I,q⟩:=h; exact ⟨σ',H',I.unwish,q⟩
 | brk=>obtain ⟨σ',H',I,q⟩:=h; exact ⟨σ',H',I.unwish,q⟩
 | cont=>obtain ⟨σ',H',I,q⟩:=h; exact ⟨σ',H',I.unwish,q⟩
 | ret u=>obtain ⟨v,σ',H',I,r,q⟩:=h; exact ⟨v,σ',H',I.unwish,r,q⟩
theorem PSs.nox {st:List Stmt} {t:TS} (h:PSs X.nox st t):PSs X st t:=fun pins s σ H D I hw =>
 wpAny_mono (h pins s σ H D (I.wish _) hw) (fun _ _ q=>q.unwish) fun _ _ z=>False.elim z
end
section
variable {X:Cx} {st:Stmt} {rest:List Stmt} {t u:TS} {e:Expr} {te:TE} {pos:Pos}
def tNext:TS:=fun D σ H=>D.nx σ H
def tSeq (t u:TS):TS:=fun D σ H=>t { D with nx:=u D } σ H
theorem pss_nil:PSs X [] tNext:=fun _ _ σ H _ I h=>wpAny_execs_nil ⟨σ,H,I,h⟩
theorem pss_cons (h1:PS X st t) (h2:PSs X rest u):PSs X (st :: rest) (tSeq t u):=by
 intro pins s σ H D I h
 refine wpAny_execs_cons (thn (h1 pins s σ H { D with nx:=u D } I h) fun f s1 q=>?_)
 cases f with
 | next =>
  obtain ⟨σ',H',I',q⟩:=q
  exact h2 pins s1 σ' H' D I' q
 | ret v=>exact q
 | brk=>exact q
 | cont=>exact q
theorem pss_one (h1:PS X st t):PSs X [st] t:=by
 intro pins s σ H D I h
 refine wpAny_execs_cons (thn (h1 pins s σ H D I h) fun f s1 q=>?_)
 cases f with
 | next=>exact wpAny_execs_nil q
 | ret v=>exact q
 | brk=>exact q
 | cont=>exact q
theorem Inv.quiet {pins:List (Addr × Obj)} {σ:St} {H:Hp} {s:Shared} (I:Inv X pins σ H s):interactive X.env=false:=by simp [interactive,I.ok.kind]
def tDrop (te:TE):TS:=fun D σ H=>te σ H fun _ H1=>D.nx σ H1
theorem ps_expr (he:PE X e te) (hs:swapsWith e none pos.line X.env=pure false:=by rfl):PS X (.Expr e pos) (tDrop te):=by
 intro pins s σ H D I h
 exact wpAny_Expr_any (thn (he pins s σ H _ I h) fun v s1 ⟨x,H1,I1,r1,q1⟩=>⟨σ,H1,I1,q1⟩) I.quiet hs
def tRet (te:TE):TS:=fun D σ H=>te σ H D.rt
theorem ps_ret (he:PE X e te):PS X (.Return (some e) pos) (tRet te):=by
 intro pins s σ H D I h
 exact wpAny_Return_some (thn (he pins s σ H _ I h) fun v s1 ⟨x,H1,I1,r1,q1⟩=>⟨x,σ,H1,I1,r1,q1⟩)
def tIfS (c:TT) (t u:TS):TS:=fun D σ H=>c σ H fun b H1=>if b=true then t D σ H1 else u D σ H1
theorem ps_if {c:Expr} {a b:List Stmt} {tc:TT} (hc:PT X c tc) (ha:PSs X a t) (hb:PSs X b u):PS X (.If c a b pos) (tIfS tc t u):=by
 intro pins s σ H D I h
 refine wpAny_If (thn (hc pins s σ H _ I h) fun d s1 ⟨H1,I1,q1⟩=>?_)
 cases d with
 | true=>exact ha pins s1 σ H1 D I1 q1
 | false=>exact hb pins s1 σ H1 D I1 q1
end
abbrev TG:=V→St→Hp→(St→Hp→Prop)→Prop
abbrev TGs:=List V→St→Hp→(St→Hp→Prop)→Prop
def PG (X:Cx) (target:Expr) (t:TG):Prop :=
 ∀ (pins:List (Addr × Obj)) (s:Shared) (σ:St) (H:Hp) (v:V) (u:Value) (Q:St→Hp→Prop),Inv X pins σ H s→RelV v u→t v σ H Q →
  wpAny (model X.prog X.w) X.A (assign target X.env u) (fun _ s'=>∃ σ' H',Inv X pins σ' H' s'∧Q σ' H') X.xe s
def PGs (X:Cx) (ts:List Expr) (t:TGs):Prop :=
 ∀ (pins:List (Addr × Obj)) (s:Shared) (σ:St) (H:Hp) (vs:List V) (us:List Value) (Q:St→Hp→Prop),Inv X pins σ H s→Vals vs us→t vs σ H Q →
  wpAny (model X.prog X.w) X.A (assignInOrder ((assignEach ts X.env).map (·.2)) us) (fun _ s'=>∃ σ' H',Inv X pins σ' H' s'∧Q σ' H') X.xe s
abbrev TSet:=V→V→V→Hp→(Hp→Prop)→Prop
def PSet (X:Cx) (t:TSet):Prop :=
 ∀ (pins:List (Addr × Obj)) (s:Shared) (σ:St) (H:Hp) (o i v:V) (ov iv u:Value) (Q:Hp→Prop),Inv X pins σ H s→RelV o ov→RelV i iv→RelV v u→t o i v H Q →
  wpAny (model X.prog X.w) X.A (setItem ov iv u) (fun _ s'=>∃ H',Inv X pins σ H' s'∧Q H') X.xe s
section
variable {X:Cx} {pos:Pos}
def gName (i:Nat):TG:=fun v σ H Q=>Q (σ.set i (some v)) H
theorem pg_name {i:Nat} {x:Str} (hN:X.N.Nodup) (hi:X.N[i]? = some x) (hx:Loc X.env.scope x) (hf:X.fn x=true ∨ X.env.scope.names.lookup x=some .local:=by first | exact .inl rfl | exact .inr rfl | assumption):PG X (.Name x pos) (gName i):=by
 intro pins s σ H v u Q I r h
 exact wpAny_assign_Name (store_ok I hN hi hx r (fun s' I'=>⟨_,H,I',h⟩) hf)
def gNil:TGs:=fun vs σ H Q=>vs=[]∧Q σ H
def gCons (t:TG) (u:TGs):TGs:=fun vs σ H Q=>∃ v r,vs=v :: r∧t v σ H fun σ' H'=>u r σ' H' Q
theorem pgs_nil:PGs X [] gNil:=by
 intro pins s σ H vs us Q I r h
 obtain ⟨e,h⟩:=h
 subst e
 cases r
 exact assignInOrder_nil ⟨σ,H,I,h⟩
theorem pgs_cons {e:Expr} {es:List Expr} {t:TG} {u:TGs} (h1:PG X e t) (h2:PGs X es u)
  (hs:(assignEach (e :: es) X.env).map (·.2)=assign e X.env :: (assignEach es X.env).map (·.2):=by rfl):PGs X (e :: es) (gCons t u):=by
 intro pins s σ H vs us Q I r h
 obtain ⟨v,vr,e1,h⟩:=h
 subst e1
 cases r with
 | cons r rr =>
  rw [hs]
  refine assignInOrder_cons (thn (h1 pins s σ H _ _ _ I r h) fun _ s1 ⟨σ1,H1,I1,q1⟩=>?_)
  exact h2 pins s1 σ1 H1 _ _ Q I1 rr q1
def gTup (K:PySem.W.Frag) (n:Nat) (t:TGs):TG:=fun v σ H Q=>∃ a xs,v=.ref a∧SqT K H a xs∧xs.length=n∧t xs σ H Q
theorem pg_tup {es:List Expr} {k:Nat} {t:TGs} {n:Nat} (hc:X.calm=true) (h:PGs X es t)
  (hn:(assignEach es X.env).length=n:=by rfl) (hst:(assignEach es X.env).findIdx? (·.1)=none:=by rfl):PG X (.Tuple es k pos) (gTup X.K n t):=by
 intro pins s σ H v u Q I r hw
 obtain ⟨a,xs,e1,hq,hl,hw⟩:=hw
 subst e1
 cases r
 obtain ⟨its,rv,ht,hz⟩:=I.tuple hq
 refine assign_Tuple_tuple (I.ok.hd hc) ht (by simp [hn,←hl,rv.length]) hst fun h' hx=>?_
 have I1:Inv X pins σ H { s with heap:=h' }:=I.kept (t':=s.toks) fun b o e=>hx b o (Nat.ne_of_lt (Heap.lt_size e)) e
 exact h pins _ σ H xs _ Q I1 (by simpa using rv) hw
def gSub (to ti:TE) (t:TSet):TG:=fun v σ H Q=>to σ H fun o H1=>ti σ H1 fun i H2=>t o i v H2 fun H3=>Q σ H3
theorem pg_sub {o i:Expr} {to ti:TE} {t:TSet} (ho:PE X o to) (hi:PE X i ti) (hs:PSet X t)
  (ha:∀ v,assign (.Subscript o i pos) X.env v=(do
   let ov ← holding [v] (eval o X.env)
   let iv ← holding [v,ov] (eval i X.env)
   standAt pos
   holding [v,ov,iv] (setItem ov iv v)
   release [v,ov,iv] []):=by intro _; rfl):PG X (.Subscript o i pos) (gSub to ti t):=by
 intro pins s σ H v u Q I r h
 rw [ha]
 refine wpAny_bind (wpAny_holding (thn (ho pins s σ H _ I h) fun ov s1 ⟨x,H1,I1,r1,q1⟩=>?_))
 refine wpAny_bind (wpAny_holding (thn (hi pins s1 σ H1 _ I1 q1) fun iv s2 ⟨y,H2,I2,r2,q2⟩=>?_))
 refine wpAny_bind (wpAny_standAt (wpAny_bind (wpAny_holding (thn (hs pins s2 σ H2 x y v ov iv u _ I2 r1 r2 r q2) fun _ s3 ⟨H3,I3,q3⟩=>?_))))
 exact wpAny_release ⟨σ,H3,I3,q3⟩
def tAsg (te:TE) (g:TG):TS:=fun D σ H=>te σ H fun x H1=>g x σ H1 D.nx
theorem ps_asg {tg e:Expr} {te:TE} {g:TG} (he:PE X e te) (hg:PG X tg g) (hs:swapsWithSole [tg] e pos.line X.env=pure false:=by rfl) (hw:swappedStores [tg] e X.env=pure none:=by rfl)
  (h1:(assignEach [tg] X.env).map (·.2)=[assign tg X.env]:=by rfl):PS X (.Assign [tg] e pos) (tAsg te g):=by
 intro pins s σ H D I h
 refine wpAny_Assign_stores (thn (he pins s σ H _ I h) fun v s1 ⟨x,H1,I1,r1,q1⟩=>?_) hs hw
 rw [h1]
 exact thn (hg pins s1 σ H1 x v _ I1 r1 q1) fun _ s2 q=>q
theorem ps_set {i:Nat} {x:Str} {e:Expr} {te:TE} {pos':Pos} (hN:X.N.Nodup) (hi:X.N[i]? = some x) (hx:Loc X.env.scope x) (he:PE X e te) (hs:swapsWith e (some (.Name x pos')) pos.line X.env=pure false:=by rfl) (hf:X.fn x=true ∨ X.env.scope.names.lookup x=some .local:=by first | exact .inl rfl | exact .inr rfl | assumption) :
  PS X (.Assign [.Name x pos'] e pos) (tAsg te (gName i)):=by
 intro pins s σ H D I h
 refine wpAny_Assign_Name (thn (he pins s σ H _ I h) fun v s1 ⟨y,H1,I1,r1,q1⟩=>?_) hs
 exact store_ok I1 hN hi hx r1 (fun s2 I2=>⟨_,H1,I2,q1⟩) hf
def tPar (i j:Nat) (ta:TA):TS:=fun D σ H=>ta σ H fun vs H1=>∃ v w,vs=[v,w]∧D.nx ((σ.set i (some v)).set j (some w)) H1
theorem ps_par {i j:Nat} {x y:Str} {a b:Expr} {ta:TA} {px py pt:Pos} {kt k2 pt2} (hc:X.calm=true) (hN:X.N.Nodup) (hi:X.N[i]? = some x) (hj:X.N[j]? = some y) (hij:i≠j)
  (hx:X.env.scope.names.lookup x=some .local) (hy:X.env.scope.names.lookup y=some .local) (ha:PA X [a,b] ta)
  (hw:swappedStores [.Tuple [.Name x px,.Name y py] kt pt] (.Tuple [a,b] k2 pt2) X.env=pure (some [x,y]))
  (hs:swapsWithSole [.Tuple [.Name x px,.Name y py] kt pt] (.Tuple [a,b] k2 pt2) pos.line X.env=pure false:=by rfl) :
  PS X (.Assign [.Tuple [.Name x px,.Name y py] kt pt] (.Tuple [a,b] k2 pt2) pos) (tPar i j ta):=by
 intro pins s σ H D I h
 rw [exec_Assign_arm]
 refine wpAny_bind (wpAny_standAt ?_)
 rw [hs]
 refine wpAny_bind (wpAny_pure ?_)
 rw [if_neg (by decide)]
 refine wpAny_bind (Tuple_ (thn (ha _ pins s σ H _ I h) fun us s1 ⟨vs,H1,I1,r1,q1⟩=>?_))
 obtain ⟨v,w,e1,q1⟩:=q1
 subst e1
 obtain ⟨u1,u2,rfl,rv,rw'⟩:∃ u1 u2,us=[u1,u2]∧RelV v u1∧RelV w u2:=by
  cases r1 with
  | cons p q =>
   cases q with
   | cons p' q' =>
    cases q'
    exact ⟨_,_,rfl,p,p'⟩
 refine wpAny_newObj_type ?_ (by show 2≤sizeLine; decide)
 have I2:Inv X pins σ H1 { s1 with heap:=s1.heap.push { cls:=.type "tuple",data:=.seq [u1,u2].toArray } }:=I1.kept (t':=s1.toks) fun b o e=>Heap.get?_push_of_some _ e
 rw [hw]
 refine wpAny_bind (wpAny_pure ?_)
 show wpAny (model X.prog X.w) X.A (do rule "assign.swapped-stores"; let items ← unpackItems (.ref s1.heap.objs.size) 2 none; assignInOrder [fun v=>bindName X.env y v,fun v=>bindName X.env x v] items.reverse; pure Flow.next) _ _ _
 refine wpAny_bind (wpAny_rule (wpAny_bind (unpackItems_tuple (items:=#[u1,u2]) (I.ok.hd hc) (IsTup.new s1.heap _) fun h' hx'=>?_)))
 have I3:=I2.kept (h':=h') (t':=s1.toks) fun b o e=>hx' b o (Nat.ne_of_lt (Heap.lt_size e)) e
 show wpAny _ _ (assignInOrder [fun v=>bindName X.env y v,fun v=>bindName X.env x v] [u2,u1] >>= fun _=>pure Flow.next) _ _ _
 refine wpAny_bind (assignInOrder_cons (wpAny_bindName (store_ok I3 hN hj (.inl hy) rw' (fun s2 I4=>?_) (.inr hy))))
 refine assignInOrder_cons (wpAny_bindName (store_ok I4 hN hi (.inl hx) rv (fun s3 I5=>assignInOrder_nil (wpAny_pure ?_)) (.inr hx)))
 rw [List.set_comm _ _ (Ne.symm hij)] at I5
 exact ⟨_,H1,I5,q1⟩
end
section
variable {X:Cx} {pos:Pos}
def tWhile (c:TT) (tb:TS):TS:=fun D σ H=>∃ W:Nat→St→Hp→Prop,(∃ m,W m σ H)∧∀ m σ H,W m σ H →
 c σ H fun b H1=>if b=true then ∃ N:St→Hp→Prop,(∀ σ' H',N σ' H'→∃ m',m' < m∧W m' σ' H')∧tb { D with nx:=N,ct:=N,bk:=D.nx } σ H1 else D.nx σ H1
theorem ps_while {c:Expr} {body:List Stmt} {tc:TT} {tb:TS} (hp:PassesOwn (model X.prog X.w) X.A X.env X.xe) (hc:PT X c tc) (hb:PSs X body tb):PS X (.While c body [] pos) (tWhile tc tb):=by
 intro pins s σ H D I h
 obtain ⟨W,⟨m0,w0⟩,turn⟩:=h
 refine wpAny_While (codeAny_whileLoop (fun n s'=>∃ σ' H',Inv X pins σ' H' s'∧W n σ' H') ?_ m0 ⟨σ,H,I,w0⟩)
 rintro n s1 ⟨σ1,H1,I1,w1⟩
 refine wpAny_passesOwn hp (thn (hc pins s1 σ1 H1 _ I1 (turn n σ1 H1 w1)) fun b s2 ⟨H2,I2,q2⟩=>?_)
 cases b with
 | true =>
  obtain ⟨N,hN,q2⟩:=q2
  rw [if_pos rfl]
  refine wpAny_passesOwn hp (thn (hb pins s2 σ1 H2 _ I2 q2) fun f s3 q3=>?_)
  cases f with
  | next =>
   obtain ⟨σ3,H3,I3,n3⟩:=q3
   obtain ⟨m',hm,w3⟩:=hN σ3 H3 n3
   exact ⟨m',hm,σ3,H3,I3,w3⟩
  | cont =>
   obtain ⟨σ3,H3,I3,n3⟩:=q3
   obtain ⟨m',hm,w3⟩:=hN σ3 H3 n3
   exact ⟨m',hm,σ3,H3,I3,w3⟩
  | brk=>exact q3
  | ret v=>exact q3
 | false =>
  rw [if_neg Bool.false_ne_true]
  exact wpAny_execs_nil ⟨σ1,H2,I2,q2⟩
end
structure It where
 go:Nat→Hp→Prop
 yld:Nat→Hp→V→Hp→Prop
 stop:Nat→Hp→Prop
def FpOk (X:Cx) (pins:List (Addr × Obj)) (H:Hp) (b:Addr):Prop :=
 H b=none∧b≠X.env.locals∧b ∉ X.fs∧(b ∈ X.ex ∨ X.s₀.heap.objs.size≤b)∧(∀ x c,X.env.cells.lookup x=some c→c≠b)∧∀ p ∈ X.pn++pins,p.1≠b
theorem Inv.fpOk {X:Cx} {pins:List (Addr × Obj)} {σ:St} {H H':Hp} {s:Shared} {b:Addr} (I:Inv X pins σ H s) (hb:s.heap.objs.size≤b) (hn:H' b=none):FpOk X pins H' b:=by
 refine ⟨hn,Nat.ne_of_gt (Nat.lt_of_lt_of_le I.lt hb),I.nofs hb,.inr (Nat.le_trans I.sz hb),fun x c e z=>?_,fun p hp z=>?_⟩
 ·obtain ⟨v,q⟩:=I.cell x c e
  exact absurd (Nat.lt_of_lt_of_le q.lt (by rw [z]; exact hb)) (Nat.lt_irrefl _)
 ·exact absurd (Nat.lt_of_lt_of_le (Heap.lt_size (I.pin p hp).1) (by rw [z]; exact hb)) (Nat.lt_irrefl _)
structure Turn (P:Program) (w:World) (K:PySem.W.Frag) (tg:Expr) (J:It) (fp:List Addr) (it:Addr) (tn:Nat→Heap→Prop):Prop where
 mem:it ∈ fp
 obj:∀ i h,tn i h→∀ b ∈ fp,∃ o,h.get? b=some o∧∀ v,o.data≠.cell v
 keep:∀ i h h',tn i h→(∀ b ∈ fp,∀ o,h.get? b=some o→h'.get? b=some o)→tn i h'
 item:∀ (X:Cx),X.prog=P→X.w=w→X.K=K→X.calm=true→∀ (i:Nat) (pins:List (Addr × Obj)) (s:Shared) (σ:St) (H:Hp) (E:Value→Shared→Prop),Inv X pins σ H s→(∀ b ∈ fp,FpOk X pins H b)→tn i s.heap→J.go i H →
  wpAny (model P w) X.A (pyNext (.ref it)) (fun r s1=>∃ u,r=some u ∧
   wpAny (model P w) X.A (letOwnedTupleGo tg (.ref it) u) (fun _ s2=>∃ x H',Inv X pins σ H' s2∧RelV x u∧J.yld i H x H'∧tn (i+1) s2.heap∧∀ b ∈ fp,H' b=none) E s1) E s
 done:∀ (X:Cx),X.prog=P→X.w=w→X.K=K→X.calm=true→∀ (i:Nat) (pins:List (Addr × Obj)) (s:Shared) (σ:St) (H:Hp) (E:Value→Shared→Prop),Inv X pins σ H s→(∀ b ∈ fp,FpOk X pins H b)→tn i s.heap→J.stop i H →
  wpAny (model P w) X.A (pyNext (.ref it)) (fun r s1=>r=none∧Inv X pins σ H s1) E s
 self:∀ (A:Around) (i:Nat) (s:Shared) (Q:Value→Shared→Prop) (E:Value→Shared→Prop),tn i s.heap→Q (.ref it) s→wpAny (model P w) A (pyIter (.ref it)) Q E s
abbrev TI:=St→Hp→(It→Hp→Prop)→Prop
def PIE (X:Cx) (pins:List (Addr × Obj)) (σ:St) (tg:Expr) (R:It→Hp→Prop) (itv:Value) (s2:Shared):Prop :=
 ∃ (it:Addr) (fp:List Addr) (tn:Nat→Heap→Prop) (J:It) (H':Hp),itv=.ref it∧Inv X pins σ H' s2∧Turn X.prog X.w X.K tg J fp it tn∧tn 0 s2.heap∧(∀ b ∈ fp,FpOk X pins H' b)∧R J H'
def PI (X:Cx) (tg iter:Expr) (wi:TI):Prop :=
 ∀ (pins:List (Addr × Obj)) (s:Shared) (σ:St) (H:Hp) (R:It→Hp→Prop),Inv X pins σ H s→wi σ H R →
  wpAny (model X.prog X.w) X.A (eval iter X.env) (fun v s1=>wpAny (model X.prog X.w) X.A (pyIter v) (PIE X pins σ tg R) X.xe s1) X.xe s
theorem go_of {M:Model} {A:Around} {E:Value→Shared→Prop} {s:Shared} {tg:Expr} {it:Addr} {u:Value} {o:Obj} {n:String} {vs:Array Value} {Q:Unit→Shared→Prop} (ho:s.heap.get? it=some o) (hc:o.cls=.type n) (hd:o.data=.fields vs)
  (hn:["enumerate","zip","dict_itemiterator","dict_reverseitemiterator","odict_iterator","itertools.zip_longest","itertools.pairwise"].contains n=false) (hQ:Q () s):wpAny M A (letOwnedTupleGo tg (.ref it) u) Q E s:=by
 unfold letOwnedTupleGo
 cases tg <;> first
  | exact wpAny_pure hQ
  | (cases u <;> first
      | exact wpAny_pure hQ
      | (refine wpAny_bind (wpAny_load ho ?_)
         rw [hc,hd]
         show wpAny M A (if (["enumerate","zip","dict_itemiterator","dict_reverseitemiterator","odict_iterator","itertools.zip_longest","itertools.pairwise"].contains n && vs[0]? == some (rawInt _))=true then _ else _) Q E s
         rw [if_neg (by intro h; rw [hn,Bool.false_and] at h; cases h)]
         exact wpAny_pure hQ))
def Itl (K:PySem.W.Frag) (a:Addr):It :=
 ⟨fun i H=>∃ xs x,SqL K H a xs∧xs[i]? = some x,fun i H x H'=>H'=H∧∀ xs,SqL K H a xs→xs[i]? = some x,fun i H=>∃ xs,SqL K H a xs∧xs.length≤i⟩
def Itr (lo:Int) (n:Nat):It:=⟨fun i _=>i < n,fun i H x H'=>H'=H∧x=.int (lo+i),fun i _=>n≤i⟩
theorem turn_list {P:Program} {w:World} {K:PySem.W.Frag} {tg:Expr} (a it:Addr):Turn P w K tg (Itl K a) [it] it (fun i h=>h.IsListIter it a i) where
 mem:=by simp
 obj:=fun i h st b hb=>by
  have e:b=it:=by simpa using hb
  subst e
  obtain ⟨o,e,c,d⟩:=st
  exact ⟨o,e,fun v z=>by rw [d] at z; cases z⟩
 keep:=fun i h h' st k=>st.at fun o e=>k it (by simp) o e
 item:=by
  intro X hP hw hK hc i pins s σ H E I hf st hg
  subst hP hw hK
  obtain ⟨xs,x,hq,hx⟩:=hg
  obtain ⟨its,rv,p,hz⟩:=I.list hq
  obtain ⟨u,hu,ru⟩:=rv.get hx
  obtain ⟨f0,f1,f2,f3,f4,f5⟩:=hf it (by simp)
  refine wpAny_pyNext_list_item st p.isList (x:=u) (by simpa using hu) fun h' st' sb=>?_
  have I1:Inv X pins σ H { s with heap:=h' }:=I.turned (t':=s.toks) (fun b o hb e=>(sb.2 b hb).trans e) f0 f1 f3 f4 f5
  obtain ⟨o,e,c,d⟩:=id st'
  exact ⟨u,rfl,go_of (s:={ s with heap:=h' }) e c d (by decide) ⟨x,H,I1,ru,⟨rfl,fun ys hy=>by rw [I.list_inj hy hq]; exact hx⟩,st',fun b hb=>(hf b hb).1⟩⟩
 done:=by
  intro X hP hw hK hc i pins s σ H E I hf st hg
  subst hP hw hK
  obtain ⟨xs,hq,hx⟩:=hg
  obtain ⟨its,rv,p,hz⟩:=I.list hq
  obtain ⟨f0,f1,f2,f3,f4,f5⟩:=hf it (by simp)
  have hl:=rv.length
  exact wpAny_pyNext_list_end (I.ok.hd hc) st p.isList (by simp; omega) fun h' eb=>⟨rfl,I.turned (t':=s.toks) (fun b o hb e=>eb b o hb e) f0 f1 f3 f4 f5⟩
 self:=fun _ _ _ _ _ st h=>wpAny_pyIter_listiter st h
theorem turn_range {P:Program} {w:World} {K:PySem.W.Frag} {tg:Expr} (it:Addr) (lo:Int) (n:Nat):Turn P w K tg (Itr lo n) [it] it (fun i h=>IsRangeIter h it (lo+(i:Nat) * 1) ((n:Int) - (i:Nat)) 1) where
 mem:=by simp
 obj:=fun i h st b hb=>by
  have e:b=it:=by simpa using hb
  subst e
  exact ⟨_,st,fun v z=>by
   have z':Data.fields _=Data.cell v:=z
   cases z'⟩
 keep:=fun i h h' st k=>k it (by simp) _ st
 item:=by
  intro X hP hw hK hc i pins s σ H E I hf st hg
  subst hP hw hK
  obtain ⟨f0,f1,f2,f3,f4,f5⟩:=hf it (by simp)
  have W:=Walks.range (prog:=X.prog) (w:=X.w) (I.ok.hd hc) it lo 1 n
  refine W.item i s _ _ hg st fun v h' tk hv st' kk=>?_
  obtain ⟨t,rfl⟩:=hv
  have I1:Inv X pins σ H { s with heap:=h',toks:=tk }:=I.turned (fun b o hb e=>kk b o (by simpa using hb) e) f0 f1 f3 f4 f5
  refine ⟨_,rfl,go_of (s:={ s with heap:=h',toks:=tk }) (n:="range_iterator") st' rfl rfl (by decide) ⟨.int (lo+i),H,I1,⟨t,?_⟩,⟨rfl,rfl⟩,st',fun b hb=>(hf b hb).1⟩⟩
  rw [Int.mul_one]
 done:=by
  intro X hP hw hK hc i pins s σ H E I hf st hg
  subst hP hw hK
  obtain ⟨f0,f1,f2,f3,f4,f5⟩:=hf it (by simp)
  exact wpAny_pyNext_range_end (I.ok.hd hc) st (by have:n≤i:=hg; omega) fun h' eb=>⟨rfl,I.turned (t':=s.toks) (fun b o hb e=>eb b o hb e) f0 f1 f3 f4 f5⟩
 self:=fun _ _ _ _ _ st h=>wpAny_pyIter_rangeiter st h
end L2
namespace L2
open PySem PySem.Spec PyProof.Rows
section
variable {X:Cx} {tg:Expr}
def iList (K:PySem.W.Frag) (tl:TE):TI:=fun σ H R=>tl σ H fun x H1=>∃ a,x=.ref a∧(∃ xs,SqL K H1 a xs)∧R (Itl K a) H1
theorem pi_list {l:Expr} {tl:TE} (hl:PE X l tl):PI X tg l (iList X.K tl):=by
 intro pins s σ H R I h
 refine thn (hl pins s σ H _ I h) fun v s1 ⟨x,H1,I1,r1,q1⟩=>?_
 obtain ⟨a,e,⟨xs,hq⟩,q⟩:=q1
 subst e
 cases r1
 obtain ⟨its,rv,p,hz⟩:=I1.list hq
 refine wpAny_pyIter_list p.isList ?_
 refine ⟨s1.heap.objs.size,[s1.heap.objs.size],_,_,H1,rfl,I1.kept (t':=s1.toks) fun b o e=>Heap.get?_push_of_some _ e,turn_list a _,⟨_,Heap.get?_push_size _ rfl,rfl,rfl⟩,fun b hb=>?_,q⟩
 have e:b=s1.heap.objs.size:=by simpa using hb
 subst e
 exact I1.fpOk (Nat.le_refl _) (I1.hok.fresh (Nat.le_refl _))
theorem range_it {pins:List (Addr × Obj)} {σ:St} {H:Hp} {s:Shared} {R:It→Hp→Prop} {E:Value→Shared→Prop} {lo hi:Int} {t u v:Tok} {tk:Nat} (I:Inv X pins σ H s) (h1:-(2 ^ 62)≤lo) (h2:lo < 2 ^ 62) (h3:-(2 ^ 62)≤hi) (h4:hi < 2 ^ 62)
  (q:R (Itr lo (hi - lo).toNat) H):wpAny (model X.prog X.w) X.A (pyIter (.ref s.heap.objs.size)) (PIE X pins σ tg R) E { s with heap:=s.heap.push { cls:=.type "range",data:=.fields #[.int lo t,.int hi u,.int 1 v] },toks:=tk }:=by
 refine wpAny_pyIter_range (IsRange.new ..) (small_one h1 h2 h3 h4) ?_
 have I1:Inv X pins σ H { s with heap:=s.heap.push { cls:=.type "range",data:=.fields #[.int lo t,.int hi u,.int 1 v] },toks:=tk }:=I.kept fun b o e=>Heap.get?_push_of_some _ e
 refine ⟨(s.heap.push { cls:=.type "range",data:=.fields #[.int lo t,.int hi u,.int 1 v] }).objs.size,[(s.heap.push { cls:=.type "range",data:=.fields #[.int lo t,.int hi u,.int 1 v] }).objs.size],_,_,H,rfl,
  I1.kept (t':=tk) fun b o e=>Heap.get?_push_of_some _ e,turn_range _ lo (hi - lo).toNat,?_,fun b hb=>?_,q⟩
 ·have e1:lo+((0:Nat):Int) * 1=lo:=by simp
  have e2:(((hi - lo).toNat:Nat):Int) - ((0:Nat):Int)=Builtin.Range.rangeSize lo hi 1:=by rw [rangeSize_one]; split <;> omega
  show IsRangeIter _ _ (lo+((0:Nat):Int) * 1) ((((hi - lo).toNat:Nat):Int) - ((0:Nat):Int)) 1
  rw [e1,e2]
  exact Heap.get?_push_size _ rfl
 ·have e:b=(s.heap.push { cls:=.type "range",data:=.fields #[.int lo t,.int hi u,.int 1 v] }).objs.size:=by simpa using hb
  subst e
  exact I1.fpOk (Nat.le_refl _) (I1.hok.fresh (Nat.le_refl _))
def iRng1 (ta:TA):TI:=fun σ H R=>ta σ H fun vs H1=>∃ j:Int,vs=[.int j]∧-(2 ^ 62)≤j∧j < 2 ^ 62∧R (Itr 0 j.toNat) H1
theorem pi_range1 {a:Expr} {ta:TA} {p pos:Pos} (hg:Gl X "range") (hm:X.mg "range" = none) (ha:PA X [a] ta) (hs:starEach [a] X.env=[(false,eval a X.env)]:=by rfl):PI X tg (.Call (.Name "range" p) [a] [] pos) (iRng1 ta):=by
 intro pins s σ H R I h
 refine Call_ (ld_blt I hg hm boot_range (PyProof.Rows.callWith_type1 (thn (ha pos pins s σ H _ I h) fun us s1 ⟨vs,H1,I1,r1,q1⟩=>?_) hs rfl))
 obtain ⟨j,e,q1,q2,q⟩:=q1
 subst e
 cases r1 with
 | cons r rr =>
  cases rr
  obtain ⟨t,rfl⟩:=r
  exact call_range_1 (range_it I1 (by omega) (by omega) q1 q2 (by simpa using q))
def tFor (wi:TI) (g:TG) (tb:TS):TS:=fun D σ H=>wi σ H fun J H1=>∃ W:Nat→Nat→St→Hp→Prop,(∃ m,W 0 m σ H1)∧∀ i m σ H,W i m σ H →
 (J.stop i H∧D.nx σ H) ∨ (J.go i H∧∃ N:St→Hp→Prop,(∀ σ' H',N σ' H'→∃ m',m' < m∧W (i+1) m' σ' H')∧∀ x H',J.yld i H x H'→g x σ H' fun σ2 H2=>tb { D with nx:=N,ct:=N,bk:=D.nx } σ2 H2)
def pinsAt (fp:List Addr) (h:Heap):List (Addr × Obj):=fp.filterMap fun b=>(h.get? b).map fun o=>(b,o)
theorem mem_pinsAt {fp:List Addr} {h:Heap} {b:Addr} {o:Obj} (hb:b ∈ fp) (e:h.get? b=some o):(b,o) ∈ pinsAt fp h:=List.mem_filterMap.mpr ⟨b,hb,by rw [e]; rfl⟩
theorem of_pinsAt {fp:List Addr} {h:Heap} {p:Addr × Obj} (hp:p ∈ pinsAt fp h):p.1 ∈ fp∧h.get? p.1=some p.2:=by
 obtain ⟨b,hb,e⟩:=List.mem_filterMap.mp hp
 cases q:h.get? b with
 | none=>rw [q] at e; cases e
 | some o =>
  rw [q] at e
  have e':(b,o)=p:=Option.some.inj e
  subst e'
  exact ⟨hb,q⟩
theorem Inv.pinned {pins:List (Addr × Obj)} {σ:St} {H:Hp} {s:Shared} {fp:List Addr} (I:Inv X pins σ H s) (hf:∀ b ∈ fp,FpOk X pins H b) (ho:∀ b ∈ fp,∃ o,s.heap.get? b=some o∧∀ v,o.data≠.cell v):Inv X (pins++pinsAt fp s.heap) σ H s :=
 I.pins_of fun p hp=>(List.mem_append.mp hp).elim (fun z=>I.pin p (List.mem_append_right _ z)) fun z=>by
  obtain ⟨hb,e⟩:=of_pinsAt z
  obtain ⟨f0,f1,f2,_⟩:=hf p.1 hb
  obtain ⟨o,e',d⟩:=ho p.1 hb
  rw [e] at e'; cases e'
  exact ⟨e,f0,f1,f2,d⟩
theorem Inv.unpinned {pins pl:List (Addr × Obj)} {σ:St} {H:Hp} {s:Shared} (I:Inv X (pins++pl) σ H s):Inv X pins σ H s:=I.pins_of fun p hp=>I.pin p (List.mem_append_right _ (List.mem_append_left _ hp))
theorem ps_for {iter:Expr} {body:List Stmt} {wi:TI} {g:TG} {tb:TS} {pos:Pos} (hp:PassesOwn (model X.prog X.w) X.A X.env X.xe) (hc:X.calm=true) (hi:PI X tg iter wi) (hg:PG X tg g) (hb:PSs X body tb)
  (hs:∀ x,foldedSetIterable iter X.env x=pure x:=by intro _; rfl):PS X (.For tg iter body [] pos) (tFor wi g tb):=by
 intro pins s σ H D I h
 refine wpAny_For (thn (hi pins s σ H _ I h) fun v s1 h1=>thn h1 fun itv s2 h2=>?_) hs
 obtain ⟨it,fp,tn,J,H2,e,I2,T,st2,f2,W,⟨m0,w0⟩,turn⟩:=h2
 subst e
 have stat:∀ {H':Hp},(∀ b ∈ fp,H' b=none)→∀ b ∈ fp,FpOk X pins H' b:=fun hn b hb=>⟨hn b hb,(f2 b hb).2⟩
 refine codeAny_forLoop_any (fun n s'=>∃ i σ' H',Inv X pins σ' H' s'∧tn i s'.heap∧(∀ b ∈ fp,H' b=none)∧W i n σ' H') ?_ m0 ⟨0,σ,H2,I2,st2,fun b hb=>(f2 b hb).1,w0⟩
 rintro n s3 ⟨i,σ3,H3,I3,st3,fr3,w3⟩
 rcases turn i n σ3 H3 w3 with ⟨stop,qn⟩ | ⟨go,N,hN,step⟩
 ·refine wpAny_passesOwn hp (thn (T.done X rfl rfl rfl hc i pins s3 σ3 H3 X.xe I3 (stat fr3) st3 stop) fun r s4 ⟨hr,I4⟩=>?_)
  subst hr
  exact wpAny_execs_nil ⟨σ3,H3,I4,qn⟩
 ·refine wpAny_passesOwn hp (thn (T.item X rfl rfl rfl hc i pins s3 σ3 H3 X.xe I3 (stat fr3) st3 go) fun r s4 ⟨u,hr,h4⟩=>?_)
  subst hr
  refine wpAny_passesOwn hp (thn h4 fun _ s5 ⟨x,H5,I5,r5,y5,st5,fr5⟩=>?_)
  have I5':=I5.pinned (stat fr5) (T.obj _ _ st5)
  refine wpAny_passesOwn hp (thn (hg _ s5 σ3 H5 x u _ I5' r5 (step x H5 y5)) fun _ s6 ⟨σ6,H6,I6,q6⟩=>?_)
  refine wpAny_passesOwn hp (thn (hb _ s6 σ6 H6 _ I6 q6) fun f s7 q7=>?_)
  have again:∀ {σ7:St} {H7:Hp},Inv X (pins++pinsAt fp s5.heap) σ7 H7 s7→N σ7 H7→∃ m,m < n∧∃ i σ' H',Inv X pins σ' H' s7∧tn i s7.heap∧(∀ b ∈ fp,H' b=none)∧W i m σ' H':=fun {σ7 H7} I7 n7=>by
   obtain ⟨m',hm,w7⟩:=hN σ7 H7 n7
   refine ⟨m',hm,i+1,σ7,H7,I7.unpinned,T.keep _ _ _ st5 fun b hb o e=>(I7.pin (b,o) (List.mem_append_right _ (List.mem_append_right _ (mem_pinsAt hb e)))).1,fun b hb=>?_,w7⟩
   obtain ⟨o,e,d⟩:=T.obj _ _ st5 b hb
   exact (I7.pin (b,o) (List.mem_append_right _ (List.mem_append_right _ (mem_pinsAt hb e)))).2.1
  cases f with
  | next=>obtain ⟨σ7,H7,I7,n7⟩:=q7; exact again I7 n7
  | cont=>obtain ⟨σ7,H7,I7,n7⟩:=q7; exact again I7 n7
  | brk=>obtain ⟨σ7,H7,I7,q7⟩:=q7; exact ⟨σ7,H7,I7.unpinned,q7⟩
  | ret v=>obtain ⟨x7,σ7,H7,I7,r7,q7⟩:=q7; exact ⟨x7,σ7,H7,I7.unpinned,r7,q7⟩
end
theorem for_list {K:PySem.W.Frag} {a:Addr} {xs:List V} {g:TG} {tb:TS} {D:Ends} {σ:St} {H:Hp} (Pv:Nat→St→Hp→Prop) (h0:Pv 0 σ H) (hl:∀ i σ H,i≤xs.length→Pv i σ H→SqL K H a xs)
  (hs:∀ i x σ H,xs[i]? = some x→Pv i σ H→g x σ H fun σ2 H2=>tb { D with nx:=Pv (i+1),ct:=Pv (i+1),bk:=D.nx } σ2 H2) (hd:∀ σ H,Pv xs.length σ H→D.nx σ H) :
  ∃ W:Nat→Nat→St→Hp→Prop,(∃ m,W 0 m σ H)∧∀ i m σ H,W i m σ H →
   ((Itl K a).stop i H∧D.nx σ H) ∨ ((Itl K a).go i H∧∃ N:St→Hp→Prop,(∀ σ' H',N σ' H'→∃ m',m' < m∧W (i+1) m' σ' H')∧∀ x H',(Itl K a).yld i H x H'→g x σ H' fun σ2 H2=>tb { D with nx:=N,ct:=N,bk:=D.nx } σ2 H2):=by
 refine ⟨fun i m σ H=>m=xs.length - i∧i≤xs.length∧Pv i σ H,⟨xs.length,by simp,Nat.zero_le _,h0⟩,?_⟩
 rintro i m σ H ⟨rfl,hi,p⟩
 have q:=hl i σ H hi p
 by_cases hlt:i < xs.length
 ·refine .inr ⟨⟨xs,xs[i],q,by simp [hlt]⟩,Pv (i+1),fun σ' H' p'=>⟨xs.length - (i+1),by omega,rfl,hlt,p'⟩,fun x H' y=>?_⟩
  obtain ⟨e,y⟩:=y
  subst e
  exact hs i x σ _ (y xs q) p
 ·have e:i=xs.length:=by omega
  subst e
  exact .inl ⟨⟨xs,q,Nat.le_refl _⟩,hd σ H p⟩
theorem for_range {lo:Int} {n:Nat} {g:TG} {tb:TS} {D:Ends} {σ:St} {H:Hp} (Pv:Nat→St→Hp→Prop) (h0:Pv 0 σ H)
  (hs:∀ i σ H,i < n→Pv i σ H→g (.int (lo+i)) σ H fun σ2 H2=>tb { D with nx:=Pv (i+1),ct:=Pv (i+1),bk:=D.nx } σ2 H2) (hd:∀ σ H,Pv n σ H→D.nx σ H) :
  ∃ W:Nat→Nat→St→Hp→Prop,(∃ m,W 0 m σ H)∧∀ i m σ H,W i m σ H →
   ((Itr lo n).stop i H∧D.nx σ H) ∨ ((Itr lo n).go i H∧∃ N:St→Hp→Prop,(∀ σ' H',N σ' H'→∃ m',m' < m∧W (i+1) m' σ' H')∧∀ x H',(Itr lo n).yld i H x H'→g x σ H' fun σ2 H2=>tb { D with nx:=N,ct:=N,bk:=D.nx } σ2 H2):=by
 refine ⟨fun i m σ H=>m=n - i∧i≤n∧Pv i σ H,⟨n,by simp,Nat.zero_le _,h0⟩,?_⟩
 rintro i m σ H ⟨rfl,hi,p⟩
 by_cases hlt:i < n
 ·refine .inr ⟨hlt,Pv (i+1),fun σ' H' p'=>⟨n - (i+1),by omega,rfl,hlt,p'⟩,fun x H' y=>?_⟩
  obtain ⟨e,y⟩:=y
  subst e y
  exact hs i σ _ hlt p
 ·have e:i=n:=by omega
  subst e
  exact .inl ⟨Nat.le_refl _,hd σ H p⟩
theorem while_by {c:TT} {tb:TS} {D:Ends} {σ:St} {H:Hp} (Pv:St→Hp→Prop) (μ:St→Hp→Nat) (h0:Pv σ H)
  (hs:∀ σ H,Pv σ H→c σ H fun b H1=>if b=true then tb { D with nx:=fun σ' H'=>Pv σ' H'∧μ σ' H' < μ σ H,ct:=fun σ' H'=>Pv σ' H'∧μ σ' H' < μ σ H,bk:=D.nx } σ H1 else D.nx σ H1)
  (mono:∀ σ H Q Q',(∀ b H1,Q b H1→Q' b H1)→c σ H Q→c σ H Q'):tWhile c tb D σ H:=by
 refine ⟨fun m σ H=>m=μ σ H∧Pv σ H,⟨_,rfl,h0⟩,?_⟩
 rintro m σ H ⟨rfl,p⟩
 refine mono σ H _ _ (fun b H1 q=>?_) (hs σ H p)
 cases b with
 | true=>exact ⟨_,fun σ' H' ⟨p',l⟩=>⟨_,l,rfl,p'⟩,q⟩
 | false=>exact q
end L2
namespace L2
open PySem PySem.Spec PyProof.Rows
abbrev R2:=V→V→Hp→VK→Prop
def OpR (X:Cx) (f:Value→Value→Sem Value) (r:R2):Prop :=
 ∀ (pins:List (Addr × Obj)) (s:Shared) (σ:St) (H:Hp) (x y:V) (v u:Value) (Q:VK),Inv X pins σ H s→RelV x v→RelV y u→r x y H Q →
  wpAny (model X.prog X.w) X.A (f v u) (EP X pins σ Q) X.xe s
def UnR (X:Cx) (f:Value→Sem Value) (r:V→Hp→VK→Prop):Prop :=
 ∀ (pins:List (Addr × Obj)) (s:Shared) (σ:St) (H:Hp) (x:V) (v:Value) (Q:VK),Inv X pins σ H s→RelV x v→r x H Q →
  wpAny (model X.prog X.w) X.A (f v) (EP X pins σ Q) X.xe s
def CallR (X:Cx) (f:Value) (r:List V→Hp→VK→Prop):Prop :=
 ∀ (pins:List (Addr × Obj)) (s:Shared) (σ:St) (H:Hp) (xs:List V) (us:List Value) (Q:VK),Inv X pins σ H s→Vals xs us→r xs H Q →
  wpAny (model X.prog X.w) X.A (call f us) (EP X pins σ Q) X.xe s
def TruR (X:Cx) (r:V→Hp→(Bool→Hp→Prop)→Prop):Prop :=
 ∀ (pins:List (Addr × Obj)) (s:Shared) (σ:St) (H:Hp) (x:V) (v:Value) (Q:Bool→Hp→Prop),Inv X pins σ H s→RelV x v→r x H Q →
  wpAny (model X.prog X.w) X.A (truthy v) (TP X pins σ Q) X.xe s
def tOp (r:R2) (ta tb:TE):TE:=fun σ H Q=>ta σ H fun x H1=>tb σ H1 fun y H2=>r x y H2 Q
def tUn (r:V→Hp→VK→Prop) (ta:TE):TE:=fun σ H Q=>ta σ H fun x H1=>r x H1 Q
def rI (C:Int→Int→Prop) (g:Int→Int→V):R2:=fun x y H Q=>∃ i j,x=.int i∧y=.int j∧C i j∧Q (g i j) H
def rI0 (g:Int→Int→V):R2:=fun x y H Q=>∃ i j,x=.int i∧y=.int j∧Q (g i j) H
def rU (g:Int→V):V→Hp→VK→Prop:=fun x H Q=>∃ i,x=.int i∧Q (g i) H
section
variable {X:Cx} {a b c:Expr} {ta tb tc:TE} {pos:Pos}
theorem binT (ha:PE X a ta) (hb:PE X b tb) {pins:List (Addr × Obj)} {s:Shared} {σ:St} {H:Hp} {R:V→V→Hp→Prop} (I:Inv X pins σ H s)
  (h:ta σ H fun x H1=>tb σ H1 fun y H2=>R x y H2) {Q:Value→Shared→Prop} {f:Value→Value→Sem Value}
  (hf:∀ v u s2 x y H2,Inv X pins σ H2 s2→RelV x v→RelV y u→R x y H2→wpAny (model X.prog X.w) X.A (f v u) Q X.xe s2) :
  wpAny (model X.prog X.w) X.A (eval a X.env) (fun v s₁=>wpAny (model X.prog X.w) X.A (eval b X.env) (fun u s₂=>wpAny (model X.prog X.w) X.A (f v u) Q X.xe s₂) X.xe s₁) X.xe s:=by
 refine thn (ha pins s σ H _ I h) fun v s1 ⟨x,H1,I1,r1,q1⟩=>?_
 refine thn (hb pins s1 σ H1 _ I1 q1) fun u s2 ⟨y,H2,I2,r2,q2⟩=>?_
 exact hf v u s2 x y H2 I2 r1 r2 q2
theorem pe_op {op:Operator} {r:R2} (ho:OpR X (binaryOp op) r) (ha:PE X a ta) (hb:PE X b tb):PE X (.BinOp a op b pos) (tOp r ta tb):=by
 intro pins s σ H Q I h
 exact wpAny_BinOp (binT ha hb I h fun v u s2 x y H2 I2 rx ry q=>ho pins s2 σ H2 x y v u Q I2 rx ry q)
theorem pe_un {op:UnaryOp} {r:V→Hp→VK→Prop} (ho:UnR X (unaryOp op) r) (ha:PE X a ta):PE X (.UnaryOp op a pos) (tUn r ta):=by
 intro pins s σ H Q I h
 exact UnaryOp_ (thn (ha pins s σ H _ I h) fun v s1 ⟨x,H1,I1,r1,q1⟩=>ho pins s1 σ H1 x v Q I1 r1 q1)
theorem opI {f:Value→Value→Sem Value} {C:Int→Int→Prop} {g:Int→Int→Int}
  (rule:∀ (i j:Int) (t u:Tok) (s:Shared) (Q:Value→Shared→Prop) (E:Value→Shared→Prop),C i j→Q (.int (g i j) s.toks) { s with toks:=s.toks+1 }→wpAny (model X.prog X.w) X.A (f (.int i t) (.int j u)) Q E s) :
  OpR X f (rI C fun i j=>.int (g i j)):=by
 intro pins s σ H x y v u Q I rx ry h
 obtain ⟨i,j,rfl,rfl,hc,q⟩:=h
 obtain ⟨t,rfl⟩:=rx
 obtain ⟨t',rfl⟩:=ry
 exact rule i j t t' s _ _ hc ⟨.int (g i j),H,I.tok _,⟨_,rfl⟩,q⟩
theorem opI0 {f:Value→Value→Sem Value} {g:Int→Int→Int}
  (rule:∀ (i j:Int) (t u:Tok) (s:Shared) (Q:Value→Shared→Prop) (E:Value→Shared→Prop),Q (.int (g i j) s.toks) { s with toks:=s.toks+1 }→wpAny (model X.prog X.w) X.A (f (.int i t) (.int j u)) Q E s) :
  OpR X f (rI0 fun i j=>.int (g i j)):=by
 intro pins s σ H x y v u Q I rx ry h
 obtain ⟨i,j,rfl,rfl,q⟩:=h
 obtain ⟨t,rfl⟩:=rx
 obtain ⟨t',rfl⟩:=ry
 exact rule i j t t' s _ _ ⟨.int (g i j),H,I.tok _,⟨_,rfl⟩,q⟩
theorem opB0 {f:Value→Value→Sem Value} {g:Int→Int→Bool}
  (rule:∀ (i j:Int) (t u:Tok) (s:Shared) (Q:Value→Shared→Prop) (E:Value→Shared→Prop),Q (.bool (g i j)) s→wpAny (model X.prog X.w) X.A (f (.int i t) (.int j u)) Q E s) :
  OpR X f (rI0 fun i j=>.bl (g i j)):=by
 intro pins s σ H x y v u Q I rx ry h
 obtain ⟨i,j,rfl,rfl,q⟩:=h
 obtain ⟨t,rfl⟩:=rx
 obtain ⟨t',rfl⟩:=ry
 exact rule i j t t' s _ _ ⟨.bl (g i j),H,I,rfl,q⟩
def CDiv (i j:Int):Prop:=0 < j∧j < 1073741824
def CPow (i j:Int):Prop:=0≤j∧j≤1000000∧i.natAbs < 2 ^ 64
def CMul (i j:Int):Prop:=(-(2 ^ 64) < i∧i < 2 ^ 64) ∨ (-(2 ^ 64) < j∧j < 2 ^ 64)
theorem CMul.ok {i j:Int} (h:CMul i j):IntMulOk i j:=by
 rcases h with ⟨h1,h2⟩ | ⟨h1,h2⟩
 ·exact .of_left (intBits_le_64 h1 h2)
 ·exact .of_right (intBits_le_64 h1 h2)
theorem op_add:OpR X (binaryOp .Add) (rI0 fun i j=>.int (i+j)):=opI0 fun _ _ _ _ _ _ _ q=>add_int q
theorem op_sub:OpR X (binaryOp .Sub) (rI0 fun i j=>.int (i - j)):=opI0 fun _ _ _ _ _ _ _ q=>sub_int q
theorem op_mul:OpR X (binaryOp .Mult) (rI CMul fun i j=>.int (i * j)):=opI fun _ _ _ _ _ _ _ hc q=>mul_int q hc.ok
theorem op_fdiv:OpR X (binaryOp .FloorDiv) (rI CDiv fun i j=>.int (i / j)):=opI fun i j _ _ _ _ _ hc q=>by
 have h1:(0:Int) < j:=hc.1
 have h2:j < 1073741824:=hc.2
 exact floordiv_int (by omega) (by rw [Int.fdiv_eq_ediv_of_nonneg i (by omega)]; exact q) (.inl (PyProof.noPylong_small (by omega)))
theorem op_mod:OpR X (binaryOp .Mod) (rI (fun _ j=>0 < j) fun i j=>.int (i % j)):=opI fun i j _ _ _ _ _ hc q=>by
 have h1:(0:Int) < j:=hc
 exact mod_int' (by omega) (by rw [Int.fmod_eq_emod_of_nonneg i (by omega)]; exact q)
theorem op_modN:OpR X (binaryOp .Mod) (rI (fun _ j=>j≠0) fun i j=>.int (i.fmod j)):=opI fun _ _ _ _ _ _ _ hc q=>mod_int' hc q
theorem op_pow:OpR X (binaryOp .Pow) (rI CPow fun i j=>.int (i ^ j.toNat)):=opI fun _ _ _ _ _ _ _ hc q=>pow_int_small hc.1 hc.2.1 hc.2.2 q
theorem unI {f:Value→Sem Value} {g:Int→Int}
  (rule:∀ (i:Int) (t:Tok) (s:Shared) (Q:Value→Shared→Prop) (E:Value→Shared→Prop),Q (.int (g i) s.toks) { s with toks:=s.toks+1 }→wpAny (model X.prog X.w) X.A (f (.int i t)) Q E s) :
  UnR X f (rU fun i=>.int (g i)):=by
 intro pins s σ H x v Q I rx h
 obtain ⟨i,rfl,q⟩:=h
 obtain ⟨t,rfl⟩:=rx
 exact rule i t s _ _ ⟨.int (g i),H,I.tok _,⟨_,rfl⟩,q⟩
theorem un_neg:UnR X (unaryOp .USub) (rU fun i=>.int (-i)):=unI fun _ _ _ _ _ q=>neg_int q
end
def scal:V→V→Bool
 | .non,.non=>true | .non,.int _=>true | .int _,.non=>true | .non,.bl _=>true | .bl _,.non=>true | .non,.str _=>true | .str _,.non=>true
 | .int _,.int _=>true | .bl _,.bl _=>true | .str _,.str _=>true | .byt _,.byt _=>true
 | .int _,.str _=>true | .str _,.int _=>true | .bl _,.str _=>true | .str _,.bl _=>true
 | _,_=>false
def rEq:R2:=fun x y H Q=>scal x y=true∧Q (.bl (decide (x=y))) H
def rNe:R2:=fun x y H Q=>scal x y=true∧Q (.bl (!decide (x=y))) H
theorem dec_int {i j:Int}:decide (V.int i=V.int j)=(i == j):=by
 rw [Bool.eq_iff_iff]
 simp
theorem dec_bl {i j:Bool}:decide (V.bl i=V.bl j)=(i == j):=by
 rw [Bool.eq_iff_iff]
 simp
theorem dec_str {i j:Str}:decide (V.str i=V.str j)=(i == j):=by
 rw [Bool.eq_iff_iff]
 simp
theorem dec_byt {i j:Array UInt8}:decide (V.byt i=V.byt j)=(i.toList == j.toList):=by
 rw [Bool.eq_iff_iff]
 cases i
 cases j
 simp
section
variable {X:Cx} {a b c:Expr} {ta tb tc:TE} {pos:Pos}
theorem fin_bl {pins:List (Addr × Obj)} {σ:St} {H:Hp} {s:Shared} {Q:VK} {k k':Bool} (I:Inv X pins σ H s) (q:Q (.bl k) H) (e:k=k'):EP X pins σ Q (.bool k') s:=by
 subst e
 exact ⟨.bl k,H,I,rfl,q⟩
theorem op_eq:OpR X (compareOp .Eq) rEq:=by
 intro pins s σ H x y v u Q I rx ry h
 obtain ⟨hs,q⟩:=h
 cases x with
 | non =>
  cases rx
  cases y with
  | non=>cases ry; exact PySem.EqNone.eq_none_none (fin_bl I q (by simp))
  | bl j=>cases ry; exact PySem.EqNone.eq_none_bool (fin_bl I q (by simp))
  | int j=>obtain ⟨t',rfl⟩:=ry; exact PySem.EqNone.eq_none_int (fin_bl I q (by simp))
  | str j=>obtain ⟨t',rfl⟩:=ry; exact PySem.EqNone.eq_none_str (fin_bl I q (by simp))
  | _=>exact absurd (show false=true from hs) Bool.false_ne_true
 | bl i =>
  cases rx
  cases y with
  | non=>cases ry; exact PySem.EqNone.eq_bool_none (fin_bl I q (by simp))
  | bl j=>cases ry; exact eq_bool (fin_bl I q dec_bl)
  | str j=>obtain ⟨t',rfl⟩:=ry; exact PySem.EqMixed.eq_bool_str (fin_bl I q (by simp))
  | _=>exact absurd (show false=true from hs) Bool.false_ne_true
 | int i =>
  obtain ⟨t,rfl⟩:=rx
  cases y with
  | non=>cases ry; exact PySem.EqNone.eq_int_none (fin_bl I q (by simp))
  | int j=>obtain ⟨t',rfl⟩:=ry; exact eq_int (fin_bl I q dec_int)
  | str j=>obtain ⟨t',rfl⟩:=ry; exact PySem.EqMixed.eq_int_str (fin_bl I q (by simp))
  | _=>exact absurd (show false=true from hs) Bool.false_ne_true
 | str i =>
  obtain ⟨t,rfl⟩:=rx
  cases y with
  | non=>cases ry; exact PySem.EqNone.eq_str_none (fin_bl I q (by simp))
  | bl j=>cases ry; exact PySem.EqMixed.eq_str_bool (fin_bl I q (by simp))
  | int j=>obtain ⟨t',rfl⟩:=ry; exact PySem.EqMixed.eq_str_int (fin_bl I q (by simp))
  | str j=>obtain ⟨t',rfl⟩:=ry; exact eq_str (fin_bl I q dec_str)
  | _=>exact absurd (show false=true from hs) Bool.false_ne_true
 | byt i =>
  obtain ⟨t,rfl⟩:=rx
  cases y with
  | byt j=>obtain ⟨t',rfl⟩:=ry; exact PySem.W.eq_bytes (fin_bl I q dec_byt)
  | _=>exact absurd (show false=true from hs) Bool.false_ne_true
 | _=>cases y <;> exact absurd (show false=true from hs) Bool.false_ne_true
theorem op_ne:OpR X (compareOp .NotEq) rNe:=by
 intro pins s σ H x y v u Q I rx ry h
 obtain ⟨hs,q⟩:=h
 cases x with
 | non =>
  cases rx
  cases y with
  | non=>cases ry; exact PySem.EqNone.ne_none_none (fin_bl I q (by simp))
  | bl j=>cases ry; exact PySem.EqNone.ne_none_bool (fin_bl I q (by simp))
  | int j=>obtain ⟨t',rfl⟩:=ry; exact PySem.EqNone.ne_none_int (fin_bl I q (by simp))
  | str j=>obtain ⟨t',rfl⟩:=ry; exact PySem.EqNone.ne_none_str (fin_bl I q (by simp))
  | _=>exact absurd (show false=true from hs) Bool.false_ne_true
 | bl i =>
  cases rx
  cases y with
  | non=>cases ry; exact PySem.EqNone.ne_bool_none (fin_bl I q (by simp))
  | bl j=>cases ry; exact ne_bool (fin_bl I q (congrArg not dec_bl))
  | str j=>obtain ⟨t',rfl⟩:=ry; exact PySem.EqMixed.ne_bool_str (fin_bl I q (by simp))
  | _=>exact absurd (show false=true from hs) Bool.false_ne_true
 | int i =>
  obtain ⟨t,rfl⟩:=rx
  cases y with
  | non=>cases ry; exact PySem.EqNone.ne_int_none (fin_bl I q (by simp))
  | int j=>obtain ⟨t',rfl⟩:=ry; exact ne_int (fin_bl I q (congrArg not dec_int))
  | str j=>obtain ⟨t',rfl⟩:=ry; exact PySem.EqMixed.ne_int_str (fin_bl I q (by simp))
  | _=>exact absurd (show false=true from hs) Bool.false_ne_true
 | str i =>
  obtain ⟨t,rfl⟩:=rx
  cases y with
  | non=>cases ry; exact PySem.EqNone.ne_str_none (fin_bl I q (by simp))
  | bl j=>cases ry; exact PySem.EqMixed.ne_str_bool (fin_bl I q (by simp))
  | int j=>obtain ⟨t',rfl⟩:=ry; exact PySem.EqMixed.ne_str_int (fin_bl I q (by simp))
  | str j=>obtain ⟨t',rfl⟩:=ry; exact ne_str (fin_bl I q (congrArg not dec_str))
  | _=>exact absurd (show false=true from hs) Bool.false_ne_true
 | byt i =>
  obtain ⟨t,rfl⟩:=rx
  cases y with
  | byt j=>obtain ⟨t',rfl⟩:=ry; exact PySem.W.ne_bytes (fin_bl I q (congrArg not dec_byt))
  | _=>exact absurd (show false=true from hs) Bool.false_ne_true
 | _=>cases y <;> exact absurd (show false=true from hs) Bool.false_ne_true
theorem op_lt:OpR X (compareOp .Lt) (rI0 fun i j=>.bl (decide (i < j))):=opB0 fun _ _ _ _ _ _ _ q=>lt_int q
theorem op_gt:OpR X (compareOp .Gt) (rI0 fun i j=>.bl (decide (j < i))):=opB0 fun _ _ _ _ _ _ _ q=>gt_int q
theorem op_notN:OpR X (compareOp .IsNot) (fun x y H Q=>y=.non∧Q (.bl (!decide (x=.non))) H):=by
 intro pins s σ H x y v u Q I rx ry h
 obtain ⟨rfl,q⟩:=h
 cases ry
 refine isnot_none_gen (fin_bl I q ?_)
 cases x <;> first
  | (cases rx; rfl)
  | (obtain ⟨t,rfl⟩:=rx; rfl)
theorem nomark (b:Expr) {op:CmpOp} (h:op≠.In:=by decide) (h2:op≠.NotIn:=by decide):behindInMarks op b=false:=by
 have e1:(op == CmpOp.In)=false:=by cases op <;> first | rfl | exact absurd rfl h
 have e2:(op == CmpOp.NotIn)=false:=by cases op <;> first | rfl | exact absurd rfl h2
 cases b <;> simp [behindInMarks,e1,e2]
theorem pe_cmpR {op:CmpOp} {r:R2} (ho:OpR X (compareOp op) r) (ha:PE X a ta) (hb:PE X b tb) (hm:behindInMarks op b=false):PE X (.Compare a [op] [b] pos) (tOp r ta tb):=by
 intro pins s σ H Q I h
 exact wpAny_Compare1 (binT ha hb I h fun v u s2 x y H2 I2 rx ry q=>ho pins s2 σ H2 x y v u Q I2 rx ry q) hm
def tTest (t:TE):TT:=fun σ H Q=>t σ H fun x H'=>∃ k,x=.bl k∧Q k H'
theorem pt_cmpR {op:CmpOp} {r:R2} (ho:OpR X (compareOp op) r) (ha:PE X a ta) (hb:PE X b tb) (hm:behindInMarks op b=false):PT X (.Compare a [op] [b] pos) (tTest (tOp r ta tb)):=by
 intro pins s σ H Q I h
 refine wpAny_isTrue_Compare1 (thn (ha pins s σ H _ I h) fun v s1 ⟨x,H1,I1,r1,q1⟩=>thn (hb pins s1 σ H1 _ I1 q1) fun u s2 ⟨y,H2,I2,r2,q2⟩ =>
  thn (ho pins s2 σ H2 x y v u _ I2 r1 r2 q2) fun c s3 ⟨z,H3,I3,r3,k,e,q3⟩=>?_) hm
 subst e
 cases r3
 exact wpAny_truthy_bool ⟨H3,I3,q3⟩
def TruV (K:PySem.W.Frag) (x:V) (H:Hp) (k:Bool):Prop :=
 match x with
 | .non=>k=false
 | .bl b=>k=b
 | .int i=>k=(i != 0)
 | .str y=>y.length≤sizeLine∧k=((y.length:Int) != 0)
 | .byt y=>y.size≤sizeLine∧k=((y.size:Int) != 0)
 | .ref p=>(∃ xs,SqL K H p xs∧k=!xs.isEmpty) ∨ (∃ xs,SqT K H p xs∧k=!xs.isEmpty) ∨ ∃ kvs,H p=some (.dK kvs)∧k=!kvs.isEmpty
 | _=>False
theorem isEmpty_kv {κ:Type} {kvs:List (κ × V)} {vs:List (κ × Value)} (r:KV kvs vs):(!vs.isEmpty)=!kvs.isEmpty:=by
 cases r <;> rfl
theorem isEmpty_of {xs:List V} {its:List Value} (r:Vals xs its):(!its.toArray.isEmpty)=!xs.isEmpty:=by
 cases r <;> simp
theorem line63:(sizeLine:Nat) < 2 ^ 63:=by rw [sizeLine_eq]; decide
theorem tru_ok:TruR X (fun x H Q=>∃ k,TruV X.K x H k∧Q k H):=by
 intro pins s σ H x v Q I rx h
 obtain ⟨k,e,q⟩:=h
 have hl:=line63
 have hs:sizeLine=16777216:=sizeLine_eq
 cases x with
 | non =>
  cases rx
  have e':k=false:=e
  subst e'
  exact truthy_none ⟨H,I,q⟩
 | bl b =>
  cases rx
  have e':k=b:=e
  subst e'
  exact wpAny_truthy_bool ⟨H,I,q⟩
 | int i =>
  obtain ⟨t,rfl⟩:=rx
  have e':k=(i != 0):=e
  subst e'
  exact PySem.P.truthy_int ⟨H,I,q⟩
 | str y =>
  obtain ⟨t,rfl⟩:=rx
  obtain ⟨hy,e'⟩:y.length≤sizeLine∧k=((y.length:Int) != 0):=e
  subst e'
  exact PySem.P.truthy_str (by omega) ⟨H,I.tok _,q⟩
 | byt y =>
  obtain ⟨t,rfl⟩:=rx
  obtain ⟨hy,e'⟩:y.size≤sizeLine∧k=((y.size:Int) != 0):=e
  subst e'
  exact PySem.W.truthy_bytes (by omega) ⟨H,I.tok _,q⟩
 | ref p =>
  cases rx
  have e':(∃ xs,SqL X.K H p xs∧k=!xs.isEmpty) ∨ (∃ xs,SqT X.K H p xs∧k=!xs.isEmpty) ∨ ∃ kvs,H p=some (.dK kvs)∧k=!kvs.isEmpty:=e
  rcases e' with ⟨xs,hx,e'⟩ | ⟨xs,hx,e'⟩ | ⟨kvs,hx,e'⟩
  ·subst e'
   obtain ⟨its,r,pl,hz⟩:=I.list hx
   have hlen:=r.length
   exact wpAny_truthy_list pl.isList (by simp only [List.size_toArray]; omega) ⟨H,I.tok _,by rw [isEmpty_of r]; exact q⟩
  ·subst e'
   obtain ⟨its,r,pl,hz⟩:=I.tuple hx
   have hlen:=r.length
   exact truthy_tuple pl (by simp only [List.size_toArray]; omega) ⟨H,I.tok _,by rw [isEmpty_of r]; exact q⟩
  ·subst e'
   obtain ⟨hz,hS,vs,r,m⟩:kvs.length≤sizeLine∧(p == sysModules)=false∧∃ vs,KV kvs vs∧s.heap.DictOf (mixKind X.prog X.w) p vs:=I.hok p _ hx
   have hlen:kvs.length=vs.length:=Paired.length r
   exact wpAny_truthy_dict hS m (by omega) ⟨H,I.tok _,by rw [isEmpty_kv r]; exact q⟩
 | _=>exact (show False from e).elim
theorem pt_truth (ha:PE X a ta) (he:∀ whole,isTrue a X.env whole=(do let v ← whole; standAt a.pos; holding [v] (truthy v))) :
  PT X a (fun σ H Q=>ta σ H fun x H'=>∃ k,TruV X.K x H' k∧Q k H'):=by
 intro pins s σ H Q I h
 exact isTrue_plain (thn (ha pins s σ H _ I h) fun v s1 ⟨x,H1,I1,r1,q1⟩=>tru_ok pins s1 σ H1 x v Q I1 r1 q1) (he _)
theorem vals1 {x:V} {us:List Value} (r:Vals [x] us):∃ u,us=[u]∧RelV x u:=by
 cases r with
 | cons r1 r2=>cases r2; exact ⟨_,rfl,r1⟩
theorem vals2 {x y:V} {us:List Value} (r:Vals [x,y] us):∃ u w',us=[u,w']∧RelV x u∧RelV y w':=by
 cases r with
 | cons r1 r2 =>
  cases r2 with
  | cons r3 r4=>cases r4; exact ⟨_,_,rfl,r1,r3⟩
theorem call_abs:CallR X (.builtin "abs") (fun xs H Q=>∃ i,xs=[.int i]∧Q (.int (if i < 0 then -i else i)) H):=by
 intro pins s σ H xs us Q I r h
 obtain ⟨i,rfl,q⟩:=h
 obtain ⟨u,rfl,t,rfl⟩:=vals1 r
 exact call_abs_int fun u tk=>⟨.int (if i < 0 then -i else i),H,I.tok _,⟨_,rfl⟩,q⟩
theorem call_int1:CallR X (.type "int") (fun xs H Q=>(∃ i,xs=[.int i]∧Q (.int i) H) ∨ ∃ k,xs=[.bl k]∧Q (.int (if k then 1 else 0)) H):=by
 intro pins s σ H xs us Q I r h
 rcases h with ⟨i,rfl,q⟩ | ⟨k,rfl,q⟩
 ·obtain ⟨u,rfl,t,rfl⟩:=vals1 r
  exact call_int_int ⟨.int i,H,I,⟨_,rfl⟩,q⟩
 ·obtain ⟨u,rfl,r1⟩:=vals1 r
  cases r1
  exact call_int_bool ⟨.int (if k then 1 else 0),H,I.tok _,⟨_,rfl⟩,q⟩
end
end L2
namespace L2
open PySem PySem.Spec PyProof.Rows
structure ObjM (h:Heap) (x dx C:Addr) (mA:Str→Option Value):Prop where
 obj:h.get? x=some (PySem.W.instObj C dx)
 ns:h.Ns1 dx mA
 ne:dx≠x
theorem lookIn_ns {h:Heap} {dx:Addr} {mA:Str→Option Value} (n:h.Ns1 dx mA):∃ od,h.get? dx=some od∧∀ name,PySem.W.lookIn name od=some (mA name):=by
 obtain ⟨o,es,ep,ho,hd,hk,_,hm⟩:=n
 refine ⟨o,ho,fun name=>?_⟩
 have e:=hm name
 unfold nsFind findBy at e
 rw [←Array.find?_toList] at e
 unfold PySem.W.lookIn
 rw [hd]
 dsimp only
 split
 ·rename_i y q
  rw [q] at e
  exact congrArg some e
 ·rename_i q
  rw [q] at e
  have a:es.toList.any (·.refKey)=false:=by
   rw [List.any_eq_false]
   intro y hy
   obtain ⟨z,t,hkey⟩:=hk y (Array.mem_toList_iff.mp hy)
   simp [DictEntry.refKey,hkey]
  have a':¬ es.toList.any (·.refKey)=true:=by rw [a]; exact Bool.false_ne_true
  rw [if_neg a']
  exact congrArg some e
theorem ObjM.look {h:Heap} {x dx C:Addr} {mA:Str→Option Value} (I:ObjM h x dx C mA):∃ od,PySem.W.InstAt h x (PySem.W.instObj C dx) C (some od)∧∀ name,PySem.W.lookIn name od=some (mA name) :=
 let ⟨od,ho,hl⟩:=lookIn_ns I.ns
 ⟨od,⟨I.obj,rfl,rfl,ho⟩,hl⟩
section
variable {prog:Program} {w:World} {A:Around} {E:Value→Shared→Prop} {s:Shared} {K:PySem.W.Frag} {x dx C f:Addr} {mA:Str→Option Value} {name:Str} {v:Value}
end
section
variable {P:Program} {w:World} {H H':Hp} {h h':Heap} {a C dx:Addr} {fs fs':List (Str × V)}
theorem ins_get (hok:HOk P w H h) (e:H a=some (.ins C dx fs)):∃ mA,ObjM h a dx C mA∧(∀ f,RelO (fs.lookup f) (mA f))∧PySem.Within mA (fs.map (·.1))∧fs.length≤1000∧H dx=some (.own a):=by
 obtain ⟨d,z,ne,ob,mA,n,r,q⟩:=(show ObjOk P w H h a (.ins C dx fs) from hok a _ e)
 exact ⟨mA,⟨ob,n,ne⟩,r,q,z,d⟩
end
structure Cls (K:PySem.W.Frag) (C:Addr):Prop where
 pg:PySem.W.plainGet K C Str.empty=true
 hd:PySem.W.hasDictIn K C=true
 po:PySem.W.plainOver K C=true
 sa:PySem.W.findIn K (.ref C) "__setattr__" = some (some (.builtin "object.__setattr__"))
theorem Cls.get {K:PySem.W.Frag} {C:Addr} (c:Cls K C) (f:Str):PySem.W.plainGet K C f=true:=c.pg
section
variable {X:Cx} {pins:List (Addr × Obj)} {σ:St} {H:Hp} {s:Shared} {a C dx:Addr} {fs:List (Str × V)} {f:Str} {v:V} {A:Around} {E:Value→Shared→Prop}
end
section
variable {X:Cx} {o e value:Expr} {f:Str} {pos pos' tpos:Pos} {ta tv:TE}
end
section
variable {X:Cx} {pins:List (Addr × Obj)} {σ:St} {H:Hp} {s:Shared} {A:Around} {E:Value→Shared→Prop} {Q:Value→Shared→Prop} {c:Value} {b:Bool}
inductive TyOf (K:PySem.W.Frag) (H:Hp):V→Value→Prop where
 | non:TyOf K H .non (.type "NoneType")
 | bl (x:Bool):TyOf K H (.bl x) (.type "bool")
 | int (i:Int):TyOf K H (.int i) (.type "int")
 | str (x:Str):TyOf K H (.str x) (.type "str")
 | flt (x:UInt64):TyOf K H (.flt x) (.type "float")
 | lst {a:Addr} {xs:List V} (e:H a=some (.lst xs)):TyOf K H (.ref a) (.type "list")
 | frz {a:Addr} {o:Obj} {xs:List V} (e:H a=some (.frz o (.lst xs))):TyOf K H (.ref a) (.type "list")
 | tup {a:Addr} {xs:List V} (e:H a=some (.tup xs)):TyOf K H (.ref a) (.type "tuple")
 | dK {a:Addr} {kvs:List (Key × V)} (e:H a=some (.dK kvs)):TyOf K H (.ref a) (.type "dict")
 | dT {a:Addr} {kvs:List (List Key × V)} (e:H a=some (.dT kvs)):TyOf K H (.ref a) (.type "dict")
 | ins {a C dx:Addr} {fs:List (Str × V)} (e:H a=some (.ins C dx fs)) (cl:Cls K C) (ha:PySem.W.findIn K (.ref C) "__class__" = some (some (.builtin "object.__class__")))
   (hn:PySem.W.specialIn K (.builtin "object.__class__") "__get__" = some (some (.builtin "getset_descriptor.__get__"))) (htk:PySem.W.takesIn K (.builtin "object.__class__")=some true)
   (hm:PySem.W.mroIn K C (.type "object")=some true):TyOf K H (.ref a) (.ref C)
theorem isinst_ok {x:V} {u t:Value} (I:Inv X pins σ H s) (rx:RelV x u) (ty:TyOf X.K H x t) (e:PySem.W.kitOne X.K t c=some b) (h:∀ tk,Q (.bool b) { s with toks:=tk }) :
  wpAny (model X.prog X.w) A (call (.builtin "isinstance") [u,c]) Q E s:=by
 cases ty with
 | non=>cases (show u=Value.none from rx); exact PySem.W.kia_one PySem.W.kitx_none I.kIn True.intro e (fun z=>nomatch z) h
 | bl y=>cases (show u=Value.bool y from rx); exact PySem.W.kia_one PySem.W.kitx_bool I.kIn True.intro e (fun z=>nomatch z) h
 | int i=>obtain ⟨t,q⟩:=(show ∃ t,u=Value.int i t from rx); cases q; exact PySem.W.kia_one PySem.W.kitx_int I.kIn True.intro e (fun z=>nomatch z) h
 | str y=>obtain ⟨t,q⟩:=(show ∃ t,u=Value.str y t from rx); cases q; exact PySem.W.kia_one PySem.W.kitx_str I.kIn True.intro e (fun z=>nomatch z) h
 | flt y=>obtain ⟨t,q⟩:=(show ∃ t,u=Value.float y t from rx); cases q; exact PySem.W.kia_one PySem.W.kitx_float I.kIn True.intro e (fun z=>nomatch z) h
 | @lst a xs ea =>
  cases (show u=Value.ref a from rx)
  obtain ⟨_,_,n,_,h1⟩:=(show ObjOk X.prog X.w H s.heap a (.lst xs) from I.hok a _ ea)
  exact PySem.W.kia_one PySem.W.kitx_list I.kIn ⟨_,h1,rfl⟩ e (fun z=>nomatch z) h
 | @frz a ob xs ea =>
  cases (show u=Value.ref a from rx)
  obtain ⟨_,_,_,n,_,h1⟩:=(show ObjOk X.prog X.w H s.heap a (.frz ob (.lst xs)) from I.hok a _ ea)
  exact PySem.W.kia_one PySem.W.kitx_list I.kIn ⟨_,h1,rfl⟩ e (fun z=>nomatch z) h
 | @tup a xs ea =>
  cases (show u=Value.ref a from rx)
  obtain ⟨_,_,_,p⟩:=(show ObjOk X.prog X.w H s.heap a (.tup xs) from I.hok a _ ea)
  obtain ⟨o,h1,h2,_⟩:=p
  exact PySem.W.kia_one PySem.W.kitx_tuple I.kIn ⟨o,h1,h2⟩ e (fun z=>nomatch z) h
 | @dK a kvs ea =>
  cases (show u=Value.ref a from rx)
  obtain ⟨_,_,vs,_,p⟩:=(show ObjOk X.prog X.w H s.heap a (.dK kvs) from I.hok a _ ea)
  obtain ⟨o,es,ep,h1,h2,_⟩:=p
  exact PySem.W.kia_one PySem.W.kitx_dict I.kIn ⟨o,h1,h2.1⟩ e (fun z=>nomatch z) h
 | @dT a kvs ea =>
  cases (show u=Value.ref a from rx)
  obtain ⟨_,_,xs,_,o,es,ep,h1,h2,_⟩:=(show ObjOk X.prog X.w H s.heap a (.dT kvs) from I.hok a _ ea)
  exact PySem.W.kia_one PySem.W.kitx_dict I.kIn ⟨o,h1,h2.1⟩ e (fun z=>nomatch z) h
 | @ins a C dx fs ea cl ha hn htk hm =>
  cases (show u=Value.ref a from rx)
  obtain ⟨mA,O,_⟩:=ins_get I.hok ea
  obtain ⟨od,J,_⟩:=O.look
  exact PySem.W.kia_one (PySem.W.kitx_own (cl.get _) cl.hd ha hn htk hm) I.kIn J e (fun z=>nomatch z) h
end
end L2
namespace L2
open PySem PySem.Spec PyProof.Rows
structure Room (k:Nat) (A:Around):Prop where
 hd:A.handled=none
 dp:A.depth+3 * k+5 < recursionLimit
 un:A.units+16 * k+200 < cLine
 gd:A.guards=some []
theorem Room.mono {j k:Nat} {A:Around} (r:Room k A) (h:j≤k):Room j A:=⟨r.hd,by have:=r.dp; omega,by have:=r.un; omega,r.gd⟩
theorem Room.deeper {k:Nat} {A:Around} (r:Room (k+1) A) (env:Env):Room k (A.deeper env) :=
 ⟨r.hd,by have:=r.dp; show A.depth+1+3 * k+5 < _; omega,by have:=r.un; show A.units+3+16 * k+200 < _; omega,r.gd⟩
theorem Room.depth {k:Nat} {A:Around} (r:Room k A):A.depth < recursionLimit:=by have:=r.dp; omega
theorem Room.units {k:Nat} {A:Around} (r:Room k A):A.units+64 < cLine:=by have:=r.un; omega
def tNil:TA:=fun _ H Q=>Q [] H
def tCons (ta:TE) (tr:TA):TA:=fun σ H Q=>ta σ H fun x H1=>tr σ H1 fun xs H2=>Q (x :: xs) H2
section
variable {X:Cx} {e:Expr} {es:List Expr} {te:TE} {t:TA} {pos:Pos}
theorem pa_nil:PA X [] tNil:=fun _ _ _ _ H Q I h=>Calls.spliced_nil ⟨[],H,I,.nil,h⟩
theorem pa_cons (ha:PE X e te) (hr:PA X es t) (hs:starEach (e :: es) X.env=(false,eval e X.env) :: starEach es X.env:=by rfl):PA X (e :: es) (tCons te t):=by
 intro pos pins s σ H Q I h
 rw [hs]
 show wpAny _ _ (spliced ((false,eval e X.env) :: backTo pos (starEach es X.env))) _ _ s
 refine Calls.spliced_cons (thn (ha pins s σ H _ I h) fun u s1 ⟨x,H1,I1,r1,q1⟩=>?_)
 exact thn (hr pos pins s1 σ H1 _ I1 q1) fun us s2 ⟨xs,H2,I2,r2,q2⟩=>⟨x :: xs,H2,I2,.cons r1 r2,q2⟩
def tTup (t:TA):TE:=fun σ H Q=>t σ H fun xs H1=>xs.length≤sizeLine∧∀ p,H1 p=none→Q (.ref p) (upd H1 p (.tup xs))
def tLst (t:TA):TE:=fun σ H Q=>t σ H fun xs H1=>xs.length≤sizeLine∧∀ p,H1 p=none→Q (.ref p) (upd H1 p (.lst xs))
theorem pe_tup {x1} (h:PA X es t):PE X (.Tuple es x1 pos) (tTup t):=by
 intro pins s σ H Q I hq
 refine wpAny_Tuple_spliced (thn (h pos pins s σ H _ I hq) fun us s1 ⟨xs,H1,I1,r,z,q⟩=>⟨by rw [←r.length]; exact z,?_⟩)
 have hf:H1 s1.heap.objs.size=none:=I1.hok.fresh (Nat.le_refl _)
 refine ⟨.ref s1.heap.objs.size,upd H1 s1.heap.objs.size (.tup xs),I1.laid (t':=s1.toks) (fun b u e=>Heap.get?_push_of_some _ e) (Nat.le_refl _) ?_,rfl,q _ hf⟩
 exact ⟨z,us,r,⟨_,Heap.get?_push_size _ rfl,rfl,_,rfl⟩⟩
theorem pe_lst (h:PA X es t):PE X (.List es pos) (tLst t):=by
 intro pins s σ H Q I hq
 refine wpAny_List_spliced (thn (h pos pins s σ H _ I hq) fun us s1 ⟨xs,H1,I1,r,z,q⟩=>⟨by rw [←r.length]; exact z,?_⟩)
 have hf:H1 s1.heap.objs.size=none:=I1.hok.fresh (Nat.le_refl _)
 refine ⟨.ref s1.heap.objs.size,upd H1 s1.heap.objs.size (.lst xs),I1.laid (t':=s1.toks) (fun b u e=>Heap.get?_push_of_some _ e) (Nat.le_refl _) ?_,rfl,q _ hf⟩
 exact ⟨z,us,0,r,Heap.get?_push_size _ rfl⟩
end
abbrev Sp:=List V→Hp→VK→XK→Prop
abbrev CXT:=List Env→Hp→Shared→XK→Value→Shared→Prop
structure Env0 (P:Program) (w:World) (K:PySem.W.Frag) (mg:Str→Option Value) (base:Heap) (A:Around) (outer:List Env) (s:Shared) (H:Hp):Prop where
 frames:A.frames=some outer
 mod:Mod K mg base
 bs:∀ b o,base.get? b=some o→s.heap.get? b=some o∧H b=none
 bsz:base.objs.size≤s.heap.objs.size
 funs:s.heap.FunFrames base outer
 frf:∀ b ∈ frs outer,H b=none
 hok:HOk P w H s.heap
 bare:AllBare s.gens
def CE (outer:List Env) (P:Program) (w:World) (H:Hp) (s:Shared) (Q:VK) (u:Value) (s':Shared):Prop :=
 ∃ v H',s'.os=s.os∧AllBare s'.gens∧Un (frs outer) [] H H' s.heap s'.heap∧HOk P w H' s'.heap∧RelV v u∧Q v H'
def CR (CX:CXT) (outer:List Env) (P:Program) (w:World) (H:Hp) (s:Shared) (Q:VK) (E:XK) (r:Result) (s':Shared):Prop :=
 match r with
 | .ok (.ret u)=>CE outer P w H s Q u s'
 | .ok _=>False
 | .error e=>CX outer H s E e s'
structure FnOk (P:Program) (w:World) (K:PySem.W.Frag) (mg:Str→Option Value) (base:Heap) (CX:CXT) (k:Nat) (f:Addr) (fd:FuncData) (ps:List Str) (sp:Sp):Prop where
 len:∀ vs H Q E,sp vs H Q E→vs.length=ps.length
 run:∀ (A:Around) (outer:List Env) (s:Shared) (H:Hp) (args:Args) (us:List Value) (vs:List V) (Q:VK) (E:XK),Room k A→Env0 P w K mg base A outer s H→BindsTo s fd args (ps.zip us)→Vals vs us→sp vs H Q E →
  codeAny (model P w) A (.call (.ref f) args) (CR CX outer P w H s Q E) s
section
variable {X:Cx} {pins:List (Addr × Obj)} {σ:St} {H:Hp} {s s':Shared}
theorem Inv.env0 (I:Inv X pins σ H s):Env0 X.prog X.w X.K X.mg X.base X.A X.stack s H :=
 ⟨I.ok.frames,I.ok.mod,I.bs,Nat.le_trans I.ok.bsz I.sz,I.stack,I.stkFree,I.hok,I.bare⟩
theorem Inv.after {Q:VK} {u:Value} (I:Inv X pins σ H s) (h:CE X.stack X.prog X.w H s Q u s'):EP X pins σ Q u s':=by
 obtain ⟨v,H',os,bare,un,hok,r,q⟩:=h
 obtain ⟨hh,g,d,t,os'⟩:=s'
 obtain rfl:os'=s.os:=os
 exact ⟨v,H',I.call (h':=hh) (g':=g) (d':=d) (t':=t) (ch:=[]) un hok bare (fun b z=>absurd z (by simp)),r,q⟩
end
def tCall (sp:Sp) (dvs:List V) (E:XK) (t:TA):TE:=fun σ H Q=>t σ H fun vs H1=>sp (vs++dvs) H1 Q E
def Binds (K:PySem.W.Frag) (fd:FuncData) (ps:List Str) (ds:List Value):Prop :=
 ∀ (s:Shared) (us:List Value),K.In s.heap→(us++ds).length=ps.length→BindsTo s fd ⟨us,[]⟩ (ps.zip (us++ds))
theorem Binds.all {K:PySem.W.Frag} {fd:FuncData} {ps:List Str} (h:∀ us:List Value,us.length=ps.length→bindArgs fd ⟨us,[]⟩=pure (ps.zip us)):Binds K fd ps []:=fun s us _ hl=>by
 rw [List.append_nil] at hl ⊢
 exact .of_eq (h us hl)
def Passes (CX:CXT) (X:Cx) (E:XK):Prop:=∀ (pins:List (Addr × Obj)) (σ:St) (H:Hp) (s:Shared) (e:Value) (s':Shared),Inv X pins σ H s→CX X.stack H s E e s'→X.xe e s'
section
variable {X:Cx} {CX:CXT} {k:Nat} {f C:Addr} {fd:FuncData} {ps:List Str} {sp:Sp} {dvs:List V} {ds:List Value} {E:XK} {x m:Str} {p pos apos:Pos} {e o:Expr} {es:List Expr} {ta:TE} {t:TA}
theorem run_fn {pins:List (Addr × Obj)} {σ:St} {H:Hp} {s:Shared} {Q:VK} {us:List Value} {vs:List V} (F:FnOk X.prog X.w X.K X.mg X.base CX k f fd ps sp) (hr:Room k X.A) (hb:Binds X.K fd ps ds) (hd:Vals dvs ds) (hx:Passes CX X E)
  (I:Inv X pins σ H s) (r:Vals vs us) (h:sp (vs++dvs) H Q E):wpAny (model X.prog X.w) X.A (call (.ref f) us) (EP X pins σ Q) X.xe s:=by
 have r2:Vals (vs++dvs) (us++ds):=r.append hd
 have hl:(us++ds).length=ps.length:=by rw [←r2.length]; exact F.len _ _ _ _ h
 refine wpAny_call (codeAny_mono (F.run X.A X.stack s H ⟨us,[]⟩ (us++ds) (vs++dvs) Q E hr I.env0 (hb s us I.kIn hl) r2 h) fun r s' hq=>?_)
 cases r with
 | error e=>exact hx pins σ H s e s' I hq
 | ok fl =>
  cases fl with
  | ret u=>exact I.after hq
  | next=>exact False.elim hq
  | brk=>exact False.elim hq
  | cont=>exact False.elim hq
theorem pe_call (F:FnOk X.prog X.w X.K X.mg X.base CX k f fd ps sp) (hr:Room k X.A) (hg:Gl X x) (hm:X.mg x=some (.ref f)) (hk:PySem.W.keepIn X.K (.ref f)=true) (hb:Binds X.K fd ps ds) (hd:Vals dvs ds) (hx:Passes CX X E)
  (ha:PA X (e :: es) t) (hdb:(x == ("__debug__" : Str))=false:=by decide) (he:starEach (e :: es) X.env=(false,eval e X.env) :: starEach es X.env:=by rfl) (hpl:(backTo pos (starEach es X.env)).any (·.1)=false:=by rfl) :
  PE X (.Call (.Name x p) (e :: es) [] pos) (tCall sp dvs E t):=by
 intro pins s σ H Q I h
 refine wpAny_Call_Name_kw (ld_glob I hg hm ?_ hdb)
 refine PySem.W.callWith_K (h₀:=X.base) I.ok.mod.kin hk (thn (ha pos pins s σ H _ I h) fun us s1 ⟨vs,H1,I1,r,q⟩=>⟨I1.kIn,?_⟩) he hpl
 exact run_fn F hr hb hd hx I1 r q
end
def PK (X:Cx) (kws:List Keyword) (t:TA):Prop :=
 ∀ (pos:Pos) (pins:List (Addr × Obj)) (s:Shared) (σ:St) (H:Hp) (Q:List V→Hp→Prop),Inv X pins σ H s→t σ H Q→wpAny (model X.prog X.w) X.A (evalAll ((backToKw pos (keywordEach kws X.env)).map (·.2))) (AP X pins σ Q) X.xe s
section
variable {X:Cx} {CX:CXT} {k:Nat} {f C:Addr} {fd:FuncData} {ps ks:List Str} {sp:Sp} {E:XK} {x m:Str} {p pos apos kpos:Pos} {e o:Expr} {es:List Expr} {kws:List Keyword} {te ta:TE} {t tk:TA} {nm:Option Str}
theorem pk_nil:PK X [] tNil:=fun _ _ _ _ H Q I h=>wpAny_evalAll_nil ⟨[],H,I,.nil,h⟩
theorem pk_cons (ha:PE X e te) (hr:PK X kws t):PK X (⟨nm,e,kpos⟩ :: kws) (tCons te t):=by
 intro pos pins s σ H Q I h
 show wpAny _ _ (evalAll ((do let v ← eval e X.env; standAt pos; pure v) :: (backToKw pos (keywordEach kws X.env)).map (·.2))) _ _ s
 refine wpAny_evalAll_cons (wpAny_bind (thn (ha pins s σ H _ I h) fun u s1 ⟨x,H1,I1,r1,q1⟩=>wpAny_bind (wpAny_standAt (wpAny_pure ?_))))
 exact thn (hr pos pins s1 σ H1 _ I1 q1) fun us s2 ⟨xs,H2,I2,r2,q2⟩=>⟨x :: xs,H2,I2,.cons r1 r2,q2⟩
variable {g:List Value→List Value→List Value} {gV:List V→List V→List V}
end
structure FnScope (N P:List Str) (sc:Scope):Prop where
 kind:sc.kind=.function
 co:sc.isCoroutine=false
 gen:sc.isGenerator=false
 nd:N.Nodup
 pre:N.take P.length=P
 par:∀ x ∈ P,sc.names.lookup x=some .local ∨ sc.names.lookup x=some .cell
 nofree:∀ y ∈ sc.names,y.2≠.free
theorem bindL_out {kindOf:Str→Option NameKind} {x:Str}:∀ {binds:List (Str × Value)} {m:Str→Option Value},(∀ v,(x,v) ∉ binds)→bindL kindOf binds m x=m x
 | [],_,_=>rfl
 | (n,v) :: r,m,h=>by
  unfold bindL
  rw [bindL_out fun w hw=>h w (List.mem_cons_of_mem _ hw)]
  split
  ·have:x≠n:=by rintro rfl; exact h v List.mem_cons_self
   simp [this]
  ·rfl
theorem bindC_out {kindOf:Str→Option NameKind} {x:Str}:∀ {binds:List (Str × Value)} {m:Str→Option Value},(∀ v,(x,v) ∉ binds)→bindC kindOf binds m x=m x
 | [],_,_=>rfl
 | (n,v) :: r,m,h=>by
  unfold bindC
  rw [bindC_out fun w hw=>h w (List.mem_cons_of_mem _ hw)]
  split
  ·rfl
  ·have:x≠n:=by rintro rfl; exact h v List.mem_cons_self
   simp [this]
theorem bindL_get {kindOf:Str→Option NameKind} {x:Str} {v:Value}:∀ {P:List Str} {vs:List Value} {i:Nat} {m:Str→Option Value},P.Nodup→P[i]? = some x→vs[i]? = some v→kindOf x=some .local →
  bindL kindOf (P.zip vs) m x=some v
 | [],_,_,_,_,h,_,_=>by simp at h
 | _ :: _,[],_,_,_,_,h,_=>by simp at h
 | p :: P,w :: vs,0,m,nd,h1,h2,hk=>by
  simp at h1 h2; subst h1; subst h2
  show bindL kindOf ((p,w) :: P.zip vs) m p=_
  unfold bindL
  rw [bindL_out fun v hv=>(List.nodup_cons.mp nd).1 (List.of_mem_zip hv).1,if_pos hk]
  simp
 | p :: P,w :: vs,i+1,m,nd,h1,h2,hk=>by
  show bindL kindOf ((p,w) :: P.zip vs) m x=_
  unfold bindL
  exact bindL_get (i:=i) (List.nodup_cons.mp nd).2 (by simpa using h1) (by simpa using h2) hk
theorem bindC_get {kindOf:Str→Option NameKind} {x:Str} {v:Value}:∀ {P:List Str} {vs:List Value} {i:Nat} {m:Str→Option Value},P.Nodup→P[i]? = some x→vs[i]? = some v→kindOf x≠some .local →
  bindC kindOf (P.zip vs) m x=some v
 | [],_,_,_,_,h,_,_=>by simp at h
 | _ :: _,[],_,_,_,_,h,_=>by simp at h
 | p :: P,w :: vs,0,m,nd,h1,h2,hk=>by
  simp at h1 h2; subst h1; subst h2
  show bindC kindOf ((p,w) :: P.zip vs) m p=_
  unfold bindC
  rw [bindC_out fun v hv=>(List.nodup_cons.mp nd).1 (List.of_mem_zip hv).1,if_neg hk]
  simp
 | p :: P,w :: vs,i+1,m,nd,h1,h2,hk=>by
  show bindC kindOf ((p,w) :: P.zip vs) m x=_
  unfold bindC
  exact bindC_get (i:=i) (List.nodup_cons.mp nd).2 (by simpa using h1) (by simpa using h2) hk
def start (N:List Str) (vs:List V):St:=vs.map some++List.replicate (N.length - vs.length) none
def cxOf (CX:CXT) (P:Program) (w:World) (K:PySem.W.Frag) (mg:Str→Option Value) (base:Heap) (N:List Str) (qual:Str) (scope:Scope) (f:Addr) (cd:Value) (A:Around) (outer:List Env) (s:Shared) (H:Hp) (E:XK):Cx where
 prog:=P
 w:=w
 K:=K
 mg:=mg
 base:=base
 A:=A.deeper (envOfC qual scope s.heap.objs.size f cd)
 N:=N
 s₀:=s
 H₀:=H
 env:=envOfC qual scope s.heap.objs.size f cd
 outer:=outer
 stack:=envOfC qual scope s.heap.objs.size f cd :: outer
 ex:=[]
 calm:=true
 fn:=fun _=>true
 pn:=[]
 xe:=fun e s'=>wpAny (model P w) (A.deeper (envOfC qual scope s.heap.objs.size f cd)) (leaving (envOfC qual scope s.heap.objs.size f cd) e) (fun _ s''=>CX outer H s E e s'') (fun e' s''=>CX outer H s E e' s'') s'
theorem cell_has {sc:Scope} {n:Nat} {x:Str} (h:sc.names.lookup x=some .cell):∃ c,(cellsFrom n sc.names []).lookup x=some c:=by
 have q:=PySem.W.cellsFrom_some sc.names n [] (.inl h)
 exact Option.isSome_iff_exists.mp q
theorem inv_start {CX:CXT} {P:Program} {w:World} {K:PySem.W.Frag} {mg:Str→Option Value} {base:Heap} {N ps:List Str} {qual:Str} {scope:Scope} {f:Addr} {cd:Value} {A:Around} {outer:List Env} {s s1:Shared} {H:Hp} {E:XK} {us:List Value} {vs:List V}
  (S:FnScope N ps scope) (hd:A.handled=none) (e0:Env0 P w K mg base A outer s H) (hl:vs.length=ps.length) (r:Vals vs us)
  (x:InCallC s s.heap.objs.size (bindL (envOfC qual scope s.heap.objs.size f cd).kindOf (ps.zip us) fun _=>none) (cellsFrom (s.heap.objs.size+1) scope.names []) (bindC (envOfC qual scope s.heap.objs.size f cd).kindOf (ps.zip us) fun _=>none) s1) :
  Inv (cxOf CX P w K mg base N qual scope f cd A outer s H E) [] (start N vs) H s1:=by
 have hpl:ps.length≤N.length:=by have:=congrArg List.length S.pre; rw [List.length_take] at this; omega
 obtain ⟨h1,tk,rfl,hk⟩:=x.done
 have noA:∀ b:Addr,b ∉ (cxOf CX P w K mg base N qual scope f cd A outer s H E).ex:=fun b z=>absurd (show b ∈ ([]:List Addr) from z) (by simp)
 refine ⟨⟨e0.mod,S.kind,rfl,rfl,Nat.le_refl _,fun y z c h1 h2=>?_,fun y hy=>?_,fun y c _ h=>?_,fun _=>hd,Around.frames_deeper e0.frames,.inr ⟨rfl,rfl⟩,fun b z=>absurd z (noA b),e0.bs,e0.bsz,fun b _ _=>noA b,fun b z=>absurd z (noA b),e0.funs,e0.frf⟩,
  rfl,e0.bare,Un.kept hk,⟨_,x.toInCall.ns,fun i y v h1 h2 h3=>?_⟩,fun y c h=>⟨_,x.cell y c h⟩,e0.hok.fresh (Nat.le_refl _),fun y c h=>?_,fun p hp=>absurd (show p ∈ ([]:List (Addr × Obj)) from hp) (by simp),e0.hok.kept hk,?_⟩
 ·exact name_of_addr x.apart (PySem.mem_of_lookup h1) (PySem.mem_of_lookup h2)
 ·have hy:scope.names.lookup y=some .cell ∨ scope.names.lookup y=some .free:=hy
  rcases hy with hy | hy
  ·exact cell_has hy
  ·exact absurd rfl (S.nofree _ (PySem.mem_of_lookup hy))
 ·exact Nat.le_of_lt (x.above y c (PySem.mem_of_lookup h))
 ·have hi:i < vs.length:=by
   unfold start at h2
   by_cases hi:i < vs.length
   ·exact hi
   ·rw [List.getElem?_append_right (by simpa using hi)] at h2
    rw [List.getElem?_replicate] at h2
    split at h2 <;> cases h2
  have ha:vs[i]? = some v:=by
   unfold start at h2
   rw [List.getElem?_append_left (by simpa using hi),List.getElem?_map] at h2
   cases e:vs[i]? with
   | none=>rw [e] at h2; cases h2
   | some a=>rw [e] at h2; cases h2; rfl
  obtain ⟨u,hu,rv⟩:=r.get ha
  have hp:ps[i]? = some y:=by
   rw [←S.pre,List.getElem?_take_of_lt (by omega)]; exact h1
  have ndP:ps.Nodup:=by rw [←S.pre]; exact S.nd.sublist (List.take_sublist _ _)
  refine ⟨u,rv,?_⟩
  rcases S.par y (List.mem_of_getElem? hp) with k | k
  ·exact .inl ⟨k,bindL_get ndP hp hu k⟩
  ·obtain ⟨c,e⟩:=cell_has (n:=s.heap.objs.size+1) k
   refine .inr ⟨.inl k,c,e,?_⟩
   have q:=x.cell y c e
   rw [bindC_get ndP hp hu (by show scope.names.lookup y≠_; rw [k]; decide)] at q
   exact q
 ·exact e0.hok.fresh (Nat.le_of_lt (x.above y c (PySem.mem_of_lookup h)))
 ·unfold start
  show _=N.length
  rw [List.length_append,List.length_map,List.length_replicate]
  omega
theorem fn_of {CX:CXT} {P:Program} {w:World} {K:PySem.W.Frag} {mg:Str→Option Value} {base:Heap} {k:Nat} {f:Addr} {name qual:Str} {params:Arguments} {body:List Stmt} {scope:Scope} {dV kV doc pm cdv ct oc:Value} {an od:Option Addr}
  {osl:Array (Option Value)} {N ps:List Str} {sp:Sp} (lk:K.lookup f=some ⟨oc,od,.func (PySem.W.fnOf name qual params body scope dV kV doc pm an cdv ct),osl⟩) (hcd:PySem.W.codeIn K cdv qual=true) (S:FnScope N ps scope)
  (len:∀ vs H Q E,sp vs H Q E→vs.length=ps.length)
  (hbody:∀ (A:Around) (outer:List Env) (s:Shared) (H:Hp) (vs:List V) (Q:VK) (E:XK),Room k (A.deeper (envOfC qual scope s.heap.objs.size f cdv))→sp vs H Q E →
   ∃ t,PSs (cxOf CX P w K mg base N qual scope f cdv A outer s H E) body t∧t { nx:=fun _ H'=>Q .non H',rt:=Q } (start N vs) H) :
  FnOk P w K mg base CX (k+1) f (PySem.W.fnOf name qual params body scope dV kV doc pm an cdv ct) ps sp:=by
 refine ⟨len,fun A outer s H args us vs Q E hr e0 hb r hsp=>?_⟩
 have hl:=len _ _ _ _ hsp
 have KX:K.In s.heap:=e0.mod.kin.keeps fun b o e=>(e0.bs b o e).1
 have lim:s.heap.NoLimit:=e0.mod.nolimit.keeps fun b o e=>(e0.bs b o e).1
 have hkind:∀ y ∈ ps.zip us,scope.names.lookup y.1=some .local ∨ (scope.names.lookup y.1=some .cell∧((cellsFrom (s.heap.objs.size+1) scope.names []).lookup y.1).isSome=true):=fun ⟨n,v⟩ hy=>by
  rcases S.par n (List.of_mem_zip hy).1 with q | q
  ·exact .inl q
  ·exact .inr ⟨q,PySem.W.cellsFrom_some _ _ _ (.inl q)⟩
 refine codeAny_call_function hr.depth (KX _ _ lk) rfl S.co S.gen rfl (PySem.W.codeRec_of KX hcd) (hb _ _ _ _ ?_)
 refine wpAny_newFunctionEnv_cells S.kind hkind fun env he s1 x=>?_
 subst he
 refine ⟨lim.keeps x.toInCall.keep,codeAny_func ?_⟩
 obtain ⟨t,ht,hq⟩:=hbody A outer s H vs Q E (hr.deeper _) hsp
 have I:Inv (cxOf CX P w K mg base N qual scope f cdv A outer s H E) [] (start N vs) H s1:=inv_start S hr.hd e0 hl r x
 refine wpAny_mono (ht [] s1 (start N vs) H _ I hq) (fun fl s' hs=>?_) fun e s' hs=>hs
 have fin:∀ {σ':St} {H':Hp} {v:V} {u:Value},Inv (cxOf CX P w K mg base N qual scope f cdv A outer s H E) [] σ' H' s'→RelV v u→Q v H'→CE outer P w H s Q u s' :=
  fun {σ' H' v u} J rv q=>⟨v,H',J.os,J.bare,J.base,J.hok,rv,q⟩
 cases fl with
 | ret u =>
  obtain ⟨v,σ',H',J,rv,q⟩:=hs
  exact fin J rv q
 | next =>
  obtain ⟨σ',H',J,q⟩:=hs
  exact fin (v:=V.non) (u:=Value.none) J rfl q
 | brk =>
  obtain ⟨_,_,_,q⟩:=hs
  exact False.elim q
 | cont =>
  obtain ⟨_,_,_,q⟩:=hs
  exact False.elim q
end L2
namespace L2
open PySem PySem.Spec PyProof.Rows
section
variable {X:Cx} {x:Str} {p pos:Pos} {e:Expr} {es:List Expr} {t:TA} {id T:String} {r:List V→Hp→VK→Prop}
def tCB (r:List V→Hp→VK→Prop) (t:TA):TE:=fun σ H Q=>t σ H fun vs H1=>r vs H1 Q
theorem pe_callB (hc:CallR X (.builtin id) r) (hg:Gl X x) (hm:X.mg x=none) (hv:bootBuiltins x=some (.builtin id)) (ha:PA X (e :: es) t) (hn:x≠"__name__":=by decide) (hdb:(x == ("__debug__" : Str))=false:=by decide)
  (he:starEach (e :: es) X.env=(false,eval e X.env) :: starEach es X.env:=by rfl) (hpl:(backTo pos (starEach es X.env)).any (·.1)=false:=by rfl):PE X (.Call (.Name x p) (e :: es) [] pos) (tCB r t):=by
 intro pins s σ H Q I h
 refine wpAny_Call_Name_kw (ld_blt I hg hm hv ?_ hn hdb)
 exact PyProof.Rows.callWith_builtin1 (thn (ha pos pins s σ H _ I h) fun us s1 ⟨vs,H1,I1,r1,q1⟩=>hc pins s1 σ H1 vs us Q I1 r1 q1) he hpl
theorem pe_callTy (hc:CallR X (.type T) r) (hg:Gl X x) (hm:X.mg x=none) (hv:bootBuiltins x=some (.type T)) (ha:PA X (e :: es) t) (hn:x≠"__name__":=by decide) (hdb:(x == ("__debug__" : Str))=false:=by decide)
  (he:starEach (e :: es) X.env=(false,eval e X.env) :: starEach es X.env:=by rfl) (hpl:(backTo pos (starEach es X.env)).any (·.1)=false:=by rfl):PE X (.Call (.Name x p) (e :: es) [] pos) (tCB r t):=by
 intro pins s σ H Q I h
 refine wpAny_Call_Name_kw (ld_blt I hg hm hv ?_ hn hdb)
 exact PyProof.Rows.callWith_type1 (thn (ha pos pins s σ H _ I h) fun us s1 ⟨vs,H1,I1,r1,q1⟩=>hc pins s1 σ H1 vs us Q I1 r1 q1) he hpl
end
end L2
namespace HT
open PySem PyProof.Rows
section
open PySem.SeqAt
open PySem.AutoSeq1 (wpAny_loadPart')
open PySem.MeetsSeq PySem.MeetsSeq2 PySem.MeetsSeq3
end
section
variable {prog:Program} {w:World} {A:Around} {E:Value→Shared→Prop} {s:Shared}
def sIx (n d:Nat):Option Int→Nat
 | none=>d
 | some v=>if v < 0 then (v+(n:Int)).toNat else min v.toNat n
theorem sIx_none (n d:Nat):sIx n d none=d:=rfl
theorem sIx_nat (n d k:Nat):sIx n d (some (k:Int))=min k n:=by
 show (if (k:Int) < 0 then ((k:Int)+(n:Int)).toNat else min (k:Int).toNat n)=min k n
 rw [if_neg (by omega),Int.toNat_natCast]
end
end HT
namespace L2
open PySem PySem.Spec PyProof.Rows
abbrev TO:=St→Hp→(Option Int→Hp→Prop)→Prop
def PO (X:Cx) (e:Option Expr) (t:TO):Prop :=
 ∀ (pins:List (Addr × Obj)) (s:Shared) (σ:St) (H:Hp) (Q:Option Int→Hp→Prop),Inv X pins σ H s→t σ H Q →
  wpAny (model X.prog X.w) X.A (evalPart e X.env) (fun u s'=>∃ o H',Inv X pins σ H' s'∧IsPart u o∧Q o H') X.xe s
def tNoPart:TO:=fun _ H Q=>Q none H
def tPart (t:TE):TO:=fun σ H Q=>t σ H fun x H1=>∃ i,x=.int i∧Q (some i) H1
theorem intsAre_of {ns:List Int}:∀ {us:List Value},Vals (ns.map V.int) us→IntsAre us ns:=by
 induction ns with
 | nil=>intro us r; rw [List.map_nil] at r; cases r; exact .nil
 | cons n ns ih =>
  intro us r
  rw [List.map_cons] at r
  cases r with
  | cons r1 r2 =>
   obtain ⟨t,e⟩:=r1
   subst e
   exact .cons n t (ih r2)
section
variable {X:Cx} {e:Expr} {te:TE} {lo hi:Option Expr} {tl th:TO} {pos p2:Pos}
theorem po_none:PO X none tNoPart:=by
 intro pins s σ H Q I h
 rw [evalPart_none]
 exact wpAny_pure ⟨none,H,I,.none,h⟩
theorem po_some (h:PE X e te):PO X (some e) (tPart te):=by
 intro pins s σ H Q I hw
 rw [evalPart_some]
 refine thn (h pins s σ H _ I hw) fun u s1 ⟨x,H1,I1,r1,q1⟩=>?_
 obtain ⟨i,rfl,q⟩:=q1
 obtain ⟨t,rfl⟩:=r1
 exact ⟨some i,H1,I1,.int i t,q⟩
def SlR (X:Cx) (r:V→Option Int→Option Int→Hp→VK→Prop):Prop :=
 ∀ (pins:List (Addr × Obj)) (s:Shared) (σ:St) (H:Hp) (x:V) (v vl vu:Value) (lo hi:Option Int) (sl:Addr) (Q:VK),Inv X pins σ H s→RelV x v→s.heap.IsSliceOf sl vl vu .none→IsPart vl lo→IsPart vu hi→r x lo hi H Q →
  ∃ T id,typeLookup (.type T) "__getitem__" = pure (some (.builtin id))∧s.TypeIs v T∧wpAny (model X.prog X.w) X.A (getItem v (.ref sl)) (EP X pins σ Q) X.xe s
def tSl (r:V→Option Int→Option Int→Hp→VK→Prop) (te:TE) (tl th:TO):TE:=fun σ H Q=>te σ H fun x H1=>tl σ H1 fun l H2=>th σ H2 fun u H3=>r x l u H3 Q
theorem pe_slice {r:V→Option Int→Option Int→Hp→VK→Prop} (hr:SlR X r) (he:PE X e te) (hl:PO X lo tl) (hu:PO X hi th):PE X (.Subscript e (.Slice lo hi none p2) pos) (tSl r te tl th):=by
 intro pins s σ H Q I h
 refine Subscript_ (thn (he pins s σ H _ I h) fun v s1 ⟨x,H1,I1,r1,q1⟩=>?_)
 refine wpAny_Slice (thn (hl pins s1 σ H1 _ I1 q1) fun vl s2 ⟨l,H2,I2,pl,q2⟩=>thn (hu pins s2 σ H2 _ I2 q2) fun vu s3 ⟨u,H3,I3,pu,q3⟩=>?_)
 rw [evalPart_none]
 refine wpAny_pure ?_
 have I4:Inv X pins σ H3 { s3 with heap:=s3.heap.push { cls:=.type "slice",data:=.fields #[vl,vu,.none] } }:=I3.kept (t':=s3.toks) fun b ob q=>Heap.get?_push_of_some _ q
 obtain ⟨T,id,hT,ht,hg⟩:=hr pins { s3 with heap:=s3.heap.push { cls:=.type "slice",data:=.fields #[vl,vu,.none] } } σ H3 x v vl vu l u s3.heap.objs.size Q I4 r1 (Heap.IsSliceOf.new ..) pl pu q3
 show wpAny (model X.prog X.w) X.A (subscriptTail e (.Slice lo hi none p2) v (.ref s3.heap.objs.size)) (EP X pins σ Q) X.xe { s3 with heap:=s3.heap.push { cls:=.type "slice",data:=.fields #[vl,vu,.none] } }
 exact tail_any (ops:=[.ref s3.heap.objs.size,v]) ht hT hg (by with_unfolding_all rfl)
def cutV (xs:List V) (lo hi:Option Int):List V:=(xs.drop (HT.sIx xs.length 0 lo)).take (HT.sIx xs.length xs.length hi - HT.sIx xs.length 0 lo)
theorem cutV_length (xs:List V) (lo hi:Option Int):(cutV xs lo hi).length≤xs.length:=by
 unfold cutV
 rw [List.length_take,List.length_drop]
 omega
end
end L2
namespace L2
open PySem PySem.Spec PyProof.Rows
def ixN (n:Nat) (i:Int):Option Nat:=if 0≤i then (if i < n then some i.toNat else none) else if -(n:Int)≤i then some (i+n).toNat else none
def atI {α:Type} (xs:List α) (i:Int):Option α:=(ixN xs.length i).bind fun j=>xs[j]?
theorem ixN_seq {n:Nat} {i:Int} {j:Nat} (h:ixN n i=some j):seqIndex? i n=some j∧j < n∧-(n:Int)≤i∧i < n:=by
 unfold ixN at h
 by_cases h0:0≤i
 ·rw [if_pos h0] at h
  by_cases h1:i < n
  ·rw [if_pos h1] at h
   have e:i.toNat=j:=Option.some.inj h
   exact ⟨by rw [seqIndex_of h0 h1,e],by omega,by omega,h1⟩
  ·rw [if_neg h1] at h; cases h
 ·rw [if_neg h0] at h
  by_cases h1:-(n:Int)≤i
  ·rw [if_pos h1] at h
   have e:(i+n).toNat=j:=Option.some.inj h
   exact ⟨by rw [seqIndex_neg (by omega) h1,e],by omega,h1,by omega⟩
  ·rw [if_neg h1] at h; cases h
theorem atI_get {α:Type} {xs:List α} {i:Int} {v:α} (h:atI xs i=some v):∃ j,seqIndex? i xs.length=some j∧xs[j]? = some v∧j < xs.length∧-(xs.length:Int)≤i∧i < xs.length:=by
 unfold atI at h
 cases e:ixN xs.length i with
 | none=>rw [e] at h; cases h
 | some j =>
  rw [e] at h
  obtain ⟨h1,h2,h3,h4⟩:=ixN_seq e
  exact ⟨j,h1,h,h2,h3,h4⟩
theorem atI_nat {α:Type} {xs:List α} {j:Nat} {v:α} (h:xs[j]? = some v):atI xs (j:Int)=some v:=by
 have hj:j < xs.length:=(List.getElem?_eq_some_iff.mp h).1
 have e:ixN xs.length (j:Int)=some j:=by
  unfold ixN
  rw [if_pos (by omega),if_pos (by omega)]; simp
 unfold atI; rw [e]; exact h
def PlainIx (b:Expr):Prop:=∀ o i,subscripted b false o i=operate [o,i] (getItem o i)
def IxR (X:Cx) (r:R2):Prop :=
 ∀ (value slice:Expr) (pins:List (Addr × Obj)) (s:Shared) (σ:St) (H:Hp) (x y:V) (v u:Value) (Q:VK),Inv X pins σ H s→RelV x v→RelV y u→r x y H Q →
  subscripted slice false v u=operate [v,u] (getItem v u)→wpAny (model X.prog X.w) X.A (subscriptTail value slice v u) (EP X pins σ Q) X.xe s
def MtR (X:Cx) (id:String) (r:V→List V→Hp→VK→Prop):Prop :=
 ∀ (pins:List (Addr × Obj)) (s:Shared) (σ:St) (H:Hp) (x:V) (xs:List V) (v:Value) (us:List Value) (Q:VK),Inv X pins σ H s→RelV x v→Vals xs us→r x xs H Q →
  wpAny (model X.prog X.w) X.A (call (.builtin id) (v :: us)) (EP X pins σ Q) X.xe s
section
variable {X:Cx} {a b:Expr} {ta tb:TE} {pos:Pos}
theorem pe_ix {r:R2} (hr:IxR X r) (ha:PE X a ta) (hb:PE X b tb) (hs:PlainIx b):PE X (.Subscript a b pos) (tOp r ta tb):=by
 intro pins s σ H Q I h
 exact Subscript_ (binT ha hb I h fun v u s2 x y H2 I2 rx ry q=>hr a b pins s2 σ H2 x y v u Q I2 rx ry q (hs _ _))
def rIxL (K:PySem.W.Frag):R2:=fun x y H Q=>∃ p xs i v,x=.ref p∧y=.int i∧SqL K H p xs∧atI xs i=some v∧Q v H
def rIxT (K:PySem.W.Frag):R2:=fun x y H Q=>∃ p xs i v,x=.ref p∧y=.int i∧SqT K H p xs∧atI xs i=some v∧Q v H
theorem ix_list:IxR X (rIxL X.K):=by
 intro value slice pins s σ H x y v u Q I rx ry h hs
 obtain ⟨p,xs,i,z,rfl,rfl,hq,he,q⟩:=h
 cases rx
 obtain ⟨t,rfl⟩:=ry
 obtain ⟨its,r,pl,hz⟩:=I.list hq
 obtain ⟨j,h1,h2,h3,h4,h5⟩:=atI_get he
 obtain ⟨w,ew,rw'⟩:=r.get h2
 have hl:=r.length
 have hn:=line63
 have fin:EP X pins σ Q w s:=⟨z,H,I,rw',q⟩
 by_cases h0:0≤i
 ·have hj:i.toNat=j:=by
   rw [seqIndex_of h0 h5] at h1
   exact Option.some.inj h1
  exact item_listR pl.isList h0 (by omega) (by rw [hj]; simpa using ew) fin hs
 ·have hj:(i+(its.toArray.size:Int)).toNat=j:=by
   rw [seqIndex_neg (by omega) h4] at h1
   rw [List.size_toArray,←hl]
   exact Option.some.inj h1
  exact subscriptTail_builtinR (x:=w) pl.isList.typeIs slot_list_getitem.lookup
   (wpAny_getItem_list_neg (Q:=fun r s'=>r=w∧EP X pins σ Q r s') pl.isList (by omega) (by rw [List.size_toArray] <;> omega) (by omega) (by rw [hj]; simpa using ew) ⟨rfl,fin⟩) hs
theorem ix_tup:IxR X (rIxT X.K):=by
 intro value slice pins s σ H x y v u Q I rx ry h hs
 obtain ⟨p,xs,i,z,rfl,rfl,hq,he,q⟩:=h
 cases rx
 obtain ⟨t,rfl⟩:=ry
 obtain ⟨its,r,pl,hz⟩:=I.tuple hq
 obtain ⟨j,h1,h2,h3,h4,h5⟩:=atI_get he
 obtain ⟨w,ew,rw'⟩:=r.get h2
 have hl:=r.length
 have hn:=line63
 have fin:EP X pins σ Q w s:=⟨z,H,I,rw',q⟩
 exact subscriptTail_builtinR (x:=w) pl.typeIs slot_tuple_getitem.lookup
  (getItem_tuple (j:=j) (Q:=fun r s'=>r=w∧EP X pins σ Q r s') pl (by omega) (by omega) (by rw [List.size_toArray,←hl]; exact h1) (by simpa using ew) ⟨rfl,fin⟩) hs
theorem mapSeq_set (its:List Value) (n j:Nat) (u:Value):Obj.mapSeq (·.setIfInBounds j u) { cls:=.type "list",data:=.seq its.toArray n }={ cls:=.type "list",data:=.seq (its.set j u).toArray n }:=by
 simp [Obj.mapSeq]
theorem Inv.lst {pins:List (Addr × Obj)} {σ:St} {H:Hp} {s:Shared} {p:Addr} {xs:List V} (I:Inv X pins σ H s) (h:H p=some (.lst xs)) :
  ∃ (its:List Value) (n:Nat),Vals xs its∧s.heap.get? p=some { cls:=.type "list",data:=.seq its.toArray n }∧xs.length≤sizeLine:=by
 obtain ⟨z,its,n,r,e⟩:=I.hok p _ h
 exact ⟨its,n,r,e,z⟩
theorem Inv.lstUpd {pins:List (Addr × Obj)} {σ:St} {H:Hp} {s:Shared} {p:Addr} {xs ys:List V} {its its':List Value} {n n':Nat} {f:Obj→Obj} (I:Inv X pins σ H s) (h:H p=some (.lst xs))
  (ho:s.heap.get? p=some { cls:=.type "list",data:=.seq its.toArray n }) (hf:f { cls:=.type "list",data:=.seq its.toArray n }={ cls:=.type "list",data:=.seq its'.toArray n' }) (r:Vals ys its') (hz:ys.length≤sizeLine) (t:Nat) :
  Inv X pins σ (upd H p (.lst ys)) { s with heap:=s.heap.update p f,toks:=t }:=by
 have e:(s.heap.update p f).get? p=some { cls:=.type "list",data:=.seq its'.toArray n' }:=by
  rw [Heap.get?_update_self f ho (by rw [hf] <;> rfl),hf]
 refine I.write (x:=p) (e:=p) (by rw [h]; trivial) (.inl rfl) (fun b u hb q=>(Heap.get?_update_other _ _ (Ne.symm hb)).trans q) ⟨_,e⟩ ?_
 exact ⟨hz,its',n',r,e⟩
def rSetL:V→V→V→Hp→(Hp→Prop)→Prop:=fun o i v H Q=>∃ p xs k j,o=.ref p∧i=.int k∧H p=some (.lst xs)∧ixN xs.length k=some j∧Q (upd H p (.lst (xs.set j v)))
theorem set_list:PSet X rSetL:=by
 intro pins s σ H o i v ov iv u Q I ro ri rv h
 obtain ⟨p,xs,k,j,rfl,rfl,hp,hj,q⟩:=h
 cases ro
 obtain ⟨t,rfl⟩:=ri
 obtain ⟨its,n,r,ho,hz⟩:=I.lst hp
 obtain ⟨h1,h2,h3,h4⟩:=ixN_seq hj
 have hl:=r.length
 have hn:=line63
 have I':Inv X pins σ (upd H p (.lst (xs.set j v))) { s with heap:=s.heap.update p (Obj.mapSeq (·.setIfInBounds j u)) } :=
  I.lstUpd hp ho (mapSeq_set its n j u) (r.set rv j) (by rw [List.length_set]; exact hz) s.toks
 by_cases h0:0≤k
 ·have hk:k.toNat=j:=by
   rw [seqIndex_of h0 h4] at h1
   exact Option.some.inj h1
  exact PySem.W.ki_setAt ho h0 (by omega) (by rw [List.size_toArray,←hl]; exact h4) (by rw [hk]; exact ⟨_,I',q⟩)
 ·have hk:(k+(its.toArray.size:Int)).toNat=j:=by
   rw [seqIndex_neg (by omega) h3] at h1
   rw [List.size_toArray,←hl]
   exact Option.some.inj h1
  exact PySem.W.ki_setBack ho (by omega) (by rw [List.size_toArray,←hl]; exact h3) (by omega) (by rw [hk]; exact ⟨_,I',q⟩)
theorem slice_bounds (lo hi:Option Int) (n:Nat):(sliceBounds lo hi none n).1=((HT.sIx n 0 lo:Nat):Int)∧(sliceBounds lo hi none n).2.1=((HT.sIx n n hi:Nat):Int)∧(sliceBounds lo hi none n).2.2=1:=by
 refine ⟨?_,?_,rfl⟩
 ·cases lo with
  | none=>simp [sliceBounds,HT.sIx]
  | some i =>
   simp only [sliceBounds,HT.sIx,Option.getD_none,show (1:Int) > 0 by decide,if_true]
   by_cases h:i < 0
   ·simp only [h,if_true] <;> omega
   ·simp only [h,if_false] <;> omega
 ·cases hi with
  | none=>simp [sliceBounds,HT.sIx]
  | some i =>
   simp only [sliceBounds,HT.sIx,Option.getD_none,show (1:Int) > 0 by decide,if_true]
   by_cases h:i < 0
   ·simp only [h,if_true] <;> omega
   ·simp only [h,if_false] <;> omega
theorem slicePick_cut (its:List Value) (lo hi:Option Int):slicePick its.toArray lo hi none=((its.drop (HT.sIx its.length 0 lo)).take (HT.sIx its.length its.length hi - HT.sIx its.length 0 lo)).toArray:=by
 obtain ⟨h1,h2,h3⟩:=slice_bounds lo hi its.toArray.size
 unfold slicePick
 rw [h1,h2,h3]
 simp only [sliceRange_one,pick_run,List.size_toArray] <;> rfl
def rSlL (K:PySem.W.Frag):V→Option Int→Option Int→Hp→VK→Prop:=fun x lo hi H Q=>∃ a xs,x=.ref a∧SqL K H a xs∧∀ p,H p=none→Q (.ref p) (upd H p (.lst (cutV xs lo hi)))
theorem sl_list:SlR X (rSlL X.K):=by
 intro pins s σ H x v vl vu lo hi sl Q I rx hs pl pu h
 obtain ⟨a,xs,rfl,hx,q⟩:=h
 cases rx
 obtain ⟨its,r,ht,hz⟩:=I.list hx
 have hlen:=r.length
 refine ⟨"list",_,slot_list_getitem.lookup,ht.isList.typeIs,?_⟩
 refine wpAny_getItem_list_slice ht.isList hs pl pu .none (by simp) ?_ (by rw [List.size_toArray] <;> omega)
 rw [slicePick_cut,←hlen]
 refine ⟨.ref s.heap.objs.size,_,I.laid (t':=s.toks) (o:=.lst (cutV xs lo hi)) (fun b ob q=>Heap.get?_push_of_some _ q) (Nat.le_refl _) ?_,rfl,q _ (I.hok.fresh (Nat.le_refl _))⟩
 exact ⟨Nat.le_trans (cutV_length xs lo hi) hz,_,0,(r.drop (HT.sIx xs.length 0 lo)).take (HT.sIx xs.length xs.length hi - HT.sIx xs.length 0 lo),Heap.get?_push_size _ rfl⟩
def flatV:V→Bool
 | .non=>true
 | .bl _=>true
 | .int _=>true
 | .str _=>true
 | _=>false
def eqV:V→V→Bool
 | .non,.non=>true
 | .bl a,.bl b=>a == b
 | .bl a,.int b=>(if a then 1 else 0) == b
 | .int a,.bl b=>a == (if b then 1 else 0)
 | .int a,.int b=>a == b
 | .str a,.str b=>a == b
 | _,_=>false
theorem eqAt_V {A:Around} {s:Shared} {y x:V} {u v:Value} (ry:RelV y u) (rx:RelV x v) (fy:flatV y=true) (fx:flatV x=true):SeqAt.EqAt A s u v (eqV y x):=by
 cases y with
 | non =>
  cases ry
  cases x with
  | non=>cases rx; exact SeqAt.EqAt.same _
  | bl b=>cases rx; exact SeqAt.EqAt.none_bool b
  | int b=>obtain ⟨t,rfl⟩:=rx; exact SeqAt.EqAt.none_int b t
  | str b=>obtain ⟨t,rfl⟩:=rx; exact SeqAt.EqAt.none_str b t
  | _=>exact absurd (show false=true from fx) Bool.false_ne_true
 | bl a =>
  cases ry
  cases x with
  | non=>cases rx; exact SeqAt.EqAt.bool_none a
  | bl b=>cases rx; exact SeqAt.EqAt.bool_bool a b
  | int b=>obtain ⟨t,rfl⟩:=rx; exact SeqAt.EqAt.bool_int a b t
  | str b=>obtain ⟨t,rfl⟩:=rx; exact SeqAt.EqAt.bool_str a b t
  | _=>exact absurd (show false=true from fx) Bool.false_ne_true
 | int a =>
  obtain ⟨t',rfl⟩:=ry
  cases x with
  | non=>cases rx; exact SeqAt.EqAt.int_none a t'
  | bl b=>cases rx; exact SeqAt.EqAt.int_bool a t' b
  | int b=>obtain ⟨t,rfl⟩:=rx; exact SeqAt.EqAt.int_int a t' b t
  | str b=>obtain ⟨t,rfl⟩:=rx; exact SeqAt.EqAt.int_str a t' b t
  | _=>exact absurd (show false=true from fx) Bool.false_ne_true
 | str a =>
  obtain ⟨t',rfl⟩:=ry
  cases x with
  | non=>cases rx; exact SeqAt.EqAt.str_none a t'
  | bl b=>cases rx; exact SeqAt.EqAt.str_bool a t' b
  | int b=>obtain ⟨t,rfl⟩:=rx; exact SeqAt.EqAt.str_int a t' b t
  | str b=>obtain ⟨t,rfl⟩:=rx; exact SeqAt.EqAt.str_str a t' b t
  | _=>exact absurd (show false=true from fx) Bool.false_ne_true
 | _=>exact absurd (show false=true from fy) Bool.false_ne_true
def eqU (x:V) (u:Value):Bool:=match u with
 | .none=>eqV .non x
 | .bool b=>eqV (.bl b) x
 | .int i _=>eqV (.int i) x
 | .str z _=>eqV (.str z) x
 | _=>false
theorem eqU_of {x y:V} {u:Value} (r:RelV y u) (f:flatV y=true):eqU x u=eqV y x:=by
 cases y with
 | non=>cases r; rfl
 | bl b=>cases r; rfl
 | int i=>obtain ⟨t,rfl⟩:=r; rfl
 | str z=>obtain ⟨t,rfl⟩:=r; rfl
 | _=>exact absurd (show false=true from f) Bool.false_ne_true
theorem any_eqU {x:V}:∀ {xs:List V} {us:List Value},Vals xs us→xs.all flatV=true→us.any (eqU x)=xs.any fun y=>eqV y x
 | _,_,.nil,_=>rfl
 | y :: xs,u :: us,.cons r t,f=>by
  rw [List.all_cons,Bool.and_eq_true] at f
  rw [List.any_cons,List.any_cons,eqU_of r f.1,any_eqU t f.2]
theorem mem_eqAt {A:Around} {s:Shared} {x:V} {v:Value} (rx:RelV x v) (fx:flatV x=true):∀ {xs:List V} {us:List Value},Vals xs us→xs.all flatV=true→∀ u ∈ us,SeqAt.EqAt A s u v (eqU x u)
 | _,_,.nil,_=>fun u hu=>by cases hu
 | y :: xs,u :: us,.cons r t,f=>fun u' hu=>by
  rw [List.all_cons,Bool.and_eq_true] at f
  rcases List.mem_cons.mp hu with rfl | hu
  ·rw [eqU_of r f.1]; exact eqAt_V r rx f.1 fx
  ·exact mem_eqAt rx fx t f.2 u' hu
def inV (x:V) (xs:List V):Bool:=xs.any fun y=>eqV y x
def rIn (K:PySem.W.Frag) (neg:Bool):R2:=fun x y H Q=>∃ p xs,y=.ref p∧(SqL K H p xs ∨ SqT K H p xs)∧flatV x=true∧xs.all flatV=true∧Q (.bl (if neg then !inV x xs else inV x xs)) H
theorem op_in_seq:OpR X (compareOp .In) (rIn X.K false):=by
 intro pins s σ H x y v u Q I rx ry h
 obtain ⟨p,xs,rfl,hq,fx,fs,q⟩:=h
 cases ry
 rcases hq with hq | hq
 ·obtain ⟨its,r,pl,hz⟩:=I.list hq
  refine SeqAt.in_listAt (eqU x) pl.isList (fun w hw=>mem_eqAt rx fx r fs w (by simpa using hw)) ⟨.bl _,H,I,rfl,?_⟩
  rw [show its.toArray.any (eqU x)=its.any (eqU x) by simp,any_eqU r fs]
  exact q
 ·obtain ⟨its,r,pl,hz⟩:=I.tuple hq
  refine SeqAt.in_tupleAt (eqU x) pl (fun w hw=>mem_eqAt rx fx r fs w (by simpa using hw)) ⟨.bl _,H,I,rfl,?_⟩
  rw [show its.toArray.any (eqU x)=its.any (eqU x) by simp,any_eqU r fs]
  exact q
theorem op_notIn_seq:OpR X (compareOp .NotIn) (rIn X.K true):=by
 intro pins s σ H x y v u Q I rx ry h
 obtain ⟨p,xs,rfl,hq,fx,fs,q⟩:=h
 cases ry
 rcases hq with hq | hq
 ·obtain ⟨its,r,pl,hz⟩:=I.list hq
  refine SeqAt.notIn_listAt (eqU x) pl.isList (fun w hw=>mem_eqAt rx fx r fs w (by simpa using hw)) ⟨.bl _,H,I,rfl,?_⟩
  rw [show its.toArray.any (eqU x)=its.any (eqU x) by simp,any_eqU r fs]
  exact q
 ·obtain ⟨its,r,pl,hz⟩:=I.tuple hq
  refine SeqAt.notIn_tupleAt (eqU x) pl (fun w hw=>mem_eqAt rx fx r fs w (by simpa using hw)) ⟨.bl _,H,I,rfl,?_⟩
  rw [show its.toArray.any (eqU x)=its.any (eqU x) by simp,any_eqU r fs]
  exact q
theorem call_len_seq:CallR X (.builtin "len") (fun xs H Q=>∃ p ys,xs=[.ref p]∧(SqL X.K H p ys ∨ SqT X.K H p ys)∧Q (.int ys.length) H):=by
 intro pins s σ H xs us Q I r h
 obtain ⟨p,ys,rfl,hq,q⟩:=h
 obtain ⟨u,rfl,rx⟩:=vals1 r
 cases rx
 have hn:=line63
 rcases hq with hq | hq
 ·obtain ⟨its,r',pl,hz⟩:=I.list hq
  have hlen:=r'.length
  exact Calls.call_len_list pl.isList (by simp only [List.size_toArray] <;> omega) ⟨.int ys.length,H,I.tok _,⟨s.toks+1,by rw [List.size_toArray,hlen]⟩,q⟩
 ·obtain ⟨its,r',pl,hz⟩:=I.tuple hq
  have hlen:=r'.length
  exact len_tuple pl (by simp only [List.size_toArray] <;> omega) ⟨.int ys.length,H,I.tok _,⟨s.toks+1,by rw [List.size_toArray,hlen]⟩,q⟩
theorem call_list_of:CallR X (.type "list") (fun xs H Q=>∃ p ys,xs=[.ref p]∧(SqL X.K H p ys ∨ SqT X.K H p ys)∧∀ l,H l=none→Q (.ref l) (upd H l (.lst ys))):=by
 intro pins s σ H xs us Q I r h
 obtain ⟨p,ys,rfl,hq,q⟩:=h
 obtain ⟨u,rfl,rx⟩:=vals1 r
 cases rx
 have fin:∀ (its:List Value),Vals ys its→ys.length≤sizeLine→∀ (h':Heap) (c':Nat),(∀ b o',s.heap.get? b=some o'→h'.get? b=some o') →
   h'.get? s.heap.objs.size=some { cls:=.type "list",dict:=none,data:=.seq its.toArray c',slots:=#[] }→EP X pins σ Q (.ref s.heap.objs.size) { s with heap:=h' }:=fun its r' hz h' c' kp e =>
  ⟨.ref s.heap.objs.size,_,I.laid (t':=s.toks) kp (Nat.le_refl _) (show ObjOk X.prog X.w _ h' _ (.lst ys) from ⟨hz,its,c',r',e⟩),rfl,q _ (I.hok.fresh (Nat.le_refl _))⟩
 rcases hq with hq | hq
 ·obtain ⟨its,r',pl,hz⟩:=I.list hq
  have hlen:=r'.length
  obtain ⟨o,ho,hc,n,hd⟩:=pl.isList
  exact call_list_seq p (.inl rfl) ho hc hd (fun h' c' kp e=>fin its r' hz h' c' kp e) (by simp only [List.size_toArray] <;> omega)
 ·obtain ⟨its,r',pl,hz⟩:=I.tuple hq
  have hlen:=r'.length
  obtain ⟨o,ho,hc,n,hd⟩:=pl
  exact call_list_seq p (.inr rfl) ho hc hd (fun h' c' kp e=>fin its r' hz h' c' kp e) (by simp only [List.size_toArray] <;> omega)
def tyV (K:PySem.W.Frag) (T:String) (x:V) (H:Hp):Prop:=match x with
 | .str _=>T = "str"
 | .int _=>T = "int"
 | .ref p=>(T = "list"∧∃ xs,SqL K H p xs) ∨ (T = "tuple"∧∃ o,K.lookup p=some o∧o.cls=.type "tuple"∧o.dict=none) ∨
   (T = "dict"∧((∃ kvs,H p=some (.dK kvs)) ∨ ∃ kvs,H p=some (.dT kvs))) ∨ (T = "set"∧∃ S n,H p=some (.set S n))
 | _=>False
theorem tyV_is {pins:List (Addr × Obj)} {σ:St} {H:Hp} {s:Shared} {T:String} {x:V} {v:Value} (I:Inv X pins σ H s) (r:RelV x v) (ty:tyV X.K T x H) :
  s.TypeIs v T∧∀ a,v=.ref a→∃ ob,s.heap.get? a=some ob∧ob.dict=none:=by
 cases x with
 | str z =>
  obtain ⟨t,rfl⟩:=r
  cases (show T = "str" from ty)
  exact ⟨typeIs_str s z t,fun _ e=>nomatch e⟩
 | int i =>
  obtain ⟨t,rfl⟩:=r
  cases (show T = "int" from ty)
  exact ⟨typeIs_int s i t,fun _ e=>nomatch e⟩
 | ref p =>
  cases r
  rcases ty with ⟨rfl,xs,hq⟩ | ⟨rfl,o,hk,hc,hd⟩ | ⟨rfl,hk⟩ | ⟨rfl,S,n,hk⟩
  ·obtain ⟨its,_,pl,_⟩:=I.list hq
   refine ⟨pl.isList.typeIs,fun a e=>?_⟩
   cases e
   obtain ⟨o,n,e,c,hd,_⟩:=pl
   exact ⟨o,e,hd⟩
  ·refine ⟨⟨o,I.kIn p o hk,hc⟩,fun a e=>?_⟩
   cases e
   exact ⟨o,I.kIn _ o hk,hd⟩
  ·have z:∃ o,s.heap.get? p=some o∧o.ExactDict:=by
    rcases hk with ⟨kvs,hk⟩ | ⟨kvs,hk⟩
    ·obtain ⟨_,_,_,_,o,_,_,e,ex,_⟩:=I.hok p _ hk
     exact ⟨o,e,ex⟩
    ·obtain ⟨_,_,_,_,o,_,_,e,ex,_⟩:=I.hok p _ hk
     exact ⟨o,e,ex⟩
   obtain ⟨o,e,ex⟩:=z
   refine ⟨⟨o,e,ex.1⟩,fun a e2=>?_⟩
   cases e2
   exact ⟨o,e,ex.2.1⟩
  ·obtain ⟨o,_,_,_,e,ex,_⟩:=I.hok p _ hk
   refine ⟨⟨o,e,ex.1⟩,fun a e2=>?_⟩
   cases e2
   exact ⟨o,e,ex.2.1⟩
 | _=>exact False.elim ty
def tBM0 (K:PySem.W.Frag) (T:String) (r:V→List V→Hp→VK→Prop) (to:TE):TE:=fun σ H Q=>to σ H fun x H1=>tyV K T x H1∧r x [] H1 Q
def tBM (K:PySem.W.Frag) (T:String) (r:V→List V→Hp→VK→Prop) (to:TE) (t:TA):TE:=fun σ H Q=>to σ H fun x H1=>tyV K T x H1∧t σ H1 fun xs H2=>r x xs H2 Q
variable {o e:Expr} {es:List Expr} {to:TE} {t:TA} {name:Str} {apos cpos:Pos} {T id:String} {r:V→List V→Hp→VK→Prop}
theorem pe_bm0 (pa:PlainAttrs T) (slot:Slot T name id) (hty:typeOf (.builtin id)=pure (.type "method_descriptor")) (hm:MtR X id r) (ho:PE X o to)
  (hbase:attributeBase o name X.env (eval o X.env)=eval o X.env:=by rfl) (hline:(apos.endLine == cpos.line)=true:=by rfl):PE X (.Call (.Attribute o name apos) [] [] cpos) (tBM0 X.K T r to):=by
 intro pins s σ H Q I h
 refine wpAny_Call_method0_late hbase hline (thn (ho pins s σ H _ I h) fun v s1 ⟨x,H1,I1,r1,ty,q1⟩=>?_)
 obtain ⟨h1,h2⟩:=tyV_is I1 r1 ty
 exact ⟨T,id,pa,slot,hty,h1,h2,Calls.callWith_builtin rfl (PySem.evalArgs_none (hm pins s1 σ H1 x [] v [] Q I1 r1 .nil q1))⟩
theorem pe_bm (pa:PlainAttrs T) (slot:Slot T name id) (hty:typeOf (.builtin id)=pure (.type "method_descriptor")) (hm:MtR X id r) (ho:PE X o to) (ha:PA X (e :: es) t)
  (hbase:attributeBase o name X.env (eval o X.env)=eval o X.env:=by rfl)
  (hfew:((backTo cpos (starEach (e :: es) X.env)).all (fun x=>!x.1) && (backToKw cpos (keywordEach [] X.env)).all (fun x=>x.1.isSome)
   && decide ((e :: es).length+([]:List Keyword).length+(if ([]:List Keyword).isEmpty then 0 else 1) < 30))=true:=by rfl)
  (hline:(apos.endLine == cpos.line)=true:=by rfl) (hs:starEach (e :: es) X.env=(false,eval e X.env) :: starEach es X.env:=by rfl) (hplain:(backTo cpos (starEach es X.env)).any (·.1)=false:=by rfl) :
  PE X (.Call (.Attribute o name apos) (e :: es) [] cpos) (tBM X.K T r to t):=by
 intro pins s σ H Q I h
 refine wpAny_Call_method_late hbase hfew hline rfl (thn (ho pins s σ H _ I h) fun v s1 ⟨x,H1,I1,r1,ty,q1⟩=>?_)
 obtain ⟨h1,h2⟩:=tyV_is I1 r1 ty
 refine ⟨T,id,pa,slot,hty,h1,h2,?_⟩
 have hA:=ha cpos pins s1 σ H1 _ I1 q1
 rw [hs] at hA ⊢
 refine Calls.callWith_builtin (by show (false || (backTo cpos (starEach es X.env)).any (·.1))=false; rw [hplain] <;> rfl) (Calls.evalArgs_plain ?_)
 exact thn hA fun us s2 ⟨vs,H2,I2,r2,q2⟩=>hm pins s2 σ H2 x vs v us Q I2 r1 r2 q2
end
end L2
namespace L2
open PySem PySem.Spec PyProof.Rows
def MtM (X:Cx) (id:String) (r:V→List V→Hp→VK→Prop):Prop :=
 ∀ (pins:List (Addr × Obj)) (s:Shared) (σ:St) (H:Hp) (x:V) (xs:List V) (v:Value) (us:List Value) (Q:VK),Inv X pins σ H s→RelV x v→Vals xs us→r x xs H Q →
  wpAny (model X.prog X.w) X.A (call (.builtin id) (v :: us)) (EP X pins σ Q) X.xe s
theorem Vals.one:∀ {x:V} {us:List Value},Vals [x] us→∃ u,us=[u]∧RelV x u
 | _,_,.cons r .nil=>⟨_,rfl,r⟩
theorem Vals.two:∀ {x y:V} {us:List Value},Vals [x,y] us→∃ u v,us=[u,v]∧RelV x u∧RelV y v
 | _,_,_,.cons r (.cons q .nil)=>⟨_,_,rfl,r,q⟩
theorem Vals.zero:∀ {us:List Value},Vals [] us→us=[]
 | _,.nil=>rfl
theorem Vals.dropLast {xs:List V} {us:List Value} (h:Vals xs us):Vals xs.dropLast us.dropLast:=by
 induction h with
 | nil=>exact .nil
 | cons r t ih =>
  cases t with
  | nil=>exact .nil
  | cons q t'=>exact .cons r ih
theorem Vals.eraseIdx:∀ {xs:List V} {us:List Value} (i:Nat),Vals xs us→Vals (xs.eraseIdx i) (us.eraseIdx i)
 | _,_,_,.nil=>.nil
 | _,_,0,.cons _ t=>t
 | _,_,i+1,.cons r t=>.cons r (Vals.eraseIdx i t)
theorem Vals.reverse {xs:List V} {us:List Value} (h:Vals xs us):Vals xs.reverse us.reverse:=by
 induction h with
 | nil=>exact .nil
 | cons r t ih=>rw [List.reverse_cons,List.reverse_cons]; exact Vals.append ih (.cons r .nil)
theorem Vals.rep {xs:List V} {us:List Value} (h:Vals xs us):∀ k:Nat,Vals (List.replicate k xs).flatten (List.replicate k us).flatten
 | 0=>.nil
 | k+1=>by
  rw [List.replicate_succ,List.replicate_succ,List.flatten_cons,List.flatten_cons]
  exact Vals.append h (Vals.rep h k)
theorem erase_last {α:Type} (l:List α):l.eraseIdx (l.length - 1)=l.dropLast:=by
 induction l with
 | nil=>rfl
 | cons a r ih =>
  cases r with
  | nil=>rfl
  | cons b r =>
   have e:(a :: b :: r).length - 1=((b :: r).length - 1)+1:=by
    have h1:(a :: b :: r).length=r.length+2:=rfl
    have h2:(b :: r).length=r.length+1:=rfl
    omega
   rw [e,List.eraseIdx_cons_succ,ih]
   all_goals rfl
theorem len_erase {α:Type}:∀ (l:List α) (i:Nat),(l.eraseIdx i).length≤l.length
 | [],_=>Nat.le_refl _
 | _ :: _,0=>Nat.le_succ _
 | _ :: r,i+1=>Nat.succ_le_succ (len_erase r i)
theorem foldl_rep (its:List Value):∀ (k:Nat) (acc:List Value),
  List.foldl (fun x1 x2=>x1++x2) acc.toArray (List.replicate k its.toArray)=(acc++(List.replicate k its).flatten).toArray
 | 0,acc=>by simp
 | k+1,acc=>by
  have e:acc.toArray++its.toArray=(acc++its).toArray:=by simp
  have e2:(acc++its)++(List.replicate k its).flatten=acc++(List.replicate (k+1) its).flatten:=by
   rw [List.replicate_succ,List.flatten_cons,List.append_assoc]
  rw [←e2,←foldl_rep its k (acc++its),←e,List.replicate_succ,List.foldl_cons]
section
variable {X:Cx} {pins:List (Addr × Obj)} {σ:St} {H:Hp} {s:Shared} {l b:Addr} {xs ys zs:List V}
theorem Inv.lset {its its':List Value} {n:Nat} {f:Array Value→Array Value} {t':Nat} (I:Inv X pins σ H s) (hH:H l=some (.lst xs))
  (e:s.heap.get? l=some { cls:=.type "list",data:=.seq its.toArray n }) (hf:f its.toArray=its'.toArray) (hv:Vals ys its') (hz:ys.length≤sizeLine) :
  Inv X pins σ (upd H l (.lst ys)) { s with heap:=s.heap.update l (Obj.mapSeq f),toks:=t' }:=by
 have q:=PySem.IsL.update e f
 rw [hf] at q
 refine I.write (x:=l) (e:=l) (by rw [hH]; exact trivial) (.inl rfl) (fun b' u hb hu=>(Heap.get?_update_other s.heap (Obj.mapSeq f) (Ne.symm hb)).trans hu) ⟨_,q⟩ ?_
 exact ⟨hz,its',_,hv,q⟩
theorem Inv.lnew {its:List Value} {t':Nat} (I:Inv X pins σ H s) (hv:Vals ys its) (hz:ys.length≤sizeLine) :
  Inv X pins σ (upd H s.heap.objs.size (.lst ys)) { s with heap:=s.heap.push { cls:=.type "list",data:=.seq its.toArray },toks:=t' } :=
 I.laid (fun _ _ q=>Heap.get?_push_of_some _ q) (Nat.le_refl _) ⟨hz,its,0,hv,Heap.get?_push_size _ rfl⟩
theorem Inv.fresh (I:Inv X pins σ H s):H s.heap.objs.size=none:=I.hok.fresh (Nat.le_refl _)
theorem Inv.lstM (I:Inv X pins σ H s) (hH:H l=some (.lst xs)):xs.length≤sizeLine∧∃ (its:List Value) (n:Nat),Vals xs its∧xs.length=its.length∧s.heap.get? l=some { cls:=.type "list",data:=.seq its.toArray n }:=by
 obtain ⟨z,its,n,r,e⟩:=I.hok l _ hH
 exact ⟨z,its,n,r,r.length,e⟩
theorem notLongL {n:Nat} (h:n≤sizeLine):Builtin.List.listTooLong n=false:=by
 unfold Builtin.List.listTooLong
 exact decide_eq_false (by omega)
end
section
variable {X:Cx}
def rAppend:V→List V→Hp→VK→Prop:=fun x vs H Q=>∃ l xs y,x=.ref l∧vs=[y]∧H l=some (.lst xs)∧xs.length < sizeLine∧Q .non (upd H l (.lst (xs++[y])))
theorem mt_append:MtM X "list.append" rAppend:=by
 intro pins s σ H x vs v us Q I rx rv h
 obtain ⟨l,xs,y,rfl,rfl,hH,hz,q⟩:=h
 cases rx
 obtain ⟨u,rfl,ru⟩:=rv.one
 obtain ⟨z,its,n,r,hl,e⟩:=I.lstM hH
 refine call_meets F.slot_list_append ⟨_,e,rfl⟩ F.entry_list_append (F.args_list_append_2 _ _) (PySem.list_append l its.toArray n u (by rw [List.size_toArray]; omega)) ⟨e,?_⟩
 refine ⟨.non,_,I.lset (its':=its++[u]) hH e (by simp) (r.append (.cons ru .nil)) ?_,rfl,q⟩
 rw [List.length_append,List.length_singleton]
 omega
def rExtend:V→List V→Hp→VK→Prop:=fun x vs H Q=>∃ l b xs zs,x=.ref l∧vs=[.ref b]∧H l=some (.lst xs)∧H b=some (.lst zs)∧xs.length+zs.length≤sizeLine∧Q .non (upd H l (.lst (xs++zs)))
theorem mt_extend:MtM X "list.extend" rExtend:=by
 intro pins s σ H x vs v us Q I rx rv h
 obtain ⟨l,b,xs,zs,rfl,rfl,hH,hB,hz,q⟩:=h
 cases rx
 obtain ⟨u,rfl,ru⟩:=rv.one
 cases ru
 obtain ⟨z,its,n,r,hl,e⟩:=I.lstM hH
 obtain ⟨z2,its2,n2,r2,hl2,e2⟩:=I.lstM hB
 have hsz:its.toArray.size+its2.toArray.size≤sizeLine:=by rw [List.size_toArray,List.size_toArray]; omega
 have hlong:¬ (!its.toArray.isEmpty && Builtin.List.listTooLong (its.toArray.size+its2.toArray.size))=true:=by
  rw [notLongL hsz,Bool.and_false]
  exact Bool.false_ne_true
 refine call_meets F.slot_list_extend ⟨_,e,rfl⟩ F.entry_list_extend (F.args_list_extend_2 _ _)
  (AutoSeq1.list_extend_list_list_0 l its.toArray n b its2.toArray n2 hlong (by rw [List.size_toArray]; omega) (by omega)) ⟨e,e2,?_⟩
 refine ⟨.non,_,I.lset (its':=its++its2) hH e (by simp) (r.append r2) ?_,rfl,q⟩
 rw [List.length_append]
 omega
def rPop:V→List V→Hp→VK→Prop:=fun x vs H Q=>∃ l xs y,x=.ref l∧vs=[]∧H l=some (.lst xs)∧xs[xs.length - 1]? = some y∧Q y (upd H l (.lst xs.dropLast))
theorem mt_pop:MtM X "list.pop" rPop:=by
 intro pins s σ H x vs v us Q I rx rv h
 obtain ⟨l,xs,y,rfl,rfl,hH,hy,q⟩:=h
 cases rx
 have hus:=rv.zero
 subst hus
 obtain ⟨z,its,n,r,hl,e⟩:=I.lstM hH
 obtain ⟨u,hu,ru⟩:=r.get hy
 have hy':its.toArray[its.toArray.size - 1]? = some u:=by
  show its.toArray[its.length - 1]? = some u
  rw [←Array.getElem?_toList,←hl]
  exact hu
 refine call_meets F.slot_list_pop ⟨_,e,rfl⟩ F.entry_list_pop (F.args_list_pop_1 _) (MeetsSeq.list_pop_last l its.toArray n u hy' (by rw [List.size_toArray]; omega)) ⟨e,?_⟩
 refine ⟨y,_,I.lset (its':=its.dropLast) hH e ?_ r.dropLast ?_,ru,q⟩
 ·show its.toArray.eraseIdxIfInBounds (its.toArray.size - 1)=its.dropLast.toArray
  rw [List.size_toArray,List.eraseIdxIfInBounds_toArray,erase_last]
 ·rw [List.length_dropLast]
  omega
def rPopAt:V→List V→Hp→VK→Prop:=fun x vs H Q=>∃ l xs i k y,x=.ref l∧vs=[.int i]∧H l=some (.lst xs)∧-(2 ^ 63)≤i∧i < 2 ^ 63∧seqIndex? i xs.length=some k∧xs[k]? = some y∧Q y (upd H l (.lst (xs.eraseIdx k)))
theorem mt_popAt:MtM X "list.pop" rPopAt:=by
 intro pins s σ H x vs v us Q I rx rv h
 obtain ⟨l,xs,i,k,y,rfl,rfl,hH,h1,h2,hk,hy,q⟩:=h
 cases rx
 obtain ⟨u,rfl,ru⟩:=rv.one
 obtain ⟨t,rfl⟩:=ru
 obtain ⟨z,its,n,r,hl,e⟩:=I.lstM hH
 obtain ⟨w,hw,rw'⟩:=r.get hy
 refine call_meets F.slot_list_pop ⟨_,e,rfl⟩ F.entry_list_pop (F.args_list_pop_2 _ _)
  (MeetsSeq.list_pop_at l its.toArray n i t k w (fitsIndex_both h1 h2) (by rw [List.size_toArray,←hl]; exact hk) (by rw [←Array.getElem?_toList]; exact hw) (by rw [List.size_toArray]; omega)) ⟨e,?_⟩
 refine ⟨y,_,I.lset (its':=its.eraseIdx k) hH e ?_ (r.eraseIdx k) ?_,rw',q⟩
 ·show its.toArray.eraseIdxIfInBounds k=(its.eraseIdx k).toArray
  rw [List.eraseIdxIfInBounds_toArray]
 ·have:=len_erase xs k
  omega
def rReverse:V→List V→Hp→VK→Prop:=fun x vs H Q=>∃ l xs,x=.ref l∧vs=[]∧H l=some (.lst xs)∧Q .non (upd H l (.lst xs.reverse))
theorem mt_reverse:MtM X "list.reverse" rReverse:=by
 intro pins s σ H x vs v us Q I rx rv h
 obtain ⟨l,xs,rfl,rfl,hH,q⟩:=h
 cases rx
 have hus:=rv.zero
 subst hus
 obtain ⟨z,its,n,r,hl,e⟩:=I.lstM hH
 refine call_meets F.slot_list_reverse ⟨_,e,rfl⟩ F.entry_list_reverse (F.args_list_reverse_1 _) (AutoSeq1.list_reverse_list_0 l its.toArray n (by rw [List.size_toArray]; omega)) ⟨e,?_⟩
 refine ⟨.non,_,I.lset (its':=its.reverse) hH e (by simp) r.reverse ?_,rfl,q⟩
 rw [List.length_reverse]
 omega
def rClear:V→List V→Hp→VK→Prop:=fun x vs H Q=>∃ l xs,x=.ref l∧vs=[]∧H l=some (.lst xs)∧Q .non (upd H l (.lst []))
theorem mt_clear:MtM X "list.clear" rClear:=by
 intro pins s σ H x vs v us Q I rx rv h
 obtain ⟨l,xs,rfl,rfl,hH,q⟩:=h
 cases rx
 have hus:=rv.zero
 subst hus
 obtain ⟨z,its,n,r,hl,e⟩:=I.lstM hH
 refine call_meets F.slot_list_clear ⟨_,e,rfl⟩ F.entry_list_clear (F.args_list_clear_1 _) (AutoSeq1.list_clear_list_0 l its.toArray n (by rw [List.size_toArray]; omega)) ⟨e,?_⟩
 exact ⟨.non,_,I.lset (its':=[]) (ys:=[]) hH e rfl .nil (Nat.zero_le _),rfl,q⟩
def rCat:R2:=fun x y H Q=>∃ l b xs zs,x=.ref l∧y=.ref b∧H l=some (.lst xs)∧H b=some (.lst zs)∧xs.length+zs.length≤sizeLine∧∀ p,H p=none→Q (.ref p) (upd H p (.lst (xs++zs)))
theorem op_cat:OpR X (binaryOp .Add) rCat:=by
 intro pins s σ H x y v u Q I rx ry h
 obtain ⟨l,b,xs,zs,rfl,rfl,hH,hB,hz,q⟩:=h
 cases rx
 cases ry
 obtain ⟨z,its,n,r,hl,e⟩:=I.lstM hH
 obtain ⟨z2,its2,n2,r2,hl2,e2⟩:=I.lstM hB
 refine PySem.P.add_list e e2 ?_ (by rw [List.size_toArray,List.size_toArray]; omega)
 have ea:its.toArray++its2.toArray=(its++its2).toArray:=by simp
 rw [ea]
 exact ⟨.ref _,_,I.lnew (t':=s.toks) (r.append r2) (by rw [List.length_append]; omega),rfl,q _ I.fresh⟩
def rRep:R2:=fun x y H Q=>∃ l k xs,x=.ref l∧y=.int k∧H l=some (.lst xs)∧-(2 ^ 63)≤k∧k < 2 ^ 63∧xs.length * k.toNat≤sizeLine ∧
 ∀ p,H p=none→Q (.ref p) (upd H p (.lst (List.replicate k.toNat xs).flatten))
theorem len_rep {α:Type} (xs:List α) (k:Nat):(List.replicate k xs).flatten.length=k * xs.length:=by
 induction k with
 | zero=>simp
 | succ k ih=>rw [List.replicate_succ,List.flatten_cons,List.length_append,ih,Nat.succ_mul,Nat.add_comm]
theorem op_rep:OpR X (binaryOp .Mult) rRep:=by
 intro pins s σ H x y v u Q I rx ry h
 obtain ⟨l,k,xs,rfl,rfl,hH,h1,h2,hz,q⟩:=h
 cases rx
 obtain ⟨t,rfl⟩:=ry
 obtain ⟨z,its,n,r,hl,e⟩:=I.lstM hH
 have hlen:its.toArray.size * k.toNat≤sizeLine:=by rw [List.size_toArray,←hl]; exact hz
 have hcap:¬ its.toArray.size * k.toNat > (2 ^ 63 - 1) / 8:=by
  have:(sizeLine:Nat)≤(2 ^ 63 - 1) / 8:=by decide
  omega
 have hfit:¬ (!Builtin.List.listFitsIndex k)=true:=by
  rw [fitsIndex_both h1 h2]
  exact Bool.false_ne_true
 have hlong:¬ Builtin.List.listTooLong (its.toArray.size * k.toNat)=true:=by
  rw [notLongL hlen]
  exact Bool.false_ne_true
 have hnew:List.foldl (fun x1 x2=>x1++x2) #[] (List.replicate (if its.toArray.isEmpty=true then 0 else k.toNat) its.toArray)=(List.replicate k.toNat its).flatten.toArray:=by
  have f0:∀ m:Nat,List.foldl (fun x1 x2=>x1++x2) #[] (List.replicate m its.toArray)=(List.replicate m its).flatten.toArray:=fun m=>by
   have:=foldl_rep its m []
   rw [List.nil_append] at this
   exact this
  rw [f0]
  cases its with
  | nil=>simp
  | cons a r'=>rw [if_neg (by simp)]
 refine wpAny_binaryOp_repeat_ref (T:="list") (U:="int") (by decide) ⟨_,e,rfl⟩ (fun s'=>typeIs_int s' k t) noFill_list_mul F.fills_int_mul F.slot_int_rmul repeat_list F.slot_int_index.lookup
  (call_meets F.slot_int_rmul (typeIs_int s k t) F.entry_int_rmul (F.args_int_rmul_2 _ _) (int___rmul___int_list k t l its.toArray n)
   ⟨e,rfl,⟨_,e,rfl⟩,call_meets F.slot_list_mul ⟨_,e,rfl⟩ F.entry_list_mul (F.args_list_mul_2 _ _) (AutoListH.list___mul___list_int_3 l its.toArray n k t hfit hcap hlong) ⟨e,?_⟩⟩)
 rw [hnew]
 exact ⟨.ref _,_,I.lnew (t':=s.toks) (r.rep k.toNat) (by rw [len_rep,Nat.mul_comm]; exact hz),rfl,q _ I.fresh⟩
end
section
variable {prog:Program} {w:World} {A:Around} {E:Value→Shared→Prop} {s:Shared}
end
section
variable {X:Cx}
end
end L2
namespace Att
open PySem PySem.W PySem.Calls PyProof.Rows
theorem ints_of_wellAll {P:Params} {h:Heap}:∀ (ns:List Int) (vs:List Value),WellAll P h vs (ns.map WData.int)→IntsAre vs ns:=by
 intro ns
 induction ns with
 | nil =>
  intro vs w
  rw [List.map_nil] at w
  cases w
  exact .nil
 | cons n ns ih =>
  intro vs w
  rw [List.map_cons] at w
  cases w with
  | cons a b =>
   cases a
   exact .cons _ _ (ih _ b)
theorem script_of {l:OpenLaw} {n:Nat} (hn:l.most=some n) {P:Params} {h:Heap} {args:List WData} {vals:List Value}
  (hpre:l.row.toRowW.claim.pre args=true) (hwl:WellAll P h vals args) :
  ∃ a vs ns,vals=[Value.ref a]∧args=[WData.list (ns.map WData.int)]∧h.get? a=some { cls:=.type "list",data:=.seq vs.toArray }∧IntsAre vs ns∧ns.length≤n:=by
 have hsh:WShape.hasAll [] args [.list .int]=true:=(pre_splitW hpre).1
 have hc:l.pre.holds [] { args:=args }=true:=(pre_splitW hpre).2
 obtain ⟨d,r,rfl,h1,h2⟩:=hasAllW_cons hsh
 obtain rfl:=hasAllW_nil h2
 obtain ⟨xs,rfl,h3⟩:=hasW_list h1
 obtain ⟨ns,rfl⟩:=items_int h3
 have hlen:ns.length≤n:=by
  unfold OpenLaw.pre at hc
  have h4:(WTm.not (.lt (.lit (.int (n:Int))) (.len (.arg 0)))).holds [] { args:=[.list (ns.map .int)] }=true:=by
   have h4:=(holds_andW hc).1
   rw [hn] at h4
   exact h4
  have h5:=condW_of h4 (w_not (w_lt w_lit (w_len_list (w_arg rfl))))
  rw [List.length_map] at h5
  refine Nat.le_of_not_lt fun q=>?_
  have q':(n:Int) < ((ns.length:Nat):Int):=by omega
  first
   | (rw [decide_eq_true q'] at h5; exact absurd h5 (by decide))
   | (simp at h5; omega)
 cases hwl with
 | cons w1 w2 =>
  cases w2
  cases w1 with
  | list ho hall=>exact ⟨_,_,ns,rfl,rfl,ho,ints_of_wellAll ns _ hall,hlen⟩
theorem post_true (l:OpenLaw) (args:List WData):l.row.toRowW.claim.post args (.bool true) args=true :=
 postW_of (r:=l.row.toRowW) (X:=(true == true))
  (show WShape.has [] (.bool true) .bool=true by first | rfl | decide | simp [WShape.has,WShape.arms,WShape.armsAll])
  (show (WTm.eq .res (.lit (.bool true))).value [] { args:=args,res:=some (.bool true),after:=args }=some (.bool (true == true)) from w_eq_bool (w_res rfl) w_lit) rfl
theorem attach_call {l:OpenLaw} {n:Nat} {q:Program} {loose:List Str} {XP:(Str→Option Value)→Heap→Prop} {YP:World→Heap→Prop} {d:DefRec}
  (hn:l.most=some n) (hdf:d.params.defaults=[])
  (call:∀ (w:World) (s₀ s₁:Shared) (mg mb:Str→Option Value) (fa:Addr) (o:Obj) (pm cd doc:Value) (a:Addr) (vs:List Value) (ns:List Int),
   Ground q loose [] XP w s₀ mg mb s₁.heap→YP w s₁.heap →
   s₁.heap.get? fa=some o→o.data=.func (docDef d.name d.params d.body d.scope pm cd doc)→s₁.heap.CodeRec cd d.name→mg d.name=some (.ref fa) →
   s₁.heap.get? a=some { cls:=.type "list",data:=.seq vs.toArray }→IntsAre vs ns→ns.length≤n→s₁.gens=#[] →
   codeAny (model l.prog w) callerA (.call (.ref fa) ⟨[.ref a],[]⟩) (fun r s'=>r=.ok (.ret (.bool true))∧OldK s₁.heap s'.heap∧s'.os=s₁.os∧AllBare s'.gens) s₁) :
  WalkO q loose XP YP l.row.toRowW d [] (fun f vs=>PySem.call f vs):=by
 intro w s₀ s₁ mg mb G Y fa o pm cd doc dV kV ho hd hcd hD hmg hg args vals as hpre hlay hrd hwl hlo
 obtain rfl:dV=.none:=Dflts.none hD hdf
 obtain rfl:kV=.none:=Dflts.noKw hD
 obtain ⟨a,vs,ns,rfl,rfl,hobj,hints,hlen⟩:=script_of hn hpre hwl
 refine enter_call (codeAny_mono (call w s₀ s₁ mg mb fa o pm cd doc a vs ns G Y ho (fd_plain hd) hcd hmg hobj hints hlen hg) fun r s' hq=>?_)
 obtain ⟨rfl,h2,h3,h4⟩:=hq
 exact ⟨.inl ⟨.bool true,.bool true,[],rfl,fun _=>rfl,.bool true,post_true l _,fun _=>⟨List.Pairwise.nil,fun _ hm=>(nomatch hm)⟩⟩,h2,h3,h4⟩
section
variable {prog:Program} {w:World} {A:Around} {E:Value→Shared→Prop} {s:Shared} {K:Frag}
end
end Att
namespace L2
open PySem PySem.Spec PyProof.Rows
theorem vals_ints:∀ {vs:List Value} {ns:List Int},IntsAre vs ns→Vals (ns.map V.int) vs
 | _,_,.nil=>.nil
 | _,_,.cons n t h=>.cons ⟨t,rfl⟩ (vals_ints h)
def Only (H:Hp):Prop:=∀ b,H b=none ∨ ∃ o xs,H b=some (.frz o (.lst xs))
theorem law_call {P:Program} {w:World} {K:PySem.W.Frag} {mg mb:Str→Option Value} {CX:CXT} {k:Nat} {fa a:Addr} {fd:FuncData} {x:Str} {sp:Sp} {s₁:Shared} {vs:List Value} {ns:List Int}
  (KX:K.In s₁.heap) (hns:s₁.heap.Ns mainGlobals mg) (hb:s₁.heap.Ns builtinsNs mb) (hbb:∀ x:Str,x≠"__name__"→mb x=bootBuiltins x) (hlim:s₁.heap.NoLimit) (hg:s₁.gens=#[])
  (ha:s₁.heap.get? a=some { cls:=.type "list",data:=.seq vs.toArray }) (hi:IntsAre vs ns) (hl:ns.length≤sizeLine) (hr:Room k callerA)
  (F:∀ base:Heap,K.In base→base.Ns mainGlobals mg→FnOk P w K mg base CX k fa fd [x] sp) (hbind:∀ (s:Shared) (u:Value),BindsTo s fd ⟨[u],[]⟩ [(x,u)])
  (hsp:∀ H:Hp,Only H→SqL K H a (ns.map V.int)→sp [.ref a] H (fun v _=>v=.bl true) fun _ _ _=>False)
  (hCX:∀ H e s',CX [] H s₁ (fun _ _ _=>False) e s'→False) :
  codeAny (model P w) callerA (.call (.ref fa) ⟨[.ref a],[]⟩) (fun r s'=>r=.ok (.ret (.bool true))∧OldK s₁.heap s'.heap∧s'.os=s₁.os∧AllBare s'.gens) s₁:=by
 have rv:=vals_ints hi
 have lenV:=hi.length
 have core:∀ H:Hp,Only H→SqL K H a (ns.map V.int)→HOk P w H s₁.heap→(∀ b,H b≠none→b=a)→(H a≠none→K.lookup a=none) →
   codeAny (model P w) callerA (.call (.ref fa) ⟨[.ref a],[]⟩) (fun r s'=>r=.ok (.ret (.bool true))∧OldK s₁.heap s'.heap∧s'.os=s₁.os∧AllBare s'.gens) s₁:=by
  intro H hO hS hok hA hK
  have base_of:∀ {b:Addr} {o:Obj},s₁.heap.get? b=some o→H b=none→(hidT s₁.heap H).get? b=some o:=fun e n=>hidT_get e n
  have noA:∀ {b:Addr} {o:Obj} {es:Array DictEntry} {ep:Nat},s₁.heap.get? b=some o→o.data=.dict es ep→H b=none:=fun {b o es ep} e d=>by
   cases q:H b with
   | none=>rfl
   | some u =>
    have e':b=a:=hA b (by rw [q]; simp)
    subst e'
    rw [ha] at e; cases e
    have d':Data.seq vs.toArray _=Data.dict es ep:=d
    cases d'
  have nsK:∀ {b:Addr} {m:Str→Option Value},s₁.heap.Ns b m→(hidT s₁.heap H).Ns b m:=fun {b m} ⟨o,es,ep,e,d,r⟩=>⟨o,es,ep,base_of e (noA e d),d,r⟩
  have hKb:K.In (hidT s₁.heap H):=fun b o e=>base_of (KX b o e) (by
   cases q:H b with
   | none=>rfl
   | some u =>
    have e':b=a:=hA b (by rw [q]; simp)
    subst e'
    rw [hK (by rw [q]; simp)] at e; cases e)
  have hM:Mod K mg (hidT s₁.heap H):=⟨hKb,nsK hns,⟨mb,nsK hb,hbb⟩,let ⟨mc,h1,h2⟩:=hlim; ⟨mc,nsK h1,h2⟩⟩
  have e0:Env0 P w K mg (hidT s₁.heap H) callerA [] s₁ H:=⟨rfl,hM,fun b o e=>of_hidT e,Nat.le_of_eq (hidT_size _ _),trivial,fun b hb=>absurd (show b ∈ ([]:List Addr) from hb) (by simp),hok,.of_eq hg⟩
  refine codeAny_mono ((F _ hKb (nsK hns)).run callerA [] s₁ H ⟨[.ref a],[]⟩ [.ref a] [.ref a] _ _ hr e0 (hbind s₁ (.ref a)) (.cons rfl .nil) (hsp H hO hS)) fun r s' h=>?_
  cases r with
  | error e=>exact (hCX H e s' h).elim
  | ok fl =>
   cases fl with
   | next=>exact False.elim h
   | brk=>exact False.elim h
   | cont=>exact False.elim h
   | ret u =>
    obtain ⟨v,H',os,bare,un,hok',r',q⟩:=h
    have q':v=.bl true:=q
    subst q'
    obtain rfl:u=Value.bool true:=r'
    refine ⟨rfl,OldK.of_keep fun b o e=>?_,os,bare⟩
    cases q:H b with
    | none=>exact un.keep b o e q (by intro z; exact absurd (show b ∈ ([]:List Addr) from z) (by simp)) (by simp)
    | some u =>
     rcases hO b with z | ⟨ob,xs,z⟩
     ·rw [q] at z; cases z
     ·have z2:=un.frzs b ob _ z
      obtain ⟨e1,_⟩:=hok b _ z
      obtain ⟨e2,_⟩:=hok' b _ z2
      rw [e] at e1; cases e1
      exact e2
 cases hk:K.lookup a with
 | some o =>
  have e:=KX a o hk
  rw [ha] at e
  cases e
  refine core (fun _=>none) (fun _=>.inl rfl) (.inr ⟨_,vs.toArray,_,hk,rfl,rfl,rfl,by rw [List.size_toArray,lenV]; exact hl,by simpa using rv⟩) (fun b u z=>by have z':(none:Option HO)=some u:=z; cases z') (fun b z=>absurd rfl z) fun z=>absurd rfl z
 | none =>
  refine core (fun b=>if b=a then some (.frz { cls:=.type "list",data:=.seq vs.toArray } (.lst (ns.map V.int))) else none) (fun b=>?_) (.inl (.inr ⟨{ cls:=.type "list",data:=.seq vs.toArray },if_pos rfl⟩)) (fun b u z=>?_) (fun b z=>?_) fun _=>hk
  ·by_cases hb:b=a
   ·exact .inr ⟨_,_,if_pos hb⟩
   ·exact .inl (if_neg hb)
  ·by_cases hb:b=a
   ·have z':=(if_pos hb).symm.trans z
    cases z'
    subst hb
    exact ⟨ha,by rw [List.length_map]; exact hl,vs,_,rv,ha⟩
   ·have z':=(if_neg hb).symm.trans z
    cases z'
  ·by_cases hb:b=a
   ·exact hb
   ·exact absurd (if_neg hb) z
end L2
namespace L2
open PySem PySem.Spec PyProof.Rows
theorem walk_of {l:PySem.W.OpenLaw} {n k:Nat} {q:Program} {loose:List Str} {XP:(Str→Option Value)→Heap→Prop} {YP:World→Heap→Prop} {d:DefRec} {K:Params→PySem.W.Frag} {CX:World→CXT} {sp:World→Sp} {x:Str}
  (hn:l.most=some n) (hn2:n≤sizeLine) (hdf:d.params.defaults=[]) (hr:Room k callerA)
  (hY:∀ (w:World) (h:Heap),YP w h→(K w.params).In h)
  (F:∀ (w:World) (mg:Str→Option Value) (fa:Addr) (h:Heap),(K w.params).In h→h.Ns mainGlobals mg→mg d.name=some (.ref fa) →
   ∃ fd:FuncData,(∀ (s:Shared) (u:Value),BindsTo s fd ⟨[u],[]⟩ [(x,u)]) ∧
    ∀ base:Heap,(K w.params).In base→base.Ns mainGlobals mg→FnOk l.prog w (K w.params) mg base (CX w) k fa fd [x] (sp w))
  (hsp:∀ (w:World) (H:Hp) (a:Addr) (ns:List Int),ns.length≤n→Only H→SqL (K w.params) H a (ns.map V.int)→sp w [.ref a] H (fun v _=>v=.bl true) fun _ _ _=>False)
  (hCX:∀ (w:World) (H:Hp) (s:Shared) (e:Value) (s':Shared),CX w [] H s (fun _ _ _=>False) e s'→False) :
  PySem.W.WalkO q loose XP YP l.row.toRowW d [] (fun f vs=>PySem.call f vs):=by
 refine Att.attach_call hn hdf fun w s₀ s₁ mg mb fa o pm cd doc a vs ns G Y ho hd hcd hmg hobj hints hlen hg=>?_
 have KX:=hY w _ Y
 obtain ⟨fd,hb,hF⟩:=F w mg fa _ KX G.T.g hmg
 exact law_call KX G.T.g G.T.b G.T.builtins G.T.nolimit hg hobj hints (Nat.le_trans hlen hn2) hr hF hb (fun H hO hS=>hsp w H a ns hlen hO hS) fun H e s'=>hCX w H s₁ e s'
end L2
namespace L2
open PySem PySem.Spec PyProof.Rows
def defArgs (s:Stmt):Arguments:=match s with
 | .FunctionDef _ a _ _ _ _ _ _ _ _=>a
 | _=>{ posonlyargs:=[],args:=[],vararg:=none,kwonlyargs:=[],kw_defaults:=[],kwarg:=none,defaults:=[] }
def defBody (s:Stmt):List Stmt:=match s with
 | .FunctionDef _ _ b _ _ _ _ _ _ _=>b
 | _=>[]
def defScope (s:Stmt):Scope:=match s with
 | .FunctionDef _ _ _ _ _ _ sc _ _ _=>sc
 | _=>{ kind:=.function,names:=[],isGenerator:=false,isCoroutine:=false }
abbrev CX0:CXT:=fun _ _ _ _ _ _=>False
abbrev E0:XK:=fun _ _ _=>False
theorem pass0 {X:Cx}:Passes CX0 X E0:=fun _ _ _ _ _ _ _ h=>h.elim
structure Fun (K:PySem.W.Frag) (x qual:Str) (st:Stmt) (f:Addr) (fd:FuncData):Prop where
 ex:∃ (oc:Value) (od:Option Addr) (kV doc pm:Value) (an:Option Addr) (cdv ct:Value) (osl:Array (Option Value)),
  fd=PySem.W.fnOf x qual (defArgs st) (defBody st) (defScope st) .none kV doc pm an cdv ct∧K.lookup f=some ⟨oc,od,.func fd,osl⟩∧PySem.W.codeIn K cdv qual=true
 kp:PySem.W.keepIn K (.ref f)=true
section
variable {P:Program} {w:World} {K:PySem.W.Frag} {mg:Str→Option Value} {base:Heap}
theorem Fun.ok {x qual:Str} {st:Stmt} {f:Addr} {fd:FuncData} {N ps:List Str} {k:Nat} {sp:Sp} (F:Fun K x qual st f fd) (S:FnScope N ps (defScope st)) (len:∀ vs H Q E,sp vs H Q E→vs.length=ps.length)
  (hbody:∀ (cdv:Value) (A:Around) (outer:List Env) (s:Shared) (H:Hp) (vs:List V) (Q:VK) (E:XK),Room k (A.deeper (envOfC qual (defScope st) s.heap.objs.size f cdv))→sp vs H Q E →
   ∃ t,PSs (cxOf CX0 P w K mg base N qual (defScope st) f cdv A outer s H E).nox (defBody st) t∧t { nx:=fun _ H'=>Q .non H',rt:=Q } (start N vs) H):FnOk P w K mg base CX0 (k+1) f fd ps sp:=by
 obtain ⟨oc,od,kV,doc,pm,an,cdv,ct,osl,rfl,lk,hcd⟩:=F.ex
 refine fn_of lk hcd S len fun A outer s H vs Q E hr hsp=>?_
 obtain ⟨t,h,q⟩:=hbody cdv A outer s H vs Q E hr hsp
 exact ⟨t,h.nox,q⟩
theorem Fun.binds {x qual:Str} {st:Stmt} {f:Addr} {fd:FuncData} {ps:List Str} (F:Fun K x qual st f fd)
  (h:∀ (kV doc pm:Value) (an:Option Addr) (cdv ct:Value) (us:List Value),us.length=ps.length→bindArgs (PySem.W.fnOf x qual (defArgs st) (defBody st) (defScope st) .none kV doc pm an cdv ct) ⟨us,[]⟩=pure (ps.zip us)):Binds K fd ps []:=by
 obtain ⟨oc,od,kV,doc,pm,an,cdv,ct,osl,rfl,lk,hcd⟩:=F.ex
 exact .all (h kV doc pm an cdv ct)
theorem fun_mk {x qual:Str} {st:Stmt} {f:Addr} {oc:Value} {od an:Option Addr} {osl:Array (Option Value)} {kV doc pm cdv ct:Value} (l:K.lookup f=some ⟨oc,od,.func (PySem.W.fnOf x qual (defArgs st) (defBody st) (defScope st) .none kV doc pm an cdv ct),osl⟩)
  (c:PySem.W.codeIn K cdv qual=true) (k:PySem.W.keepIn K (.ref f)=true):Fun K x qual st f (PySem.W.fnOf x qual (defArgs st) (defBody st) (defScope st) .none kV doc pm an cdv ct):=⟨⟨oc,od,kV,doc,pm,an,cdv,ct,osl,rfl,l,c⟩,k⟩
end
theorem small1000 {n:Nat} (h:n≤1000):n < sizeLine:=Nat.lt_of_le_of_lt h (by decide)
section
variable {X:Cx}
theorem pv (i:Nat) {x:Str} {pos:Pos} (hN:X.N[i]? = some x:=by rfl) (hv:Vis X.env.scope x:=by first | exact Or.inl rfl | exact Or.inr (Or.inl rfl) | exact Or.inr (Or.inr rfl)) (hd:(x == ("__debug__" : Str))=false:=by decide)
  (hcd:(x == ("__classdict__" : Str))=false:=by decide):PE X (.Name x pos) (tVar i):=pe_var hN hv hd hcd
end
theorem iteF {A B:Prop} (h:B):if false=true then A else B:=by
 rw [if_neg Bool.false_ne_true]
 exact h
theorem iteT {A B:Prop} (h:A):if true=true then A else B:=by
 rw [if_pos rfl]
 exact h
theorem ite2 {c A B:Prop} [Decidable c] (h1:c→A) (h2:¬ c→B):if c then A else B:=by
 by_cases h:c
 ·rw [if_pos h]
  exact h1 h
 ·rw [if_neg h]
  exact h2 h
theorem iteNS {c A B:Prop} [Decidable c] (hc:c) (h:B):if (!decide c)=true then A else B:=by
 rw [decide_eq_true hc]
 exact iteF h
def Same (H H':Hp):Prop:=∀ b o,H b=some o→H' b=some o
theorem Same.refl (H:Hp):Same H H:=fun _ _ h=>h
theorem Same.trans {H H1 H2:Hp} (a:Same H H1) (b:Same H1 H2):Same H H2:=fun c o h=>b c o (a c o h)
theorem Same.free {H H':Hp} (e:Same H H') {l:Addr} (h:H' l=Option.none):H l=Option.none:=by
 cases q:H l with
 | none=>rfl
 | some o =>
  rw [e l o q] at h
  cases h
theorem Same.seq {K:PySem.W.Frag} {H H':Hp} {a:Addr} {xs:List V} (e:Same H H') (h:SqL K H a xs):SqL K H' a xs:=by
 rcases h with (h | ⟨o,h⟩) | h
 ·exact .inl (.inl (e _ _ h))
 ·exact .inl (.inr ⟨o,e _ _ h⟩)
 ·exact .inr h
end L2
set_option maxHeartbeats 4000000
set_option exponentiation.threshold 2000
namespace L2
open PySem PySem.Spec PyProof.Rows
section
variable {X:Cx}
theorem bits_le {i:Int} {n:Nat} (h:i.natAbs < 2 ^ n):Builtin.Int.intBits i≤n:=by
 by_cases hz:i=0
 ·subst hz
  have e:Builtin.Int.intBits 0=0:=by decide
  rw [e]
  exact Nat.zero_le _
 ·have h0:i.natAbs≠0:=by omega
  have:=(Nat.log2_lt h0).mpr h
  unfold Builtin.Int.intBits
  split
  ·exact Nat.zero_le _
  ·omega
theorem call_isinst:CallR X (.builtin "isinstance") (fun xs H Q=>∃ x t n b,xs=[x,.ty n]∧TyOf X.K H x t∧PySem.W.kitOne X.K t (.type n)=some b∧Q (.bl b) H):=by
 intro pins s σ H xs us Q I r h
 obtain ⟨x,t,n,b,rfl,ty,e,q⟩:=h
 obtain ⟨u,w',rfl,ru,rw'⟩:=vals2 r
 cases (show w'=Value.type n from rw')
 exact isinst_ok I ru ty e fun tk=>⟨.bl b,H,I.tok _,rfl,q⟩
mutual
inductive DA (K:PySem.W.Frag) (ok:Addr→Prop) (H:Hp):V→PyData→Prop
 | non:DA K ok H .non .none
 | bl (b:Bool):DA K ok H (.bl b) (.bool b)
 | int (i:Int):DA K ok H (.int i) (.int i)
 | str (x:Str):DA K ok H (.str x) (.str x)
 | lst {a:Addr} {vs:List V} {ds:List PyData}:ok a→SqL K H a vs→DAs K ok H vs ds→DA K ok H (.ref a) (.list ds)
 | tup {a:Addr} {vs:List V} {ds:List PyData}:ok a→SqT K H a vs→DAs K ok H vs ds→DA K ok H (.ref a) (.tuple ds)
inductive DAs (K:PySem.W.Frag) (ok:Addr→Prop) (H:Hp):List V→List PyData→Prop
 | nil:DAs K ok H [] []
 | cons {v:V} {d:PyData} {vs:List V} {ds:List PyData}:DA K ok H v d→DAs K ok H vs ds→DAs K ok H (v :: vs) (d :: ds)
end
abbrev any (_:Addr):Prop:=True
def Keep (ok:Addr→Prop) (H H':Hp):Prop:=∀ b o,ok b→H b=some o→H' b=some o
theorem Same.keep {ok:Addr→Prop} {H H':Hp} (e:Same H H'):Keep ok H H':=fun b o _ h=>e b o h
theorem Keep.seq {K:PySem.W.Frag} {ok:Addr→Prop} {H H':Hp} {a:Addr} {xs:List V} (e:Keep ok H H') (n:ok a) (h:SqL K H a xs):SqL K H' a xs:=by
 rcases h with (h | ⟨o,h⟩) | h
 ·exact .inl (.inl (e _ _ n h))
 ·exact .inl (.inr ⟨o,e _ _ n h⟩)
 ·exact .inr h
theorem Keep.seqT {K:PySem.W.Frag} {ok:Addr→Prop} {H H':Hp} {a:Addr} {xs:List V} (e:Keep ok H H') (n:ok a) (h:SqT K H a xs):SqT K H' a xs:=by
 rcases h with (h | ⟨o,h⟩) | h
 ·exact .inl (.inl (e _ _ n h))
 ·exact .inl (.inr ⟨o,e _ _ n h⟩)
 ·exact .inr h
theorem Same.upd {H:Hp} {p:Addr} {o:HO} (h:H p=none):Same H (upd H p o):=fun b u e=>by rw [upd_ne (ne_of_none e h)]; exact e
mutual
theorem DA.mono {K:PySem.W.Frag} {ok ok':Addr→Prop} {H H':Hp} (e:Keep ok H H') (m:∀ a,ok a→ok' a):∀ {v:V} {d:PyData},DA K ok H v d→DA K ok' H' v d
 | _,_,.non=>.non
 | _,_,.bl b=>.bl b
 | _,_,.int i=>.int i
 | _,_,.str x=>.str x
 | _,_,.lst n s r=>.lst (m _ n) (e.seq n s) (DAs.mono e m r)
 | _,_,.tup n s r=>.tup (m _ n) (e.seqT n s) (DAs.mono e m r)
theorem DAs.mono {K:PySem.W.Frag} {ok ok':Addr→Prop} {H H':Hp} (e:Keep ok H H') (m:∀ a,ok a→ok' a):∀ {v:List V} {d:List PyData},DAs K ok H v d→DAs K ok' H' v d
 | _,_,.nil=>.nil
 | _,_,.cons a r=>.cons (DA.mono e m a) (DAs.mono e m r)
end
mutual
theorem DA.reads {ok:Addr→Prop} {pins:List (Addr × Obj)} {σ:St} {H:Hp} {s:Shared} (I:Inv X pins σ H s):∀ {v:V} {d:PyData} {u:Value},DA X.K ok H v d→RelV v u→∃ as,Reads s.heap u d as
 | _,_,_,.non,r=>by cases r; exact ⟨_,.none⟩
 | _,_,_,.bl b,r=>by cases r; exact ⟨_,.bool b⟩
 | _,_,_,.int i,r=>by obtain ⟨t,rfl⟩:=r; exact ⟨_,.int i t⟩
 | _,_,_,.str x,r=>by obtain ⟨t,rfl⟩:=r; exact ⟨_,.str x t⟩
 | _,_,_,.lst _ h q,r=>by
  cases r
  obtain ⟨its,rv,⟨o,n,e,c,_,d⟩,_⟩:=I.list h
  obtain ⟨as,p⟩:=DAs.reads I q rv
  exact ⟨_,.list e c d (by simpa using p)⟩
 | _,_,_,.tup _ h q,r=>by
  cases r
  obtain ⟨its,rv,⟨o,e,c,n,d⟩,_⟩:=I.tuple h
  obtain ⟨as,p⟩:=DAs.reads I q rv
  exact ⟨_,.tuple e c d (by simpa using p)⟩
theorem DAs.reads {ok:Addr→Prop} {pins:List (Addr × Obj)} {σ:St} {H:Hp} {s:Shared} (I:Inv X pins σ H s):∀ {v:List V} {d:List PyData} {u:List Value},DAs X.K ok H v d→Vals v u→∃ as,ReadsAll s.heap u d as
 | _,_,_,.nil,r=>by cases r; exact ⟨_,.nil⟩
 | _,_,_,.cons a q,r=>by
  cases r with
  | cons r1 r2 =>
   obtain ⟨as,p⟩:=DA.reads I a r1
   obtain ⟨bs,p'⟩:=DAs.reads I q r2
   exact ⟨_,.cons p p'⟩
end
def rEqD (K:PySem.W.Frag):R2:=fun x y H Q=>∃ d e,DA K any H x d∧DA K any H y e∧(d.canLay0=true∧e.canLay0=true∧d.depth≤64)∧Q (.bl (PyData.eqv d e)) H
def rNeD (K:PySem.W.Frag):R2:=fun x y H Q=>∃ d e,DA K any H x d∧DA K any H y e∧(d.canLay0=true∧e.canLay0=true∧d.depth≤64)∧Q (.bl (!PyData.eqv d e)) H
theorem op_eqD (hu:X.A.units+64 < cLine):OpR X (compareOp .Eq) (rEqD X.K):=by
 intro pins s σ H x y v u Q I rx ry h
 obtain ⟨d,e,hd,he,⟨l1,l2,l3⟩,q⟩:=h
 obtain ⟨as,p1⟩:=hd.reads I rx
 obtain ⟨bs,p2⟩:=he.reads I ry
 exact PySem.SeqAt.compareEq_reads p1 p2 l1 l2 (by omega) ⟨.bl _,H,I,rfl,q⟩
theorem op_neD (hu:X.A.units+64 < cLine):OpR X (compareOp .NotEq) (rNeD X.K):=by
 intro pins s σ H x y v u Q I rx ry h
 obtain ⟨d,e,hd,he,⟨l1,l2,l3⟩,q⟩:=h
 obtain ⟨as,p1⟩:=hd.reads I rx
 obtain ⟨bs,p2⟩:=he.reads I ry
 exact PySem.SeqAt.compareNe_reads p1 p2 l1 l2 (by omega) ⟨.bl _,H,I,rfl,q⟩
end
theorem iteNP {c A B:Prop} [Decidable c] (hc:¬ c) (h:A):if (!decide c)=true then A else B:=by
 rw [decide_eq_false hc]
 exact iteT h
theorem itDP {c A B:Prop} [Decidable c] (hc:c) (h:A):if decide c=true then A else B:=by
 rw [decide_eq_true hc]
 exact iteT h
theorem itDN {c A B:Prop} [Decidable c] (hc:¬ c) (h:B):if decide c=true then A else B:=by
 rw [decide_eq_false hc]
 exact iteF h
structure Dn (K:PySem.W.Frag) (mg:Str→Option Value) (x:Str) (st:Stmt) (ps:List Str) (f:Addr) (fd:FuncData):Prop where
 fn:Fun K x x st f fd
 gl:mg x=some (.ref f)
 bd:Binds K fd ps []
section
variable {X:Cx} {k:Nat} {f:Addr} {fd:FuncData} {x:Str} {st:Stmt} {ps:List Str} {sp:Sp} {e:Expr} {es:List Expr} {p pos:Pos} {t:TA}
theorem pe_fn (D:Dn X.K X.mg x st ps f fd) (G:FnOk X.prog X.w X.K X.mg X.base CX0 k f fd ps sp) (hr:Room k X.A) (hg:Gl X x) (ha:PA X (e :: es) t) (hdb:(x == ("__debug__" : Str))=false:=by decide)
  (hs:starEach (e :: es) X.env=(false,eval e X.env) :: starEach es X.env:=by rfl) (hpl:(backTo pos (starEach es X.env)).any (·.1)=false:=by rfl):PE X (.Call (.Name x p) (e :: es) [] pos) (tCall sp [] E0 t) :=
 pe_call G hr hg D.gl D.fn.kp D.bd .nil pass0 ha hdb hs hpl
end
end L2
namespace L2
open PySem PySem.Spec PyProof.Rows
def blkN (N:List Str) (x:Str):List Str:=N.map (fun y=>if y=x then Str.empty else y)++[x]
def clOf (cells:List (Str × Addr)):List (Str × NameKind)→List (Str × Addr)→List (Str × Addr)
 | [],acc=>acc
 | (n,k) :: r,acc=>clOf cells r (if (k == .free)=true then (match cells.lookup n with | some c=>(n,c) :: acc | none=>acc) else acc)
structure LcScope (S:Scope) (N:List Str) (sc:Scope) (x:Str):Prop where
 uniq:(sc.names.map (·.1)).Nodup
 kind:sc.kind=.function
 names:∀ y ∈ sc.names,y.2=.local→sc.names.lookup y.1=some .local
 loc:sc.names.lookup x=some .local ∨ sc.names.lookup x=some .cell
 free:∀ y ∈ sc.names,y.2=.free→S.names.lookup y.1=some .cell ∨ S.names.lookup y.1=some .free
 only:∀ y ∈ sc.names,y.2=.local→y.1=x ∨ y.1 = ".0"
 onlyC:∀ y ∈ sc.names,y.2=.cell→y.1=x
 ne:∀ y ∈ sc.names,y.1≠Str.empty
 dot:∀ y ∈ N,y≠".0"
 nd:(blkN N x).Nodup
theorem lookup_relab {c:Str→NameKind→Bool} {y:Str}:∀ (names:List (Str × NameKind)),(names.map fun (n,k)=>if c n k=true then (n,NameKind.cell) else (n,k)).lookup y=(names.lookup y).map fun k=>if c y k=true then NameKind.cell else k
 | []=>rfl
 | (n,k) :: r=>by
  have ih:=lookup_relab (c:=c) (y:=y) r
  show List.lookup y ((if c n k=true then (n,NameKind.cell) else (n,k)) :: _)=_
  cases hx:y == n with
  | true =>
   have e:y=n:=by simpa using hx
   subst e
   by_cases hc:c y k=true
   ·rw [if_pos hc]; simp [List.lookup_cons,hc]
   ·rw [if_neg hc]; simp [List.lookup_cons,hc]
  | false =>
   by_cases hc:c n k=true
   ·rw [if_pos hc]; simp only [List.lookup_cons,hx]; exact ih
   ·rw [if_neg hc]; simp only [List.lookup_cons,hx]; exact ih
theorem relab_lookup {sc:Scope} {env:Env} {y:Str} {k:NameKind} (h:(relabel sc env).names.lookup y=some k):∃ k0,(y,k0) ∈ sc.names∧(k=k0 ∨ (k=.cell∧k0=.free)):=by
 have e:=lookup_relab (c:=fun n k=>k == NameKind.free && env.scope.kind == .function && env.kindOf n == some .cell) (y:=y) sc.names
 have h':(sc.names.map fun (n,k)=>if (k == NameKind.free && env.scope.kind == .function && env.kindOf n == some .cell)=true then (n,NameKind.cell) else (n,k)).lookup y=some k:=h
 rw [e] at h'
 cases q:sc.names.lookup y with
 | none=>rw [q] at h'; cases h'
 | some k0 =>
  rw [q] at h'
  refine ⟨k0,PySem.mem_of_lookup q,?_⟩
  have h'':(if (k0 == NameKind.free && env.scope.kind == .function && env.kindOf y == some .cell)=true then NameKind.cell else k0)=k:=Option.some.inj h'
  by_cases hc:(k0 == NameKind.free && env.scope.kind == .function && env.kindOf y == some .cell)=true
  ·rw [if_pos hc] at h''
   refine .inr ⟨h''.symm,?_⟩
   have:=(Bool.and_eq_true_iff.mp (Bool.and_eq_true_iff.mp hc).1).1
   simpa using this
  ·rw [if_neg hc] at h''
   exact .inl h''.symm
theorem clOf_sub {cells:List (Str × Addr)}:∀ (names:List (Str × NameKind)) (acc:List (Str × Addr)),(∀ y c,acc.lookup y=some c→cells.lookup y=some c)→∀ y c,(clOf cells names acc).lookup y=some c→cells.lookup y=some c
 | [],_,h=>h
 | (n,k) :: r,acc,h=>by
  refine clOf_sub r _ fun y c=>?_
  by_cases hk:(k == NameKind.free)=true
  ·rw [if_pos hk]
   cases q:cells.lookup n with
   | none=>exact h y c
   | some d =>
    intro e
    show cells.lookup y=some c
    have e':List.lookup y ((n,d) :: acc)=some c:=e
    rw [List.lookup_cons] at e'
    cases hx:y == n with
    | true =>
     rw [hx] at e'
     have:y=n:=by simpa using hx
     subst this
     rw [q]; exact e'
    | false =>
     rw [hx] at e'
     exact h y c e'
  ·rw [if_neg hk]
   exact h y c
theorem clOf_acc {cells:List (Str × Addr)} {y:Str}:∀ (names:List (Str × NameKind)) (acc:List (Str × Addr)),(acc.lookup y).isSome=true→((clOf cells names acc).lookup y).isSome=true
 | [],_,h=>h
 | (n,k) :: r,acc,h=>by
  refine clOf_acc r _ ?_
  by_cases hk:(k == NameKind.free)=true
  ·rw [if_pos hk]
   cases q:cells.lookup n with
   | none=>exact h
   | some d =>
    show (List.lookup y ((n,d) :: acc)).isSome=true
    rw [List.lookup_cons]
    cases hx:y == n with
    | true=>rfl
    | false=>exact h
  ·rw [if_neg hk]; exact h
theorem clOf_has {cells:List (Str × Addr)} {y:Str} (hc:(cells.lookup y).isSome=true):∀ (names:List (Str × NameKind)) (acc:List (Str × Addr)),(y,NameKind.free) ∈ names→((clOf cells names acc).lookup y).isSome=true
 | (n,k) :: r,acc,h=>by
  rcases List.mem_cons.mp h with e | h
  ·cases e
   refine clOf_acc r _ ?_
   rw [if_pos (by rfl)]
   obtain ⟨c,q⟩:=Option.isSome_iff_exists.mp hc
   rw [q]
   show (List.lookup y ((y,c) :: acc)).isSome=true
   rw [List.lookup_cons,beq_self_eq_true]
   rfl
  ·exact clOf_has hc r _ h
theorem cellOf_some {env:Env} {y:Str} {c:Addr} (h:env.cells.lookup y=some c):cellOf env y=pure c:=by
 unfold cellOf
 rw [h]
theorem closure_of {sc:Scope} {env:Env} (h:∀ y ∈ sc.names,y.2=.free→(env.cells.lookup y.1).isSome=true):closureFor sc env=pure (clOf env.cells sc.names []):=by
 have all:∀ (names:List (Str × NameKind)) (acc:List (Str × Addr)),(∀ y ∈ names,y.2=.free→(env.cells.lookup y.1).isSome=true) →
   (forIn names acc fun (x:Str × NameKind) (cs:List (Str × Addr))=>(do
    let (name,kind):=x
    if (kind == .free)=true then let c ← cellOf env name; pure (ForInStep.yield ((name,c) :: cs)) else pure (ForInStep.yield cs):Sem (ForInStep (List (Str × Addr)))))=pure (clOf env.cells names acc):=by
  intro names
  induction names with
  | nil=>intro acc _; rfl
  | cons a r ih =>
   intro acc hh
   obtain ⟨n,k⟩:=a
   rw [List.forIn_cons]
   by_cases hk:(k == NameKind.free)=true
   ·obtain ⟨c,q⟩:=Option.isSome_iff_exists.mp (hh (n,k) List.mem_cons_self (by simpa using hk))
    simp only [hk,if_true,cellOf_some q,pure_bind]
    rw [ih _ fun y hy=>hh y (List.mem_cons_of_mem _ hy)]
    show pure (clOf env.cells r ((n,c) :: acc))=pure (clOf env.cells r (if (k == NameKind.free)=true then _ else acc))
    rw [if_pos hk,q]
   ·simp only [hk,Bool.false_eq_true,if_false,pure_bind]
    rw [ih _ fun y hy=>hh y (List.mem_cons_of_mem _ hy)]
    show pure (clOf env.cells r acc)=pure (clOf env.cells r (if (k == NameKind.free)=true then _ else acc))
    rw [if_neg hk]
 unfold closureFor
 first
  | exact (congrArg (fun z=>z >>= pure) (all sc.names [] h)).trans (by simp)
  | (have e:=all sc.names [] h
     simp only [bind_pure] at e ⊢
     exact e)
def ownC (sc:Scope) (x:Str) (n:Nat):List (Str × Addr):=if sc.names.lookup x=some .cell then [(x,n)] else []
def Cx.blk (X:Cx) (N':List Str) (sc:Scope) (x:Str) (s₀:Shared) (H₀:Hp) (fp:List Addr):Cx :=
 { X with N:=N',s₀:=s₀,H₀:=H₀,env:=compEnvC sc (ownC sc x (s₀.heap.objs.size+1)++clOf X.env.cells sc.names []) s₀.heap.objs.size X.env,outer:=X.stack,stack:=X.stack,ex:=fp,fn:=fun y=>decide (y=x∧sc.names.lookup x=some .cell),pn:=[],xe:=fun _ _=>False }
theorem lookup_mem {α:Type}:∀ {l:List (Str × α)} {y:Str} {k:α},(l.map (·.1)).Nodup→(y,k) ∈ l→l.lookup y=some k
 | (n,v) :: r,y,k,nd,h=>by
  rw [List.lookup_cons]
  have nd':(n :: r.map (·.1)).Nodup:=nd
  obtain ⟨h1,h2⟩:=List.nodup_cons.mp nd'
  rcases List.mem_cons.mp h with e | h
  ·cases e
   rw [beq_self_eq_true]
  ·have ne:(y == n)=false:=by
    rw [beq_eq_false_iff_ne]
    exact fun e=>h1 (List.mem_map.mpr ⟨(y,k),h,e⟩)
   rw [ne]
   exact lookup_mem h2 h
theorem cellsFrom_none {acc:List (Str × Addr)}:∀ {names:List (Str × NameKind)} {n:Nat},(∀ y ∈ names,y.2≠.cell)→cellsFrom n names acc=acc
 | [],_,_=>rfl
 | (y,k) :: r,n,h=>by
  unfold cellsFrom
  rw [if_neg (by simpa using h (y,k) List.mem_cons_self)]
  exact cellsFrom_none fun z hz=>h z (List.mem_cons_of_mem _ hz)
theorem pushCells_none:∀ {names:List (Str × NameKind)} {h:Heap},(∀ y ∈ names,y.2≠.cell)→pushCells h names=h
 | [],_,_=>rfl
 | (y,k) :: r,h,hn=>by
  unfold pushCells
  rw [if_neg (by simpa using hn (y,k) List.mem_cons_self)]
  exact pushCells_none fun z hz=>hn z (List.mem_cons_of_mem _ hz)
theorem cellsFrom_one {x:Str} {acc:List (Str × Addr)}:∀ {names:List (Str × NameKind)} {n:Nat},(names.map (·.1)).Nodup→(∀ y ∈ names,y.2=.cell→y.1=x)→(x,NameKind.cell) ∈ names→cellsFrom n names acc=(x,n) :: acc
 | (y,k) :: r,n,nd,ho,hm=>by
  have nd':(y :: r.map (·.1)).Nodup:=nd
  obtain ⟨h1,h2⟩:=List.nodup_cons.mp nd'
  unfold cellsFrom
  by_cases hk:(k == NameKind.cell)=true
  ·rw [if_pos hk]
   have e:y=x:=ho (y,k) List.mem_cons_self (by simpa using hk)
   subst e
   refine cellsFrom_none fun z hz hc=>h1 (List.mem_map.mpr ⟨z,hz,?_⟩)
   exact ho z (List.mem_cons_of_mem _ hz) hc
  ·rw [if_neg hk]
   rcases List.mem_cons.mp hm with e | hm
   ·cases e
    exact absurd rfl hk
   ·exact cellsFrom_one h2 (fun z hz=>ho z (List.mem_cons_of_mem _ hz)) hm
theorem pushCells_one {x:Str}:∀ {names:List (Str × NameKind)} {h:Heap},(names.map (·.1)).Nodup→(∀ y ∈ names,y.2=.cell→y.1=x)→(x,NameKind.cell) ∈ names→pushCells h names=h.push { cls:=.type "cell",data:=.cell none }
 | (y,k) :: r,h,nd,ho,hm=>by
  have nd':(y :: r.map (·.1)).Nodup:=nd
  obtain ⟨h1,h2⟩:=List.nodup_cons.mp nd'
  unfold pushCells
  by_cases hk:(k == NameKind.cell)=true
  ·rw [if_pos hk]
   have e:y=x:=ho (y,k) List.mem_cons_self (by simpa using hk)
   subst e
   refine pushCells_none fun z hz hc=>h1 (List.mem_map.mpr ⟨z,hz,?_⟩)
   exact ho z (List.mem_cons_of_mem _ hz) hc
  ·rw [if_neg hk]
   rcases List.mem_cons.mp hm with e | hm
   ·cases e
    exact absurd rfl hk
   ·exact pushCells_one h2 (fun z hz=>ho z (List.mem_cons_of_mem _ hz)) hm
theorem newEnv_lc {M:Model} {A:Around} {E:Value→Shared→Prop} {s:Shared} {scope:Scope} {globals:Addr} {closure:List (Str × Addr)} {qual:Str} {func:Option Addr} {code:Value} {outer:Env} {builtins:Addr} {Q:Env→Shared→Prop}
  (hQ:Q (newEnv scope s.heap.objs.size globals (cellsFrom (s.heap.objs.size+1) scope.names closure) qual func code (some outer) builtins) { s with heap:=pushCells (s.heap.push { cls:=.type "dict",data:=.dict #[] }) scope.names }) :
  wpAny M A (newFunctionEnv scope globals closure [] qual func code (some outer) builtins) Q E s:=by
 simp only [newFunctionEnv,Option.isSome_some,if_true]
 refine wpAny_bind (wpAny_alloc ?_)
 refine wpAny_bind (wpAny_layCells _ (fun name kind cells=>by cases hkc:kind == NameKind.cell <;> simp [hkc]) _ _ _ _ ?_)
 rw [show ({ s with heap:=s.heap.push { cls:=.type "dict",data:=.dict #[] } }:Shared).heap.objs.size=s.heap.objs.size+1 from Heap.size_push ..]
 exact wpAny_bind (wpAny_pure (wpAny_pure hQ))
theorem LcScope.cells {S:Scope} {N:List Str} {sc:Scope} {x:Str} (L:LcScope S N sc x) (n:Nat) (cl:List (Str × Addr)):cellsFrom n sc.names cl=ownC sc x n++cl:=by
 unfold ownC
 rcases L.loc with h | h
 ·rw [if_neg (by rw [h]; simp)]
  exact cellsFrom_none fun y hy hc=>by
   have e:=L.onlyC y hy hc
   have:=lookup_mem L.uniq (y:=x) (k:=.cell) (by rw [←e,←hc]; exact hy)
   rw [h] at this
   cases this
 ·rw [if_pos h]
  exact cellsFrom_one L.uniq L.onlyC (PySem.mem_of_lookup h)
theorem LcScope.heap {S:Scope} {N:List Str} {sc:Scope} {x:Str} (L:LcScope S N sc x) (h:Heap):(∀ b o,h.get? b=some o→(pushCells h sc.names).get? b=some o)∧(sc.names.lookup x=some .cell→(pushCells h sc.names).IsCell h.objs.size none):=by
 refine ⟨fun b o e=>pushCells_keeps _ _ b o e,fun hc=>?_⟩
 rw [pushCells_one L.uniq L.onlyC (PySem.mem_of_lookup hc)]
 exact ⟨_,Heap.get?_push_size _ rfl,rfl⟩
theorem ownC_lookup {sc:Scope} {x y:Str} {n:Nat} {c:Addr} {cl:List (Str × Addr)} (h:(ownC sc x n++cl).lookup y=some c):(y=x∧c=n∧sc.names.lookup x=some .cell) ∨ cl.lookup y=some c:=by
 unfold ownC at h
 by_cases hc:sc.names.lookup x=some .cell
 ·rw [if_pos hc] at h
  have h':List.lookup y ((x,n) :: cl)=some c:=h
  rw [List.lookup_cons] at h'
  cases e:y == x with
  | true =>
   rw [e] at h'
   exact .inl ⟨by simpa using e,(Option.some.inj h').symm,hc⟩
  | false =>
   rw [e] at h'
   exact .inr h'
 ·rw [if_neg hc] at h
  exact .inr h
theorem ownC_other {sc:Scope} {x y:Str} {n:Nat} {cl:List (Str × Addr)} (h:y≠x):(ownC sc x n++cl).lookup y=cl.lookup y:=by
 unfold ownC
 by_cases hc:sc.names.lookup x=some .cell
 ·rw [if_pos hc]
  show List.lookup y ((x,n) :: cl)=_
  rw [List.lookup_cons,beq_eq_false_iff_ne.mpr h]
 ·rw [if_neg hc]
  rfl
theorem ownC_self {sc:Scope} {x:Str} {n:Nat} {cl:List (Str × Addr)} (h:sc.names.lookup x=some .cell):(ownC sc x n++cl).lookup x=some n:=by
 unfold ownC
 rw [if_pos h]
 show List.lookup x ((x,n) :: cl)=_
 rw [List.lookup_cons,beq_self_eq_true]
section
variable {X:Cx} {pins:List (Addr × Obj)} {σ:St} {H:Hp} {s:Shared} {sc:Scope} {x:Str} {fp:List Addr}
theorem blkN_len (N:List Str) (x:Str):(blkN N x).length=N.length+1:=by simp [blkN]
theorem blkN_at {N:List Str} {x:Str} {i:Nat} {y:Str} (h:(blkN N x)[i]? = some y) (hi:i < N.length):∃ y0,N[i]? = some y0∧((y0=x∧y=Str.empty) ∨ (y0≠x∧y=y0)):=by
 unfold blkN at h
 rw [List.getElem?_append_left (by simpa using hi),List.getElem?_map] at h
 cases q:N[i]? with
 | none=>rw [q] at h; cases h
 | some y0 =>
  rw [q] at h
  refine ⟨y0,rfl,?_⟩
  have h':(if y0=x then Str.empty else y0)=y:=Option.some.inj h
  by_cases e:y0=x
  ·rw [if_pos e] at h'; exact .inl ⟨e,h'.symm⟩
  ·rw [if_neg e] at h'; exact .inr ⟨e,h'.symm⟩
theorem Inv.has_cell (I:Inv X pins σ H s) {S:Scope} (L:LcScope S X.N sc x) (hS:X.env.scope=S):∀ y ∈ sc.names,y.2=.free→(X.env.cells.lookup y.1).isSome=true:=fun y hy hf=>by
 have k:X.env.kindOf y.1=some .cell ∨ X.env.kindOf y.1=some .free:=by
  show X.env.scope.names.lookup y.1=_ ∨ X.env.scope.names.lookup y.1=_
  rw [hS]
  exact L.free y hy hf
 obtain ⟨c,e⟩:=I.ok.has y.1 k
 rw [e]; rfl
theorem Inv.blk (I:Inv X pins σ H s) {S:Scope} (L:LcScope S X.N sc x) (hS:X.env.scope=S) (hf:∀ b ∈ fp,FpOk X pins H b) (hb:∀ b ∈ fp,b < s.heap.objs.size) {h1:Heap} {tk:Nat} {m:Str→Option Value} (hn:h1.Ns s.heap.objs.size m)
  (hk:∀ b o,s.heap.get? b=some o→h1.get? b=some o) (hoc:sc.names.lookup x=some .cell→h1.IsCell (s.heap.objs.size+1) none):Inv (X.blk (blkN X.N x) sc x s H fp) [] (σ++[none]) H { s with heap:=h1,toks:=tk }:=by
 have sub:∀ y c,(clOf X.env.cells sc.names []).lookup y=some c→X.env.cells.lookup y=some c:=clOf_sub sc.names [] fun _ _ z=>by cases z
 have sub2:∀ y c,(ownC sc x (s.heap.objs.size+1)++clOf X.env.cells sc.names []).lookup y=some c→(y=x∧c=s.heap.objs.size+1∧sc.names.lookup x=some .cell) ∨ X.env.cells.lookup y=some c:=fun y c e =>
  (ownC_lookup e).imp id (sub y c)
 have ltc:∀ y c,X.env.cells.lookup y=some c→c < s.heap.objs.size:=fun y c e=>by
  obtain ⟨v,z⟩:=I.cell y c e
  exact z.lt
 have fkey:∀ y,(y,NameKind.free) ∈ sc.names→y≠x:=fun y hy e=>by
  subst e
  have z:=lookup_mem L.uniq hy
  rcases L.loc with q | q <;> rw [q] at z <;> cases z
 have hasC:∀ y,(y,NameKind.free) ∈ sc.names→∃ c,(ownC sc x (s.heap.objs.size+1)++clOf X.env.cells sc.names []).lookup y=some c:=fun y hy=>by
  rw [ownC_other (fkey y hy)]
  exact Option.isSome_iff_exists.mp (clOf_has (I.has_cell L hS (y,.free) hy rfl) sc.names [] hy)
 have kinds:∀ y k,(relabel sc X.env).names.lookup y=some k→(k=.cell ∨ k=.free)→(y,NameKind.free) ∈ sc.names ∨ (y=x∧sc.names.lookup x=some .cell):=fun y k e hk=>by
  obtain ⟨k0,hm,q⟩:=relab_lookup e
  rcases q with rfl | ⟨_,rfl⟩
  ·rcases hk with rfl | rfl
   ·have e:=L.onlyC _ hm rfl
    have e':y=x:=e
    subst e'
    exact .inr ⟨rfl,lookup_mem L.uniq hm⟩
   ·exact .inl hm
  ·exact .inl hm
 have stk:=I.stkSub
 refine ⟨⟨I.ok.mod,L.kind,I.ok.glob,I.ok.blt,Nat.le_refl _,fun y z c e1 e2=>?_,fun y hy=>?_,fun y c z e=>?_,I.ok.hd,I.ok.frames,.inl rfl,fun b hb'=>?_,I.bs,Nat.le_trans I.ok.bsz I.sz,fun b o e hb'=>?_,fun b hb' z=>?_,I.stack,I.stkFree⟩,
  rfl,I.bare,Un.kept hk,⟨m,hn,fun i y v e1 e2 e3=>?_⟩,fun y c e=>?_,I.hok.fresh (Nat.le_refl _),fun y c e=>?_,fun p hp=>absurd (show p ∈ ([]:List (Addr × Obj)) from hp) (by simp),I.hok.kept hk,?_⟩
 ·rcases sub2 y c e1 with ⟨q1,q2,_⟩ | q <;> rcases sub2 z c e2 with ⟨q1',q2',_⟩ | q'
  ·rw [q1,q1']
  ·have z1:=ltc z c q'
   rw [q2] at z1
   exact absurd z1 (Nat.not_lt.mpr (Nat.le_succ _))
  ·have z1:=ltc y c q
   rw [q2'] at z1
   exact absurd z1 (Nat.not_lt.mpr (Nat.le_succ _))
  ·exact I.ok.inj y z c q q'
 ·have hy':(relabel sc X.env).names.lookup y=some .cell ∨ (relabel sc X.env).names.lookup y=some .free:=hy
  have z:(y,NameKind.free) ∈ sc.names ∨ (y=x∧sc.names.lookup x=some .cell):=by
   rcases hy' with e | e
   ·exact kinds y _ e (.inl rfl)
   ·exact kinds y _ e (.inr rfl)
  rcases z with z | ⟨rfl,z⟩
  ·exact hasC y z
  ·exact ⟨_,ownC_self z⟩
 ·have z':decide (y=x∧sc.names.lookup x=some .cell)=true:=z
  obtain ⟨rfl,z2⟩:=of_decide_eq_true z'
  have e':(ownC sc y (s.heap.objs.size+1)++clOf X.env.cells sc.names []).lookup y=some c:=e
  rw [ownC_self z2] at e'
  cases e'
  exact Nat.le_succ _
 ·obtain ⟨f0,f1,f2,f3,f4,f5⟩:=hf b hb'
  refine ⟨Nat.ne_of_lt (hb b hb'),fun y c e z=>?_⟩
  rcases sub2 y c e with ⟨_,q2,_⟩ | q
  ·have z1:=hb b hb'
   rw [←z,q2] at z1
   exact absurd z1 (Nat.not_lt.mpr (Nat.le_succ _))
  ·exact f4 y c q z
 ·obtain ⟨f0,f1,f2,f3,f4,f5⟩:=hf b hb'
  rcases f3 with z | z
  ·exact I.ok.noex b o e z
  ·exact absurd (Nat.lt_of_lt_of_le (Heap.lt_size (I.ok.bs b o e).1) z) (Nat.lt_irrefl _)
 ·obtain ⟨f0,f1,f2,f3,f4,f5⟩:=hf b hb'
  rcases List.mem_cons.mp (stk b z) with q | q
  ·exact f1 q
  ·exact f2 q
 ·have hl:σ.length=X.N.length:=I.len
  have hi:i < X.N.length:=by
   by_cases hi:i < σ.length
   ·omega
   ·rw [List.getElem?_append_right (by omega)] at e2
    cases q:i - σ.length with
    | zero=>rw [q] at e2; cases e2
    | succ n=>rw [q] at e2; cases e2
  rw [List.getElem?_append_left (by omega)] at e2
  obtain ⟨y0,g1,g2⟩:=blkN_at e1 hi
  have vis:∃ k,(relabel sc X.env).names.lookup y=some k∧(k=.local ∨ k=.cell ∨ k=.free):=by
   rcases e3 with q | q | q
   ·exact ⟨_,q,.inl rfl⟩
   ·exact ⟨_,q,.inr (.inl rfl)⟩
   ·exact ⟨_,q,.inr (.inr rfl)⟩
  obtain ⟨k,q,hk'⟩:=vis
  obtain ⟨k0,hm,q0⟩:=relab_lookup q
  rcases g2 with ⟨_,rfl⟩ | ⟨g2,rfl⟩
  ·exact absurd rfl (L.ne _ hm)
  ·have hkc:k=.cell ∨ k=.free:=by
    rcases hk' with rfl | z
    ·exfalso
     rcases q0 with rfl | ⟨z,_⟩
     ·rcases L.only _ hm rfl with z | z
      ·exact g2 z
      ·exact L.dot y (List.mem_of_getElem? g1) z
     ·cases z
    ·exact z
   have hfr:(y,NameKind.free) ∈ sc.names:=(kinds y k q hkc).resolve_right fun z=>g2 z.1
   have visX:X.env.scope.names.lookup y=some .cell ∨ X.env.scope.names.lookup y=some .free:=by rw [hS]; exact L.free _ hfr rfl
   obtain ⟨m0,_,hl0⟩:=I.loc
   obtain ⟨u,r,lk⟩:=hl0 i y v g1 e2 (.inr visX)
   refine ⟨u,r,?_⟩
   rcases lk with ⟨z,_⟩ | ⟨_,c,ec,hc⟩
   ·exfalso
    have z':X.env.scope.names.lookup y=some .local:=z
    rcases visX with w' | w' <;> rw [z'] at w' <;> cases w'
   ·obtain ⟨c',ec'⟩:=hasC y hfr
    have:c'=c:=by
     rw [ownC_other (fkey y hfr)] at ec'
     exact Option.some.inj ((sub y c' ec').symm.trans ec)
    subst this
    refine .inr ⟨?_,c',ec',?_⟩
    ·rcases hkc with rfl | rfl
     ·exact .inl q
     ·exact .inr q
    ·obtain ⟨o,ho,hd⟩:=hc
     exact ⟨o,hk _ _ ho,hd⟩
 ·rcases sub2 y c e with ⟨_,q2,q3⟩ | q
  ·rw [q2]; exact ⟨_,hoc q3⟩
  ·obtain ⟨v,o,ho,hd⟩:=I.cell y c q
   exact ⟨v,o,hk _ _ ho,hd⟩
 ·rcases sub2 y c e with ⟨_,q2,_⟩ | q
  ·rw [q2]; exact I.hok.fresh (Nat.le_succ _)
  ·exact I.freeC y c q
 ·rw [List.length_append,I.len]
  exact (blkN_len X.N x).symm
theorem relab_own {sc:Scope} {env:Env} {x:Str} (h:sc.names.lookup x=some .cell):(relabel sc env).names.lookup x=some .cell:=by
 have e:=lookup_relab (c:=fun n k=>k == NameKind.free && env.scope.kind == .function && env.kindOf n == some .cell) (y:=x) sc.names
 show (sc.names.map fun (n,k)=>if (k == NameKind.free && env.scope.kind == .function && env.kindOf n == some .cell)=true then (n,NameKind.cell) else (n,k)).lookup x=some .cell
 rw [e,h]
 rfl
theorem relab_loc {S:Scope} {N:List Str} {env:Env} (L:LcScope S N sc x):Loc (relabel sc env) x:=by
 rcases L.loc with h | h
 ·exact .inl (lookup_relabel_local h)
 ·exact .inr (relab_own h)
theorem relab_fn {S:Scope} {N:List Str} {env:Env} (L:LcScope S N sc x):decide (x=x∧sc.names.lookup x=some .cell)=true ∨ (relabel sc env).names.lookup x=some .local:=by
 rcases L.loc with h | h
 ·exact .inr (lookup_relabel_local h)
 ·exact .inl (decide_eq_true ⟨rfl,h⟩)
theorem compLoopG {prog:Program} {w:World} {A:Around} {R:Result→Shared→Prop} {elt target iter:Expr} {scope:Scope} {pos:Pos} {it acc:Value} {env:Env} (I:Nat→Shared→Prop)
  (turn:∀ n s,I n s→wpAny (model prog w) A (pyNext it) (fun r s₁=>match r with
   | none=>R (.ok .next) s₁
   | some v=>wpAny (model prog w) A (letOwnedTupleGo target it v) (fun _ s₁'=>wpAny (model prog w) A (assign target env v) (fun _ s₂=>wpAny (model prog w) A (eval elt env) (fun x s₃ =>
     wpAny (model prog w) A (call (.builtin "list.append") [acc,x]) (fun _ s₄=>∃ m,m < n∧I m s₄) (fun _ _=>False) s₃) (fun _ _=>False) s₂) (fun _ _=>False) s₁') (fun _ _=>False) s₁) (fun _ _=>False) s)
  (n:Nat) (h:I n s):codeAny (model prog w) A (.compLoop (.ListComp elt [⟨target,iter,[],0⟩] scope pos) 0 it acc env) R s:=by
 refine codeAny_loop rfl I (fun n s hI=>?_) n h
 show wpAny _ _ ((compTurn (.ListComp elt [⟨target,iter,[],0⟩] scope pos) 0 it acc env).onRaise (fun x=>do noteFrame x env; theTreesLotGoes x)) _ _ s
 refine wpAny_noted ?_
 rw [compTurn_list1]
 refine wpAny_bind (wpAny_standAt (wpAny_bind (wpAny_mono (turn n s hI) (fun r s₁ h₁=>?_) fun _ _ z=>z.elim)))
 cases r with
 | none=>exact wpAny_pure h₁
 | some v =>
  exact wpAny_bind (wpAny_mono h₁ (fun _ s₁' h₁'=>wpAny_bind (wpAny_mono h₁' (fun _ s₂ h₂=>wpAny_bind (wpAny_bind (wpAny_mono h₂ (fun x s₃ h₃=>wpAny_bind (wpAny_mono h₃
   (fun _ s₄ h₄=>wpAny_pure (wpAny_pure ⟨rfl,h₄⟩)) fun _ _ z=>z.elim)) fun _ _ z=>z.elim))) fun _ _ z=>z.elim)) fun _ _ z=>z.elim)
def tLc (ti:TI) (te:TE):TE:=fun σ H Q=>ti σ H fun J H1=>∀ D,H1 D=none→∃ W:Nat→Nat→List V→Hp→Prop,(∃ m,W 0 m [] (upd H1 D (.lst []))) ∧
 ∀ i m ys H',W i m ys H'→H' D=some (.lst ys)∧((J.stop i H'∧Q (.ref D) H') ∨ (J.go i H'∧∀ z H2,J.yld i H' z H2→te (σ++[some z]) H2 fun v H3=>H3 D=some (.lst ys)∧ys.length < sizeLine∧∃ m',m' < m∧W (i+1) m' (ys++[v]) (upd H3 D (.lst (ys++[v])))))
theorem lc_core {elt iter:Expr} {px pos:Pos} {te:TE} {S:Scope} {use:Option (Value→Sem Unit)} {QQ:Value→Shared→Prop} {Q:VK} {it:Addr} {tn:Nat→Heap→Prop} {J:It} (hc:X.calm=true) (L:LcScope S X.N sc x) (hS:X.env.scope=S)
  (he:∀ (s₀:Shared) (H₀:Hp) (fp:List Addr),PE (X.blk (blkN X.N x) sc x s₀ H₀ fp) elt te)
  (I:Inv X pins σ H s) (T:Turn X.prog X.w X.K (.Name x px) J fp it tn) (st:tn 0 s.heap) (hf:∀ b ∈ fp,FpOk X pins H b)
  (h:∀ D,H D=none→∃ W:Nat→Nat→List V→Hp→Prop,(∃ m,W 0 m [] (upd H D (.lst []))) ∧
   ∀ i m ys H',W i m ys H'→H' D=some (.lst ys)∧((J.stop i H'∧Q (.ref D) H') ∨ (J.go i H'∧∀ z H2,J.yld i H' z H2→te (σ++[some z]) H2 fun v H3=>H3 D=some (.lst ys)∧ys.length < sizeLine∧∃ m',m' < m∧W (i+1) m' (ys++[v]) (upd H3 D (.lst (ys++[v]))))))
  (fin:∀ (D C:Addr) (H':Hp) (s':Shared) (m:Str→Option Value),Inv X pins σ H' s'→Q (.ref D) H'→s'.heap.Ns C m→H' C=none→s.heap.objs.size≤C→(∀ p ∈ X.pn++pins,p.1≠C)→C≠X.env.locals→(∀ y c,X.env.cells.lookup y=some c→c≠C)→compPost (model X.prog X.w) X.A X.xe use QQ (.ref D) C (.ok .next) s') :
  wpAny (model X.prog X.w) X.A (newList []) (fun acc s₃=>wpAny (model X.prog X.w) X.A (newFunctionEnv sc X.env.globals (clOf X.env.cells sc.names []) [] X.env.qual none .none (some X.env)) (fun cenv s₄ =>
   codeAny (model X.prog X.w) X.A (.compStart (.ListComp elt [⟨.Name x px,iter,[],0⟩] sc pos) 0 (.ref it) acc { cenv with scope:=relabel sc X.env }) (compPost (model X.prog X.w) X.A X.xe use QQ acc cenv.locals) s₄) X.xe s₃) X.xe s:=by
 refine wpAny_newObj_type ?_
 have hD:H s.heap.objs.size=none:=I.hok.fresh (Nat.le_refl _)
 obtain ⟨W,⟨m0,w0⟩,turn⟩:=h s.heap.objs.size hD
 have I2:Inv X pins σ (upd H s.heap.objs.size (.lst [])) { s with heap:=s.heap.push { cls:=.type "list",data:=.seq ([]:List Value).toArray } }:=I.lnew (t':=s.toks) .nil (Nat.zero_le _)
 have lt0:∀ b ∈ fp,b < s.heap.objs.size:=fun b hb=>by
  obtain ⟨o,e,_⟩:=T.obj 0 s.heap st b hb
  exact Heap.lt_size e
 have hf2:∀ b ∈ fp,FpOk X pins (upd H s.heap.objs.size (.lst [])) b:=fun b hb=>by
  obtain ⟨f0,f⟩:=hf b hb
  exact ⟨by rw [upd_ne (Nat.ne_of_lt (lt0 b hb))]; exact f0,f⟩
 have st2:tn 0 (s.heap.push { cls:=.type "list",data:=.seq ([]:List Value).toArray }):=T.keep 0 _ _ st fun b _ o e=>Heap.get?_push_of_some _ e
 generalize hs2:({ s with heap:=s.heap.push { cls:=.type "list",data:=.seq ([]:List Value).toArray } }:Shared)=s2 at I2
 have eh:s2.heap=s.heap.push { cls:=.type "list",data:=.seq ([]:List Value).toArray }:=by rw [←hs2]
 have lt2:∀ b ∈ fp,b < s2.heap.objs.size:=fun b hb=>by rw [eh,Heap.size_push]; exact Nat.lt_succ_of_lt (lt0 b hb)
 rw [←eh] at st2
 have le2:s.heap.objs.size≤s2.heap.objs.size:=by rw [eh,Heap.size_push]; exact Nat.le_succ _
 show wpAny _ _ _ _ _ s2
 refine newEnv_lc ?_
 rw [L.cells]
 have hp0:=L.heap (s2.heap.push { cls:=.type "dict",data:=.dict #[] })
 have hns0:(s2.heap.push { cls:=.type "dict",data:=.dict #[] }).Ns s2.heap.objs.size _:=Heap.Ns.new s2.heap (.type "dict")
 have hns₁:=hns0.keeps hp0.1
 have hoc:=hp0.2
 rw [Heap.size_push] at hoc
 have keep:∀ b o,s2.heap.get? b=some o→(pushCells (s2.heap.push { cls:=.type "dict",data:=.dict #[] }) sc.names).get? b=some o:=fun b o e=>hp0.1 b o (Heap.get?_push_of_some _ e)
 generalize pushCells (s2.heap.push { cls:=.type "dict",data:=.dict #[] }) sc.names=h₁ at hns₁ hoc keep ⊢
 have J0:Inv (X.blk (blkN X.N x) sc x s2 (upd H s.heap.objs.size (.lst [])) fp) [] (σ++[none]) (upd H s.heap.objs.size (.lst [])) { s2 with heap:=h₁ }:=I2.blk (tk:=s2.toks) L hS hf2 lt2 hns₁ keep hoc
 have st3:tn 0 h₁:=T.keep 0 _ _ st2 fun b _ o e=>keep b o e
 have hl:σ.length=X.N.length:=I.len
 have stat:∀ {H':Hp},(∀ b ∈ fp,H' b=none)→∀ b ∈ fp,FpOk (X.blk (blkN X.N x) sc x s2 (upd H s.heap.objs.size (.lst [])) fp) [] H' b:=fun {H'} hn b hb=>by
  have o1:=J0.ok.exf b hb
  exact ⟨hn b hb,o1.1,J0.ok.exfs b hb,.inl hb,o1.2,fun p hp=>absurd (show p ∈ ([]:List (Addr × Obj)) from hp) (by simp)⟩
 have loop:codeAny (model X.prog X.w) X.A (.compLoop (.ListComp elt [⟨.Name x px,iter,[],0⟩] sc pos) 0 (.ref it) (.ref s.heap.objs.size) (compEnvC sc (ownC sc x (s2.heap.objs.size+1)++clOf X.env.cells sc.names []) s2.heap.objs.size X.env))
   (compPost (model X.prog X.w) X.A X.xe use QQ (.ref s.heap.objs.size) s2.heap.objs.size) { s2 with heap:=h₁ }:=by
  refine compLoopG (fun n s'=>∃ i ys H' o,Inv (X.blk (blkN X.N x) sc x s2 (upd H s.heap.objs.size (.lst [])) fp) [] (σ++[o]) H' s'∧tn i s'.heap∧(∀ b ∈ fp,H' b=none)∧W i n ys H') ?_ m0 ⟨0,[],_,none,J0,st3,fun b hb=>(hf2 b hb).1,w0⟩
  rintro n s4 ⟨i,ys,H4,o,J4,st4,fr4,w4⟩
  obtain ⟨hD4,tt⟩:=turn i n ys H4 w4
  rcases tt with ⟨stop,q⟩ | ⟨go,step⟩
  ·refine thn (T.done (X.blk (blkN X.N x) sc x s2 (upd H s.heap.objs.size (.lst [])) fp) rfl rfl rfl hc i [] s4 _ H4 _ J4 (stat fr4) st4 stop) fun r s5 ⟨hr,J5⟩=>?_
   subst hr
   have I5:Inv X pins σ H4 s5:=I2.call' J5.os J5.base J5.hok J5.bare fun b hb=>by
    obtain ⟨f0,f1,f2,f3,f4,f5⟩:=hf2 b hb
    exact ⟨f3,f1,f4,f5⟩
   obtain ⟨m5,n5,_⟩:=J5.loc
   exact fin _ _ H4 s5 m5 I5 q n5 J5.free le2 (fun p hp z=>by
     have:=Heap.lt_size (I2.pin p hp).1
     rw [z] at this
     exact Nat.lt_irrefl _ this) (Nat.ne_of_gt I2.lt) (fun y c e z=>by
     obtain ⟨v,o,ho,_⟩:=I2.cell y c e
     have:=Heap.lt_size ho
     rw [z] at this
     exact Nat.lt_irrefl _ this)
  ·refine thn (T.item (X.blk (blkN X.N x) sc x s2 (upd H s.heap.objs.size (.lst [])) fp) rfl rfl rfl hc i [] s4 _ H4 _ J4 (stat fr4) st4 go) fun r s5 ⟨u,hr,h5⟩=>?_
   subst hr
   refine thn h5 fun _ s6 ⟨z,H6,J6,r6,y6,st6,fr6⟩=>?_
   have J6':=J6.pinned (stat fr6) (T.obj _ _ st6)
   refine thn (pg_name (X:=X.blk (blkN X.N x) sc x s2 (upd H s.heap.objs.size (.lst [])) fp) (i:=X.N.length) L.nd (by show (blkN X.N x)[X.N.length]? = some x; unfold blkN; rw [List.getElem?_append_right (by simp)]; simp) (relab_loc L) (relab_fn L)
    _ s6 _ H6 z u (fun σ' H'=>σ'=σ++[some z]∧H'=H6) J6' r6 ⟨by
     rw [List.set_append_right _ _ (by omega)]
     have:X.N.length - σ.length=0:=by omega
     rw [this]
     rfl,rfl⟩) fun _ s7 ⟨σ7,H7,J7,e7,e8⟩=>?_
   subst e7 e8
   refine thn (he s2 (upd H s.heap.objs.size (.lst [])) fp _ s7 _ H7 _ J7 (step z H7 y6)) fun vv s8 ⟨v,H8,J8,r8,hD8,hz8,m',hm,w8⟩=>?_
   refine thn (mt_append (X:=X.blk (blkN X.N x) sc x s2 (upd H s.heap.objs.size (.lst [])) fp) _ s8 _ H8 (.ref s.heap.objs.size) [v] (.ref s.heap.objs.size) [vv] (fun _ H'=>H'=upd H8 s.heap.objs.size (.lst (ys++[v]))) J8 rfl (.cons r8 .nil) ⟨_,ys,v,rfl,rfl,hD8,hz8,rfl⟩) fun _ s9 ⟨_,H9,J9,_,e9⟩=>?_
   subst e9
   refine ⟨m',hm,i+1,ys++[v],_,some z,J9.unpinned,T.keep _ _ _ st6 fun b hb o e=>(J9.pin (b,o) (List.mem_append_right _ (List.mem_append_right _ (mem_pinsAt hb e)))).1,fun b hb=>?_,w8⟩
   obtain ⟨o',e',_⟩:=T.obj _ _ st6 b hb
   exact (J9.pin (b,o') (List.mem_append_right _ (List.mem_append_right _ (mem_pinsAt hb e')))).2.1
 refine codeAny_compStart_list loop (T.self _ 0 _ _ _ st3 loop)
theorem pe_lc {elt iter:Expr} {px pos:Pos} {ti:TI} {te:TE} {S:Scope} (hc:X.calm=true) (L:LcScope S X.N sc x) (hS:X.env.scope=S) (hi:PI X (.Name x px) iter ti)
  (he:∀ (s₀:Shared) (H₀:Hp) (fp:List Addr),PE (X.blk (blkN X.N x) sc x s₀ H₀ fp) elt te) (hs:∀ x,foldedSetIterable iter X.env x=pure x:=by intro _; rfl) :
  PE X (.ListComp elt [⟨.Name x px,iter,[],0⟩] sc pos) (tLc ti te):=by
 intro pins s σ H Q I h
 rw [eval_ListComp]
 refine wpAny_comprehension_free (use:=none) rfl hs (closure_of (I.has_cell L hS)) L.kind L.names (thn (hi pins s σ H _ I h) fun xv s₁ h₁=>thn h₁ fun itv s₂ h₂=>?_)
 obtain ⟨it,fp,tn,J,H2,rfl,I2,T,st2,f2,q2⟩:=h₂
 refine lc_core hc L hS he I2 T st2 f2 q2 ?_
 intro D C H' s' m I' q hn hC hle hp hL hcl
 refine ⟨m,hn,fun h' hs'=>?_⟩
 have I3:Inv X pins σ H' { s' with heap:=h' }:=I'.turned (t':=s'.toks) (fun b o hb e=>(hs'.2 b hb).trans e) hC hL (.inr (Nat.le_trans I2.sz hle)) hcl hp
 exact ⟨.ref D,H',I3,rfl,q⟩
theorem ps_setLc {elt iter:Expr} {i:Nat} {y:Str} {px py pos spos:Pos} {ti:TI} {te:TE} {S:Scope} (hN:X.N.Nodup) (hi:X.N[i]? = some y) (hy:Loc X.env.scope y) (hc:X.calm=true) (L:LcScope S X.N sc x) (hS:X.env.scope=S) (hit:PI X (.Name x px) iter ti)
  (he:∀ (s₀:Shared) (H₀:Hp) (fp:List Addr),PE (X.blk (blkN X.N x) sc x s₀ H₀ fp) elt te)
  (hsw:swapsWith (.ListComp elt [⟨.Name x px,iter,[],0⟩] sc pos) (some (.Name y py)) spos.line X.env=pure true:=by rfl) (hs:∀ x,foldedSetIterable iter X.env x=pure x:=by intro _; rfl)
  (hf:X.fn y=true ∨ X.env.scope.names.lookup y=some .local:=by first | exact .inl rfl | exact .inr rfl | assumption) :
  PS X (.Assign [.Name y py] (.ListComp elt [⟨.Name x px,iter,[],0⟩] sc pos) spos) (tAsg (tLc ti te) (gName i)):=by
 intro pins s σ H D I h
 rw [exec_Assign_Name_used _ _ _ _ hsw]
 refine wpAny_bind (wpAny_standAt (wpAny_bind ?_))
 show wpAny _ _ (do let _ ← comprehension (.ListComp elt [⟨.Name x px,iter,[],0⟩] sc pos) sc X.env _ (newList []) false (eval iter X.env) (some (assign (.Name y py) X.env))) _ _ s
 refine wpAny_bind (wpAny_mono (wpAny_comprehension_free (use:=some (assign (.Name y py) X.env)) (Q:=fun _ s'=>SP X pins D .next s') rfl hs (closure_of (I.has_cell L hS)) L.kind L.names
  (thn (hit pins s σ H _ I h) fun xv s₁ h₁=>thn h₁ fun itv s₂ h₂=>?_)) (fun _ s' hq=>wpAny_pure (wpAny_pure hq)) fun _ _ e=>e)
 obtain ⟨it,fp,tn,J,H2,rfl,I2,T,st2,f2,q2⟩:=h₂
 refine lc_core (Q:=fun v H'=>D.nx (σ.set i (some v)) H') hc L hS he I2 T st2 f2 q2 ?_
 intro D' C H' s' m I' q hn hC hle hp hL hcl
 show wpAny _ _ (assign (.Name y py) X.env (.ref D')) _ _ s'
 refine wpAny_assign_Name (store_ok2 I' hN hi hy (v:=.ref D') (u:=.ref D') rfl (fun s'' I'' ⟨a,sb,ha⟩=>?_) hf)
 have nCa:C≠a:=by
  rcases ha with rfl | ha
  ·exact hL
  ·exact fun z=>hcl y a ha z.symm
 refine ⟨m,hn.sameBut sb nCa,fun h' hs'=>?_⟩
 have I3:Inv X pins (σ.set i (some (.ref D'))) H' { s'' with heap:=h' }:=I''.turned (t':=s''.toks) (fun b o hb e=>(hs'.2 b hb).trans e) hC hL (.inr (Nat.le_trans I2.sz hle)) hcl hp
 exact ⟨_,H',I3,q⟩
end
end L2
namespace L2
open PySem PySem.Spec PyProof.Rows
section
variable {X:Cx}
theorem call_range1v:CallR X (.type "range") (fun xs H Q=>∃ j:Int,xs=[.int j]∧∀ p,H p=none→Q (.ref p) (upd H p (.rng 0 j))):=by
 intro pins s σ H xs us Q I r h
 obtain ⟨j,rfl,q⟩:=h
 obtain ⟨u,rfl,t,rfl⟩:=vals1 r
 have hn:H s.heap.objs.size=none:=I.hok.fresh (Nat.le_refl _)
 exact call_range_1 ⟨.ref s.heap.objs.size,_,I.laid (fun b o z=>Heap.get?_push_of_some _ z) (Nat.le_refl _) (show ObjOk X.prog X.w (upd H s.heap.objs.size (.rng 0 j)) _ s.heap.objs.size (.rng 0 j) from ⟨_,_,_,Heap.get?_push_size _ rfl⟩),rfl,q _ hn⟩
theorem vals_items:∀ {n:Nat} {us:List Value} {f:Nat→Int},us.length=n→(∀ (i:Nat) (u:Value),us[i]? = some u→∃ t,u=.int (f i) t)→Vals ((List.range n).map fun i=>V.int (f i)) us:=by
 intro n
 induction n with
 | zero =>
  intro us f hl _
  rw [List.length_eq_zero_iff.mp hl]
  exact .nil
 | succ n ih =>
  intro us f hl h
  cases us with
  | nil=>cases hl
  | cons u us =>
   rw [List.range_succ_eq_map,List.map_cons,List.map_map]
   obtain ⟨t,e⟩:=h 0 u rfl
   refine .cons ⟨t,e⟩ (ih (f:=fun i=>f (i+1)) (by simpa using hl) fun i u' hu=>h (i+1) u' (by simpa using hu))
theorem call_list_rng (hc:X.calm=true):CallR X (.type "list") (fun xs H Q=>∃ (p:Addr) (n:Nat),xs=[.ref p]∧H p=some (.rng 0 (n:Int))∧n≤1000∧∀ l,H l=none→Q (.ref l) (upd H l (.lst ((List.range n).map fun (i:Nat)=>V.int (i:Int))))):=by
 intro pins s σ H xs us Q I r h
 obtain ⟨p,n,rfl,hp,hle,q⟩:=h
 obtain ⟨u,rfl,rx⟩:=vals1 r
 cases rx
 obtain ⟨t,u,v,e⟩:=I.hok p _ hp
 have hs:Builtin.Range.rangeSize 0 (n:Int) 1=(n:Nat):=by rw [rangeSize_one]; split <;> omega
 have hn:H s.heap.objs.size=none:=I.hok.fresh (Nat.le_refl _)
 refine call_list_range (I.ok.hd hc) (show IsRange s.heap p 0 (n:Int) 1 t u v from e) (small_one (by omega) (by omega) (by omega) (by omega)) hs (by omega) fun h' tk acc c' kp ga it=>?_
 refine ⟨.ref s.heap.objs.size,_,I.laid (t':=tk) kp (Nat.le_refl _) ?_,rfl,q _ hn⟩
 have hv:Vals ((List.range n).map fun (i:Nat)=>V.int (i:Int)) acc.toList:=by
  refine vals_items (f:=fun i=>(i:Int)) (by simpa using it.1) fun i w hw=>?_
  obtain ⟨t',et⟩:=it.2 i w (by simpa using hw)
  refine ⟨t',?_⟩
  rw [et]
  congr 1
  omega
 refine ⟨?_,acc.toList,c',hv,by simpa using ga⟩
 rw [List.length_map,List.length_range]
 exact Nat.le_of_lt (small1000 hle)
end
end L2
namespace L2
open PySem PySem.Spec PyProof.Rows
theorem lc_list {K:PySem.W.Frag} {a:Addr} {xs:List V} {te:TE} {Q:Hp→Prop} {σ:St} {H1:Hp} {D:Addr} (Pv:Nat→List V→Hp→Prop) (h0:Pv 0 [] (upd H1 D (.lst []))) (hl:∀ i ys H',i≤xs.length→Pv i ys H'→SqL K H' a xs∧H' D=some (.lst ys))
  (hs:∀ i x ys H',xs[i]? = some x→Pv i ys H'→te (σ++[some x]) H' fun v H3=>H3 D=some (.lst ys)∧ys.length < sizeLine∧Pv (i+1) (ys++[v]) (upd H3 D (.lst (ys++[v])))) (hd:∀ ys H',Pv xs.length ys H'→Q H')
  (mono:∀ σ H Q Q',(∀ v H1,Q v H1→Q' v H1)→te σ H Q→te σ H Q') :
  ∃ W:Nat→Nat→List V→Hp→Prop,(∃ m,W 0 m [] (upd H1 D (.lst []))) ∧
   ∀ i m ys H',W i m ys H'→H' D=some (.lst ys)∧(((Itl K a).stop i H'∧Q H') ∨ ((Itl K a).go i H'∧∀ z H2,(Itl K a).yld i H' z H2→te (σ++[some z]) H2 fun v H3=>H3 D=some (.lst ys)∧ys.length < sizeLine∧∃ m',m' < m∧W (i+1) m' (ys++[v]) (upd H3 D (.lst (ys++[v]))))):=by
 refine ⟨fun i m ys H'=>m=xs.length - i∧i≤xs.length∧Pv i ys H',⟨xs.length,by simp,Nat.zero_le _,h0⟩,?_⟩
 rintro i m ys H' ⟨rfl,hi,p⟩
 obtain ⟨q,eD⟩:=hl i ys H' hi p
 refine ⟨eD,?_⟩
 by_cases hlt:i < xs.length
 ·refine .inr ⟨⟨xs,xs[i],q,by simp [hlt]⟩,fun z H2 y=>?_⟩
  obtain ⟨e,y⟩:=y
  subst e
  refine mono _ _ _ _ (fun v H3 ⟨z1,z2,z3⟩=>⟨z1,z2,xs.length - (i+1),by omega,rfl,hlt,z3⟩) (hs i z ys _ (y xs q) p)
 ·have e:i=xs.length:=by omega
  subst e
  exact .inl ⟨⟨xs,q,Nat.le_refl _⟩,hd ys H' p⟩
theorem lc_range {lo:Int} {n:Nat} {te:TE} {Q:Hp→Prop} {σ:St} {H1:Hp} {D:Addr} (Pv:Nat→List V→Hp→Prop) (h0:Pv 0 [] (upd H1 D (.lst []))) (hl:∀ i ys H',i≤n→Pv i ys H'→H' D=some (.lst ys))
  (hs:∀ i ys H',i < n→Pv i ys H'→te (σ++[some (.int (lo+(i:Nat)))]) H' fun v H3=>H3 D=some (.lst ys)∧ys.length < sizeLine∧Pv (i+1) (ys++[v]) (upd H3 D (.lst (ys++[v])))) (hd:∀ ys H',Pv n ys H'→Q H')
  (mono:∀ σ H Q Q',(∀ v H1,Q v H1→Q' v H1)→te σ H Q→te σ H Q') :
  ∃ W:Nat→Nat→List V→Hp→Prop,(∃ m,W 0 m [] (upd H1 D (.lst []))) ∧
   ∀ i m ys H',W i m ys H'→H' D=some (.lst ys)∧(((Itr lo n).stop i H'∧Q H') ∨ ((Itr lo n).go i H'∧∀ z H2,(Itr lo n).yld i H' z H2→te (σ++[some z]) H2 fun v H3=>H3 D=some (.lst ys)∧ys.length < sizeLine∧∃ m',m' < m∧W (i+1) m' (ys++[v]) (upd H3 D (.lst (ys++[v]))))):=by
 refine ⟨fun i m ys H'=>m=n - i∧i≤n∧Pv i ys H',⟨n,by simp,Nat.zero_le _,h0⟩,?_⟩
 rintro i m ys H' ⟨rfl,hi,p⟩
 refine ⟨hl i ys H' hi p,?_⟩
 by_cases hlt:i < n
 ·refine .inr ⟨hlt,fun z H2 y=>?_⟩
  obtain ⟨e,y⟩:=y
  subst e y
  refine mono _ _ _ _ (fun v H3 ⟨z1,z2,z3⟩=>⟨z1,z2,n - (i+1),by omega,rfl,hlt,z3⟩) (hs i ys _ hlt p)
 ·have e:i=n:=by omega
  subst e
  exact .inl ⟨Nat.le_refl _,hd ys H' p⟩
end L2
namespace L2
open PySem PySem.Spec PyProof.Rows
section
variable {X:Cx}
theorem call_sum (hc:X.calm=true):CallR X (.builtin "sum") (fun xs H Q=>∃ (p:Addr) (ns:List Int),xs=[.ref p]∧SqL X.K H p (ns.map V.int)∧Q (.int ns.sum) H):=by
 intro pins s σ H xs us Q I r h
 obtain ⟨p,ns,rfl,hq,q⟩:=h
 obtain ⟨u,rfl,rx⟩:=vals1 r
 cases rx
 obtain ⟨its,rv,pl,hz⟩:=I.list hq
 have hI:IntsAre its ns:=intsAre_of rv
 obtain ⟨ys,hx⟩:=hI.allInts.items
 have hl':s.heap.IsList p (intItems ys):=hx ▸ pl.isList
 refine sum_intListG (I.ok.hd hc) hl' fun h' tk t' hk=>?_
 have e1:ns=ys.toList.map (·.1):=by
  rw [←nums_intItems,←hx]
  exact (show numsOf its.toArray.toList=ns from hI.numsOf).symm
 have e2:preSum (numAt ys) ys.size=ns.sum:=by
  rw [preSum_eq,List.take_of_length_le (by simp),e1]
 rw [e2]
 exact ⟨.int ns.sum,H,I.kept hk,⟨_,rfl⟩,q⟩
end
end L2
namespace L2
open PySem PySem.Spec PyProof.Rows
section
variable {X:Cx} {pins:List (Addr × Obj)} {σ:List (Option V)} {H:Hp} {s:Shared} {h':Heap}
theorem Inv.turnedL {t':Nat} {its:List Addr} (I:Inv X pins σ H s) (k:∀ b o,b ∉ its→s.heap.get? b=some o→h'.get? b=some o) (hf:∀ b ∈ its,FpOk X pins H b):Inv X pins σ H { s with heap:=h',toks:=t' }:=by
 have nit:∀ b u,H b=some u→b ∉ its:=fun b u e z=>by rw [(hf b z).1] at e; cases e
 refine I.step (g':=s.gens) (d':=s.drawn) (ch:=its) (fun b hb=>?_) (fun b o _ _ hc e _=>k b o hc e) (fun b o _ _ hc e _=>⟨o.slots,k b o hc e⟩) (fun _ _ _ _ n=>n)
  (fun b o hc e=>⟨o,k b o hc e⟩) (fun _ _ e=>e) (fun _ _ _ e=>e) (fun b ps e=>⟨#[],by rw [e]; simp⟩) (fun m hm=>?_) (fun b u e=>?_) I.bare
 ·obtain ⟨f0,f1,f2,f3,f4,f5⟩:=hf b hb
  exact ⟨f3,f1,f4,f5⟩
 ·obtain ⟨o,es,ep,ho,r⟩:=hm
  exact ⟨o,es,ep,k _ o (fun z=>(hf _ z).2.1 rfl) ho,r⟩
 ·refine (I.hok b u e).stay (fun c v hc q=>k c v ?_ q) (fun _ q=>q) fun _ _ q=>q
  rcases hc with z | z
  ·rw [z]; exact nit b u e
  ·exact nit c _ z
end
def Itz (K:PySem.W.Frag) (a b:Addr):It :=
 ⟨fun i H=>∃ xs ys x y,SqL K H a xs∧SqL K H b ys∧xs[i]? = some x∧ys[i]? = some y,
  fun i H z H'=>∃ t x y,z=.ref t∧H t=none∧H'=upd H t (.tup [x,y])∧(∀ xs,SqL K H a xs→xs[i]? = some x)∧∀ ys,SqL K H b ys→ys[i]? = some y,
  fun i H=>∃ xs ys,SqL K H a xs∧SqL K H b ys∧(xs.length≤i ∨ ys.length≤i)⟩
structure Ap5 (z TI TO i1 i2:Addr):Prop where
 a1:TI≠z
 a2:TO≠z
 a3:i1≠z
 a4:i2≠z
 a5:TI≠TO
 a6:TI≠i1
 a7:TI≠i2
 a8:TO≠i1
 a9:TO≠i2
 b1:i1≠i2
def ZSt (z TI TO i1 i2 a b:Addr) (i:Nat) (h:Heap):Prop:=IsZip h z TI TO .none∧IsPair h TI (.ref i1) (.ref i2)∧(∃ c d,IsPair h TO c d)∧h.IsListIter i1 a i∧h.IsListIter i2 b i
theorem cls_ne {h:Heap} {a b:Addr} {o o':Obj} (e:h.get? a=some o) (e':h.get? b=some o') (n:o.cls≠o'.cls):a≠b:=fun z=>by
 subst z
 rw [e] at e'
 cases e'
 exact n rfl
theorem zap {h:Heap} {z TI TO i1 i2 a b:Addr} {i:Nat} {xs ys:Array Value} (D:Ap5 z TI TO i1 i2) (st:ZSt z TI TO i1 i2 a b i h) (ha:h.IsList a xs) (hb:h.IsList b ys):ZipApart z TI TO i1 i2 a b:=by
 obtain ⟨hz,hTI,⟨c,d,hTO⟩,⟨o1,e1,c1,_⟩,⟨o2,e2,c2,_⟩⟩:=st
 obtain ⟨oa,ea,ca,_⟩:=ha
 obtain ⟨ob,eb,cb,_⟩:=hb
 exact ⟨D.a1,D.a2,D.a3,D.a4,D.a5,D.a6,D.a7,D.a8,D.a9,D.b1,
  cls_ne ea hz (by rw [ca]; show Value.type "list"≠Value.type "zip"; decide),cls_ne ea hTO (by rw [ca]; show Value.type "list"≠Value.type "tuple"; decide),cls_ne ea e1 (by rw [ca,c1]; decide),cls_ne ea e2 (by rw [ca,c2]; decide),
  cls_ne eb hz (by rw [cb]; show Value.type "list"≠Value.type "zip"; decide),cls_ne eb hTO (by rw [cb]; show Value.type "list"≠Value.type "tuple"; decide),cls_ne eb e1 (by rw [cb,c1]; decide),cls_ne eb e2 (by rw [cb,c2]; decide)⟩
theorem turn_zip {P:Program} {w:World} {K:PySem.W.Frag} {elts:List Expr} {ek:Nat} {epos:Pos} {z TI TO i1 i2 a b:Addr} (D:Ap5 z TI TO i1 i2):Turn P w K (.Tuple elts ek epos) (Itz K a b) [z,TI,TO,i1,i2] z (ZSt z TI TO i1 i2 a b) where
 mem:=by simp
 obj:=fun i h st c hc=>by
  obtain ⟨hz,hTI,⟨p,q,hTO⟩,⟨o1,e1,c1,d1⟩,⟨o2,e2,c2,d2⟩⟩:=st
  have hc':c=z ∨ c=TI ∨ c=TO ∨ c=i1 ∨ c=i2:=by simpa using hc
  rcases hc' with rfl | rfl | rfl | rfl | rfl
  ·exact ⟨_,hz,fun v e=>by cases e⟩
  ·exact ⟨_,hTI,fun v e=>by cases e⟩
  ·exact ⟨_,hTO,fun v e=>by cases e⟩
  ·exact ⟨_,e1,fun v e=>by rw [d1] at e; cases e⟩
  ·exact ⟨_,e2,fun v e=>by rw [d2] at e; cases e⟩
 keep:=fun i h h' st k=>by
  obtain ⟨hz,hTI,⟨p,q,hTO⟩,l1,l2⟩:=st
  exact ⟨k z (by simp) _ hz,k TI (by simp) _ hTI,⟨p,q,k TO (by simp) _ hTO⟩,l1.at fun o e=>k i1 (by simp) o e,l2.at fun o e=>k i2 (by simp) o e⟩
 item:=by
  intro X hP hw hK hc i pins s σ H E I hf st hg
  subst hP hw hK
  obtain ⟨xs,ys,x,y,hx,hy,ex,ey⟩:=hg
  obtain ⟨ia,ra,pa,za⟩:=I.list hx
  obtain ⟨ib,rb,pb,zb⟩:=I.list hy
  obtain ⟨u,hu,ru⟩:=ra.get ex
  obtain ⟨v,hv,rv⟩:=rb.get ey
  have A:=zap D st pa.isList pb.isList
  have stl:=st
  obtain ⟨hz,hTI,⟨p,q,hTO⟩,l1,l2⟩:=st
  refine wpAny_pyNext_zip_item A hz hTI hTO l1 l2 pa.isList pb.isList (x:=u) (y:=v) (by simpa using hu) (by simpa using hv) fun h' a1 a2 a3 a4 a5 a6 a7=>?_
  refine ⟨_,rfl,wpAny_letOwnedTupleGo_zip a1 fun h2 b1 b2=>?_⟩
  have hT:H s.heap.objs.size=none:=I.hok.fresh (Nat.le_refl _)
  have ltz:∀ c o,s.heap.get? c=some o→s.heap.objs.size≠c:=fun c o e=>Nat.ne_of_gt (Heap.lt_size e)
  have hTI':=a7 _ _ D.a1 D.a5 D.a6 D.a7 hTI
  have Tz:s.heap.objs.size≠z:=ltz _ _ hz
  have aT:h2.get? s.heap.objs.size=some { cls:=.type "tuple",data:=.seq #[u,v] }:=b2.extBut _ _ Tz a5
  have k2:∀ c o,c≠z→c≠TO→c≠i1→c≠i2→s.heap.get? c=some o→h2.get? c=some o:=fun c o n1 n2 n3 n4 e=>b2.extBut _ _ n1 (a7 c o n1 n2 n3 n4 e)
  have I1:Inv X pins σ (upd H s.heap.objs.size (.tup [x,y])) { s with heap:=s.heap.push { cls:=.type "tuple",data:=.seq #[u,v] } }:=by
   refine I.laid (t':=s.toks) (fun c o e=>Heap.get?_push_of_some _ e) (Nat.le_refl _) ?_
   exact ⟨(by show 2≤sizeLine; decide),[u,v],.cons ru (.cons rv .nil),IsTup.new s.heap _⟩
  have hf1:∀ c ∈ [z,TI,TO,i1,i2],FpOk X pins (upd H s.heap.objs.size (.tup [x,y])) c:=fun c hc'=>by
   obtain ⟨f0,f⟩:=hf c hc'
   refine ⟨?_,f⟩
   have:∃ o,s.heap.get? c=some o:=by
    have hc'':c=z ∨ c=TI ∨ c=TO ∨ c=i1 ∨ c=i2:=by simpa using hc'
    obtain ⟨o1,e1,_⟩:=l1
    obtain ⟨o2,e2,_⟩:=l2
    rcases hc'' with rfl | rfl | rfl | rfl | rfl
    ·exact ⟨_,hz⟩
    ·exact ⟨_,hTI⟩
    ·exact ⟨_,hTO⟩
    ·exact ⟨_,e1⟩
    ·exact ⟨_,e2⟩
   obtain ⟨o,e⟩:=this
   rw [upd_ne (ltz c o e).symm]
   exact f0
  have I2:Inv X pins σ (upd H s.heap.objs.size (.tup [x,y])) { s with heap:=h2 }:=by
   refine Inv.turnedL (s:={ s with heap:=s.heap.push { cls:=.type "tuple",data:=.seq #[u,v] } }) (h':=h2) (t':=s.toks) (its:=[z,TI,TO,i1,i2]) I1 (fun c o hc' e=>?_) hf1
   have hc'':¬ (c=z ∨ c=TI ∨ c=TO ∨ c=i1 ∨ c=i2):=by simpa using hc'
   by_cases hcs:c=s.heap.objs.size
   ·subst hcs
    have e':(s.heap.push { cls:=.type "tuple",data:=.seq #[u,v] }).get? s.heap.objs.size=some o:=e
    rw [Heap.get?_push_size _ rfl] at e'
    cases e'
    exact aT
   ·have hlt:c < (s.heap.push { cls:=.type "tuple",data:=.seq #[u,v] }).objs.size:=Heap.lt_size e
    rw [Heap.size_push] at hlt
    refine k2 c o (fun z'=>hc'' (.inl z')) (fun z'=>hc'' (.inr (.inr (.inl z')))) (fun z'=>hc'' (.inr (.inr (.inr (.inl z'))))) (fun z'=>hc'' (.inr (.inr (.inr (.inr z'))))) ?_
    rw [←e]
    exact (Heap.get?_push_ne _ _ _ hcs).symm
  refine ⟨.ref s.heap.objs.size,_,I2,rfl,⟨_,x,y,rfl,hT,rfl,fun ws hw=>by rw [I.list_inj hw hx]; exact ex,fun ws hw=>by rw [I.list_inj hw hy]; exact ey⟩,?_,fun c hc'=>(hf1 c hc').1⟩
  exact ⟨b1,b2.extBut _ _ D.a1 hTI',⟨_,_,b2.extBut _ _ D.a2 a2⟩,a3.extBut b2.extBut D.a3,a4.extBut b2.extBut D.a4⟩
 done:=by
  intro X hP hw hK hc i pins s σ H E I hf st hg
  subst hP hw hK
  obtain ⟨xs,ys,hx,hy,hl⟩:=hg
  obtain ⟨ia,ra,pa,za⟩:=I.list hx
  obtain ⟨ib,rb,pb,zb⟩:=I.list hy
  have A:=zap D st pa.isList pb.isList
  have hla:=ra.length
  have hlb:=rb.length
  obtain ⟨hz,hTI,⟨p,q,hTO⟩,l1,l2⟩:=st
  refine wpAny_pyNext_zip_end (I.ok.hd hc) A hz hTI hTO l1 l2 pa.isList pb.isList (by
   rcases hl with hl | hl
   ·exact .inl (by simp; omega)
   ·exact .inr (by simp; omega)) fun h' k=>⟨rfl,?_⟩
  exact I.turnedL (t':=s.toks) (its:=[z,TI,TO,i1,i2]) (fun c o hc' e=>by
   have hc'':¬ (c=z ∨ c=TI ∨ c=TO ∨ c=i1 ∨ c=i2):=by simpa using hc'
   exact k c o (fun z'=>hc'' (.inl z')) (fun z'=>hc'' (.inr (.inr (.inl z')))) (fun z'=>hc'' (.inr (.inr (.inr (.inl z'))))) (fun z'=>hc'' (.inr (.inr (.inr (.inr z'))))) e) hf
 self:=fun _ _ _ _ _ st h=>wpAny_pyIter_zip st.1 h
section
variable {X:Cx}
def iZip (K:PySem.W.Frag) (ta:TA):TI:=fun σ H R=>ta σ H fun vs H1=>∃ a b,vs=[.ref a,.ref b]∧(∃ xs,SqL K H1 a xs)∧(∃ ys,SqL K H1 b ys)∧R (Itz K a b) H1
theorem boot_zip:bootBuiltins "zip" = some (.type "zip"):=by decide +kernel
theorem pi_zip {elts:List Expr} {ek:Nat} {epos:Pos} {a b:Expr} {ta:TA} {p pos:Pos} (hg:Gl X "zip") (hm:X.mg "zip" = none) (ha:PA X [a,b] ta) (hs:starEach [a,b] X.env=[(false,eval a X.env),(false,eval b X.env)]:=by rfl) (hs2:starEach [b] X.env=[(false,eval b X.env)]:=by rfl) :
  PI X (.Tuple elts ek epos) (.Call (.Name "zip" p) [a,b] [] pos) (iZip X.K ta):=by
 intro pins s σ H R I h
 refine Call_ (ld_blt I hg hm boot_zip (PyProof.Rows.callWith_type1 (thn (ha pos pins s σ H _ I h) fun us s1 ⟨vs,H1,I1,r1,q1⟩=>?_) (by rw [hs,hs2]) (by rw [hs2]; rfl)))
 obtain ⟨l1,l2,e,⟨xs,hx⟩,⟨ys,hy⟩,q⟩:=q1
 subst e
 obtain ⟨u,v,rfl,ru,rv⟩:=vals2 r1
 cases ru
 cases rv
 obtain ⟨ia,ra,pa,za⟩:=I1.list hx
 obtain ⟨ib,rb,pb,zb⟩:=I1.list hy
 refine call_zip_2 pa.isList pb.isList fun h' hz hTI hTO hi1 hi2 hsz hk=>wpAny_pyIter_zip hz ?_
 have fr:∀ b,s1.heap.objs.size≤b→FpOk X pins H1 b:=fun b hb=>I1.fpOk hb (I1.hok.fresh hb)
 refine ⟨_,[s1.heap.objs.size+4,s1.heap.objs.size+2,s1.heap.objs.size+3,s1.heap.objs.size,s1.heap.objs.size+1],_,_,H1,rfl,I1.kept (t':=s1.toks) hk,
  turn_zip (TI:=s1.heap.objs.size+2) (TO:=s1.heap.objs.size+3) (i1:=s1.heap.objs.size) (i2:=s1.heap.objs.size+1) (a:=l1) (b:=l2) ?_,⟨hz,hTI,⟨_,_,hTO⟩,hi1,hi2⟩,fun b hb=>?_,q⟩
 ·generalize s1.heap.objs.size=n
  have ne:∀ {x y:Nat},x≠y→(n+x:Nat)≠n+y:=fun h e=>h (Nat.add_left_cancel e)
  exact ⟨ne (by decide),ne (by decide),ne (x:=0) (by decide),ne (by decide),ne (by decide),ne (y:=0) (by decide),ne (by decide),ne (y:=0) (by decide),ne (by decide),ne (x:=0) (by decide)⟩
 ·have hb':b=s1.heap.objs.size+4 ∨ b=s1.heap.objs.size+2 ∨ b=s1.heap.objs.size+3 ∨ b=s1.heap.objs.size ∨ b=s1.heap.objs.size+1:=by simpa using hb
  rcases hb' with rfl | rfl | rfl | rfl | rfl
  ·exact fr _ (Nat.le_add_right _ _)
  ·exact fr _ (Nat.le_add_right _ _)
  ·exact fr _ (Nat.le_add_right _ _)
  ·exact fr _ (Nat.le_refl _)
  ·exact fr _ (Nat.le_add_right _ _)
end
end L2
namespace L2
open PySem PySem.Spec PyProof.Rows
def hid (y:Str):Str:="."++y
def blkNs (N xs:List Str):List Str:=N.map (fun y=>if y ∈ xs then hid y else y)++xs
structure LcScopes (S:Scope) (N:List Str) (sc:Scope) (xs:List Str):Prop where
 uniq:(sc.names.map (·.1)).Nodup
 kind:sc.kind=.function
 names:∀ y ∈ sc.names,y.2=.local→sc.names.lookup y.1=some .local
 loc:∀ x ∈ xs,sc.names.lookup x=some .local
 free:∀ y ∈ sc.names,y.2=.free→S.names.lookup y.1=some .cell ∨ S.names.lookup y.1=some .free
 only:∀ y ∈ sc.names,y.2=.local→y.1 ∈ xs ∨ y.1 = ".0"
 noC:∀ y ∈ sc.names,y.2≠.cell
 ne:∀ y ∈ sc.names,∀ x ∈ xs,y.1≠hid x
 dot:∀ y ∈ N,y≠".0"
 nd:(blkNs N xs).Nodup
def Cx.blks (X:Cx) (N':List Str) (sc:Scope) (s₀:Shared) (H₀:Hp) (fp:List Addr):Cx :=
 { X with N:=N',s₀:=s₀,H₀:=H₀,env:=compEnvC sc (clOf X.env.cells sc.names []) s₀.heap.objs.size X.env,outer:=X.stack,stack:=X.stack,ex:=fp,fn:=fun _=>false,pn:=[],xe:=fun _ _=>False }
section
variable {X:Cx} {pins:List (Addr × Obj)} {σ:St} {H:Hp} {s:Shared} {sc:Scope} {xs:List Str} {fp:List Addr}
theorem blkNs_len (N xs:List Str):(blkNs N xs).length=N.length+xs.length:=by simp [blkNs]
theorem blkNs_at {N xs:List Str} {i:Nat} {y:Str} (h:(blkNs N xs)[i]? = some y) (hi:i < N.length):∃ y0,N[i]? = some y0∧((y0 ∈ xs∧y=hid y0) ∨ (y0 ∉ xs∧y=y0)):=by
 unfold blkNs at h
 rw [List.getElem?_append_left (by simpa using hi),List.getElem?_map] at h
 cases q:N[i]? with
 | none=>rw [q] at h; cases h
 | some y0 =>
  rw [q] at h
  refine ⟨y0,rfl,?_⟩
  have h':(if y0 ∈ xs then hid y0 else y0)=y:=Option.some.inj h
  by_cases e:y0 ∈ xs
  ·rw [if_pos e] at h'; exact .inl ⟨e,h'.symm⟩
  ·rw [if_neg e] at h'; exact .inr ⟨e,h'.symm⟩
theorem Inv.has_cells (I:Inv X pins σ H s) {S:Scope} (L:LcScopes S X.N sc xs) (hS:X.env.scope=S):∀ y ∈ sc.names,y.2=.free→(X.env.cells.lookup y.1).isSome=true:=fun y hy hf=>by
 have k:X.env.kindOf y.1=some .cell ∨ X.env.kindOf y.1=some .free:=by
  show X.env.scope.names.lookup y.1=_ ∨ X.env.scope.names.lookup y.1=_
  rw [hS]
  exact L.free y hy hf
 obtain ⟨c,e⟩:=I.ok.has y.1 k
 rw [e]; rfl
theorem Inv.blks (I:Inv X pins σ H s) {S:Scope} (L:LcScopes S X.N sc xs) (hS:X.env.scope=S) (hf:∀ b ∈ fp,FpOk X pins H b) (hb:∀ b ∈ fp,b < s.heap.objs.size) {h1:Heap} {tk:Nat} {m:Str→Option Value} (hn:h1.Ns s.heap.objs.size m)
  (hk:∀ b o,s.heap.get? b=some o→h1.get? b=some o):Inv (X.blks (blkNs X.N xs) sc s H fp) [] (σ++xs.map fun _=>none) H { s with heap:=h1,toks:=tk }:=by
 have sub:∀ y c,(clOf X.env.cells sc.names []).lookup y=some c→X.env.cells.lookup y=some c:=clOf_sub sc.names [] fun _ _ z=>by cases z
 have hasC:∀ y,(y,NameKind.free) ∈ sc.names→∃ c,(clOf X.env.cells sc.names []).lookup y=some c:=fun y hy =>
  Option.isSome_iff_exists.mp (clOf_has (I.has_cells L hS (y,.free) hy rfl) sc.names [] hy)
 have kinds:∀ y k,(relabel sc X.env).names.lookup y=some k→(k=.cell ∨ k=.free)→(y,NameKind.free) ∈ sc.names:=fun y k e hk=>by
  obtain ⟨k0,hm,q⟩:=relab_lookup e
  rcases q with rfl | ⟨_,rfl⟩
  ·rcases hk with rfl | rfl
   ·exact absurd rfl (L.noC _ hm)
   ·exact hm
  ·exact hm
 have stk:=I.stkSub
 refine ⟨⟨I.ok.mod,L.kind,I.ok.glob,I.ok.blt,Nat.le_refl _,fun y z c e1 e2=>?_,fun y hy=>?_,fun y c z e=>?_,I.ok.hd,I.ok.frames,.inl rfl,fun b hb'=>?_,I.bs,Nat.le_trans I.ok.bsz I.sz,fun b o e hb'=>?_,fun b hb' z=>?_,I.stack,I.stkFree⟩,
  rfl,I.bare,Un.kept hk,⟨m,hn,fun i y v e1 e2 e3=>?_⟩,fun y c e=>?_,I.hok.fresh (Nat.le_refl _),fun y c e=>?_,fun p hp=>absurd (show p ∈ ([]:List (Addr × Obj)) from hp) (by simp),I.hok.kept hk,?_⟩
 ·exact I.ok.inj y z c (sub y c e1) (sub z c e2)
 ·have hy':(relabel sc X.env).names.lookup y=some .cell ∨ (relabel sc X.env).names.lookup y=some .free:=hy
  rcases hy' with e | e
  ·exact hasC y (kinds y _ e (.inl rfl))
  ·exact hasC y (kinds y _ e (.inr rfl))
 ·exact absurd (show false=true from z) (by decide)
 ·obtain ⟨f0,f1,f2,f3,f4,f5⟩:=hf b hb'
  exact ⟨Nat.ne_of_lt (hb b hb'),fun y c e z=>f4 y c (sub y c e) z⟩
 ·obtain ⟨f0,f1,f2,f3,f4,f5⟩:=hf b hb'
  rcases f3 with z | z
  ·exact I.ok.noex b o e z
  ·exact absurd (Nat.lt_of_lt_of_le (Heap.lt_size (I.ok.bs b o e).1) z) (Nat.lt_irrefl _)
 ·obtain ⟨f0,f1,f2,f3,f4,f5⟩:=hf b hb'
  rcases List.mem_cons.mp (stk b z) with q | q
  ·exact f1 q
  ·exact f2 q
 ·have hl:σ.length=X.N.length:=I.len
  have hi:i < X.N.length:=by
   by_cases hi:i < σ.length
   ·omega
   ·rw [List.getElem?_append_right (by omega),List.getElem?_map] at e2
    cases q:xs[i - σ.length]? with
    | none=>rw [q] at e2; cases e2
    | some n=>rw [q] at e2; cases e2
  rw [List.getElem?_append_left (by omega)] at e2
  obtain ⟨y0,g1,g2⟩:=blkNs_at e1 hi
  have vis:∃ k,(relabel sc X.env).names.lookup y=some k∧(k=.local ∨ k=.cell ∨ k=.free):=by
   rcases e3 with q | q | q
   ·exact ⟨_,q,.inl rfl⟩
   ·exact ⟨_,q,.inr (.inl rfl)⟩
   ·exact ⟨_,q,.inr (.inr rfl)⟩
  obtain ⟨k,q,hk'⟩:=vis
  obtain ⟨k0,hm,q0⟩:=relab_lookup q
  rcases g2 with ⟨g2,rfl⟩ | ⟨g2,rfl⟩
  ·exact absurd rfl (L.ne _ hm _ g2)
  ·have hkc:k=.cell ∨ k=.free:=by
    rcases hk' with rfl | z
    ·exfalso
     rcases q0 with rfl | ⟨z,_⟩
     ·rcases L.only _ hm rfl with z | z
      ·exact g2 z
      ·exact L.dot y (List.mem_of_getElem? g1) z
     ·cases z
    ·exact z
   have hfr:(y,NameKind.free) ∈ sc.names:=kinds y k q hkc
   have visX:X.env.scope.names.lookup y=some .cell ∨ X.env.scope.names.lookup y=some .free:=by rw [hS]; exact L.free _ hfr rfl
   obtain ⟨m0,_,hl0⟩:=I.loc
   obtain ⟨u,r,lk⟩:=hl0 i y v g1 e2 (.inr visX)
   refine ⟨u,r,?_⟩
   rcases lk with ⟨z,_⟩ | ⟨_,c,ec,hc⟩
   ·exfalso
    have z':X.env.scope.names.lookup y=some .local:=z
    rcases visX with w' | w' <;> rw [z'] at w' <;> cases w'
   ·obtain ⟨c',ec'⟩:=hasC y hfr
    have:c'=c:=Option.some.inj ((sub y c' ec').symm.trans ec)
    subst this
    refine .inr ⟨?_,c',ec',?_⟩
    ·rcases hkc with rfl | rfl
     ·exact .inl q
     ·exact .inr q
    ·obtain ⟨o,ho,hd⟩:=hc
     exact ⟨o,hk _ _ ho,hd⟩
 ·obtain ⟨v,o,ho,hd⟩:=I.cell y c (sub y c e)
  exact ⟨v,o,hk _ _ ho,hd⟩
 ·exact I.freeC y c (sub y c e)
 ·rw [List.length_append,List.length_map,I.len]
  exact (blkNs_len X.N xs).symm
def PTs (X:Cx) (ifs:List Expr) (t:TT):Prop :=
 ∀ (pins:List (Addr × Obj)) (s:Shared) (σ:St) (H:Hp) (Q:Bool→Hp→Prop),Inv X pins σ H s→t σ H Q →
  wpAny (model X.prog X.w) X.A (forIn ifs true fun c r=>if r=true then do let ok ← isTrue c X.env (eval c X.env); pure (ForInStep.yield ok) else pure (ForInStep.yield r)) (TP X pins σ Q) X.xe s
def tYes:TT:=fun _ H Q=>Q true H
theorem pts_nil:PTs X [] tYes:=fun _ _ _ H _ I h=>wpAny_tests_nil ⟨H,I,h⟩
theorem pts_one {c:Expr} {t:TT} (h:PT X c t):PTs X [c] t:=fun pins s σ H Q I q=>wpAny_tests_one (h pins s σ H Q I q)
theorem compLoopT {prog:Program} {w:World} {A:Around} {R:Result→Shared→Prop} {elt target iter:Expr} {ifs:List Expr} {scope:Scope} {pos:Pos} {it acc:Value} {env:Env} (I:Nat→Shared→Prop)
  (turn:∀ n s,I n s→wpAny (model prog w) A (pyNext it) (fun r s₁=>match r with
   | none=>R (.ok .next) s₁
   | some v=>wpAny (model prog w) A (letOwnedTupleGo target it v) (fun _ s₁'=>wpAny (model prog w) A (assign target env v) (fun _ s₂ =>
     wpAny (model prog w) A (forIn ifs true fun c r=>if r=true then do let ok ← isTrue c env (eval c env); pure (ForInStep.yield ok) else pure (ForInStep.yield r)) (fun ok s₃ =>
      if ok=true then wpAny (model prog w) A (eval elt env) (fun x s₄ =>
       wpAny (model prog w) A (call (.builtin "list.append") [acc,x]) (fun _ s₅=>∃ m,m < n∧I m s₅) (fun _ _=>False) s₄) (fun _ _=>False) s₃
      else ∃ m,m < n∧I m s₃) (fun _ _=>False) s₂) (fun _ _=>False) s₁') (fun _ _=>False) s₁) (fun _ _=>False) s)
  (n:Nat) (h:I n s):codeAny (model prog w) A (.compLoop (.ListComp elt [⟨target,iter,ifs,0⟩] scope pos) 0 it acc env) R s:=by
 refine codeAny_loop rfl I (fun n s hI=>?_) n h
 show wpAny _ A ((compTurn (.ListComp elt [⟨target,iter,ifs,0⟩] scope pos) 0 it acc env).onRaise (fun x=>do noteFrame x env; theTreesLotGoes x)) _ _ s
 refine wpAny_noted ?_
 rw [compTurn_list]
 refine wpAny_bind (wpAny_standAt (wpAny_bind (wpAny_mono (turn n s hI) (fun r s₁ h₁=>?_) fun _ _ z=>z.elim)))
 cases r with
 | none=>exact wpAny_pure h₁
 | some v =>
  refine wpAny_bind (wpAny_mono h₁ (fun _ s₁' h₁'=>?_) fun _ _ z=>z.elim)
  refine wpAny_bind (wpAny_mono h₁' (fun _ s₂ h₂=>wpAny_bind (wpAny_mono h₂ (fun ok s₃ h₃=>?_) fun _ _ z=>z.elim)) fun _ _ z=>z.elim)
  cases ok with
  | false=>exact wpAny_pure ⟨rfl,h₃⟩
  | true =>
   exact wpAny_bind (wpAny_bind (wpAny_mono h₃ (fun x s₄ h₄=>wpAny_bind (wpAny_mono h₄ (fun _ s₅ h₅=>wpAny_pure (wpAny_pure ⟨rfl,h₅⟩)) fun _ _ z=>z.elim)) fun _ _ z=>z.elim))
def LcW (n:Nat) (J:It) (g:TG) (tt:TT) (te:TE) (σ:St) (H1:Hp) (Q:VK):Prop:=∀ D,H1 D=none→∃ W:Nat→Nat→List V→Hp→Prop,(∃ m,W 0 m [] (upd H1 D (.lst []))) ∧
 ∀ i m ys H',W i m ys H'→H' D=some (.lst ys)∧((J.stop i H'∧Q (.ref D) H') ∨ (J.go i H'∧∀ z H2,J.yld i H' z H2→∀ os:St,os.length=n→g z (σ++os) H2 fun σ' H3=>(∃ os':St,σ'=σ++os'∧os'.length=n)∧tt σ' H3 fun ok H4 =>
  if ok=true then te σ' H4 fun v H5=>H5 D=some (.lst ys)∧ys.length < sizeLine∧∃ m',m' < m∧W (i+1) m' (ys++[v]) (upd H5 D (.lst (ys++[v]))) else ∃ m',m' < m∧W (i+1) m' ys H4))
def tLcs (n:Nat) (ti:TI) (g:TG) (tt:TT) (te:TE):TE:=fun σ H Q=>ti σ H fun J H1=>LcW n J g tt te σ H1 Q
theorem lcs_core {elt iter target:Expr} {ifs:List Expr} {pos:Pos} {g:TG} {tt:TT} {te:TE} {S:Scope} {use:Option (Value→Sem Unit)} {QQ:Value→Shared→Prop} {Q:VK} {it:Addr} {tn:Nat→Heap→Prop} {J:It} (hc:X.calm=true) (L:LcScopes S X.N sc xs) (hS:X.env.scope=S)
  (hg:∀ (s₀:Shared) (H₀:Hp) (fp:List Addr),PG (X.blks (blkNs X.N xs) sc s₀ H₀ fp) target g) (ht:∀ (s₀:Shared) (H₀:Hp) (fp:List Addr),PTs (X.blks (blkNs X.N xs) sc s₀ H₀ fp) ifs tt)
  (he:∀ (s₀:Shared) (H₀:Hp) (fp:List Addr),PE (X.blks (blkNs X.N xs) sc s₀ H₀ fp) elt te)
  (I:Inv X pins σ H s) (T:Turn X.prog X.w X.K target J fp it tn) (st:tn 0 s.heap) (hf:∀ b ∈ fp,FpOk X pins H b) (h:LcW xs.length J g tt te σ H Q)
  (fin:∀ (D C:Addr) (H':Hp) (s':Shared) (m:Str→Option Value),Inv X pins σ H' s'→Q (.ref D) H'→s'.heap.Ns C m→H' C=none→s.heap.objs.size≤C→(∀ p ∈ X.pn++pins,p.1≠C)→C≠X.env.locals→(∀ y c,X.env.cells.lookup y=some c→c≠C)→compPost (model X.prog X.w) X.A X.xe use QQ (.ref D) C (.ok .next) s') :
  wpAny (model X.prog X.w) X.A (newList []) (fun acc s₃=>wpAny (model X.prog X.w) X.A (newFunctionEnv sc X.env.globals (clOf X.env.cells sc.names []) [] X.env.qual none .none (some X.env)) (fun cenv s₄ =>
   codeAny (model X.prog X.w) X.A (.compStart (.ListComp elt [⟨target,iter,ifs,0⟩] sc pos) 0 (.ref it) acc { cenv with scope:=relabel sc X.env }) (compPost (model X.prog X.w) X.A X.xe use QQ acc cenv.locals) s₄) X.xe s₃) X.xe s:=by
 refine wpAny_newObj_type ?_
 have hD:H s.heap.objs.size=none:=I.hok.fresh (Nat.le_refl _)
 obtain ⟨W,⟨m0,w0⟩,turn⟩:=h s.heap.objs.size hD
 have I2:Inv X pins σ (upd H s.heap.objs.size (.lst [])) { s with heap:=s.heap.push { cls:=.type "list",data:=.seq ([]:List Value).toArray } }:=I.lnew (t':=s.toks) .nil (Nat.zero_le _)
 have lt0:∀ b ∈ fp,b < s.heap.objs.size:=fun b hb=>by
  obtain ⟨o,e,_⟩:=T.obj 0 s.heap st b hb
  exact Heap.lt_size e
 have hf2:∀ b ∈ fp,FpOk X pins (upd H s.heap.objs.size (.lst [])) b:=fun b hb=>by
  obtain ⟨f0,f⟩:=hf b hb
  exact ⟨by rw [upd_ne (Nat.ne_of_lt (lt0 b hb))]; exact f0,f⟩
 have st2:tn 0 (s.heap.push { cls:=.type "list",data:=.seq ([]:List Value).toArray }):=T.keep 0 _ _ st fun b _ o e=>Heap.get?_push_of_some _ e
 generalize hs2:({ s with heap:=s.heap.push { cls:=.type "list",data:=.seq ([]:List Value).toArray } }:Shared)=s2 at I2
 have eh:s2.heap=s.heap.push { cls:=.type "list",data:=.seq ([]:List Value).toArray }:=by rw [←hs2]
 have lt2:∀ b ∈ fp,b < s2.heap.objs.size:=fun b hb=>by rw [eh,Heap.size_push]; exact Nat.lt_succ_of_lt (lt0 b hb)
 rw [←eh] at st2
 have le2:s.heap.objs.size≤s2.heap.objs.size:=by rw [eh,Heap.size_push]; exact Nat.le_succ _
 show wpAny _ _ _ _ _ s2
 refine newEnv_lc ?_
 rw [cellsFrom_none L.noC,pushCells_none L.noC]
 have hns₁:(s2.heap.push { cls:=.type "dict",data:=.dict #[] }).Ns s2.heap.objs.size _:=Heap.Ns.new s2.heap (.type "dict")
 have keep:∀ b o,s2.heap.get? b=some o→(s2.heap.push { cls:=.type "dict",data:=.dict #[] }).get? b=some o:=fun b o e=>Heap.get?_push_of_some _ e
 generalize s2.heap.push { cls:=.type "dict",data:=.dict #[] }=h₁ at hns₁ keep ⊢
 have J0:Inv (X.blks (blkNs X.N xs) sc s2 (upd H s.heap.objs.size (.lst [])) fp) [] (σ++xs.map fun _=>none) (upd H s.heap.objs.size (.lst [])) { s2 with heap:=h₁ }:=I2.blks (tk:=s2.toks) L hS hf2 lt2 hns₁ keep
 have st3:tn 0 h₁:=T.keep 0 _ _ st2 fun b _ o e=>keep b o e
 have stat:∀ {H':Hp},(∀ b ∈ fp,H' b=none)→∀ b ∈ fp,FpOk (X.blks (blkNs X.N xs) sc s2 (upd H s.heap.objs.size (.lst [])) fp) [] H' b:=fun {H'} hn b hb=>by
  have o1:=J0.ok.exf b hb
  exact ⟨hn b hb,o1.1,J0.ok.exfs b hb,.inl hb,o1.2,fun p hp=>absurd (show p ∈ ([]:List (Addr × Obj)) from hp) (by simp)⟩
 have loop:codeAny (model X.prog X.w) X.A (.compLoop (.ListComp elt [⟨target,iter,ifs,0⟩] sc pos) 0 (.ref it) (.ref s.heap.objs.size) (compEnvC sc (clOf X.env.cells sc.names []) s2.heap.objs.size X.env))
   (compPost (model X.prog X.w) X.A X.xe use QQ (.ref s.heap.objs.size) s2.heap.objs.size) { s2 with heap:=h₁ }:=by
  refine compLoopT (fun n s'=>∃ i ys H' os,os.length=xs.length∧Inv (X.blks (blkNs X.N xs) sc s2 (upd H s.heap.objs.size (.lst [])) fp) [] (σ++os) H' s'∧tn i s'.heap∧(∀ b ∈ fp,H' b=none)∧W i n ys H') ?_ m0 ⟨0,[],_,xs.map fun _=>none,by simp,J0,st3,fun b hb=>(hf2 b hb).1,w0⟩
  rintro n s4 ⟨i,ys,H4,os,los,J4,st4,fr4,w4⟩
  obtain ⟨hD4,tt'⟩:=turn i n ys H4 w4
  rcases tt' with ⟨stop,q⟩ | ⟨go,step⟩
  ·refine thn (T.done (X.blks (blkNs X.N xs) sc s2 (upd H s.heap.objs.size (.lst [])) fp) rfl rfl rfl hc i [] s4 _ H4 _ J4 (stat fr4) st4 stop) fun r s5 ⟨hr,J5⟩=>?_
   subst hr
   have I5:Inv X pins σ H4 s5:=I2.call' J5.os J5.base J5.hok J5.bare fun b hb=>by
    obtain ⟨f0,f1,f2,f3,f4,f5⟩:=hf2 b hb
    exact ⟨f3,f1,f4,f5⟩
   obtain ⟨m5,n5,_⟩:=J5.loc
   exact fin _ _ H4 s5 m5 I5 q n5 J5.free le2 (fun p hp z=>by
     have:=Heap.lt_size (I2.pin p hp).1
     rw [z] at this
     exact Nat.lt_irrefl _ this) (Nat.ne_of_gt I2.lt) (fun y c e z=>by
     obtain ⟨v,o,ho,_⟩:=I2.cell y c e
     have:=Heap.lt_size ho
     rw [z] at this
     exact Nat.lt_irrefl _ this)
  ·refine thn (T.item (X.blks (blkNs X.N xs) sc s2 (upd H s.heap.objs.size (.lst [])) fp) rfl rfl rfl hc i [] s4 _ H4 _ J4 (stat fr4) st4 go) fun r s5 ⟨u,hr,h5⟩=>?_
   subst hr
   refine thn h5 fun _ s6 ⟨z,H6,J6,r6,y6,st6,fr6⟩=>?_
   have J6':=J6.pinned (stat fr6) (T.obj _ _ st6)
   refine thn (hg s2 (upd H s.heap.objs.size (.lst [])) fp _ s6 _ H6 z u _ J6' r6 (step z H6 y6 os los)) fun _ s7 ⟨σ7,H7,J7,⟨os',e7,l7⟩,t7⟩=>?_
   subst e7
   refine thn (ht s2 (upd H s.heap.objs.size (.lst [])) fp _ s7 _ H7 _ J7 t7) fun ok s8 ⟨H8,J8,t8⟩=>?_
   cases ok with
   | false =>
    rw [if_neg Bool.false_ne_true] at t8 ⊢
    obtain ⟨m',hm,w8⟩:=t8
    refine ⟨m',hm,i+1,ys,_,os',l7,J8.unpinned,T.keep _ _ _ st6 fun b hb o e=>(J8.pin (b,o) (List.mem_append_right _ (List.mem_append_right _ (mem_pinsAt hb e)))).1,fun b hb=>?_,w8⟩
    obtain ⟨o',e',_⟩:=T.obj _ _ st6 b hb
    exact (J8.pin (b,o') (List.mem_append_right _ (List.mem_append_right _ (mem_pinsAt hb e')))).2.1
   | true =>
    rw [if_pos rfl] at t8 ⊢
    refine thn (he s2 (upd H s.heap.objs.size (.lst [])) fp _ s8 _ H8 _ J8 t8) fun vv s9 ⟨v,H9,J9,r9,hD9,hz9,m',hm,w9⟩=>?_
    refine thn (mt_append (X:=X.blks (blkNs X.N xs) sc s2 (upd H s.heap.objs.size (.lst [])) fp) _ s9 _ H9 (.ref s.heap.objs.size) [v] (.ref s.heap.objs.size) [vv] (fun _ H'=>H'=upd H9 s.heap.objs.size (.lst (ys++[v]))) J9 rfl (.cons r9 .nil) ⟨_,ys,v,rfl,rfl,hD9,hz9,rfl⟩) fun _ s10 ⟨_,H10,J10,_,e10⟩=>?_
    subst e10
    refine ⟨m',hm,i+1,ys++[v],_,os',l7,J10.unpinned,T.keep _ _ _ st6 fun b hb o e=>(J10.pin (b,o) (List.mem_append_right _ (List.mem_append_right _ (mem_pinsAt hb e)))).1,fun b hb=>?_,w9⟩
    obtain ⟨o',e',_⟩:=T.obj _ _ st6 b hb
    exact (J10.pin (b,o') (List.mem_append_right _ (List.mem_append_right _ (mem_pinsAt hb e')))).2.1
 refine codeAny_compStart_list loop (T.self _ 0 _ _ _ st3 loop)
theorem pe_lcs {elt iter target:Expr} {ifs:List Expr} {pos:Pos} {ti:TI} {g:TG} {tt:TT} {te:TE} {S:Scope} (hc:X.calm=true) (L:LcScopes S X.N sc xs) (hS:X.env.scope=S) (hi:PI X target iter ti)
  (hg:∀ (s₀:Shared) (H₀:Hp) (fp:List Addr),PG (X.blks (blkNs X.N xs) sc s₀ H₀ fp) target g) (ht:∀ (s₀:Shared) (H₀:Hp) (fp:List Addr),PTs (X.blks (blkNs X.N xs) sc s₀ H₀ fp) ifs tt)
  (he:∀ (s₀:Shared) (H₀:Hp) (fp:List Addr),PE (X.blks (blkNs X.N xs) sc s₀ H₀ fp) elt te) (hs:∀ x,foldedSetIterable iter X.env x=pure x:=by intro _; rfl) :
  PE X (.ListComp elt [⟨target,iter,ifs,0⟩] sc pos) (tLcs xs.length ti g tt te):=by
 intro pins s σ H Q I h
 rw [eval_ListComp]
 refine wpAny_comprehension_free (use:=none) rfl hs (closure_of (I.has_cells L hS)) L.kind L.names (thn (hi pins s σ H _ I h) fun xv s₁ h₁=>thn h₁ fun itv s₂ h₂=>?_)
 obtain ⟨it,fp,tn,J,H2,rfl,I2,T,st2,f2,q2⟩:=h₂
 refine lcs_core hc L hS hg ht he I2 T st2 f2 q2 ?_
 intro D C H' s' m I' q hn hC hle hp hL hcl
 refine ⟨m,hn,fun h' hs'=>?_⟩
 have I3:Inv X pins σ H' { s' with heap:=h' }:=I'.turned (t':=s'.toks) (fun b o hb e=>(hs'.2 b hb).trans e) hC hL (.inr (Nat.le_trans I2.sz hle)) hcl hp
 exact ⟨.ref D,H',I3,rfl,q⟩
theorem ps_setLcs {elt iter target:Expr} {ifs:List Expr} {i:Nat} {y:Str} {py pos spos:Pos} {ti:TI} {g:TG} {tt:TT} {te:TE} {S:Scope} (hN:X.N.Nodup) (hi:X.N[i]? = some y) (hy:Loc X.env.scope y) (hc:X.calm=true) (L:LcScopes S X.N sc xs) (hS:X.env.scope=S) (hit:PI X target iter ti)
  (hg:∀ (s₀:Shared) (H₀:Hp) (fp:List Addr),PG (X.blks (blkNs X.N xs) sc s₀ H₀ fp) target g) (ht:∀ (s₀:Shared) (H₀:Hp) (fp:List Addr),PTs (X.blks (blkNs X.N xs) sc s₀ H₀ fp) ifs tt)
  (he:∀ (s₀:Shared) (H₀:Hp) (fp:List Addr),PE (X.blks (blkNs X.N xs) sc s₀ H₀ fp) elt te)
  (hsw:swapsWith (.ListComp elt [⟨target,iter,ifs,0⟩] sc pos) (some (.Name y py)) spos.line X.env=pure true:=by rfl) (hs:∀ x,foldedSetIterable iter X.env x=pure x:=by intro _; rfl)
  (hf:X.fn y=true ∨ X.env.scope.names.lookup y=some .local:=by first | exact .inl rfl | exact .inr rfl | assumption) :
  PS X (.Assign [.Name y py] (.ListComp elt [⟨target,iter,ifs,0⟩] sc pos) spos) (tAsg (tLcs xs.length ti g tt te) (gName i)):=by
 intro pins s σ H D I h
 rw [exec_Assign_Name_used _ _ _ _ hsw]
 refine wpAny_bind (wpAny_standAt (wpAny_bind ?_))
 show wpAny _ _ (do let _ ← comprehension (.ListComp elt [⟨target,iter,ifs,0⟩] sc pos) sc X.env _ (newList []) false (eval iter X.env) (some (assign (.Name y py) X.env))) _ _ s
 refine wpAny_bind (wpAny_mono (wpAny_comprehension_free (use:=some (assign (.Name y py) X.env)) (Q:=fun _ s'=>SP X pins D .next s') rfl hs (closure_of (I.has_cells L hS)) L.kind L.names
  (thn (hit pins s σ H _ I h) fun xv s₁ h₁=>thn h₁ fun itv s₂ h₂=>?_)) (fun _ s' hq=>wpAny_pure (wpAny_pure hq)) fun _ _ e=>e)
 obtain ⟨it,fp,tn,J,H2,rfl,I2,T,st2,f2,q2⟩:=h₂
 refine lcs_core (Q:=fun v H'=>D.nx (σ.set i (some v)) H') hc L hS hg ht he I2 T st2 f2 q2 ?_
 intro D' C H' s' m I' q hn hC hle hp hL hcl
 show wpAny _ _ (assign (.Name y py) X.env (.ref D')) _ _ s'
 refine wpAny_assign_Name (store_ok2 I' hN hi hy (v:=.ref D') (u:=.ref D') rfl (fun s'' I'' ⟨a,sb,ha⟩=>?_) hf)
 have nCa:C≠a:=by
  rcases ha with rfl | ha
  ·exact hL
  ·exact fun z=>hcl y a ha z.symm
 refine ⟨m,hn.sameBut sb nCa,fun h' hs'=>?_⟩
 have I3:Inv X pins (σ.set i (some (.ref D'))) H' { s'' with heap:=h' }:=I''.turned (t':=s''.toks) (fun b o hb e=>(hs'.2 b hb).trans e) hC hL (.inr (Nat.le_trans I2.sz hle)) hcl hp
 exact ⟨_,H',I3,q⟩
def g2 (K:PySem.W.Frag) (n:Nat):TG:=gTup K 2 (gCons (gName n) (gCons (gName (n+1)) gNil))
theorem pg_two {S:Scope} {x y:Str} {px py tpos:Pos} {k:Nat} (hc:X.calm=true) (L:LcScopes S X.N sc [x,y]) (s₀:Shared) (H₀:Hp) (fp:List Addr):PG (X.blks (blkNs X.N [x,y]) sc s₀ H₀ fp) (.Tuple [.Name x px,.Name y py] k tpos) (g2 X.K X.N.length):=by
 refine pg_tup (X:=X.blks (blkNs X.N [x,y]) sc s₀ H₀ fp) hc (pgs_cons (pg_name L.nd ?_ (.inl (lookup_relabel_local (L.loc x (by simp)))) (.inr (lookup_relabel_local (L.loc x (by simp))))) (pgs_cons (pg_name L.nd ?_ (.inl (lookup_relabel_local (L.loc y (by simp)))) (.inr (lookup_relabel_local (L.loc y (by simp))))) pgs_nil))
 ·show (blkNs X.N [x,y])[X.N.length]? = some x
  unfold blkNs
  rw [List.getElem?_append_right (by simp)]
  simp
 ·show (blkNs X.N [x,y])[X.N.length+1]? = some y
  unfold blkNs
  rw [List.getElem?_append_right (by simp)]
  simp
theorem pg_one {S:Scope} {x:Str} {px:Pos} (L:LcScopes S X.N sc [x]) (s₀:Shared) (H₀:Hp) (fp:List Addr):PG (X.blks (blkNs X.N [x]) sc s₀ H₀ fp) (.Name x px) (gName X.N.length):=by
 refine pg_name L.nd ?_ (.inl (lookup_relabel_local (L.loc x (by simp)))) (.inr (lookup_relabel_local (L.loc x (by simp))))
 show (blkNs X.N [x])[X.N.length]? = some x
 unfold blkNs
 rw [List.getElem?_append_right (by simp)]
 simp
end
end L2
namespace L2
open PySem PySem.Spec PyProof.Rows
theorem lcw_one {n:Nat} {J:It} {te:TE} {σ:St} {H1:Hp} {Q:VK} (hn:σ.length=n) (h:∀ D,H1 D=none→∃ W:Nat→Nat→List V→Hp→Prop,(∃ m,W 0 m [] (upd H1 D (.lst []))) ∧
  ∀ i m ys H',W i m ys H'→H' D=some (.lst ys)∧((J.stop i H'∧Q (.ref D) H') ∨ (J.go i H'∧∀ z H2,J.yld i H' z H2→te (σ++[some z]) H2 fun v H3=>H3 D=some (.lst ys)∧ys.length < sizeLine∧∃ m',m' < m∧W (i+1) m' (ys++[v]) (upd H3 D (.lst (ys++[v])))))) :
  LcW 1 J (gName n) tYes te σ H1 Q:=by
 subst hn
 intro D hD
 obtain ⟨W,w0,st⟩:=h D hD
 refine ⟨W,w0,fun i m ys H' hw=>?_⟩
 obtain ⟨e,d⟩:=st i m ys H' hw
 refine ⟨e,d.imp id fun ⟨go,yl⟩=>⟨go,fun z H2 hy os los=>?_⟩⟩
 match os,los with
 | [o],_ =>
  have es:(σ++[o]).set σ.length (some z)=σ++[some z]:=by
   rw [List.set_append_right _ _ (Nat.le_refl _),Nat.sub_self]
   rfl
  show (∃ os':St,(σ++[o]).set σ.length (some z)=σ++os'∧os'.length=1)∧tYes ((σ++[o]).set σ.length (some z)) H2 _
  rw [es]
  exact ⟨⟨[some z],rfl,rfl⟩,iteT (B:=∃ m',m' < m∧W (i+1) m' ys H2) (yl z H2 hy)⟩
section
variable {X:Cx} {sc:Scope} {x:Str}
theorem pe_lc1 {elt iter:Expr} {px pos:Pos} {ti:TI} {te:TE} {S:Scope} (hc:X.calm=true) (L:LcScopes S X.N sc [x]) (hS:X.env.scope=S) (hi:PI X (.Name x px) iter ti)
  (he:∀ (s₀:Shared) (H₀:Hp) (fp:List Addr),PE (X.blks (blkNs X.N [x]) sc s₀ H₀ fp) elt te) (hs:∀ x,foldedSetIterable iter X.env x=pure x:=by intro _; rfl) :
  PE X (.ListComp elt [⟨.Name x px,iter,[],0⟩] sc pos) (tLc ti te):=by
 intro pins s σ H Q I h
 rw [eval_ListComp]
 refine wpAny_comprehension_free (use:=none) rfl hs (closure_of (I.has_cells L hS)) L.kind L.names (thn (hi pins s σ H _ I h) fun xv s₁ h₁=>thn h₁ fun itv s₂ h₂=>?_)
 obtain ⟨it,fp,tn,J,H2,rfl,I2,T,st2,f2,q2⟩:=h₂
 refine lcs_core hc L hS (pg_one L) (fun _ _ _=>pts_nil) he I2 T st2 f2 (lcw_one I2.len q2) ?_
 intro D C H' s' m I' q hn hC hle hp hL hcl
 refine ⟨m,hn,fun h' hs'=>?_⟩
 have I3:Inv X pins σ H' { s' with heap:=h' }:=I'.turned (t':=s'.toks) (fun b o hb e=>(hs'.2 b hb).trans e) hC hL (.inr (Nat.le_trans I2.sz hle)) hcl hp
 exact ⟨.ref D,H',I3,rfl,q⟩
end
end L2
namespace L2
open PySem PySem.Spec PyProof.Rows
section
variable {X:Cx} {sc:Scope} {x:Str}
theorem ps_setLc1 {elt iter:Expr} {i:Nat} {y:Str} {px py pos spos:Pos} {ti:TI} {te:TE} {S:Scope} (hN:X.N.Nodup) (hi:X.N[i]? = some y) (hy:Loc X.env.scope y) (hc:X.calm=true) (L:LcScopes S X.N sc [x]) (hS:X.env.scope=S) (hit:PI X (.Name x px) iter ti)
  (he:∀ (s₀:Shared) (H₀:Hp) (fp:List Addr),PE (X.blks (blkNs X.N [x]) sc s₀ H₀ fp) elt te)
  (hsw:swapsWith (.ListComp elt [⟨.Name x px,iter,[],0⟩] sc pos) (some (.Name y py)) spos.line X.env=pure true:=by rfl) (hs:∀ x,foldedSetIterable iter X.env x=pure x:=by intro _; rfl)
  (hf:X.fn y=true ∨ X.env.scope.names.lookup y=some .local:=by first | exact .inl rfl | exact .inr rfl | assumption) :
  PS X (.Assign [.Name y py] (.ListComp elt [⟨.Name x px,iter,[],0⟩] sc pos) spos) (tAsg (tLc ti te) (gName i)):=by
 intro pins s σ H D I h
 rw [exec_Assign_Name_used _ _ _ _ hsw]
 refine wpAny_bind (wpAny_standAt (wpAny_bind ?_))
 show wpAny _ _ (do let _ ← comprehension (.ListComp elt [⟨.Name x px,iter,[],0⟩] sc pos) sc X.env _ (newList []) false (eval iter X.env) (some (assign (.Name y py) X.env))) _ _ s
 refine wpAny_bind (wpAny_mono (wpAny_comprehension_free (use:=some (assign (.Name y py) X.env)) (Q:=fun _ s'=>SP X pins D .next s') rfl hs (closure_of (I.has_cells L hS)) L.kind L.names
  (thn (hit pins s σ H _ I h) fun xv s₁ h₁=>thn h₁ fun itv s₂ h₂=>?_)) (fun _ s' hq=>wpAny_pure (wpAny_pure hq)) fun _ _ e=>e)
 obtain ⟨it,fp,tn,J,H2,rfl,I2,T,st2,f2,q2⟩:=h₂
 refine lcs_core (Q:=fun v H'=>D.nx (σ.set i (some v)) H') hc L hS (pg_one L) (fun _ _ _=>pts_nil) he I2 T st2 f2 (lcw_one (Q:=fun v H'=>D.nx (σ.set i (some v)) H') I2.len q2) ?_
 intro D' C H' s' m I' q hn hC hle hp hL hcl
 show wpAny _ _ (assign (.Name y py) X.env (.ref D')) _ _ s'
 refine wpAny_assign_Name (store_ok2 I' hN hi hy (v:=.ref D') (u:=.ref D') rfl (fun s'' I'' ⟨a,sb,ha⟩=>?_) hf)
 have nCa:C≠a:=by
  rcases ha with rfl | ha
  ·exact hL
  ·exact fun z=>hcl y a ha z.symm
 refine ⟨m,hn.sameBut sb nCa,fun h' hs'=>?_⟩
 have I3:Inv X pins (σ.set i (some (.ref D'))) H' { s'' with heap:=h' }:=I''.turned (t':=s''.toks) (fun b o hb e=>(hs'.2 b hb).trans e) hC hL (.inr (Nat.le_trans I2.sz hle)) hcl hp
 exact ⟨_,H',I3,q⟩
end
end L2
namespace M11
abbrev G (a b:Int):Int:=(Int.gcd a b:Nat)
theorem gcd_step (a b:Int):Int.gcd b (a.fmod b)=Int.gcd a b:=by
 rw [Int.fmod_def,Int.gcd_sub_mul_left_right,Int.gcd_comm]
theorem fmod_small (a b:Int) (h:b≠0):(a.fmod b).natAbs < b.natAbs:=by
 rcases Int.lt_or_lt_of_ne h with hb | hb
 ·have e:=Int.neg_fmod_neg a b
  have h1:=Int.fmod_nonneg_of_pos (-a) (b:=-b) (by omega)
  have h2:=Int.fmod_lt_of_pos (-a) (b:=-b) (by omega)
  omega
 ·have h1:=Int.fmod_nonneg_of_pos a hb
  have h2:=Int.fmod_lt_of_pos a hb
  omega
theorem gcd_end (a:Int):(if a < 0 then -a else a)=G a 0:=by
 show _=((Int.gcd a 0:Nat):Int)
 rw [Int.gcd_zero_right]
 split <;> omega
theorem gcd_stepN (l r:Int):Int.gcd (r % l) l=Int.gcd l r:=by
 have e:r % l=r - l * (r / l):=Int.emod_def r l
 rw [Int.gcd_comm,e,Int.gcd_sub_mul_left_right]
theorem gcd_abs (a b:Int):Int.gcd (if a < 0 then -a else a) (if b < 0 then -b else b)=Int.gcd a b:=by
 split <;> split <;> simp only [Int.gcd_neg,Int.neg_gcd]
def sgn (t b:Int):Int:=if b < 0 then -(G t b) else G t b
def low (t b:Int):Int × Int:=(t.fdiv (sgn t b),b.fdiv (sgn t b))
theorem sgn_ne {t b:Int} (h:b≠0):sgn t b≠0:=by
 have:=Int.gcd_pos_of_ne_zero_right t h
 unfold sgn G
 split <;> omega
theorem G_le {t b:Int} (h:b≠0):G t b≤(b.natAbs:Int):=by
 have h1:Int.gcd t b ∣ b.natAbs:=by
  have:=Int.natAbs_dvd_natAbs.mpr (Int.gcd_dvd_right t b)
  simpa using this
 have h2:0 < b.natAbs:=by omega
 exact Int.ofNat_le.mpr (Nat.le_of_dvd h2 h1)
theorem sgn_le {t b:Int} (h:b≠0):(sgn t b).natAbs≤b.natAbs:=by
 have h1:=G_le (t:=t) h
 have h2:0≤G t b:=Int.natCast_nonneg _
 unfold sgn
 generalize G t b=g at h1 h2 ⊢
 split <;> omega
theorem sgn_natAbs (t b:Int):(sgn t b).natAbs=Int.gcd t b:=by
 unfold sgn G
 split <;> omega
theorem sgn_dvd_l (t b:Int):sgn t b ∣ t:=by
 unfold sgn
 split
 ·exact Int.neg_dvd.mpr (Int.gcd_dvd_left t b)
 ·exact Int.gcd_dvd_left t b
theorem sgn_dvd_r (t b:Int):sgn t b ∣ b:=by
 unfold sgn
 split
 ·exact Int.neg_dvd.mpr (Int.gcd_dvd_right t b)
 ·exact Int.gcd_dvd_right t b
theorem low_spec {t b:Int} (h:b≠0):∃ t' b',t=sgn t b * t'∧b=sgn t b * b'∧low t b=(t',b')∧0 < b'∧Int.gcd t' b'=1:=by
 have hn:=sgn_ne (t:=t) h
 obtain ⟨t',e1⟩:=sgn_dvd_l t b
 obtain ⟨b',e2⟩:=sgn_dvd_r t b
 refine ⟨t',b',e1,e2,?_,?_,?_⟩
 ·have f1:t.fdiv (sgn t b)=t':=(congrArg (fun z=>Int.fdiv z (sgn t b)) e1).trans (Int.mul_fdiv_cancel_left t' hn)
  have f2:b.fdiv (sgn t b)=b':=(congrArg (fun z=>Int.fdiv z (sgn t b)) e2).trans (Int.mul_fdiv_cancel_left b' hn)
  unfold low
  rw [f1,f2]
 ·by_cases hb:b < 0
  ·have hs:sgn t b < 0:=by
    have:=Int.gcd_pos_of_ne_zero_right t h
    unfold sgn G
    rw [if_pos hb]
    omega
   by_cases hp:0 < b'
   ·exact hp
   ·have:=Int.mul_nonneg_of_nonpos_of_nonpos (a:=sgn t b) (b:=b') (by omega) (by omega)
    omega
  ·have hs:0 < sgn t b:=by
    have:=Int.gcd_pos_of_ne_zero_right t h
    unfold sgn G
    rw [if_neg hb]
    omega
   by_cases hp:0 < b'
   ·exact hp
   ·have:=Int.mul_nonpos_of_nonneg_of_nonpos (a:=sgn t b) (b:=b') (by omega) (by omega)
    omega
 ·have g1:Int.gcd (sgn t b * t') (sgn t b * b')=(sgn t b).natAbs * Int.gcd t' b':=Int.gcd_mul_left _ _ _
  rw [←e1,←e2,sgn_natAbs] at g1
  have g2:=Int.gcd_pos_of_ne_zero_right t h
  have g3:Int.gcd t b * Int.gcd t' b'=Int.gcd t b * 1:=by omega
  exact Nat.eq_of_mul_eq_mul_left g2 g3
theorem low_cross {t b:Int} (h:b≠0):(low t b).1 * b=t * (low t b).2:=by
 obtain ⟨t',b',e1,e2,e3,_⟩:=low_spec (t:=t) h
 rw [e3]
 generalize sgn t b=d at e1 e2
 subst e1 e2
 show t' * (d * b')=d * t' * b'
 rw [←Int.mul_assoc,Int.mul_comm t' d]
theorem low_pos {t b:Int} (h:b≠0):0 < (low t b).2:=by
 obtain ⟨t',b',_,_,e3,h',_⟩:=low_spec (t:=t) h
 rw [e3]; exact h'
theorem low_cop {t b:Int} (h:b≠0):Int.gcd (low t b).1 (low t b).2=1:=by
 obtain ⟨t',b',_,_,e3,_,h'⟩:=low_spec (t:=t) h
 rw [e3]; exact h'
theorem natAbs_le_of_mul {d x:Int} (h:d≠0):x.natAbs≤(d * x).natAbs:=by
 rw [Int.natAbs_mul]
 exact Nat.le_mul_of_pos_left _ (by omega)
theorem low_le {t b:Int} (h:b≠0):(low t b).1.natAbs≤t.natAbs∧(low t b).2.natAbs≤b.natAbs:=by
 obtain ⟨t',b',e1,e2,e3,_⟩:=low_spec (t:=t) h
 have hn:=sgn_ne (t:=t) h
 rw [e3]
 have h1:=natAbs_le_of_mul (x:=t') hn
 have h2:=natAbs_le_of_mul (x:=b') hn
 rw [←e1] at h1
 rw [←e2] at h2
 exact ⟨h1,h2⟩
end M11
namespace M11
theorem cop_dvd {x y z:Int} (h:Int.gcd x y=1) (d:y ∣ x * z):y ∣ z:=by
 have d':y.natAbs ∣ x.natAbs * z.natAbs:=by
  rw [←Int.natAbs_mul]
  exact Int.natAbs_dvd_natAbs.mpr d
 have c:Nat.Coprime y.natAbs x.natAbs:=by
  show Nat.gcd y.natAbs x.natAbs=1
  rw [Nat.gcd_comm]
  exact h
 exact Int.natAbs_dvd_natAbs.mp (Nat.Coprime.dvd_of_dvd_mul_left c d')
theorem low_uniq {t b x y:Int} (hb:b≠0) (hy:0 < y) (hg:Int.gcd x y=1) (hc:x * b=t * y):low t b=(x,y):=by
 have c1:=low_cross (t:=t) hb
 have p1:=low_pos (t:=t) hb
 have g1:=low_cop (t:=t) hb
 generalize low t b=l at c1 p1 g1
 obtain ⟨x',y'⟩:=l
 have c1':x' * b=t * y':=c1
 have p1':0 < y':=p1
 have g1':Int.gcd x' y'=1:=g1
 have e:x * y'=x' * y:=by
  have:(x * y') * b=(x' * y) * b:=by grind
  exact Int.eq_of_mul_eq_mul_right hb this
 have d1:y ∣ y':=cop_dvd hg ⟨x',by rw [e,Int.mul_comm]⟩
 have d2:y' ∣ y:=cop_dvd g1' ⟨x,by rw [←e,Int.mul_comm]⟩
 have ey:y'=y:=Int.dvd_antisymm (by omega) (by omega) d2 d1
 subst ey
 have ex:x'=x:=by
  have:x * y'=x' * y':=e
  exact (Int.eq_of_mul_eq_mul_right (by omega) this).symm
 rw [ex]
theorem low_self {x y:Int} (hy:0 < y) (hg:Int.gcd x y=1):low x y=(x,y):=low_uniq (by omega) hy hg rfl
theorem low_one (x:Int):low x 1=(x,1):=low_self (by decide) (by rw [Int.gcd_one_right])
theorem G_pos {a b:Int} (h:0 < a):0 < G a b:=Int.ofNat_lt.mpr (Int.gcd_pos_of_ne_zero_left b (by omega))
theorem fdiv_of_dvd {d t:Int} (hd:0 < d) (h:d ∣ t):∃ q,t=d * q∧t.fdiv d=q:=by
 obtain ⟨q,e⟩:=h
 exact ⟨q,e,by rw [e]; exact Int.mul_fdiv_cancel_left q (by omega)⟩
def Bn (n:Nat) (x:Int):Prop:=x.natAbs < 2 ^ n
theorem Bn.mono {n m:Nat} {x:Int} (h:Bn n x) (hm:n≤m):Bn m x:=Nat.lt_of_lt_of_le h (Nat.pow_le_pow_right (by decide) hm)
theorem Bn.mul {n m:Nat} {x y:Int} (h:Bn n x) (h':Bn m y):Bn (n+m) (x * y):=by
 unfold Bn at *
 rw [Int.natAbs_mul,Nat.pow_add]
 exact Nat.mul_lt_mul'' h h'
theorem Bn.le {n:Nat} {x y:Int} (h:Bn n x) (h':y.natAbs≤x.natAbs):Bn n y:=Nat.lt_of_le_of_lt h' h
end M11
namespace L2
open PySem PySem.Spec PyProof.Rows
section
variable {X:Cx}
end
end L2
namespace L2
open PySem PySem.Spec PyProof.Rows
def Ite (K:PySem.W.Frag) (a:Addr):It :=
 ⟨fun i H=>∃ xs x,SqL K H a xs∧xs[i]? = some x,
  fun i H z H'=>∃ t x,z=.ref t∧H t=none∧H'=upd H t (.tup [.int (i:Int),x])∧∀ xs,SqL K H a xs→xs[i]? = some x,
  fun i H=>∃ xs,SqL K H a xs∧xs.length≤i⟩
def ESt (e it a:Addr) (i:Nat) (h:Heap):Prop:=(∃ old,IsEnum h e it (i:Int) old)∧h.IsListIter it a i
theorem turn_enum {P:Program} {w:World} {K:PySem.W.Frag} {elts:List Expr} {ek:Nat} {epos:Pos} {e it a:Addr} (ne:e≠it):Turn P w K (.Tuple elts ek epos) (Ite K a) [e,it] e (ESt e it a) where
 mem:=by simp
 obj:=fun i h st c hc=>by
  obtain ⟨⟨old,he⟩,⟨o1,e1,c1,d1⟩⟩:=st
  have hc':c=e ∨ c=it:=by simpa using hc
  rcases hc' with rfl | rfl
  ·exact ⟨_,he,fun v e=>by cases e⟩
  ·exact ⟨_,e1,fun v e=>by rw [d1] at e; cases e⟩
 keep:=fun i h h' st k=>by
  obtain ⟨⟨old,he⟩,l1⟩:=st
  exact ⟨⟨old,k e (by simp) _ he⟩,l1.at fun o q=>k it (by simp) o q⟩
 item:=by
  intro X hP hw hK hc i pins s σ H E I hf st hg
  subst hP hw hK
  obtain ⟨xs,x,hx,ex⟩:=hg
  obtain ⟨ia,ra,pa,za⟩:=I.list hx
  obtain ⟨u,hu,ru⟩:=ra.get ex
  obtain ⟨⟨old,he⟩,l1⟩:=st
  refine wpAny_pyNext_enum_item he l1 pa.isList (x:=u) (by simpa using hu) ne fun h' a1 a2 a3 a4 a5=>?_
  refine ⟨_,rfl,wpAny_letOwnedTupleGo_enum a1 fun h2 b1 b2=>?_⟩
  have hT:H s.heap.objs.size=none:=I.hok.fresh (Nat.le_refl _)
  have ltz:∀ c o,s.heap.get? c=some o→s.heap.objs.size≠c:=fun c o q=>Nat.ne_of_gt (Heap.lt_size q)
  have Te:s.heap.objs.size≠e:=ltz _ _ he
  have aT:h2.get? s.heap.objs.size=some { cls:=.type "tuple",data:=.seq #[.int i s.toks,u] }:=b2.extBut _ _ Te a3
  have k2:∀ c o,c≠e→c≠it→s.heap.get? c=some o→h2.get? c=some o:=fun c o n1 n2 q=>b2.extBut _ _ n1 (a5 c o n1 n2 q)
  have I1:Inv X pins σ (upd H s.heap.objs.size (.tup [.int (i:Int),x])) { s with heap:=s.heap.push { cls:=.type "tuple",data:=.seq #[.int i s.toks,u] },toks:=s.toks+1 }:=by
   refine I.laid (t':=s.toks+1) (fun c o q=>Heap.get?_push_of_some _ q) (Nat.le_refl _) ?_
   exact ⟨(by show 2≤sizeLine; decide),[.int i s.toks,u],.cons ⟨_,rfl⟩ (.cons ru .nil),IsTup.new s.heap _⟩
  have hf1:∀ c ∈ [e,it],FpOk X pins (upd H s.heap.objs.size (.tup [.int (i:Int),x])) c:=fun c hc'=>by
   obtain ⟨f0,f⟩:=hf c hc'
   refine ⟨?_,f⟩
   have:∃ o,s.heap.get? c=some o:=by
    have hc'':c=e ∨ c=it:=by simpa using hc'
    obtain ⟨o1,e1,_⟩:=l1
    rcases hc'' with rfl | rfl
    ·exact ⟨_,he⟩
    ·exact ⟨_,e1⟩
   obtain ⟨o,q⟩:=this
   rw [upd_ne (ltz c o q).symm]
   exact f0
  have I2:Inv X pins σ (upd H s.heap.objs.size (.tup [.int (i:Int),x])) { s with heap:=h2,toks:=s.toks+1 }:=by
   refine Inv.turnedL (s:={ s with heap:=s.heap.push { cls:=.type "tuple",data:=.seq #[.int i s.toks,u] },toks:=s.toks+1 }) (h':=h2) (t':=s.toks+1) (its:=[e,it]) I1 (fun c o hc' q=>?_) hf1
   have hc'':¬ (c=e ∨ c=it):=by simpa using hc'
   by_cases hcs:c=s.heap.objs.size
   ·subst hcs
    have e':(s.heap.push { cls:=.type "tuple",data:=.seq #[.int i s.toks,u] }).get? s.heap.objs.size=some o:=q
    rw [Heap.get?_push_size _ rfl] at e'
    cases e'
    exact aT
   ·refine k2 c o (fun z'=>hc'' (.inl z')) (fun z'=>hc'' (.inr z')) ?_
    rw [←q]
    exact (Heap.get?_push_ne _ _ _ hcs).symm
  refine ⟨.ref s.heap.objs.size,_,I2,rfl,⟨_,x,rfl,hT,rfl,fun ws hw=>by rw [I.list_inj hw hx]; exact ex⟩,?_,fun c hc'=>(hf1 c hc').1⟩
  exact ⟨⟨u,b1⟩,a2.extBut b2.extBut ne.symm⟩
 done:=by
  intro X hP hw hK hc i pins s σ H E I hf st hg
  subst hP hw hK
  obtain ⟨xs,hx,hl⟩:=hg
  obtain ⟨ia,ra,pa,za⟩:=I.list hx
  have hla:=ra.length
  obtain ⟨⟨old,he⟩,l1⟩:=st
  refine wpAny_pyNext_enum_end (I.ok.hd hc) he l1 pa.isList (by simp; omega) fun h' k=>⟨rfl,?_⟩
  exact I.turnedL (t':=s.toks) (its:=[e,it]) (fun c o hc' q=>by
   have hc'':¬ (c=e ∨ c=it):=by simpa using hc'
   exact k c o (fun z'=>hc'' (.inr z')) q) hf
 self:=fun _ _ _ _ _ st h=>by
  obtain ⟨⟨old,he⟩,_⟩:=st
  exact wpAny_pyIter_enum he h
section
variable {X:Cx}
def iEnum (K:PySem.W.Frag) (ta:TA):TI:=fun σ H R=>ta σ H fun vs H1=>∃ a,vs=[.ref a]∧(∃ xs,SqL K H1 a xs)∧R (Ite K a) H1
theorem pi_enum {elts:List Expr} {ek:Nat} {epos:Pos} {a:Expr} {ta:TA} {p pos:Pos} (hg:Gl X "enumerate") (hm:X.mg "enumerate" = none) (ha:PA X [a] ta) (hs:starEach [a] X.env=[(false,eval a X.env)]:=by rfl) :
  PI X (.Tuple elts ek epos) (.Call (.Name "enumerate" p) [a] [] pos) (iEnum X.K ta):=by
 intro pins s σ H R I h
 refine Call_ (ld_blt I hg hm boot_enumerate (PyProof.Rows.callWith_type1 (thn (ha pos pins s σ H _ I h) fun us s1 ⟨vs,H1,I1,r1,q1⟩=>?_) hs rfl))
 obtain ⟨l1,e,⟨xs,hx⟩,q⟩:=q1
 subst e
 obtain ⟨u,rfl,ru⟩:=vals1 r1
 cases ru
 obtain ⟨ia,ra,pa,za⟩:=I1.list hx
 refine call_enumerate_list pa.isList fun h' he hi hsz hk=>wpAny_pyIter_enum he ?_
 have fr:∀ b,s1.heap.objs.size≤b→FpOk X pins H1 b:=fun b hb=>I1.fpOk hb (I1.hok.fresh hb)
 refine ⟨_,[s1.heap.objs.size+1,s1.heap.objs.size],_,_,H1,rfl,I1.kept (t':=s1.toks) hk,
  turn_enum (it:=s1.heap.objs.size) (a:=l1) (fun z=>by simp at z),⟨⟨_,he⟩,hi⟩,fun b hb=>?_,q⟩
 have hb':b=s1.heap.objs.size+1 ∨ b=s1.heap.objs.size:=by simpa using hb
 rcases hb' with rfl | rfl
 ·exact fr _ (Nat.le_add_right _ _)
 ·exact fr _ (Nat.le_refl _)
theorem for_enum {K:PySem.W.Frag} {a:Addr} {xs:List V} {g:TG} {tb:TS} {D:Ends} {σ:St} {H:Hp} (Pv:Nat→St→Hp→Prop) (h0:Pv 0 σ H) (hl:∀ i σ H,i≤xs.length→Pv i σ H→SqL K H a xs)
  (hs:∀ (i:Nat) (x:V) (t:Addr) σ H,xs[i]? = some x→Pv i σ H→H t=none→g (.ref t) σ (upd H t (.tup [.int (i:Int),x])) fun σ2 H2=>tb { D with nx:=Pv (i+1),ct:=Pv (i+1),bk:=D.nx } σ2 H2) (hd:∀ σ H,Pv xs.length σ H→D.nx σ H) :
  ∃ W:Nat→Nat→St→Hp→Prop,(∃ m,W 0 m σ H)∧∀ i m σ H,W i m σ H →
   ((Ite K a).stop i H∧D.nx σ H) ∨ ((Ite K a).go i H∧∃ N:St→Hp→Prop,(∀ σ' H',N σ' H'→∃ m',m' < m∧W (i+1) m' σ' H')∧∀ x H',(Ite K a).yld i H x H'→g x σ H' fun σ2 H2=>tb { D with nx:=N,ct:=N,bk:=D.nx } σ2 H2):=by
 refine ⟨fun i m σ H=>m=xs.length - i∧i≤xs.length∧Pv i σ H,⟨xs.length,by simp,Nat.zero_le _,h0⟩,?_⟩
 rintro i m σ H ⟨rfl,hi,p⟩
 have q1:=hl i σ H hi p
 by_cases lt:i < xs.length
 ·refine .inr ⟨⟨xs,xs[i],q1,List.getElem?_eq_getElem lt⟩,Pv (i+1),fun σ' H' p'=>⟨xs.length - (i+1),by omega,rfl,lt,p'⟩,fun x H' y=>?_⟩
  obtain ⟨t,x1,rfl,ht,rfl,g1⟩:=y
  exact hs i x1 t σ H (g1 xs q1) p ht
 ·have ei:i=xs.length:=by omega
  subst ei
  exact .inl ⟨⟨xs,q1,Nat.le_refl _⟩,hd σ H p⟩
end
end L2
namespace L2
open PySem PySem.Spec PyProof.Rows
section
variable {X:Cx}
end
end L2
namespace L2
open PySem PySem.Spec PyProof.Rows
def Grt (val:Nat→Int) (j:Nat) (m:Int):Prop:=(∃ i < j,val i=m)∧∀ i < j,val i≤m
def Kp (val:Nat→Int) (j:Nat) (old:Array Value):Prop:=(j=0∧old=#[]) ∨ ∃ m t,old=#[.int m t,.int m t]∧Grt val j m
def Gvn (val:Nat→Int) (n:Nat) (d v:Value):Prop:=(n=0∧v=d) ∨ ∃ m t,v=.int m t∧Grt val n m
theorem Grt.one {val:Nat→Int}:Grt val 1 (val 0):=⟨⟨0,by decide,rfl⟩,fun i hi=>by rw [show i=0 by omega]; exact Int.le_refl _⟩
theorem Grt.more {val:Nat→Int} {j:Nat} {m:Int} (g:Grt val j m) (h:val j > m):Grt val (j+1) (val j):=⟨⟨j,by omega,rfl⟩,fun i hi=>by
 rcases Nat.lt_or_ge i j with h1 | h1
 ·have:=g.2 i h1
  omega
 ·rw [show i=j by omega]
  exact Int.le_refl _⟩
theorem Grt.same {val:Nat→Int} {j:Nat} {m:Int} (g:Grt val j m) (h:¬val j > m):Grt val (j+1) m:=⟨let ⟨i,hi,e⟩:=g.1; ⟨i,by omega,e⟩,fun i hi=>by
 rcases Nat.lt_or_ge i j with h1 | h1
 ·exact g.2 i h1
 ·rw [show i=j by omega]
  omega⟩
section
variable {prog:Program} {w:World} {A:Around} {R:Result→Shared→Prop} {I:Addr} {fp wr:List Addr} {n:Nat} {P:Nat→Value→Prop} {St:Nat→Heap→Prop} {val:Nat→Int} {d:Value}
theorem maxD_loop (W:Walks prog w A.in1 I fp wr n P St) (hv:∀ i v,P i v→∃ t,v=.int (val i) t) (S:Addr) (nS:S ∉ fp):∀ (k j:Nat) (s:Shared) (old:Array Value) (c:Nat),j+k=n→St j s.heap→Kp val j old →
  s.heap.get? S=some { cls:=.type "list",dict:=none,data:=.seq old c,slots:=#[] } →
  (∀ v h' tk,Gvn val n d v→(∀ b o,b ∉ wr→b≠S→s.heap.get? b=some o→h'.get? b=some o)→R (.ok (.ret v)) { s with heap:=h',toks:=tk }) →
  codeAny (model prog w) A (.builtin "max.loop" ⟨[.ref I,.none,.ref S],[("default",d)]⟩) R s:=by
 have nW:S ∉ wr:=fun h=>nS (W.sub _ h)
 have nm:(toString "max"++toString ".loop" : String) = "max.loop":=by decide
 have go:∀ (j:Nat) (s:Shared) (h':Heap) (tk:Tok),(∀ b o,b ∉ wr→s.heap.get? b=some o→h'.get? b=some o)→∀ (f:Obj→Obj) (b:Addr) (o:Obj),b ∉ wr→b≠S→s.heap.get? b=some o→(h'.update S f).get? b=some o:=fun j s h' tk hk f b o n1 n2 e=>(Heap.get?_update_other _ _ (Ne.symm n2)).trans (hk b o n1 e)
 intro k
 induction k with
 | zero =>
  intro j s old c hj st kp hS q
  have e:j=n:=by omega
  subst e
  refine codeAny_builtin F.entry_max_loop ?_
  rw [Around.under_plainId F.plain_max_loop _]
  show wpAny _ A.in1 (seqItems? (.ref S) >>= _) _ _ s
  refine wpAny_bind (wpAny_seqItems hS rfl ?_)
  show wpAny _ A.in1 (tryCatch (pyNext (.ref I)) _ >>= _) _ _ s
  refine wpAny_bind (wpAny_tryCatch (W.done s _ _ st fun h' tk hk=>?_))
  have hS':=hk S _ nW hS
  rcases kp with ⟨rfl,rfl⟩ | ⟨m,t,rfl,g⟩
  ·show wpAny _ A.in1 (rule _ >>= _) _ _ _
   refine wpAny_bind (wpAny_rule (wpAny_pure ?_))
   exact q d h' tk (.inl ⟨rfl,rfl⟩) fun b o n1 _ e=>hk b o n1 e
  ·show wpAny _ A.in1 (updateSeq S (fun _=>#[]) >>= _) _ _ _
   refine wpAny_bind ?_
   refine wpAny_updateSeq hS' rfl (wpAny_bind (wpAny_letGo (wpAny_pure ?_)))
   exact q _ _ tk (.inr ⟨m,t,rfl,g⟩) (go 0 s h' tk hk _)
 | succ k ih =>
  intro j s old c hj st kp hS q
  refine codeAny_builtin F.entry_max_loop ?_
  rw [Around.under_plainId F.plain_max_loop _]
  show wpAny _ A.in1 (seqItems? (.ref S) >>= _) _ _ s
  refine wpAny_bind (wpAny_seqItems hS rfl ?_)
  show wpAny _ A.in1 (tryCatch (pyNext (.ref I)) _ >>= _) _ _ s
  refine wpAny_bind (wpAny_tryCatch (W.item j s _ _ (by omega) st fun v h' tk hP st' hk=>?_))
  have hS':=hk S _ nW hS
  obtain ⟨t,rfl⟩:=hv _ _ hP
  rcases kp with ⟨rfl,rfl⟩ | ⟨m,u,rfl,g⟩
  ·show wpAny _ A.in1 (updateSeq S (fun _=>#[_,_]) >>= _) _ _ _
   refine wpAny_bind ?_
   refine wpAny_updateSeq hS' rfl ?_
   rw [nm]
   refine wpAny_pure ⟨plainId_quiet F.plain_max_loop _,ih 1 _ _ _ (by omega) (W.frame _ _ _ st' fun b hb o e=>?_) (.inr ⟨_,t,rfl,Grt.one⟩) (Heap.get?_update_self _ hS' rfl) fun v2 h2 tk2 gv hk2=>?_⟩
   ·exact (Heap.get?_update_other _ _ (fun h:S=b=>nS (h ▸ hb))).trans e
   ·exact q v2 h2 tk2 gv fun b o n1 n2 e=>hk2 b o n1 n2 (go 0 s h' tk hk _ b o n1 n2 e)
  ·show wpAny _ A.in1 (tryCatch (holding [_,_] (richCompare .Gt (.int (val j) t) (.int m u) >>= _)) _ >>= _) _ _ _
   refine wpAny_bind (wpAny_tryCatch (wpAny_holding (wpAny_bind (richCompare_gives (op:=.Gt) (typeIs_int _ _ t) (typeIs_int _ _ u) F.slot_int_gt F.entry_int_gt (F.args_int_gt_2 _ _) (gives_int_gt _ _ t u) (fun x=>nomatch x) ?_))))
   refine wpAny_bind (wpAny_holding (wpAny_truthy_bool ?_))
   refine wpAny_bind (wpAny_letGo (wpAny_pure ?_))
   by_cases hb:val j > m
   ·rw [if_pos (decide_eq_true hb)]
    refine wpAny_bind ?_
    refine wpAny_updateSeq hS' rfl (wpAny_bind (wpAny_letGo ?_))
    rw [nm]
    refine wpAny_pure ⟨plainId_quiet F.plain_max_loop _,ih (j+1) _ _ _ (by omega) (W.frame _ _ _ st' fun b hb o e=>?_) (.inr ⟨_,t,rfl,g.more hb⟩) (Heap.get?_update_self _ hS' rfl) fun v2 h2 tk2 gv hk2=>?_⟩
    ·exact (Heap.get?_update_other _ _ (fun h:S=b=>nS (h ▸ hb))).trans e
    ·exact q v2 h2 tk2 gv fun b o n1 n2 e=>hk2 b o n1 n2 (go 0 s h' tk hk _ b o n1 n2 e)
   ·rw [if_neg (by rw [decide_eq_true_iff]; exact hb)]
    refine wpAny_bind (wpAny_letGo ?_)
    rw [nm]
    refine wpAny_pure ⟨plainId_quiet F.plain_max_loop _,ih (j+1) _ _ _ (by omega) st' (.inr ⟨_,u,rfl,g.same hb⟩) hS' fun v2 h2 tk2 gv hk2=>?_⟩
    exact q v2 h2 tk2 gv fun b o n1 n2 e=>hk2 b o n1 n2 (hk b o n1 e)
theorem args_maxD (a d:Value):argsOk "max" ⟨[a],[("default",d)]⟩:=by unfold argsOk; kernel_rfl
theorem maxD_ints {E:Value→Shared→Prop} {s:Shared} {l:Addr} {xs:Array (Int × Tok)} {Q:Value→Shared→Prop} (hh:A.handled=none) (hl:s.heap.IsList l (intItems xs))
  (h:∀ v h' tk,Gvn (numAt xs) xs.size d v→(∀ b o,s.heap.get? b=some o→h'.get? b=some o)→Q v { s with heap:=h',toks:=tk }) :
  wpAny (model prog w) A (call (.builtin "max") [.ref l] [("default",d)]) Q E s:=by
 have nm:(toString "max"++toString ".loop" : String) = "max.loop":=by decide
 refine wpAny_call (codeAny_call_builtin F.plain_max F.entry_max ?_)
 have tree:wpAny (model prog w) A.in1 (Builtin.max ⟨[.ref l],[("default",d)]⟩) (fun fin s'=>match fin with
   | .done f=>(match (Except.ok f:Result) with | .ok (.ret v)=>Q v s' | .ok _=>False | .error e=>E e s')
   | .again c'=>c'.quiet=true∧codeAny (model prog w) A c' (fun r s'=>match r with | .ok (.ret v)=>Q v s' | .ok _=>False | .error e=>E e s') s') E s:=by
  show wpAny _ A.in1 (Builtin.Builtins.bindParams "max" ["key","default"] 0 ⟨[],[("default",d)]⟩ >>= _) _ _ s
  refine wpAny_bind (wpAny_of_eq (show Builtin.Builtins.bindParams "max" ["key","default"] 0 ⟨[],[("default",d)]⟩=pure [none,some d] from rfl) ?_)
  refine wpAny_bind (wpAny_pure ?_)
  refine wpAny_bind (iter_intList hl fun s2 e st hfp hlI=>?_)
  subst e
  refine wpAny_bind (wpAny_newObj_type ?_)
  rw [nm]
  have W:=Walks.list (prog:=prog) (w:=w) (A:=A.in1) hh s.heap.objs.size l hlI (intItems xs)
  have sz:(intItems xs).size=xs.size:=by unfold intItems; rw [Array.size_map]
  rw [sz] at W
  refine wpAny_pure ⟨plainId_quiet F.plain_max_loop _,maxD_loop (val:=numAt xs) W (fun _ _=>intItems_at) _ (fun hm=>Nat.lt_irrefl _ (hfp _ hm)) xs.size 0 _ #[] _ (by omega) (W.frame _ _ _ st fun b _ o e=>Heap.get?_push_of_some _ e) (.inl ⟨rfl,rfl⟩) (Heap.get?_push_size _ rfl) fun v h' tk gv hk=>?_⟩
  refine h v h' tk gv fun b o e=>?_
  have lt:=Heap.lt_size e
  refine hk b o (fun hm=>?_) ?_ (Heap.get?_push_of_some _ (Heap.get?_push_of_some _ e))
  ·rcases List.mem_cons.mp hm with rfl | hm
   ·exact Nat.lt_irrefl _ lt
   ·cases hm
  ·show b≠(s.heap.push _).objs.size
   rw [Heap.size_push]
   exact Nat.ne_of_lt (Nat.lt_succ_of_lt lt)
 simp only [checkBuiltinCall,F.kind_max]
 cases hsig:Manifest.signature? "max" with
 | none=>exact wpAny_pure tree
 | some sig =>
  have ha:=args_maxD (.ref l) d
  simp only [argsOk,hsig] at ha
  have h2:Bind.checkArgs "max" sig ⟨[.ref l],[("default",d)]⟩=pure ():=ha
  show wpAny _ A.in1 (Bind.checkArgs "max" sig ⟨[.ref l],[("default",d)]⟩) _ _ s
  rw [h2]; exact wpAny_pure tree
end
section
variable {X:Cx}
def tMaxD (K:PySem.W.Frag) (t:TA) (tk:TA):TE:=fun σ H Q=>t σ H fun vs H1=>tk σ H1 fun ws H2=>∃ (p:Addr) (ns:List Int) (i:Int),vs=[.ref p]∧ws=[.int i]∧SqL K H2 p (ns.map V.int) ∧
 ∀ m,(ns=[]→m=i)→(ns≠[]→m ∈ ns∧∀ a ∈ ns,a≤m)→Q (.int m) H2
theorem pe_maxD {e d:Expr} {kp p pos:Pos} {t tk:TA} (hcm:X.calm=true) (hg:Gl X "max") (hm:X.mg "max" = none) (hb:bootBuiltins "max" = some (.builtin "max")) (ha:PA X [e] t) (hk:PK X [⟨some "default",d,kp⟩] tk)
  (he:∀ pos,backTo pos (starEach [e] X.env)=(false,eval e X.env) :: backTo pos (starEach [] X.env):=by intro _; rfl) (hpl:∀ pos,(backTo pos (starEach [e] X.env)).any (·.1)=false:=by intro _; rfl) :
  PE X (.Call (.Name "max" p) [e] [⟨some "default",d,kp⟩] pos) (tMaxD X.K t tk):=by
 intro pins s σ H Q I h
 refine wpAny_Call_Name_kw (ld_blt I hg hm hb ?_ (by decide) (by decide))
 refine callWith_kw ?_ (he pos) (hpl pos)
 refine thn (ha pos pins s σ H _ I h) fun us s1 ⟨vs,H1,I1,r1,q1⟩=>?_
 refine thn (hk pos pins s1 σ H1 _ I1 q1) fun ws s2 ⟨xs,H2,I2,r2,q2⟩=>?_
 obtain ⟨l,ns,i,rfl,rfl,hq,q⟩:=q2
 obtain ⟨u,rfl,rx⟩:=vals1 r1
 obtain ⟨u2,rfl,rx2⟩:=vals1 r2
 cases rx
 obtain ⟨t2,rfl⟩:=rx2
 obtain ⟨its,rv,pl,hz⟩:=I2.list hq
 have hI:IntsAre its ns:=intsAre_of rv
 obtain ⟨ys,hx⟩:=hI.allInts.items
 have hl':s2.heap.IsList l (intItems ys):=hx ▸ pl.isList
 have e1:ns=ys.toList.map (·.1):=by
  rw [←nums_intItems,←hx]
  exact (show numsOf its.toArray.toList=ns from hI.numsOf).symm
 have ln:ns.length=ys.size:=by rw [e1,List.length_map,Array.length_toList]
 refine maxD_ints (I2.ok.hd hcm) hl' fun v h' tk gv hk=>?_
 rcases gv with ⟨z,rfl⟩ | ⟨m,t,rfl,⟨j,hj,ej⟩,le⟩
 ·exact ⟨.int _,H2,I2.kept hk,⟨_,rfl⟩,q _ (fun _=>rfl) fun ne=>absurd (List.length_eq_zero_iff.mp (by omega)) ne⟩
 ·refine ⟨.int _,H2,I2.kept hk,⟨_,rfl⟩,q _ (fun e=>?_) fun _=>⟨?_,fun a ha=>?_⟩⟩
  ·rw [e] at ln
   exact absurd hj (by rw [←ln]; exact Nat.not_lt_zero _)
  ·rw [←ej,e1,numAt_eq]
   exact getD_mem (by rw [List.length_map,Array.length_toList]; omega)
  ·rw [e1] at ha
   obtain ⟨k,hk',rfl⟩:=mem_getD ha
   rw [List.length_map,Array.length_toList] at hk'
   rw [←numAt_eq]
   exact le k hk'
end
end L2
namespace L2
open PySem PySem.Spec PyProof.Rows
section
variable {X:Cx}
end
end L2
namespace L2
open PySem PySem.Spec PyProof.Rows
section
variable {X:Cx}
theorem all_range (bs:List Bool):(List.range bs.length).all (fun i=>(bs[i]?).getD true)=bs.all id:=by
 rw [Bool.eq_iff_iff,List.all_eq_true,List.all_eq_true]
 constructor
 ·intro h b hb
  obtain ⟨i,hi⟩:=List.getElem?_of_mem hb
  have:=h i (List.mem_range.mpr (List.getElem?_eq_some_iff.mp hi).1)
  rw [hi] at this
  exact this
 ·intro h i hi
  have e:=List.getElem?_eq_getElem (List.mem_range.mp hi)
  rw [e]
  exact h _ (List.getElem_mem _)
theorem call_all (hc:X.calm=true):CallR X (.builtin "all") (fun xs H Q=>∃ (p:Addr) (bs:List Bool),xs=[.ref p]∧SqL X.K H p (bs.map V.bl)∧Q (.bl (bs.all id)) H):=by
 intro pins s σ H xs us Q I r h
 obtain ⟨p,bs,rfl,hq,q⟩:=h
 obtain ⟨u,rfl,rx⟩:=vals1 r
 cases rx
 obtain ⟨its,rv,pl,hz⟩:=I.list hq
 have hl:=rv.length
 rw [List.length_map] at hl
 refine call_all_walk (wpAny_pyIter_list pl.isList ?_)
 have hne:p≠s.heap.objs.size:=by
  obtain ⟨o,e,_⟩:=id pl.isList
  exact Nat.ne_of_lt (Heap.lt_size e)
 refine ⟨_,_,_,_,_,_,fun i=>(bs[i]?).getD true,rfl,Walks.list (A:=X.A.in1) (I.ok.hd hc) _ p hne its.toArray,?_,?_,?_⟩
 ·exact ⟨⟨_,Heap.get?_push_size _ rfl,rfl,rfl⟩,pl.isList.at fun o e=>Heap.get?_push_of_some _ e⟩
 ·intro i v s2 Q2 E2 hi hq2
  have hi':its[i]? = some v:=by simpa using hi
  have li:i < bs.length:=by rw [hl]; exact (List.getElem?_eq_some_iff.mp hi').1
  have eb:(bs.map V.bl)[i]? = some (.bl bs[i]):=by rw [List.getElem?_map,List.getElem?_eq_getElem li]; rfl
  obtain ⟨u,hu,ru⟩:=rv.get eb
  rw [hi'] at hu
  cases hu
  cases ru
  refine wpAny_truthy_bool ?_
  have hq3:Q2 ((bs[i]?).getD true) s2:=hq2
  rw [List.getElem?_eq_getElem li] at hq3
  exact hq3
 ·intro h' tk hk
  have e:(List.range its.toArray.size).all (fun i=>(bs[i]?).getD true)=bs.all id:=by
   rw [List.size_toArray,←hl]
   exact all_range bs
  rw [e]
  exact ⟨.bl (bs.all id),H,I.kept fun b o e=>hk b o (by
   intro z
   have:=List.mem_singleton.mp z
   subst this
   exact Nat.lt_irrefl _ (Heap.lt_size e)) (Heap.get?_push_of_some _ e),rfl,q⟩
end
end L2
namespace L2
open PySem PySem.Spec PyProof.Rows
section
variable {κ:Type} [DecidableEq κ]
def valV (kvs:List (κ × V)) (k:κ):Option V:=(kvs.find? fun kv=>decide (kv.1=k)).map (·.2)
theorem valV_pos {p:κ × V} {r:List (κ × V)} {k:κ} (e:p.1=k):valV (p :: r) k=some p.2:=by simp [valV,List.find?_cons,e]
theorem valV_neg {p:κ × V} {r:List (κ × V)} {k:κ} (e:¬ p.1=k):valV (p :: r) k=valV r k:=by simp [valV,List.find?_cons,e]
theorem KV.val {kvs:List (κ × V)} {vs:List (κ × Value)} (r:KV kvs vs) (k:κ):RelO (valV kvs k) (valueAt vs k):=by
 unfold KV at r
 induction r with
 | nil=>exact True.intro
 | @cons p q ps qs h t ih =>
  obtain ⟨h1,h2⟩:=h
  by_cases e:p.1=k
  ·have e':q.1=k:=h1.symm.trans e
   have b:valueAt (q :: qs) k=some q.2:=by simp [valueAt,List.find?_cons,e']
   rw [valV_pos e,b]; exact h2
  ·have e':¬ q.1=k:=fun z=>e (h1.trans z)
   have b:valueAt (q :: qs) k=valueAt qs k:=by simp [valueAt,List.find?_cons,e']
   rw [valV_neg e,b]; exact ih
theorem KV.length {kvs:List (κ × V)} {vs:List (κ × Value)} (r:KV kvs vs):kvs.length=vs.length:=Paired.length r
end
theorem kV_is {P:Program} {w:World} {k:Key} {u:Value} (r:RelV (kV k) u):(mixKind P w).is k u=true:=by
 cases k with
 | inl i=>obtain ⟨t,e⟩:=(show ∃ t,u=Value.int i t from r); subst e; exact mixKind_int P w i t
 | inr x=>obtain ⟨t,e⟩:=(show ∃ t,u=Value.str x t from r); subst e; exact mixKind_str P w x t
theorem items_are {P:Program} {w:World}:∀ {ks:List Key} {us:List Value},Vals (ks.map kV) us→ItemsAre (mixKind P w) ks us
 | [],_,r=>by rw [List.map_nil] at r; cases r; exact .nil
 | k :: ks,_,r=>by
  rw [List.map_cons] at r
  cases r with
  | cons h t=>exact .cons (kV_is h) (items_are t)
abbrev KT (H:Hp):List (List Key × V)→List (List Key × Addr × Value)→Prop:=Paired fun p q=>p.1=q.1∧H q.2.1=some (.tup (p.1.map kV))∧RelV p.2 q.2.2
section
variable {P:Program} {w:World} {H:Hp} {h:Heap} {a:Addr}
theorem rd_of {u:HO} (ok:HOk P w H h) (e:Rd H a u):ObjOk P w H h a u:=e.ok ok
theorem dk_rd {kvs:List (Key × V)} (ok:HOk P w H h) (e:Rd H a (.dK kvs)):kvs.length≤sizeLine∧(a == sysModules)=false∧∃ vs,KV kvs vs∧h.DictOf (mixKind P w) a vs :=
 show ObjOk P w H h a (.dK kvs) from rd_of ok e
theorem dk_of {kvs:List (Key × V)} (ok:HOk P w H h) (e:H a=some (.dK kvs)):kvs.length≤sizeLine∧(a == sysModules)=false∧∃ vs,KV kvs vs∧h.DictOf (mixKind P w) a vs:=dk_rd ok (.inl e)
theorem key_of {ks:List Key} (ok:HOk P w H h) (e:H a=some (.tup (ks.map kV))):(tupleKind (mixKind P w)).is h ks a:=by
 obtain ⟨_,its,r,o,h1,h2,n,h3⟩:=(show ObjOk P w H h a (.tup (ks.map kV)) from ok a _ e)
 exact ⟨o,its.toArray,n,h1,h2,h3,by simpa using items_are r⟩
theorem dt_rd {kvs:List (List Key × V)} (ok:HOk P w H h) (e:Rd H a (.dT kvs)):kvs.length≤sizeLine∧(a == sysModules)=false ∧
  ∃ xs,KT H kvs xs∧h.DictOfH (tupleKind (mixKind P w)) a xs:=by
 obtain ⟨z,y,xs,r,o,es,ep,h1,h2,h3,h4,h5⟩:=(show ObjOk P w H h a (.dT kvs) from rd_of ok e)
 refine ⟨z,y,xs,r,o,es,ep,h1,h2,h3,h4,fun x hx=>?_,h5⟩
 have all:∀ {l:List (List Key × V)} {m:List (List Key × Addr × Value)},KT H l m→∀ x ∈ m,(tupleKind (mixKind P w)).is h x.1 x.2.1:=by
  intro l m q
  induction q with
  | nil=>intro x hx; exact nomatch hx
  | @cons p q ps qs hq t ih =>
   intro x hx
   rcases List.mem_cons.mp hx with e | hx
   ·subst e
    exact key_of ok (by rw [←hq.1]; exact hq.2.1)
   ·exact ih x hx
 exact all r x hx
end
section
variable {X:Cx} {pins:List (Addr × Obj)} {σ:St} {H:Hp} {s:Shared} {a:Addr} {y v:V} {u r:Value} {o:Option V} {A:Around} {E:Value→Shared→Prop}
theorem Inv.big (I:Inv X pins σ H s):sysModules < s.heap.objs.size:=by
 have h:mainGlobals < s.heap.objs.size:=(I.mod.glob.keeps I.bk).lt
 exact Nat.lt_trans (by decide) h
theorem d_write {h':Heap} {t':Nat} {ob:HO} (I:Inv X pins σ H s) (mu:Mut (H a)) (hs:Heap.SameBut a s.heap h') (he:∃ q,h'.get? a=some q) (new:ObjOk X.prog X.w (upd H a ob) h' a ob) :
  Inv X pins σ (upd H a ob) { s with heap:=h',toks:=t' } :=
 I.write (x:=a) (e:=a) mu (.inl rfl) (fun b q hb z=>(hs.2 b hb).trans z) he new
theorem dk_new {P:Program} {w:World} {H':Hp} {h':Heap} {kvs:List (Key × V)} {vs:List (Key × Value)} (z:kvs.length≤sizeLine) (hd:(a == sysModules)=false) (rel:KV kvs vs) (dd:h'.DictOf (mixKind P w) a vs) :
  ObjOk P w H' h' a (.dK kvs):=⟨z,hd,vs,rel,dd⟩
end
section
variable {X:Cx} {pins:List (Addr × Obj)} {σ:St} {H:Hp} {s:Shared} {a:Addr} {kvs:List (Key × V)} {k:Key} {u:Value} {A:Around} {E:Value→Shared→Prop}
theorem d_len {Q:Value→Shared→Prop} (I:Inv X pins σ H s) (e:Rd H a (.dK kvs)) (h:∀ t s',Inv X pins σ H s'→Q (.int kvs.length t) s'):wpAny (model X.prog X.w) A (call (.builtin "len") [.ref a]) Q E s:=by
 obtain ⟨z,hd,vs,rel,dd⟩:=dk_rd I.hok e
 refine call_len_dict hd dd (by rw [←rel.length]; rw [sizeLine_eq] at z; omega) ?_
 rw [←rel.length]
 exact h _ _ (I.tok _)
end
section
variable {X:Cx} {o i e value:Expr} {pos pos' tpos:Pos} {td ty tv:TE}
end
theorem dk_empty {P:Program} {w:World} {H:Hp} (h:Heap) (hb:sysModules < h.objs.size):ObjOk P w H (h.push { cls:=.type "dict",data:=.dict #[] }) h.objs.size (.dK []) :=
 ⟨Nat.zero_le _,beq_eq_false_iff_ne.mpr (Ne.symm (Nat.ne_of_lt hb)),[],.nil,Heap.DictOf.new h⟩
def tDNewK:TE:=fun _ H Q=>∀ p,H p=none→Q (.ref p) (upd H p (.dK []))
section
variable {X:Cx} {pos:Pos}
theorem pe_dnewK:PE X (.Dict [] [] pos) tDNewK:=fun pins s σ H Q I h =>
 wpAny_Dict_empty ⟨.ref s.heap.objs.size,_,I.laid (a:=s.heap.objs.size) (o:=.dK []) (t':=s.toks) (fun _ _ q=>Heap.get?_push_of_some _ q) (Nat.le_refl _) (dk_empty s.heap I.big),rfl,h _ (I.hok.fresh (Nat.le_refl _))⟩
end
structure M2 (X:Cx) (o:Expr) (m:Str) (apos:Pos) (e f:Expr) (cpos:Pos):Prop where
 base:attributeBase o m X.env (eval o X.env)=eval o X.env
 few:((backTo cpos (starEach [e,f] X.env)).all (fun x=>!x.1) && (backToKw cpos (keywordEach [] X.env)).all (fun x=>x.1.isSome)
  && decide (([e,f]:List Expr).length+([]:List Keyword).length+(if ([]:List Keyword).isEmpty then 0 else 1) < 30))=true
 line:(apos.endLine == cpos.line)=true
 trees:backTo cpos (starEach [e,f] X.env)=[(false,eval e X.env),(false,eval f X.env)]
def IsD (H:Hp) (a:Addr):Prop:=(∃ kvs,Rd H a (.dK kvs)) ∨ ∃ kvs,Rd H a (.dT kvs)
theorem isD_at {X:Cx} {pins:List (Addr × Obj)} {σ:St} {H:Hp} {s:Shared} {a:Addr} (I:Inv X pins σ H s) (d:IsD H a) :
  s.TypeIs (.ref a) "dict"∧(∀ b,Value.ref a=.ref b→∃ ob,s.heap.get? b=some ob∧ob.dict=none)∧(a == sysModules)=false:=by
 rcases d with ⟨kvs,e⟩ | ⟨kvs,e⟩
 ·obtain ⟨_,hd,vs,_,dd⟩:=dk_rd I.hok e
  refine ⟨dd.typeIs,fun b q=>?_,hd⟩
  cases q
  obtain ⟨ob,_,_,h1,h2,_⟩:=dd
  exact ⟨ob,h1,h2.2.1⟩
 ·obtain ⟨_,hd,xs,_,dd⟩:=dt_rd I.hok e
  refine ⟨dd.typeIs,fun b q=>?_,hd⟩
  cases q
  obtain ⟨ob,_,_,h1,h2,_⟩:=dd
  exact ⟨ob,h1,h2.2.1⟩
section
variable {X:Cx} {pins:List (Addr × Obj)} {σ:St} {H:Hp} {s:Shared} {a:Addr} {y d:V} {u r:Value} {o:Option V} {A:Around} {E:Value→Shared→Prop}
end
section
variable {X:Cx} {o e f:Expr} {apos cpos:Pos} {td ty tx:TE}
end
section
variable {X:Cx} {pins:List (Addr × Obj)} {σ:St} {H:Hp} {s:Shared} {a:Addr} {kvs:List (Key × V)} {A:Around} {E:Value→Shared→Prop}
end
section
variable {X:Cx} {pins:List (Addr × Obj)} {σ:St} {H:Hp} {s:Shared} {a:Addr} {y:V} {u:Value} {A:Around} {E:Value→Shared→Prop}
end
end L2
namespace L2
open PySem PySem.Spec PyProof.Rows
section
variable {X:Cx}
end
end L2
namespace L2
open PySem PySem.Spec PyProof.Rows
section
variable {κ:Type} [DecidableEq κ]
end
end L2
namespace L2
open PySem PySem.Spec PyProof.Rows
section
variable {prog:Program} {w:World}
variable {A:Around} {E:Value→Shared→Prop} {s:Shared}
end
end L2
namespace L2
open PySem PySem.Spec PyProof.Rows
section
variable {prog:Program} {w:World} {K:Type} [DecidableEq K] {A:Around} {E:Value→Shared→Prop} {s:Shared}
theorem hk_setd {knd:HeapKind prog w K} {d a:Addr} {xs:List (K × Addr × Value)} {k:K} {x:Value} {Q:Value→Shared→Prop} (hu:knd.room A) (hk:knd.is s.heap k a)
  (hm:s.heap.DictOfH knd d xs) (hz:xs.length≤sizeLine)
  (old:∀ p,atKey xs k=some p→Q p.2 { s with toks:=s.toks+knd.draws k })
  (new:atKey xs k=none→∀ h',h'.DictOfH knd d (xs++[(k,a,x)])→Heap.SameBut d s.heap h'→Q x { s with heap:=h',toks:=s.toks+knd.draws k }) :
  wpAny (model prog w) A (dictSetDefault d (.ref a) x) Q E s:=by
 obtain ⟨o,es,ep,g1,g2,g3,g4,g5,g6⟩:=hm
 unfold dictSetDefault
 with_reducible refine wpAny_holding ?_
 refine wpAny_bind (knd.pyHash hu hk (wpAny_bind (wpAny_dictFind_heap (s:={ s with toks:=s.toks+knd.draws k }) hu hk g1 g3 g4 g5 g6 (fun no=>?_) (fun j p hj=>?_))))
 ·have e0:=atKey_none_of_get no
  have nm:=not_mem_keys_of_get no
  have e1:es.size≤sizeLine:=by rw [size_of_entries g4]; exact hz
  refine wpAny_bind (wpAny_rule (wpAny_bind (wpAny_updateDictKeys (hz:=e1) (s:={ s with toks:=s.toks+knd.draws k }) g1 g3 (wpAny_pure (new e0 _ ⟨_,_,ep+1,Heap.get?_update_self _ g1 (Obj.isFreed_of_dict (Obj.data_mapDictKeys g3 _)),g2.mapDictKeys _,Obj.data_mapDictKeys g3 _,?_,?_,?_⟩ (Heap.SameBut.update ..))))))
  ·simp [g4,entryOfKey]
  ·intro y hy
   rcases List.mem_append.mp hy with q | q
   ·exact knd.keeps (g5 y q) g1 g3 (Heap.SameBut.update ..)
   ·cases List.mem_singleton.mp q
    exact knd.keeps hk g1 g3 (Heap.SameBut.update ..)
  ·rw [List.map_append,List.nodup_append]
   refine ⟨g6,by simp,fun y hy z hz' q=>?_⟩
   simp only [List.map_cons,List.map_nil,List.mem_singleton] at hz'
   subst hz'
   exact nm (q ▸ hy)
 ·refine wpAny_bind (wpAny_dictEntries (s:={ s with toks:=s.toks+knd.draws k }) g1 g3 ?_)
  rw [entry_at g4 j,hj]
  exact wpAny_bind (wpAny_rule (wpAny_pure (old p (atKey_of_get g6 hj))))
theorem kk_setd {knd:KeyKind prog w K} {d:Addr} {ps:List (K × Value)} {k:K} {key x:Value} {Q:Value→Shared→Prop} (hk:knd.is k key=true)
  (hm:s.heap.DictOf knd d ps) (hz:ps.length≤sizeLine)
  (old:∀ v,valueAt ps k=some v→Q v { s with toks:=s.toks+1 })
  (new:valueAt ps k=none→∀ h',h'.DictOf knd d (ps++[(k,x)])→Heap.SameBut d s.heap h'→Q x { s with heap:=h',toks:=s.toks+1 }) :
  wpAny (model prog w) A (dictSetDefault d key x) Q E s:=by
 obtain ⟨o,es,ep,g1,g2,g3,g4,g5,g6⟩:=hm
 unfold dictSetDefault
 with_reducible refine wpAny_holding ?_
 refine wpAny_bind (knd.pyHash hk (wpAny_bind (wpAny_dictFind_of (s:={ s with toks:=s.toks+1 }) hk g1 g3 g4 ?_)))
 have ix:(es.findIdx? fun e=>knd.is k e.key)=ps.findIdx? fun p=>decide (p.1=k):=by
  rw [←g5.findIdx k]
  obtain ⟨l⟩:=es
  simp
 cases hi:es.findIdx? fun e=>knd.is k e.key with
 | some i =>
  obtain ⟨e,q1,_,q3⟩:=g5.at (i:=i) (k:=k) (by rw [←hi]; obtain ⟨l⟩:=es; simp)
  refine wpAny_bind (wpAny_dictEntries (s:={ s with toks:=s.toks+1 }) g1 g3 ?_)
  rw [show es[i]? = some e by rw [←q1]; simp]
  exact wpAny_bind (wpAny_rule (wpAny_pure (old _ q3)))
 | none =>
  have nm:k ∉ ps.map (·.1):=not_mem_of_findIdx_none (ix ▸ hi)
  have e0:valueAt ps k=none:=by
   unfold valueAt
   rw [List.find?_eq_none.mpr (fun p hp q=>nm (List.mem_map.mpr ⟨p,hp,of_decide_eq_true q⟩))]
   rfl
  have e1:es.size≤sizeLine:=by
   have q:=g5.length
   rw [Array.length_toList] at q
   rw [q]
   exact hz
  refine wpAny_bind (wpAny_rule (wpAny_bind (wpAny_updateDictKeys (hz:=e1) (s:={ s with toks:=s.toks+1 }) g1 g3 (wpAny_pure (new e0 _ ⟨_,_,ep+1,Heap.get?_update_self _ g1 (Obj.isFreed_of_dict (Obj.data_mapDictKeys g3 _)),g2.mapDictKeys _,Obj.data_mapDictKeys g3 _,g4.push hk _,?_,?_⟩ (Heap.SameBut.update ..))))))
  ·have q:=g5.append hk (knd.hash k) x
   obtain ⟨l⟩:=es
   simpa using q
  ·rw [List.map_append,List.nodup_append]
   refine ⟨g6,by simp,fun y hy z hz' q=>?_⟩
   simp only [List.map_cons,List.map_nil,List.mem_singleton] at hz'
   subst hz'
   exact nm (q ▸ hy)
theorem call_setd {d:Addr} {key x:Value} {Q:Value→Shared→Prop} (T:s.TypeIs (.ref d) "dict") (hd:(d == sysModules)=false)
  (h:wpAny (model prog w) A.in1 (dictSetDefault d key x) Q (fun e s'=>E e s') s):wpAny (model prog w) A (call (.builtin "dict.setdefault") [.ref d,key,x]) Q E s:=by
 refine wpAny_call_entry F.slot_dict_setdefault T F.entry_dict_setdefault ?_ (F.args_dict_setdefault_3 _ _ _)
 unfold Builtin.«dict.setdefault»
 refine wpAny_bind ?_
 unfold Builtin.Dict.keyAndDefault
 refine wpAny_bind (wpAny_notOrdered_dict T ?_)
 show wpAny _ _ (pure (d,key,some x)) _ _ s
 refine wpAny_pure ?_
 show wpAny _ _ (if (d == sysModules)=true then _ else (dictSetDefault d key x >>= _)) _ _ s
 rw [if_neg (by rw [hd]; exact Bool.false_ne_true)]
 refine wpAny_bind (wpAny_mono h (fun v s' q=>?_) (fun _ _ q=>q))
 exact wpAny_pure ⟨_,rfl,q⟩
end
end L2
namespace L2
open PySem PySem.Spec PyProof.Rows
section
variable {prog:Program} {w:World} {K:Type} [DecidableEq K] {A:Around} {E:Value→Shared→Prop} {s:Shared}
end
section
variable {P:Program} {w:World} {H:Hp} {h:Heap} {a:Addr}
end
end L2
namespace L2
open PySem PySem.Spec PyProof.Rows
def KL {κ:Type} [DecidableEq κ] (l:List (κ × V × V)) (k:κ):Option V:=(l.find? fun x=>decide (x.1=k)).map (·.2.2)
def rSetd {κ:Type} [DecidableEq κ] (obj:Addr→List (κ × V × V)→HO) (key:Hp→V→κ→Prop):V→List V→Hp→VK→Prop:=fun x vs H Q =>
 ∃ d l k y v,x=.ref d∧vs=[y,v]∧H d=some (obj d l)∧(∀ z ∈ l,key H z.2.1 z.1)∧key H y k∧l.length < sizeLine ∧
  ((∃ r,KL l k=some r∧Q r H) ∨ (KL l k=none∧Q v (upd H d (obj d (l++[(k,y,v)])))))
structure Kd (X:Cx) (κ:Type) [DecidableEq κ] (obj:Addr→List (κ × V × V)→HO) (key:Hp→V→κ→Prop):Prop where
 ty:∀ {pins:List (Addr × Obj)} {σ:St} {H:Hp} {s:Shared} {a:Addr} {l:List (κ × V × V)},Inv X pins σ H s→H a=some (obj a l) →
  s.TypeIs (.ref a) "dict"∧∀ b,Value.ref a=.ref b→∃ ob,s.heap.get? b=some ob∧ob.dict=none
 new:∀ pos,PE X (.Dict [] [] pos) (fun _ H Q=>∀ p,H p=none→Q (.ref p) (upd H p (obj p [])))
 len:CallR X (.builtin "len") (fun xs H Q=>∃ a l,xs=[V.ref a]∧H a=some (obj a l)∧(∀ z ∈ l,key H z.2.1 z.1)∧Q (.int l.length) H)
 set:MtM X "dict.setdefault" (rSetd obj key)
def iObj (_:Addr) (l:List (Int × V × V)):HO:=.dK (l.map fun x=>(Sum.inl x.1,x.2.2))
def iKey (_:Hp) (y:V) (k:Int):Prop:=y=.int k
theorem valV_iObj (k:Int):∀ l:List (Int × V × V),valV (κ:=Key) (l.map fun x=>(Sum.inl x.1,x.2.2)) (Sum.inl k)=KL l k
 | []=>rfl
 | x :: l=>by
  by_cases e:x.1=k
  ·rw [List.map_cons,valV_pos (by rw [e]),show KL (x :: l) k=some x.2.2 by simp [KL,e]]
  ·rw [List.map_cons,valV_neg (fun q=>e (Sum.inl.inj q)),valV_iObj k l,show KL (x :: l) k=KL l k by simp [KL,e]]
theorem kd_int {X:Cx}:Kd X Int iObj iKey where
 ty:=by
  intro pins σ H s a l I e
  obtain ⟨q1,q2,_⟩:=isD_at I (.inl ⟨_,.inl e⟩)
  exact ⟨q1,q2⟩
 new:=fun pos=>pe_dnewK
 len:=by
  intro pins s σ H xs us Q I r h
  obtain ⟨a,l,rfl,ha,_,q⟩:=h
  obtain ⟨u,rfl,ru⟩:=vals1 r
  cases ru
  refine d_len I (.inl ha) fun t s' I'=>⟨.int l.length,H,I',⟨t,by rw [List.length_map]⟩,q⟩
 set:=by
  intro pins s σ H x vs v us Q I rx rv h
  obtain ⟨d,l,k,y,z,rfl,rfl,e,_,ky,hz,q⟩:=h
  cases rx
  cases (show y=.int k from ky)
  obtain ⟨u,u',rfl,ru,ru'⟩:=rv.two
  obtain ⟨z1,hd,ps,rel,dd⟩:=dk_of I.hok e
  refine call_setd dd.typeIs hd (kk_setd (knd:=mixKind X.prog X.w) (k:=Sum.inl k) (kV_is (k:=Sum.inl k) ru) dd (by rw [←rel.length]; exact z1) (fun r hr=>?_) (fun hr h' dd' sb=>?_))
  ·have t1:=rel.val (Sum.inl k)
   rw [valV_iObj,hr] at t1
   rcases q with ⟨r',e1,q⟩ | ⟨e1,_⟩
   ·rw [e1] at t1
    exact ⟨r',H,I.tok _,t1,q⟩
   ·rw [e1] at t1
    exact (show False from t1).elim
  ·have t1:=rel.val (Sum.inl k)
   rw [valV_iObj,hr] at t1
   rcases q with ⟨r',e1,_⟩ | ⟨_,q⟩
   ·rw [e1] at t1
    exact (show False from t1).elim
   ·refine ⟨z,_,d_write I (ob:=iObj d (l++[(k,.int k,z)])) (by rw [e]; exact True.intro) sb (let ⟨o,_,_,g,_⟩:=dd'; ⟨o,g⟩) ?_,ru',q⟩
    refine dk_new ?_ hd ?_ dd'
    ·rw [List.length_map,List.length_append,List.length_singleton]
     omega
    ·rw [List.map_append]
     exact Paired.snoc rel ⟨rfl,ru'⟩
def adr:V→Addr
 | .ref a=>a
 | _=>0
def tSetd {κ:Type} [DecidableEq κ] (obj:Addr→List (κ × V × V)→HO) (key:Hp→V→κ→Prop) (td ty tx:TE):TE:=fun σ H Q =>
 td σ H fun x H1=>∃ a l,x=.ref a∧H1 a=some (obj a l)∧ty σ H1 fun y H2=>tx σ H2 fun z H3=>rSetd obj key x [y,z] H3 Q
theorem pe_setd {X:Cx} {κ:Type} [DecidableEq κ] {obj:Addr→List (κ × V × V)→HO} {key:Hp→V→κ→Prop} {o e f:Expr} {apos cpos:Pos} {td ty tx:TE} (K:Kd X κ obj key) (ho:PE X o td) (he:PE X e ty) (hf:PE X f tx)
  (m:M2 X o "setdefault" apos e f cpos):PE X (.Call (.Attribute o "setdefault" apos) [e,f] [] cpos) (tSetd obj key td ty tx):=by
 intro pins s σ H Q I h
 refine wpAny_Call_method m.base m.few m.line PySem.F.plainAttrs_dict PySem.F.slot_dict_setdefault PySem.F.type_dict_setdefault (thn (ho pins s σ H _ I h) fun u s1 ⟨x,H1,I1,rx,a,l,ex,d,q1⟩=>?_)
 subst ex
 obtain rfl:u=Value.ref a:=rx
 obtain ⟨t1,t2⟩:=K.ty I1 d
 refine ⟨t1,t2,?_⟩
 rw [m.trees]
 refine Calls.callWith_builtin rfl (Calls.evalArgs_plain (Calls.spliced_cons (thn (he pins s1 σ H1 _ I1 q1) fun iv s2 ⟨y,H2,I2,ry,q2⟩=>Calls.spliced_cons (thn (hf pins s2 σ H2 _ I2 q2) fun fv s3 ⟨z,H3,I3,rz,q3⟩=>Calls.spliced_nil ?_))))
 exact K.set pins s3 σ H3 (.ref a) [y,z] _ _ Q I3 rfl (.cons ry (.cons rz .nil)) q3
end L2
namespace L2
open PySem PySem.Spec PyProof.Rows
section
variable {prog:Program} {w:World} {A:Around} {S I v:Addr} {n:Nat} {St En:List Value→Heap→Prop} {R:Result→Shared→Prop} {res:Value}
variable {E:Value→Shared→Prop} {s:Shared}
end
end L2
namespace L2
open PySem PySem.Spec PyProof.Rows
section
variable {prog:Program} {w:World} {A:Around} {I v:Addr} {n:Nat} {St En:List Value→Heap→Prop} {E:Value→Shared→Prop} {s:Shared}
end
end L2
namespace L2
open PySem PySem.Spec PyProof.Rows
section
variable {X:Cx}
end
section
variable {prog:Program} {w:World} {A:Around}
end
section
variable {X:Cx}
end
end L2
namespace L2
open PySem PySem.Spec PyProof.Rows
section
variable {prog:Program} {w:World} {A:Around} {E:Value→Shared→Prop} {s:Shared}
end
end L2
namespace L2
open PySem PySem.Spec PyProof.Rows
section
variable {prog:Program} {w:World} {A:Around} {E:Value→Shared→Prop} {s:Shared}
end
end L2
namespace L2
open PySem PySem.Spec PyProof.Rows
section
variable {prog:Program} {w:World} {A:Around} {E:Value→Shared→Prop} {s:Shared}
end
end L2
namespace L2
open PySem PySem.Spec PyProof.Rows
section
variable {prog:Program} {w:World} {A:Around}
end
end L2
namespace L2
open PySem PySem.Spec PyProof.Rows
section
variable {X:Cx} {pins:List (Addr × Obj)} {σ:St} {H H':Hp} {s:Shared} {h':Heap}
end
section
variable {X:Cx}
end
end L2
namespace L2
open PySem PySem.Spec PyProof.Rows
structure KM where
 a:Int
 b:Bool
 c:Int
 d:Int
 e:Int
 f:Int
 ws:List (List Int)
 deriving DecidableEq
section
variable {prog:Program} {w:World} {A:Around} {E:Value→Shared→Prop} {s:Shared}
end
end L2
namespace L2
open PySem PySem.Spec PyProof.Rows
section
variable (prog:Program) (w:World)
variable {prog w}
end
end L2
namespace L2
open PySem PySem.Spec PyProof.Rows
section
variable {P:Program} {w:World} {H:Hp} {h:Heap} {a:Addr}
end
def kL (l:List (KM × V × V)):List (KM × Addr × V):=l.map fun x=>(x.1,adr x.2.1,x.2.2)
end L2
namespace L2
open PySem PySem.Spec PyProof.Rows
section
variable {X:Cx}
def rCountI:V→List V→Hp→VK→Prop:=fun x vs H Q=>∃ (l:Addr) (ns:List Int) (k:Int),x=.ref l∧vs=[.int k]∧H l=some (.lst (ns.map V.int))∧Q (.int ((ns.count k:Nat):Int)) H
theorem mt_countI:MtM X "list.count" rCountI:=by
 intro pins s σ H x vs v us Q I rx rv h
 obtain ⟨l,ns,k,rfl,rfl,hH,q⟩:=h
 cases rx
 obtain ⟨u,rfl,⟨t,rfl⟩⟩:=rv.one
 obtain ⟨z,its,n,r,hl,e⟩:=I.lstM hH
 have hI:IntsAre its ns:=intsAre_of r
 exact count_list_ints ⟨_,e,rfl,n,rfl⟩ hI ⟨.int _,H,I.tok _,⟨_,rfl⟩,q⟩
def CDivL (_ j:Int):Prop:=j≠0∧j.natAbs < 2 ^ 9000
theorem op_fdivL {X:Cx}:OpR X (binaryOp .FloorDiv) (rI CDivL fun i j=>.int (i.fdiv j)) :=
 opI fun _ _ _ _ _ _ _ hc q=>floordiv_int hc.1 q (.inl (PyProof.noPylong_of_log2 ((Nat.log2_lt (by have:=hc.1; omega)).mpr hc.2)))
end
end L2
namespace My
open PySem L2 PyProof.Rows
def top (i:Nat):Stmt:=PySem.Challenge.pw_evenkin_k87_tables_of_turnings.main.body.getD i (.Pass ⟨0,0,0,0⟩)
abbrev sGd:Stmt:=top 1
abbrev sFr:Stmt:=top 2
abbrev sBottom:Stmt:=top 3
abbrev sTopOver:Stmt:=top 4
abbrev sCol:Stmt:=top 6
abbrev sCols:Stmt:=top 7
abbrev sDot:Stmt:=top 8
abbrev sEach:Stmt:=top 9
abbrev sProd:Stmt:=top 10
abbrev sInOne:Stmt:=top 11
abbrev sInSq:Stmt:=top 12
abbrev sIsSq:Stmt:=top 13
abbrev sPicked:Stmt:=top 15
abbrev sLed:Stmt:=top 17
abbrev sBegunT:Stmt:=top 18
abbrev sNext:Stmt:=top 19
abbrev sAllT:Stmt:=top 20
abbrev sShP:Stmt:=top 21
abbrev sTabT:Stmt:=top 22
abbrev sMeanS:Stmt:=top 23
abbrev sMeanT:Stmt:=top 24
abbrev sNumbered:Stmt:=top 26
abbrev sCome:Stmt:=top 28
abbrev sShared:Stmt:=top 29
abbrev sKeepsHue:Stmt:=top 30
abbrev sKeepHues:Stmt:=top 31
abbrev sGoes:Stmt:=top 32
abbrev sMerged:Stmt:=top 33
abbrev sLotsOf:Stmt:=top 34
abbrev sCellAt:Stmt:=top 36
abbrev sWhole:Stmt:=top 37
abbrev sMix:Stmt:=top 38
abbrev sBegun:Stmt:=top 39
abbrev sTake:Stmt:=top 40
abbrev sWeight:Stmt:=top 41
abbrev sWeb:Stmt:=top 42
abbrev sDiv:Stmt:=top 43
abbrev sIsFr:Stmt:=top 44
abbrev sLow:Stmt:=top 45
abbrev sOrder:Stmt:=top 48
abbrev sRenamed:Stmt:=top 49
abbrev sLift:Stmt:=top 50
abbrev sSecond:Stmt:=top 51
abbrev sBoth:Stmt:=top 52
abbrev sOrders:Stmt:=top 53
abbrev sTurns:Stmt:=top 54
abbrev sCounts:Stmt:=top 55
abbrev sLLots:Stmt:=top 56
abbrev sMean:Stmt:=top 57
abbrev sTables:Stmt:=top 58
abbrev sSix:Stmt:=top 59
abbrev sLaw:Stmt:=top 60
section
variable {P:Program} {w:World} {K:PySem.W.Frag} {mg:Str→Option Value} {base:Heap}
def Drw (H:Hp) (p:Addr) (n:Nat):Prop:=∃ a b c:Int,H p=some (.lst [.int a,.int b,.int c])∧0≤b∧b≤(n:Int)
def But (p:Addr) (H H':Hp):Prop:=∀ b o,b≠p→H b=some o→H' b=some o
theorem But.refl (p:Addr) (H:Hp):But p H H:=fun _ _ _ h=>h
theorem But.trans {p:Addr} {H H1 H2:Hp} (a:But p H H1) (b:But p H1 H2):But p H H2:=fun c o n h=>b c o n (a c o n h)
theorem But.upd {p:Addr} {H:Hp} {o:HO}:But p H (upd H p o):=fun b u n h=>by rw [upd_ne n]; exact h
theorem But.new {p q:Addr} {H:Hp} {o:HO} (h:H q=none):But p H (L2.upd H q o):=fun b u _ e=>by rw [upd_ne (ne_of_none e h)]; exact e
theorem Drw.new {p q:Addr} {H:Hp} {o:HO} {n:Nat} (d:Drw H p n) (h:H q=none):Drw (L2.upd H q o) p n:=by
 obtain ⟨a,b,c,e,r⟩:=d
 exact ⟨a,b,c,by rw [upd_ne (ne_of_none e h)]; exact e,r⟩
theorem Drw.mono {p:Addr} {H:Hp} {n m:Nat} (d:Drw H p n) (h:n≤m):Drw H p m:=by
 obtain ⟨a,b,c,e,r1,r2⟩:=d
 exact ⟨a,b,c,e,r1,by omega⟩
def spMix:Sp:=fun vs H Q _=>∃ c k:Int,vs=[.int c,.int k]∧0≤k∧k < 2 ^ 40∧∀ r:Int,Q (.int r) H
def spBegun:Sp:=fun vs H Q _=>∃ c:Int,vs=[.int c]∧∀ p H',H p=none→Same H H'→Drw H' p 1→Q (.ref p) H'
def spTake:Sp:=fun vs H Q _=>∃ (p:Addr) (m:Int) (n:Nat),vs=[.ref p,.int m]∧0 < m∧m < 1073741824∧Drw H p n∧n≤1000000∧∀ (r:Int) H',0≤r→r < m→But p H H'→Drw H' p (n+2)→Q (.int r) H'
theorem cmul_l {x y:Int} (h1:-(2 ^ 64) < x) (h2:x < 2 ^ 64):CMul x y:=.inl ⟨h1,h2⟩
theorem cmul_r {x y:Int} (h1:-(2 ^ 64) < y) (h2:y < 2 ^ 64):CMul x y:=.inr ⟨h1,h2⟩
theorem scMix:FnScope ["_law_cell","_law_k","_law_x"] ["_law_cell","_law_k"] (defScope sMix):=⟨rfl,rfl,rfl,by decide +kernel,rfl,by decide +kernel,by decide +kernel⟩
theorem ok_mix {f:Addr} {fd:FuncData} (F:Fun K "_law_mix" "_law_mix" sMix f fd):FnOk P w K mg base CX0 1 f fd ["_law_cell","_law_k"] spMix:=by
 refine F.ok scMix (fun vs H Q E h=>?_) (fun cdv A outer s H vs Q E hr h=>?_)
 ·obtain ⟨a,b,rfl,_⟩:=h
  rfl
 ·obtain ⟨c,k,rfl,h0,h1,q⟩:=h
  refine ⟨_,pss_cons (ps_set (i:=2) scMix.nd rfl (Or.inl rfl) (pe_op op_mod (pe_op op_add (pe_op op_mod (pv 0) pe_int) (pe_op op_mul pe_int (pv 1))) pe_int))
   (pss_cons (ps_set (i:=2) scMix.nd rfl (Or.inl rfl) (pe_op op_mod (pe_op op_add (pe_op op_add (pe_op op_add (pe_op op_mul (pv 2) (pv 2)) (pe_op op_mul pe_int (pv 2))) (pe_op op_mul (pe_op op_mul (pv 1) (pv 1)) (pv 1))) pe_int) pe_int))
   (pss_one (ps_ret (pe_op op_mod (pe_op op_mul (pv 2) (pv 2)) pe_int)))),?_⟩
  refine ⟨_,rfl,_,_,rfl,rfl,(by show (0:Int) < 2147483647; decide),_,rfl,_,_,rfl,rfl,cmul_l (by decide) (by decide),_,_,rfl,rfl,_,_,rfl,rfl,(by show (0:Int) < 2147483629; decide),?_⟩
  have b1:=Int.emod_nonneg (c % 2147483647+31 * k) (b:=2147483629) (by decide)
  have b2:=Int.emod_lt_of_pos (c % 2147483647+31 * k) (b:=2147483629) (by decide)
  generalize (c % 2147483647+31 * k) % 2147483629=x at b1 b2 ⊢
  refine ⟨_,rfl,_,rfl,_,_,rfl,rfl,cmul_l (by omega) (by omega),_,rfl,_,_,rfl,rfl,cmul_l (by decide) (by decide),_,_,rfl,rfl,_,rfl,_,rfl,_,_,rfl,rfl,cmul_l (by omega) (by omega),_,rfl,_,_,rfl,rfl,cmul_r (by omega) (by omega),_,_,rfl,rfl,_,_,rfl,rfl,_,_,rfl,rfl,(by show (0:Int) < 2147483629; decide),?_⟩
  have c1:=Int.emod_nonneg (x * x+16807 * x+k * k * k+7) (b:=2147483629) (by decide)
  have c2:=Int.emod_lt_of_pos (x * x+16807 * x+k * k * k+7) (b:=2147483629) (by decide)
  generalize (x * x+16807 * x+k * k * k+7) % 2147483629=y at c1 c2 ⊢
  refine ⟨_,rfl,_,rfl,_,_,rfl,rfl,cmul_l (by omega) (by omega),_,_,rfl,rfl,(by show (0:Int) < 2147483587; decide),q _⟩
theorem scBegun:FnScope ["_law_cell"] ["_law_cell"] (defScope sBegun):=⟨rfl,rfl,rfl,by decide +kernel,rfl,by decide +kernel,by decide +kernel⟩
theorem ok_begun {f:Addr} {fd:FuncData} (F:Fun K "_law_begun" "_law_begun" sBegun f fd):FnOk P w K mg base CX0 1 f fd ["_law_cell"] spBegun:=by
 refine F.ok scBegun (fun vs H Q E h=>?_) (fun cdv A outer s H vs Q E hr h=>?_)
 ·obtain ⟨a,rfl,_⟩:=h
  rfl
 ·obtain ⟨c,rfl,q⟩:=h
  refine ⟨_,pss_one (ps_ret (pe_lst (pa_cons (pe_op op_fdiv (pv 0) pe_int) (pa_cons (pe_op op_mod (pv 0) pe_int) (pa_cons (pv 0) pa_nil))))),?_⟩
  refine ⟨_,rfl,_,_,rfl,rfl,⟨by decide,by decide⟩,_,rfl,_,_,rfl,rfl,(by show (0:Int) < 2; decide),_,rfl,(by show 3≤sizeLine; decide),fun p hp=>?_⟩
  have b1:=Int.emod_nonneg c (b:=2) (by decide)
  have b2:=Int.emod_lt_of_pos c (b:=2) (by decide)
  exact q p _ hp (Same.upd hp) ⟨_,_,_,upd_same,b1,by omega⟩
theorem ix0 (a b c:V):atI [a,b,c] 0=some a:=rfl
theorem ix1 (a b c:V):atI [a,b,c] 1=some b:=rfl
theorem ix2 (a b c:V):atI [a,b,c] 2=some c:=rfl
theorem scTake:FnScope ["_law_draw","_law_most","_law_found"] ["_law_draw","_law_most"] (defScope sTake):=⟨rfl,rfl,rfl,by decide +kernel,rfl,by decide +kernel,by decide +kernel⟩
theorem ok_take {f fM:Addr} {fd fdM:FuncData} (F:Fun K "_law_take" "_law_take" sTake f fd) (DM:Dn K mg "_law_mix" sMix ["_law_cell","_law_k"] fM fdM):FnOk P w K mg base CX0 2 f fd ["_law_draw","_law_most"] spTake:=by
 have GM:FnOk P w K mg base CX0 1 fM fdM ["_law_cell","_law_k"] spMix:=ok_mix DM.fn
 refine F.ok scTake (fun vs H Q E h=>?_) (fun cdv A outer s H vs Q E hr h=>?_)
 ·obtain ⟨p,m,n,rfl,_⟩:=h
  rfl
 ·obtain ⟨p,m,n,rfl,hm0,hm1,⟨a,b,c,hp,hb0,hb1⟩,hn,q⟩:=h
  refine ⟨_,pss_cons (ps_if (PW.pt (pw_and (pt_cmpR op_eq (pe_ix ix_list (pv 0) pe_int (fun _ _=>rfl)) pe_int (nomark _)) (pw_and1 (pt_cmpR op_in_seq (pe_ix ix_list (pv 0) pe_int (fun _ _=>rfl)) (pe_lst (pa_cons pe_int (pa_cons (pe_un un_neg pe_int) pa_nil))) rfl))))
    (pss_cons (ps_asg pe_int (pg_sub (pv 0) pe_int set_list)) (pss_one (ps_asg (pe_ix ix_list (pv 0) pe_int (fun _ _=>rfl)) (pg_sub (pv 0) pe_int set_list)))) pss_nil)
   (pss_cons (ps_if (pt_cmpR op_eq (pe_ix ix_list (pv 0) pe_int (fun _ _=>rfl)) pe_int (nomark _))
    (pss_cons (ps_set (i:=2) scTake.nd rfl (Or.inl rfl) (pe_op op_mod (pe_ix ix_list (pv 0) pe_int (fun _ _=>rfl)) (pv 1)))
    (pss_cons (ps_asg (pe_op op_fdiv (pe_ix ix_list (pv 0) pe_int (fun _ _=>rfl)) (pv 1)) (pg_sub (pv 0) pe_int set_list))
    (pss_one (ps_ret (pv 2))))) pss_nil)
   (pss_cons (ps_asg (pe_op op_add (pe_ix ix_list (pv 0) pe_int (fun _ _=>rfl)) pe_int) (pg_sub (pv 0) pe_int set_list))
   (pss_one (ps_ret (pe_op op_mod (pe_fn DM GM hr rfl (pa_cons (pe_ix ix_list (pv 0) pe_int (fun _ _=>rfl)) (pa_cons (pe_ix ix_list (pv 0) pe_int (fun _ _=>rfl)) pa_nil))) (pv 1)))))),?_⟩
  have hc0:∀ (H1:Hp) (a1 b1:Int),But p H H1→H1 p=some (.lst [.int a1,.int b1,.int c])→0≤b1→b1≤(n:Int)+1→b1=0→∀ z:Int,But p H (upd H1 p (.lst [.int z,.int b1,.int c]))∧Drw (upd H1 p (.lst [.int z,.int b1,.int c])) p (n+2):=fun H1 a1 b1 hB h1 h2 h3 _ z =>
   ⟨hB.trans But.upd,z,b1,c,upd_same,h2,by omega⟩
  refine ⟨_,rfl,p,_,_,_,rfl,rfl,SqL.of hp,ix1 _ _ _,rfl,_,rfl,?_⟩
  by_cases hb:b=0
  ·refine itDP (by rw [hb]) ?_
   refine ⟨_,rfl,p,_,_,_,rfl,rfl,SqL.of hp,ix0 _ _ _,1,rfl,(by show 2≤sizeLine; decide),fun l hl=>⟨l,_,rfl,.inl (SqL.of upd_same),rfl,rfl,_,rfl,?_⟩⟩
   have npl:p≠l:=ne_of_none hp hl
   have hp1:upd H l (.lst [.int 0,.int (-1)]) p=some (.lst [.int a,.int b,.int c]):=by rw [upd_ne npl]; exact hp
   have hB1:But p H (upd H l (.lst [.int 0,.int (-1)])):=But.new hl
   generalize upd H l (.lst [.int 0,.int (-1)])=H1 at hp1 hB1 ⊢
   generalize inV (V.int a) [V.int 0,V.int (-1)]=t
   cases t with
   | true =>
    refine iteT ?_
    refine ⟨_,rfl,p,_,1,1,rfl,rfl,hp1,rfl,?_⟩
    refine ⟨_,rfl,p,_,_,_,rfl,rfl,SqL.of upd_same,ix2 _ _ _,_,rfl,p,_,0,0,rfl,rfl,upd_same,rfl,?_⟩
    rw [upd_upd]
    have hp2:upd H1 p (.lst [.int c,.int 1,.int c]) p=some (.lst [.int c,.int 1,.int c]):=upd_same
    have hB2:But p H (upd H1 p (.lst [.int c,.int 1,.int c])):=hB1.trans But.upd
    refine ⟨_,rfl,p,_,_,_,rfl,rfl,SqL.of hp2,ix1 _ _ _,rfl,_,rfl,?_⟩
    refine itDN (by intro z; cases z) ?_
    refine ⟨_,rfl,p,_,_,_,rfl,rfl,SqL.of hp2,ix1 _ _ _,_,_,rfl,rfl,_,rfl,p,_,1,1,rfl,rfl,hp2,rfl,?_⟩
    rw [upd_upd]
    refine ⟨_,rfl,p,_,_,_,rfl,rfl,SqL.of upd_same,ix0 _ _ _,_,rfl,p,_,_,_,rfl,rfl,SqL.of upd_same,ix1 _ _ _,_,_,rfl,(by decide),(by decide),fun r=>?_⟩
    refine ⟨_,rfl,_,_,rfl,rfl,hm0,?_⟩
    exact q _ _ (Int.emod_nonneg _ (Int.ne_of_gt hm0)) (Int.emod_lt_of_pos _ hm0) (hB1.trans But.upd) ⟨c,1+1,c,upd_same,by decide,by omega⟩
   | false =>
    refine iteF ?_
    refine ⟨_,rfl,p,_,_,_,rfl,rfl,SqL.of hp1,ix1 _ _ _,rfl,_,rfl,?_⟩
    refine itDP (by rw [hb]) ?_
    refine ⟨_,rfl,p,_,_,_,rfl,rfl,SqL.of hp1,ix0 _ _ _,_,rfl,_,_,rfl,rfl,hm0,?_⟩
    refine ⟨_,rfl,p,_,_,_,rfl,rfl,SqL.of hp1,ix0 _ _ _,_,rfl,_,_,rfl,rfl,⟨hm0,hm1⟩,_,rfl,p,_,0,0,rfl,rfl,hp1,rfl,?_⟩
    refine ⟨_,rfl,?_⟩
    exact q _ _ (Int.emod_nonneg _ (Int.ne_of_gt hm0)) (Int.emod_lt_of_pos _ hm0) (hB1.trans But.upd) ⟨_,b,c,upd_same,hb0,by omega⟩
  ·refine itDN (fun z=>hb (V.int.inj z)) ?_
   refine iteF ?_
   refine ⟨_,rfl,p,_,_,_,rfl,rfl,SqL.of hp,ix1 _ _ _,rfl,_,rfl,?_⟩
   refine itDN (fun z=>hb (V.int.inj z)) ?_
   refine ⟨_,rfl,p,_,_,_,rfl,rfl,SqL.of hp,ix1 _ _ _,_,_,rfl,rfl,_,rfl,p,_,1,1,rfl,rfl,hp,rfl,?_⟩
   refine ⟨_,rfl,p,_,_,_,rfl,rfl,SqL.of upd_same,ix0 _ _ _,_,rfl,p,_,_,_,rfl,rfl,SqL.of upd_same,ix1 _ _ _,_,_,rfl,(by omega),(by omega),fun r=>?_⟩
   refine ⟨_,rfl,_,_,rfl,rfl,hm0,?_⟩
   exact q _ _ (Int.emod_nonneg _ (Int.ne_of_gt hm0)) (Int.emod_lt_of_pos _ hm0) But.upd ⟨a,b+1,c,upd_same,by omega,by omega⟩
def wMax:Nat:=10 ^ 60
def spWeight:Sp:=fun vs H Q _=>∃ (p:Addr) (y:Int) (n:Nat),vs=[.ref p,.int y]∧Drw H p n∧n≤900000∧∀ (r:Int) H',r.natAbs≤wMax→But p H H'→Drw H' p (n+2)→Q (.int r) H'
theorem p59:(10:Int) ^ (59:Int).toNat=100000000000000000000000000000000000000000000000000000000000:=by decide
theorem p60':(10:Int) ^ (60:Int).toNat=1000000000000000000000000000000000000000000000000000000000000:=by decide
theorem pow59:CPow 10 59:=⟨by decide,by decide,by decide⟩
theorem pow60:CPow 10 60:=⟨by decide,by decide,by decide⟩
theorem scWeight:FnScope ["_law_draw","_law_way"] ["_law_draw","_law_way"] (defScope sWeight):=⟨rfl,rfl,rfl,by decide +kernel,rfl,by decide +kernel,by decide +kernel⟩
theorem ok_weight {f fT:Addr} {fd fdT:FuncData} (F:Fun K "_law_weight" "_law_weight" sWeight f fd) (DT:Dn K mg "_law_take" sTake ["_law_draw","_law_most"] fT fdT) (GT:FnOk P w K mg base CX0 2 fT fdT ["_law_draw","_law_most"] spTake):FnOk P w K mg base CX0 3 f fd ["_law_draw","_law_way"] spWeight:=by
 refine F.ok scWeight (fun vs H Q E h=>?_) (fun cdv A outer s H vs Q E hr h=>?_)
 ·obtain ⟨p,y,n,rfl,_⟩:=h
  rfl
 ·obtain ⟨p,y,n,rfl,hd,hn,q⟩:=h
  refine ⟨_,pss_cons (ps_if (pt_cmpR op_eq (pv 1) pe_int (nomark _)) (pss_one (ps_ret (pe_fn DT GT hr rfl (pa_cons (pv 0) (pa_cons pe_int pa_nil))))) pss_nil)
   (pss_cons (ps_if (pt_cmpR op_eq (pv 1) pe_int (nomark _)) (pss_one (ps_ret (pe_op op_sub (pe_fn DT GT hr rfl (pa_cons (pv 0) (pa_cons pe_int pa_nil))) pe_int))) pss_nil)
   (pss_one (ps_ret (pe_ix ix_list (pe_lst (pa_cons pe_int (pa_cons pe_int (pa_cons (pe_un un_neg pe_int) (pa_cons pe_int (pa_cons (pe_op op_add (pe_op op_pow pe_int pe_int) pe_int) (pa_cons (pe_un un_neg (pe_op op_sub (pe_op op_pow pe_int pe_int) pe_int)) (pa_cons pe_int (pa_cons (pe_un un_neg pe_int) pa_nil)))))))))
    (pe_fn DT GT hr rfl (pa_cons (pv 0) (pa_cons pe_int pa_nil))) (fun _ _=>rfl))))),?_⟩
  refine ⟨_,rfl,rfl,_,rfl,?_⟩
  refine ite2 (fun _=>?_) (fun _=>?_)
  ·exact ⟨_,rfl,p,2,n,rfl,by decide,by decide,hd,by omega,fun r H' h0 h1 hB hD=>q r H' (by unfold wMax; omega) hB hD⟩
  ·refine ⟨_,rfl,rfl,_,rfl,?_⟩
   refine ite2 (fun _=>?_) (fun _=>?_)
   ·exact ⟨_,rfl,p,5,n,rfl,by decide,by decide,hd,by omega,fun r H' h0 h1 hB hD=>⟨_,_,rfl,rfl,q _ H' (by unfold wMax; omega) hB hD⟩⟩
   ·refine ⟨1,rfl,_,_,rfl,rfl,pow59,_,_,rfl,rfl,_,_,rfl,rfl,pow60,_,_,rfl,rfl,_,rfl,3,rfl,(by show 8≤sizeLine; decide),fun l hl=>?_⟩
    refine ⟨_,rfl,p,8,n,rfl,by decide,by decide,hd.new hl,by omega,fun r H' h0 h1 hB hD=>?_⟩
    have hl':H' l=some (.lst [.int 0,.int 1,.int (-1),.int 7,.int (10 ^ (59:Int).toNat+3),.int (-(10 ^ (60:Int).toNat - 1)),.int 2,.int (-3)]):=hB l _ (by
     obtain ⟨a,b,c,e,_⟩:=hd
     exact (ne_of_none e hl).symm) upd_same
    obtain ⟨j,rfl⟩:=Int.eq_ofNat_of_zero_le h0
    have hj:j < 8:=by omega
    obtain ⟨v,hv,hw⟩:∃ v:Int,[V.int 0,.int 1,.int (-1),.int 7,.int (10 ^ (59:Int).toNat+3),.int (-(10 ^ (60:Int).toNat - 1)),.int 2,.int (-3)][j]? = some (.int v)∧v.natAbs≤wMax:=by
     rw [p59,p60']
     unfold wMax
     match j,hj with
     | 0,_=>exact ⟨_,rfl,by decide⟩
     | 1,_=>exact ⟨_,rfl,by decide⟩
     | 2,_=>exact ⟨_,rfl,by decide⟩
     | 3,_=>exact ⟨_,rfl,by decide⟩
     | 4,_=>exact ⟨_,rfl,by decide⟩
     | 5,_=>exact ⟨_,rfl,by decide⟩
     | 6,_=>exact ⟨_,rfl,by decide⟩
     | 7,_=>exact ⟨_,rfl,by decide⟩
    refine ⟨l,_,_,.int v,rfl,rfl,SqL.of hl',atI_nat hv,?_⟩
    exact q v H' hw ((But.new hl).trans hB) hD
end
section
variable {P:Program} {w:World} {K:PySem.W.Frag} {mg:Str→Option Value} {base:Heap}
structure RowsAt (H:Hp) (rs:List Addr) (M:List (List Int)):Prop where
 len:rs.length=M.length
 row:∀ (i:Nat) (r:Addr) (x:List Int),rs[i]? = some r→M[i]? = some x→H r=some (.lst (x.map V.int))
 nd:rs.Nodup
def ent (M:List (List Int)) (i j:Nat):Int:=((M[i]?.getD [])[j]?).getD 0
structure Sq (n:Nat) (M:List (List Int)):Prop where
 len:M.length=n
 row:∀ (i:Nat) (x:List Int),M[i]? = some x→x.length=n∧∀ z ∈ x,z.natAbs≤wMax
 sym:∀ i j:Nat,i < n→j < n→ent M i j=ent M j i
def put (M:List (List Int)) (i j:Nat) (z:Int):List (List Int):=M.set i ((M[i]?.getD []).set j z)
theorem ent_put (M:List (List Int)) (n i j a b:Nat) (z:Int) (hl:M.length=n) (hr:∀ (i:Nat) (x:List Int),M[i]? = some x→x.length=n) (hi:i < n) (hj:j < n):ent (put M i j z) a b=if a=i∧b=j then z else ent M a b:=by
 unfold ent put
 by_cases ha:a=i
 ·subst ha
  rw [List.getElem?_set_self (by omega)]
  have hx:∃ x,M[a]? = some x:=⟨M[a]'(by omega),by simp [hl,hi]⟩
  obtain ⟨x,hx⟩:=hx
  have lx:=hr a x hx
  rw [hx]
  simp only [Option.getD_some]
  by_cases hb:b=j
  ·subst hb
   rw [List.getElem?_set_self (by omega)]
   simp
  ·rw [List.getElem?_set_ne (Ne.symm hb),if_neg (fun z=>hb z.2)]
 ·rw [List.getElem?_set_ne (Ne.symm ha),if_neg (fun z=>ha z.1)]
theorem put_row {M:List (List Int)} {n i j:Nat} {z:Int} (hl:M.length=n) (hz:z.natAbs≤wMax) (hr:∀ (i:Nat) (x:List Int),M[i]? = some x→x.length=n∧∀ z ∈ x,z.natAbs≤wMax) :
  (put M i j z).length=n∧∀ (k:Nat) (x:List Int),(put M i j z)[k]? = some x→x.length=n∧∀ z ∈ x,z.natAbs≤wMax:=by
 unfold put
 refine ⟨by rw [List.length_set]; exact hl,fun k x hx=>?_⟩
 by_cases hk:k=i
 ·subst hk
  by_cases hlt:k < M.length
  ·rw [List.getElem?_set_self hlt] at hx
   have hx:=Option.some.inj hx
   have hy:M[k]? = some M[k]:=by simp [hlt]
   have hh:=hr k _ hy
   subst hx
   rw [hy]
   simp only [Option.getD_some,List.length_set]
   refine ⟨hh.1,fun y hy'=>?_⟩
   rcases List.mem_or_eq_of_mem_set hy' with q | q
   ·exact hh.2 y q
   ·rw [q]; exact hz
  ·rw [List.getElem?_eq_none (by rw [List.length_set]; omega)] at hx
   cases hx
 ·rw [List.getElem?_set_ne (Ne.symm hk)] at hx
  exact hr k x hx
theorem Sq.put {n:Nat} {M:List (List Int)} (S:Sq n M) {i j:Nat} {z:Int} (hi:i < n) (hj:j < n) (hz:z.natAbs≤wMax):Sq n (put (put M i j z) j i z):=by
 obtain ⟨l1,r1⟩:=put_row (i:=i) (j:=j) S.len hz S.row
 obtain ⟨l2,r2⟩:=put_row (i:=j) (j:=i) l1 hz r1
 refine ⟨l2,r2,fun a b ha hb=>?_⟩
 have hr:=fun (i:Nat) (x:List Int) h=>(S.row i x h).1
 have hr1:=fun (k:Nat) (x:List Int) h=>(r1 k x h).1
 rw [ent_put _ n j i a b z l1 hr1 hj hi,ent_put _ n j i b a z l1 hr1 hj hi,ent_put _ n i j a b z S.len hr hi hj,ent_put _ n i j b a z S.len hr hi hj]
 have:=S.sym a b ha hb
 by_cases h1:a=j∧b=i
 ·rw [if_pos h1]
  by_cases h2:b=j∧a=i
  ·rw [if_pos h2]
  ·rw [if_neg h2,if_pos ⟨h1.2,h1.1⟩]
 ·rw [if_neg h1]
  by_cases h2:a=i∧b=j
  ·rw [if_pos h2,if_pos ⟨h2.2,h2.1⟩]
  ·rw [if_neg h2,if_neg (fun q=>h2 ⟨q.2,q.1⟩),if_neg (fun q=>h1 ⟨q.2,q.1⟩)]
   exact this
theorem RowsAt.put {H:Hp} {rs:List Addr} {M:List (List Int)} (R:RowsAt H rs M) {i:Nat} {r:Addr} {x:List Int} {j:Nat} {z:Int} (hr:rs[i]? = some r) (hx:M[i]? = some x) :
  RowsAt (upd H r (.lst ((x.set j z).map V.int))) rs (put M i j z):=by
 unfold My.put
 refine ⟨by rw [List.length_set]; exact R.len,fun k r' x' h1 h2=>?_,R.nd⟩
 by_cases hk:k=i
 ·subst hk
  rw [hr] at h1; cases h1
  rw [List.getElem?_set_self (List.getElem?_eq_some_iff.mp hx).1,hx] at h2
  cases h2
  exact upd_same
 ·rw [List.getElem?_set_ne (Ne.symm hk)] at h2
  have ne:r'≠r:=fun e=>by
   subst e
   obtain ⟨p1,q1⟩:=List.getElem?_eq_some_iff.mp h1
   obtain ⟨p2,q2⟩:=List.getElem?_eq_some_iff.mp hr
   exact hk ((List.getElem_inj R.nd).mp (q1.trans q2.symm))
  rw [upd_ne ne]
  exact R.row k r' x' h1 h2
theorem RowsAt.keep {H H':Hp} {rs:List Addr} {M:List (List Int)} (R:RowsAt H rs M) (k:∀ r ∈ rs,∀ o,H r=some o→H' r=some o):RowsAt H' rs M :=
 ⟨R.len,fun i r x h1 h2=>k r (List.mem_of_getElem? h1) _ (R.row i r x h1 h2),R.nd⟩
theorem But.updN {d a:Addr} {H H':Hp} {o:HO} (c:But d H H') (h:H a=none):But d H (L2.upd H' a o):=fun b u n e=>by
 rw [upd_ne (ne_of_none e h)]
 exact c b u n e
theorem Drw.updN {d a:Addr} {H:Hp} {o:HO} {n:Nat} (D:Drw H d n) (h:a≠d):Drw (L2.upd H a o) d n:=by
 obtain ⟨x,y,z,e,r⟩:=D
 exact ⟨x,y,z,by rw [upd_ne h.symm]; exact e,r⟩
theorem RowsAt.snoc {H H':Hp} {rs:List Addr} {M:List (List Int)} {l:Addr} {x:List Int} (R:RowsAt H rs M) (k:∀ r ∈ rs,∀ o,H r=some o→H' r=some o) (hl:H' l=some (.lst (x.map V.int))) (hn:l ∉ rs):RowsAt H' (rs++[l]) (M++[x]):=by
 refine ⟨by rw [List.length_append,List.length_append,R.len]; rfl,fun i r y h1 h2=>?_,?_⟩
 ·by_cases hi:i < rs.length
  ·rw [List.getElem?_append_left hi] at h1
   rw [List.getElem?_append_left (by rw [←R.len]; exact hi)] at h2
   exact k r (List.mem_of_getElem? h1) _ (R.row i r y h1 h2)
  ·rw [List.getElem?_append_right (by omega)] at h1
   rw [List.getElem?_append_right (by rw [←R.len]; omega),←R.len] at h2
   cases e:i - rs.length with
   | zero=>rw [e] at h1 h2; cases h1; cases h2; exact hl
   | succ j=>rw [e] at h1; cases h1
 ·rw [List.nodup_append]
  refine ⟨R.nd,by simp,fun a ha b hb e=>?_⟩
  rw [List.mem_singleton.mp hb] at e
  exact hn (e ▸ ha)
theorem RowsAt.get {H:Hp} {rs:List Addr} {M:List (List Int)} (R:RowsAt H rs M) {i:Nat} (h:i < rs.length):∃ r x,rs[i]? = some r∧M[i]? = some x∧H r=some (.lst (x.map V.int)):=by
 have h1:rs[i]? = some rs[i]:=by simp [h]
 have h':i < M.length:=by rw [←R.len]; exact h
 have h2:M[i]? = some M[i]:=by simp [h']
 exact ⟨_,_,h1,h2,R.row i _ _ h1 h2⟩
theorem ixN_nat {n j:Nat} (h:j < n):ixN n (j:Int)=some j:=by
 unfold ixN
 rw [if_pos (by omega),if_pos (by omega)]
 simp
structure WebAt (H:Hp) (p hA rA:Addr) (rs:List Addr) (n:Nat) (hs:List Int) (M:List (List Int)):Prop where
 tup:H p=some (.tup [.ref hA,.ref rA])
 hue:H hA=some (.lst (hs.map V.int))
 rws:H rA=some (.lst (rs.map V.ref))
 row:RowsAt H rs M
 len:hs.length=n
 pos:∀ z ∈ hs,0≤z∧z.natAbs≤wMax
 sq:Sq n M
def spWeb:Sp:=fun vs H Q _=>∃ (d:Addr) (m:Int) (n:Nat),vs=[.ref d,.int m]∧0≤m∧m≤8∧Drw H d n∧n≤800000 ∧
 ∀ (H':Hp) (p hA rA:Addr) (rs:List Addr) (k:Nat) (hs:List Int) (M:List (List Int)),(k:Int)≤m→But d H H'→Drw H' d (n+200)→WebAt H' p hA rA rs k hs M→(∀ a ∈ p :: hA :: rA :: rs,H a=none∧a≠d)→hA≠rA→hA ∉ rs→rA ∉ rs→Q (.ref p) H'
def bodyAt (s:Stmt) (i:Nat):Stmt:=(defBody s).getD i (.Pass ⟨0,0,0,0⟩)
def asgVal (s:Stmt):Expr:=match s with
 | .Assign _ v _=>v
 | .Return (some v) _=>v
 | _=>.Constant .none 0 ⟨0,0,0,0⟩
def lcScope (e:Expr):Scope:=match e with
 | .ListComp _ _ sc _=>sc
 | _=>{ kind:=.function,names:=[],isGenerator:=false,isCoroutine:=false }
structure BltW (mg:Str→Option Value):Prop where
 range:mg "range" = none
 int:mg "int" = none
abbrev nWeb:List Str:=["_law_draw","_law_most","_law_many","_law_way","_law_hues","_law_u","_law_rows","_law_v","_law_weight_here"]
theorem scWeb:FnScope nWeb ["_law_draw","_law_most"] (defScope sWeb):=⟨rfl,rfl,rfl,by decide +kernel,rfl,by decide +kernel,by decide +kernel⟩
theorem lcWeb:LcScopes (defScope sWeb) nWeb (lcScope (asgVal (bodyAt sWeb 4))) ["_law_u"]:=⟨by decide +kernel,rfl,by decide +kernel,by decide +kernel,by decide +kernel,by decide +kernel,by decide +kernel,by decide +kernel,by decide +kernel,by decide +kernel⟩
theorem zeros_map (k:Nat):(List.replicate k [V.int 0]).flatten=(List.replicate k (0:Int)).map V.int:=by
 induction k with
 | zero=>rfl
 | succ k ih=>rw [List.replicate_succ,List.flatten_cons,ih,List.replicate_succ,List.map_cons]; rfl
theorem sq_zero (n:Nat):Sq n (List.replicate n (List.replicate n 0)):=by
 refine ⟨List.length_replicate,fun i x hx=>?_,fun i j hi hj=>?_⟩
 ·rw [List.getElem?_replicate] at hx
  split at hx
  ·cases hx
   refine ⟨List.length_replicate,fun z hz=>?_⟩
   rw [List.eq_of_mem_replicate hz]
   exact Nat.zero_le _
  ·cases hx
 ·unfold ent
  rw [List.getElem?_replicate,List.getElem?_replicate,if_pos hi,if_pos hj]
  simp only [Option.getD_some,List.getElem?_replicate,if_pos hi,if_pos hj]
theorem hues4 (r:Nat) (h:r < 4):∃ v:Int,[V.int 0,.int 1,.int 7,.int (10 ^ (60:Int).toNat - 1)][r]? = some (.int v)∧0≤v∧v.natAbs≤wMax:=by
 rw [p60']
 unfold wMax
 match r,h with
 | 0,_=>exact ⟨_,rfl,by decide,by decide⟩
 | 1,_=>exact ⟨_,rfl,by decide,by decide⟩
 | 2,_=>exact ⟨_,rfl,by decide,by decide⟩
 | 3,_=>exact ⟨_,rfl,by decide,by decide⟩
theorem ok_web {f fT fW:Addr} {fd fdT fdW:FuncData} (B:BltW mg) (F:Fun K "_law_web" "_law_web" sWeb f fd) (DT:Dn K mg "_law_take" sTake ["_law_draw","_law_most"] fT fdT) (GT:FnOk P w K mg base CX0 2 fT fdT ["_law_draw","_law_most"] spTake)
  (DW:Dn K mg "_law_weight" sWeight ["_law_draw","_law_way"] fW fdW) (GW:FnOk P w K mg base CX0 3 fW fdW ["_law_draw","_law_way"] spWeight):FnOk P w K mg base CX0 4 f fd ["_law_draw","_law_most"] spWeb:=by
 refine F.ok scWeb (fun vs H Q E h=>?_) (fun cdv A outer s H vs Q E hr h=>?_)
 ·obtain ⟨d,m,n,rfl,_⟩:=h
  rfl
 ·obtain ⟨d,m,n,rfl,hm0,hm1,hd,hn,q⟩:=h
  refine ⟨_,pss_cons (ps_set (i:=2) scWeb.nd rfl (Or.inr rfl) (pe_fn DT GT (hr.mono (by decide)) rfl (pa_cons (pv 0) (pa_cons (pe_op op_add (pv 1) pe_int) pa_nil))))
   (pss_cons (ps_set (i:=3) scWeb.nd rfl (Or.inl rfl) (pe_fn DT GT (hr.mono (by decide)) rfl (pa_cons (pv 0) (pa_cons pe_int pa_nil))))
   (pss_cons (ps_set (i:=4) scWeb.nd rfl (Or.inl rfl) (pe_lst pa_nil))
   (pss_cons (ps_for PassesOwn.never rfl (pi_range1 rfl B.range (pa_cons (pv 2) pa_nil)) (pg_name (i:=5) scWeb.nd rfl (Or.inl rfl))
    (pss_one (ps_expr (pe_bm PySem.F.plainAttrs_list PySem.F.slot_list_append PySem.F.type_list_append mt_append (pv 4) (pa_cons (pe_ix ix_list (pe_lst (pa_cons pe_int (pa_cons pe_int (pa_cons pe_int (pa_cons (pe_op op_sub (pe_op op_pow pe_int pe_int) pe_int) pa_nil)))))
     (pe_fn DT GT (hr.mono (by decide)) rfl (pa_cons (pv 0) (pa_cons (pe_op op_add pe_int (pe_op op_mul pe_int (pe_callTy call_int1 (by rfl) B.int boot_int (pa_cons (pe_cmpR op_eq (pv 3) pe_int (nomark _)) pa_nil)))) pa_nil))) (fun _ _=>rfl)) pa_nil)))))
   (pss_cons (ps_setLc1 (i:=6) scWeb.nd rfl (Or.inl rfl) rfl lcWeb rfl (pi_range1 rfl B.range (pa_cons (pv 2) pa_nil)) (fun _ _ _=>pe_op op_rep (pe_lst (pa_cons pe_int pa_nil)) (pv 2)))
   (pss_cons (ps_for PassesOwn.never rfl (pi_range1 rfl B.range (pa_cons (pv 2) pa_nil)) (pg_name (i:=5) scWeb.nd rfl (Or.inl rfl))
    (pss_one (ps_for PassesOwn.never rfl (pi_range1 rfl B.range (pa_cons (pe_op op_add (pv 5) pe_int) pa_nil)) (pg_name (i:=7) scWeb.nd rfl (Or.inl rfl))
     (pss_cons (ps_set (i:=8) scWeb.nd rfl (Or.inl rfl) (pe_fn DW GW hr rfl (pa_cons (pv 0) (pa_cons (pv 3) pa_nil))))
     (pss_cons (ps_asg (pv 8) (pg_sub (pe_ix ix_list (pv 6) (pv 5) (fun _ _=>rfl)) (pv 7) set_list))
     (pss_one (ps_asg (pv 8) (pg_sub (pe_ix ix_list (pv 6) (pv 7) (fun _ _=>rfl)) (pv 5) set_list))))))))
   (pss_one (ps_ret (pe_tup (pa_cons (pv 4) (pa_cons (pv 6) pa_nil)))))))))),?_⟩
  refine ⟨_,rfl,_,rfl,_,_,rfl,rfl,d,m+1,n,rfl,by omega,by omega,hd,by omega,fun k H1 k0 k1 hB1 hD1=>?_⟩
  refine ⟨_,rfl,d,3,n+2,rfl,by decide,by decide,hD1,by omega,fun y H2 y0 y1 hB2 hD2=>?_⟩
  obtain ⟨k,rfl⟩:=Int.eq_ofNat_of_zero_le k0
  have hk:(k:Int)≤m:=by omega
  refine ⟨Nat.zero_le _,fun hA hhA=>?_⟩
  have c2:=hB1.trans hB2
  have nd1:∀ {a:Addr} {Hx:Hp} {j:Nat},Drw Hx d j→Hx a=none→a≠d:=fun {a Hx j} D h e=>by
   obtain ⟨_,_,_,e',_⟩:=D
   rw [e,e'] at h
   cases h
  have old:∀ {a:Addr} {Hx:Hp},But d H Hx→a≠d→Hx a=none→H a=none:=fun {a Hx} hB hne h=>by
   cases e:H a with
   | none=>rfl
   | some o=>rw [hB a o hne e] at h; cases h
  have hAd:=nd1 hD2 hhA
  have hA0:=old c2 hAd hhA
  refine ⟨_,rfl,(k:Int),rfl,by omega,by omega,for_range (n:=k) (fun i σ H'=>∃ (o5:Option V) (hs:List Int),σ=[some (.ref d),some (.int m),some (.int (k:Int)),some (.int y),some (.ref hA),o5,none,none,none]∧But d H H'∧Drw H' d (n+4+2 * i) ∧
   H' hA=some (.lst (hs.map V.int))∧hs.length=i∧∀ z ∈ hs,0≤z∧z.natAbs≤wMax) ⟨none,[],rfl,c2.trans (But.new hhA),hD2.new hhA,upd_same,rfl,fun z hz=>by cases hz⟩ ?_ ?_⟩
  ·rintro i σ H3 hi ⟨o5,hs,rfl,c3,hD3,e3,l3,p3⟩
   refine ⟨_,rfl,.inl ⟨rfl,_,SqL.of e3⟩,_,_,rfl,rfl,pow60,_,_,rfl,rfl,(by show 4≤sizeLine; decide),fun l hl=>?_⟩
   have nld:=nd1 hD3 hl
   have nlA:hA≠l:=ne_of_none e3 hl
   refine ⟨_,rfl,_,rfl,rfl,.inr ⟨_,rfl,_,_,rfl,rfl,cmul_l (by decide) (by decide),_,_,rfl,rfl,d,_,n+4+2 * i,rfl,by split <;> decide,by split <;> decide,hD3.new hl,by omega,fun r H4 r0 r1 hB4 hD4=>?_⟩⟩
   obtain ⟨r,rfl⟩:=Int.eq_ofNat_of_zero_le r0
   have hr4:r < 4:=by
    have:(r:Int) < 4:=Int.lt_of_lt_of_le r1 (by split <;> decide)
    omega
   obtain ⟨v,hv,v0,v1⟩:=hues4 r hr4
   have el:H4 l=some (.lst [V.int 0,.int 1,.int 7,.int (10 ^ (60:Int).toNat - 1)]):=hB4 l _ nld upd_same
   have eA:H4 hA=some (.lst (hs.map V.int)):=hB4 hA _ hAd (by rw [upd_ne nlA]; exact e3)
   refine ⟨l,_,_,.int v,rfl,rfl,SqL.of el,atI_nat hv,?_⟩
   refine ⟨hA,_,_,rfl,rfl,eA,small1000 (by rw [List.length_map]; omega),?_⟩
   refine ⟨_,hs++[v],rfl,(c3.trans ((But.new hl).trans hB4)).updN hA0,(hD4.mono (by omega)).updN hAd,by rw [List.map_append]; exact upd_same,by rw [List.length_append,l3]; rfl,fun z hz=>?_⟩
   rcases List.mem_append.mp hz with z1 | z1
   ·exact p3 z z1
   ·rw [List.mem_singleton.mp z1]; exact ⟨v0,v1⟩
  ·rintro σ H3 ⟨o5,hs,rfl,c3,hD3,e3,l3,p3⟩
   refine ⟨_,rfl,(k:Int),rfl,by omega,by omega,fun D hDn=>?_⟩
   have hDd:=nd1 hD3 hDn
   have hD0:=old c3 hDd hDn
   have nDA:hA≠D:=ne_of_none e3 hDn
   refine ⟨fun i mm ys H'=>mm=k - i∧i≤k∧∃ rs:List Addr,ys=rs.map V.ref∧rs.length=i∧But d H H'∧Drw H' d (n+4+2 * k)∧H' hA=some (.lst (hs.map V.int))∧H' D=some (.lst ys) ∧
    RowsAt H' rs (List.replicate i (List.replicate k 0))∧∀ r ∈ rs,H r=none∧r≠d∧r≠hA∧r≠D,⟨k,by simp,Nat.zero_le _,[],rfl,rfl,c3.updN hD0,hD3.updN hDd,by rw [upd_ne nDA]; exact e3,upd_same,⟨rfl,(fun i r x h _=>by cases h),List.nodup_nil⟩,(fun r hr=>by cases hr)⟩,?_⟩
   rintro i mm ys H4 ⟨rfl,hi,rs,rfl,l4,c4,hD4,e4,eD,R4,o4⟩
   refine ⟨eD,?_⟩
   by_cases hlt:i < k
   ·refine .inr ⟨hlt,?_⟩
    rintro z H5 ⟨eH,rfl⟩
    have eH:=eH.symm
    subst eH
    refine ⟨(by show 1≤sizeLine; decide),fun l1 hl1=>?_⟩
    refine ⟨_,rfl,l1,(k:Int),_,rfl,rfl,upd_same,by omega,by omega,Nat.le_of_lt (small1000 (by show 1 * (k:Int).toNat≤1000; omega)),fun l2 hl2=>?_⟩
    have n21:l2≠l1:=(ne_of_none upd_same hl2).symm
    have hl2':H4 l2=none:=by rw [upd_ne n21] at hl2; exact hl2
    have sm:Same H4 (upd (upd H4 l1 (.lst [.int 0])) l2 (.lst (List.replicate (k:Int).toNat [V.int 0]).flatten)):=(Same.upd hl1).trans (Same.upd hl2)
    have el:upd (upd H4 l1 (.lst [.int 0])) l2 (.lst (List.replicate (k:Int).toNat [V.int 0]).flatten) l2=some (.lst ((List.replicate k (0:Int)).map V.int)):=by
     rw [upd_same,Int.toNat_natCast,zeros_map]
    have cx:But d H (upd (upd H4 l1 (.lst [.int 0])) l2 (.lst (List.replicate (k:Int).toNat [V.int 0]).flatten)):=fun b o nb e=>sm b o (c4 b o nb e)
    have dx:Drw (upd (upd H4 l1 (.lst [.int 0])) l2 (.lst (List.replicate (k:Int).toNat [V.int 0]).flatten)) d (n+4+2 * k):=(hD4.new hl1).new hl2
    generalize upd (upd H4 l1 (.lst [.int 0])) l2 (.lst (List.replicate (k:Int).toNat [V.int 0]).flatten)=H5 at sm el cx dx ⊢
    have l2d:l2≠d:=nd1 hD4 hl2'
    have l2A:l2≠hA:=(ne_of_none e4 hl2').symm
    have l2D:l2≠D:=(ne_of_none eD hl2').symm
    have l2r:l2 ∉ rs:=fun hm=>by
     obtain ⟨j,hj,e⟩:=List.getElem_of_mem hm
     obtain ⟨r,x,g1,g2,g3⟩:=R4.get hj
     have:rs[j]? = some l2:=by rw [List.getElem?_eq_getElem hj,e]
     rw [g1] at this
     cases this
     rw [g3] at hl2'
     cases hl2'
    refine ⟨sm _ _ eD,small1000 (by rw [List.length_map]; omega),k - (i+1),by omega,rfl,hlt,rs++[l2],by rw [List.map_append]; rfl,by rw [List.length_append,l4]; rfl,cx.updN hD0,dx.updN hDd,by rw [upd_ne nDA]; exact sm _ _ e4,upd_same,?_,?_⟩
    ·have R5:RowsAt H5 (rs++[l2]) (List.replicate i (List.replicate k 0)++[List.replicate k 0]):=R4.snoc (fun r _ o e=>sm r o e) el l2r
     rw [←List.replicate_succ'] at R5
     refine R5.keep fun r hr o e=>?_
     have:r≠D:=by
      rcases List.mem_append.mp hr with z | z
      ·exact (o4 r z).2.2.2
      ·rw [List.mem_singleton.mp z]; exact l2D
     rw [upd_ne this]
     exact e
    ·intro r hr
     rcases List.mem_append.mp hr with z | z
     ·exact o4 r z
     ·rw [List.mem_singleton.mp z]
      exact ⟨old c4 l2d hl2',l2d,l2A,l2D⟩
   ·have:i=k:=by omega
    subst this
    refine .inl ⟨Nat.le_refl _,?_⟩
    refine ⟨_,rfl,(i:Int),rfl,by omega,by omega,for_range (n:=i) (fun u σ H'=>∃ (o5 o7 o8:Option V) (M:List (List Int)),σ=[some (.ref d),some (.int m),some (.int (i:Int)),some (.int y),some (.ref hA),o5,some (.ref D),o7,o8]∧But d H H'∧Drw H' d (n+4+2 * i+18 * u) ∧
     H' hA=some (.lst (hs.map V.int))∧H' D=some (.lst (rs.map V.ref))∧RowsAt H' rs M∧Sq i M) ⟨_,_,_,_,rfl,c4,hD4,e4,eD,R4,sq_zero i⟩ ?_ ?_⟩
    ·rintro u σ H5 hu ⟨o5,o7,o8,M,rfl,c5,hD5,e5,eD5,R5,S5⟩
     refine ⟨_,rfl,_,_,rfl,rfl,(0+(u:Nat):Int)+1,rfl,by omega,by omega,?_⟩
     have eu:((0+(u:Nat):Int)+1).toNat=u+1:=by omega
     rw [eu]
     refine for_range (n:=u+1) (fun v σ H'=>∃ (o7 o8:Option V) (M:List (List Int)),σ=[some (.ref d),some (.int m),some (.int (i:Int)),some (.int y),some (.ref hA),some (.int (0+(u:Nat))),some (.ref D),o7,o8]∧But d H H'∧Drw H' d (n+4+2 * i+18 * u+2 * v) ∧
      H' hA=some (.lst (hs.map V.int))∧H' D=some (.lst (rs.map V.ref))∧RowsAt H' rs M∧Sq i M) ⟨_,_,M,rfl,c5,hD5,e5,eD5,R5,S5⟩ ?_ ?_
     ·rintro v σ H6 hv ⟨o7,o8,M,rfl,c6,hD6,e6,eD6,R6,S6⟩
      refine ⟨_,rfl,_,rfl,d,y,_,rfl,hD6,by omega,fun z H7 hz hB7 hD7=>?_⟩
      have c7:=c6.trans hB7
      have e7:=hB7 hA _ hAd e6
      have eD7:=hB7 D _ hDd eD6
      have R7:RowsAt H7 rs M:=R6.keep fun r hr o e=>hB7 r o (o4 r hr).2.1 e
      obtain ⟨ru,xu,g1,g2,g3⟩:=R7.get (i:=u) (by omega)
      have hru:=o4 ru (List.mem_of_getElem? g1)
      have lxu:=(S6.row u xu g2).1
      have a1:atI (rs.map V.ref) (0+(u:Nat):Int)=some (.ref ru):=by rw [Int.zero_add]; exact atI_nat (by rw [List.getElem?_map,g1]; rfl)
      refine ⟨_,rfl,_,rfl,_,rfl,D,_,_,_,rfl,rfl,SqL.of eD7,a1,_,rfl,ru,_,_,v,rfl,rfl,g3,by rw [Int.zero_add,List.length_map]; exact ixN_nat (by omega),?_⟩
      rw [←List.map_set]
      have R8:=R7.put (j:=v) (z:=z) g1 g2
      have c8:But d H (upd H7 ru (.lst ((xu.set v z).map V.int))):=c7.updN hru.1
      have hD8:Drw (upd H7 ru (.lst ((xu.set v z).map V.int))) d _:=hD7.updN hru.2.1
      have e8:upd H7 ru (.lst ((xu.set v z).map V.int)) hA=_:=(upd_ne hru.2.2.1.symm).trans e7
      have eD8:upd H7 ru (.lst ((xu.set v z).map V.int)) D=_:=(upd_ne hru.2.2.2.symm).trans eD7
      generalize upd H7 ru (.lst ((xu.set v z).map V.int))=H8 at R8 c8 hD8 e8 eD8 ⊢
      obtain ⟨rv,xv,k1,k2,k3⟩:=R8.get (i:=v) (by omega)
      have hrv:=o4 rv (List.mem_of_getElem? k1)
      have lxv:=((put_row (i:=u) (j:=v) S6.len hz S6.row).2 v xv k2).1
      have a2:atI (rs.map V.ref) (0+(v:Nat):Int)=some (.ref rv):=by rw [Int.zero_add]; exact atI_nat (by rw [List.getElem?_map,k1]; rfl)
      refine ⟨_,rfl,_,rfl,_,rfl,D,_,_,_,rfl,rfl,SqL.of eD8,a2,_,rfl,rv,_,_,u,rfl,rfl,k3,by rw [Int.zero_add,List.length_map]; exact ixN_nat (by omega),?_⟩
      rw [←List.map_set]
      exact ⟨_,_,_,rfl,c8.updN hrv.1,(hD8.mono (by omega)).updN hrv.2.1,(upd_ne hrv.2.2.1.symm).trans e8,(upd_ne hrv.2.2.2.symm).trans eD8,R8.put (j:=u) (z:=z) k1 k2,S6.put (by omega) (by omega) hz⟩
     ·rintro σ H6 ⟨o7,o8,M,rfl,c6,hD6,e6,eD6,R6,S6⟩
      exact ⟨_,_,_,M,rfl,c6,hD6.mono (by omega),e6,eD6,R6,S6⟩
    ·rintro σ H5 ⟨o5,o7,o8,M,rfl,c5,hD5,e5,eD5,R5,S5⟩
     refine ⟨_,rfl,_,rfl,(by show 2≤sizeLine; decide),fun p hp=>?_⟩
     have npd:=nd1 hD5 hp
     have np:=fun {a:Addr} {o:HO} (e:H5 a=some o)=>ne_of_none e hp
     have R6:RowsAt (upd H5 p (.tup [.ref hA,.ref D])) rs M:=R5.keep fun r hr o e=>by rw [upd_ne (np e)]; exact e
     refine q _ p hA D rs i hs M hk (c5.trans (But.new hp)) ((hD5.new hp).mono (by omega)) ⟨upd_same,by rw [upd_ne (np e5)]; exact e5,by rw [upd_ne (np eD5)]; exact eD5,R6,l3,p3,S5⟩ ?_ nDA (fun z=>(o4 _ z).2.2.1 rfl) (fun z=>(o4 _ z).2.2.2 rfl)
     intro a ha
     rcases List.mem_cons.mp ha with rfl | ha
     ·exact ⟨old c5 npd hp,npd⟩
     ·rcases List.mem_cons.mp ha with rfl | ha
      ·exact ⟨hA0,hAd⟩
      ·rcases List.mem_cons.mp ha with rfl | ha
       ·exact ⟨hD0,hDd⟩
       ·exact ⟨(o4 a ha).1,(o4 a ha).2.1⟩
end
section
variable {P:Program} {w:World} {K:PySem.W.Frag} {mg:Str→Option Value} {base:Heap}
def dI (ns:List Int):PyData:=.list (ns.map .int)
theorem lay_ints:∀ ns:List Int,PyData.canLayAll0 (ns.map .int)=true∧PyData.depthAll (ns.map .int)=0
 | []=>⟨rfl,rfl⟩
 | n :: ns=>by
  obtain ⟨h1,h2⟩:=lay_ints ns
  refine ⟨?_,?_⟩
  ·rw [List.map_cons]
   simp only [PyData.canLayAll0,PyData.canLay0,h1,Bool.and_self]
  ·rw [List.map_cons]
   simp only [PyData.depthAll,PyData.depth,h2,Nat.max_self]
theorem lay_dI (ns:List Int):(dI ns).canLay0=true∧(dI ns).depth≤1:=by
 obtain ⟨h1,h2⟩:=lay_ints ns
 unfold dI
 exact ⟨by simp only [PyData.canLay0,h1],by simp only [PyData.depth,h2]; exact Nat.le_refl _⟩
theorem das_ints {ok:Addr→Prop} {H:Hp}:∀ ns:List Int,DAs K ok H (ns.map V.int) (ns.map .int)
 | []=>.nil
 | n :: ns=>.cons (.int n) (das_ints ns)
theorem daI {ok:Addr→Prop} {H:Hp} {a:Addr} {ns:List Int} (n:ok a) (h:SqL K H a (ns.map V.int)):DA K ok H (.ref a) (dI ns):=.lst n h (das_ints ns)
structure WR (H:Hp) (p:Addr) (hs:List Int) (M:List (List Int)):Prop where
 ex:∃ hA rA rs,H p=some (.tup [.ref hA,.ref rA])∧H hA=some (.lst (hs.map V.int))∧H rA=some (.lst (rs.map V.ref))∧RowsAt H rs M
theorem WR.mono {H H':Hp} {p:Addr} {hs:List Int} {M:List (List Int)} (W:WR H p hs M) (e:Same H H'):WR H' p hs M:=by
 obtain ⟨hA,rA,rs,h1,h2,h3,R⟩:=W.ex
 exact ⟨hA,rA,rs,e _ _ h1,e _ _ h2,e _ _ h3,R.keep fun r _ o z=>e r o z⟩
theorem ix_listK {K:PySem.W.Frag} {X:Cx} (h:X.K=K:=by rfl):IxR X (rIxL K):=by subst h; exact ix_list
theorem ix_tupK {K:PySem.W.Frag} {X:Cx} (h:X.K=K:=by rfl):IxR X (rIxT K):=by subst h; exact ix_tup
theorem take_snoc {α:Type} {xs:List α} {i:Nat} {x:α} (h:xs[i]? = some x):xs.take (i+1)=xs.take i++[x]:=by
 rw [List.take_succ,h]
 rfl
theorem eqv_ints:∀ a b:List Int,PyData.eqvAll (a.map .int) (b.map .int)=decide (a=b)
 | [],[]=>rfl
 | [],b :: bs=>rfl
 | a :: as,[]=>rfl
 | a :: as,b :: bs=>by
  rw [List.map_cons,List.map_cons]
  simp only [PyData.eqvAll,PyData.eqv,eqv_ints as bs]
  by_cases h:a=b
  ·subst h
   by_cases h2:as=bs
   ·subst h2; simp
   ·simp [h2]
  ·simp [h]
theorem eqv_dI (a b:List Int):PyData.eqv (dI a) (dI b)=decide (a=b):=by
 unfold dI
 simp only [PyData.eqv]
 exact eqv_ints a b
def tupAt (e:Expr) (i:Nat):Expr:=match e with
 | .Tuple es _ _=>es.getD i (.Constant .none 0 ⟨0,0,0,0⟩)
 | _=>.Constant .none 0 ⟨0,0,0,0⟩
theorem at_ref {rs:List Addr} {j:Nat} {r:Addr} (h:rs[j]? = some r):atI (rs.map V.ref) (j:Int)=some (.ref r):=atI_nat (by rw [List.getElem?_map,h]; rfl)
theorem getD_some {α:Type} {xs:List α} {j:Nat} {x d:α} (h:xs[j]? = some x):xs.getD j d=x:=by rw [List.getD_eq_getElem?_getD,h]; rfl
theorem rows_some {H:Hp} {rs:List Addr} {M:List (List Int)} (R:RowsAt H rs M) {r:Addr} (h:r ∈ rs):∃ o,H r=some o:=by
 obtain ⟨j,hj,e⟩:=List.getElem_of_mem h
 obtain ⟨r',x',h1,h2,h3⟩:=R.get hj
 have:rs[j]? = some r:=by rw [List.getElem?_eq_getElem hj,e]
 rw [h1] at this
 cases this
 exact ⟨_,h3⟩
theorem rows_out {H:Hp} {rs:List Addr} {M:List (List Int)} (R:RowsAt H rs M) {a:Addr} (h:H a=none):a ∉ rs:=fun hm=>by
 obtain ⟨o,e⟩:=rows_some R hm
 rw [h] at e
 cases e
theorem Same.sq {H H':Hp} {a:Addr} {xs:List V} (e:Same H H') (h:SqL K H a xs):SqL K H' a xs:=(Same.keep (ok:=any) e).seq trivial h
theorem lc_rows {a:Addr} {xs:List V} {te:TE} {Q:Hp→Prop} {σ:L2.St} {H1:Hp} {D:Addr} (M:List (List Int)) (hlen:M.length=xs.length) (hm:xs.length≤900) (hD:H1 D=none) (hxs:SqL K H1 a xs)
  (hs:∀ (i:Nat) (x:V) (row:List Int) (H':Hp),xs[i]? = some x→M[i]? = some row→Same H1 H'→te (σ++[some x]) H' fun v H3=>∃ r,v=.ref r∧Same H' H3∧H' r=none∧H3 r=some (.lst (row.map V.int)))
  (hd:∀ rs H',Same H1 H'→H' D=some (.lst (rs.map V.ref))→RowsAt H' rs M→(∀ r ∈ rs,H1 r=none∧r≠D)→Q H')
  (mono:∀ σ H Q Q',(∀ v H1,Q v H1→Q' v H1)→te σ H Q→te σ H Q') :
  ∃ W:Nat→Nat→List V→Hp→Prop,(∃ m,W 0 m [] (upd H1 D (.lst []))) ∧
   ∀ i m ys H',W i m ys H'→H' D=some (.lst ys)∧(((Itl K a).stop i H'∧Q H') ∨ ((Itl K a).go i H'∧∀ z H2,(Itl K a).yld i H' z H2→te (σ++[some z]) H2 fun v H3=>H3 D=some (.lst ys)∧ys.length < sizeLine∧∃ m',m' < m∧W (i+1) m' (ys++[v]) (upd H3 D (.lst (ys++[v]))))):=by
 refine lc_list (xs:=xs) (fun i ys H'=>∃ rs':List Addr,ys=rs'.map V.ref∧rs'.length=i∧Same H1 H'∧H' D=some (.lst ys)∧RowsAt H' rs' (M.take i)∧∀ r ∈ rs',H1 r=none∧r≠D) ⟨[],rfl,rfl,Same.upd hD,upd_same,⟨rfl,(fun i r x h _=>by cases h),List.nodup_nil⟩,(fun r hr=>by cases hr)⟩ (fun i ys H' _ ⟨_,_,_,sm,eD,_⟩=>⟨Same.sq sm hxs,eD⟩) ?_ ?_ mono
 ·rintro i x ys H4 hx ⟨rs',rfl,l4,s4,eD,R4,o4⟩
  have hi:i < M.length:=by rw [hlen]; exact (List.getElem?_eq_some_iff.mp hx).1
  have hrow:M[i]? = some M[i]:=List.getElem?_eq_getElem hi
  refine mono _ _ _ _ ?_ (hs i x M[i] H4 hx hrow s4)
  rintro v H5 ⟨r,rfl,s5,hr,er⟩
  have nDr:r≠D:=(ne_of_none eD hr).symm
  have nR:=rows_out R4 hr
  have R5:RowsAt H5 (rs'++[r]) (M.take i++[M[i]]):=R4.snoc (fun r' _ o' z=>s5 r' o' z) er nR
  refine ⟨s5 _ _ eD,small1000 (by rw [List.length_map]; omega),rs'++[r],by rw [List.map_append]; rfl,by rw [List.length_append,l4]; rfl,fun b u e=>?_,upd_same,?_,?_⟩
  ·have:b≠D:=fun z=>by subst z; rw [hD] at e; cases e
   rw [upd_ne this]
   exact s5 _ _ (s4 _ _ e)
  ·rw [take_snoc hrow]
   refine R5.keep fun r' hr' o' e=>?_
   have:r'≠D:=by
    rcases List.mem_append.mp hr' with z | z
    ·exact (o4 r' z).2
    ·rw [List.mem_singleton.mp z]; exact nDr
   rw [upd_ne this]
   exact e
  ·intro r' hr'
   rcases List.mem_append.mp hr' with z | z
   ·exact o4 r' z
   ·rw [List.mem_singleton.mp z]
    exact ⟨s4.free hr,nDr⟩
 ·rintro ys H4 ⟨rs',rfl,l4,s4,eD,R4,o4⟩
  rw [←hlen,List.take_length] at R4
  exact hd rs' H4 s4 eD R4 o4
theorem map_get {α β:Type} {f:α→β} {xs:List α} {i:Nat} {y:β} (h:(xs.map f)[i]? = some y):∃ x,xs[i]? = some x∧y=f x:=by
 rw [List.getElem?_map] at h
 obtain ⟨x,h1,h2⟩:=Option.map_eq_some_iff.mp h
 exact ⟨x,h1,h2.symm⟩
theorem pi_listK {X:Cx} {tg l:Expr} {tl:TE} (hl:PE X l tl) (h:X.K=K:=by rfl):PI X tg l (iList K tl):=by subst h; exact pi_list hl
theorem lay_rows:∀ M:List (List Int),PyData.canLayAll0 (M.map dI)=true∧PyData.depthAll (M.map dI)≤1
 | []=>⟨rfl,Nat.zero_le _⟩
 | x :: M=>by
  obtain ⟨h1,h2⟩:=lay_rows M
  obtain ⟨a1,a2⟩:=lay_dI x
  rw [List.map_cons]
  simp only [PyData.canLayAll0,PyData.depthAll,h1,a1,Bool.and_self,true_and]
  omega
theorem das_rows {H:Hp}:∀ {rs:List Addr} {M:List (List Int)},rs.length=M.length→(∀ (i:Nat) (r:Addr) (x:List Int),rs[i]? = some r→M[i]? = some x→H r=some (.lst (x.map V.int)))→DAs K any H (rs.map V.ref) (M.map dI)
 | [],[],_,_=>.nil
 | r :: rs,x :: M,l,h=>.cons (daI trivial (SqL.of (h 0 r x rfl rfl))) (das_rows (by simpa using l) fun i r' x' h1 h2=>h (i+1) r' x' h1 h2)
end
section
def rI (k:Nat):List Int:=(List.range k).map fun (i:Nat)=>(i:Int)
theorem rI_len (k:Nat):(rI k).length=k:=by unfold rI; rw [List.length_map,List.length_range]
theorem rI_mem {k:Nat} {o:Int}:o ∈ rI k↔0≤o∧o < (k:Int):=by
 unfold rI
 constructor
 ·intro h
  obtain ⟨i,hi,rfl⟩:=List.mem_map.mp h
  have:=List.mem_range.mp hi
  omega
 ·intro h
  exact List.mem_map.mpr ⟨o.toNat,List.mem_range.mpr (by omega),by omega⟩
theorem rI_nd (k:Nat):(rI k).Nodup:=by
 unfold rI
 refine List.Pairwise.map _ (fun a b h=>?_) List.nodup_range
 omega
def renH (hs:List Int) (os:List Int):List Int:=os.map fun o=>hs.getD o.toNat 0
def renM (M:List (List Int)) (os:List Int):List (List Int):=os.map fun u=>renH (M.getD u.toNat []) os
def Pt (n:Nat) (b:List Int):Prop:=∃ r,(b++r).Perm (rI n)
theorem Pt.nil (n:Nat):Pt n []:=⟨rI n,List.Perm.refl _⟩
theorem Pt.len {n:Nat} {b:List Int} (h:Pt n b):b.length≤n:=by
 obtain ⟨r,p⟩:=h
 have:=p.length_eq
 rw [List.length_append,rI_len] at this
 omega
theorem Pt.mem {n:Nat} {b:List Int} (h:Pt n b) {x:Int} (hx:x ∈ b):0≤x∧x < (n:Int):=by
 obtain ⟨r,p⟩:=h
 exact rI_mem.mp (p.mem_iff.mp (List.mem_append_left _ hx))
theorem Pt.snoc {n:Nat} {b:List Int} (h:Pt n b) {x:Int} (hx:x ∈ rI n) (hn:x ∉ b):Pt n (b++[x]):=by
 obtain ⟨r,p⟩:=h
 have hr:x ∈ r:=(List.mem_append.mp (p.mem_iff.mpr hx)).resolve_left hn
 refine ⟨r.erase x,?_⟩
 rw [List.append_assoc]
 exact ((List.Perm.append_left b (List.perm_cons_erase hr)).symm).trans p
theorem Pt.full {n:Nat} {b:List Int} (h:Pt n b) (hl:b.length=n):b.Perm (rI n):=by
 obtain ⟨r,p⟩:=h
 have e:=p.length_eq
 rw [List.length_append,rI_len] at e
 have:r=[]:=List.length_eq_zero_iff.mp (by omega)
 subst this
 rw [List.append_nil] at p
 exact p
theorem Pt.few {n:Nat} {b:List Int} (h:Pt n b) (f:Int→Bool):((rI n).filter fun x=>decide (x ∉ b) && f x).length≤n - b.length:=by
 obtain ⟨r,p⟩:=h
 have e:=p.length_eq
 rw [List.length_append,rI_len] at e
 rw [←(p.filter _).length_eq,List.filter_append,List.length_append]
 have h0:(b.filter fun x=>decide (x ∉ b) && f x)=[]:=by
  rw [List.filter_eq_nil_iff]
  intro a ha z
  simp [ha] at z
 rw [h0]
 have:=List.length_filter_le (fun x=>decide (x ∉ b) && f x) r
 simp only [List.length_nil]
 omega
def cnt:Nat→Nat
 | 0=>1
 | m+1=>1+(m+1) * cnt m
theorem cnt_pos:∀ m,1≤cnt m
 | 0=>Nat.le_refl _
 | m+1=>by unfold cnt; omega
theorem cnt8 {n:Nat} (h:n≤8):cnt n≤110000:=by
 have:∀ n,n < 9→cnt n≤110000:=by decide
 exact this n (by omega)
section
variable (hs hs':List Int) (M M':List (List Int)) (n:Nat)
def fitAt (b:List Int) (x:Int):Bool:=decide (hs'.getD x.toNat 0=hs.getD b.length 0) && decide (renH (M'.getD x.toNat []) (b++[x])=(M.getD b.length []).take (b.length+1))
def led (b:List Int):List (List Int):=((rI n).filter fun x=>decide (x ∉ b) && fitAt hs hs' M M' b x).map fun x=>b++[x]
def sols:Nat→List Int→List (List Int)
 | 0,b=>[b]
 | m+1,b=>(led hs hs' M M' n b).flatMap (sols m)
def goodB (o:List Int):Bool:=(List.range o.length).all fun k=>fitAt hs hs' M M' (o.take k) (o.getD k 0)
theorem goodB_snoc (b:List Int) (x:Int):goodB hs hs' M M' (b++[x])=(goodB hs hs' M M' b && fitAt hs hs' M M' b x):=by
 unfold goodB
 rw [List.length_append,List.length_singleton,List.range_succ,List.all_append]
 congr 1
 ·rw [Bool.eq_iff_iff,List.all_eq_true,List.all_eq_true]
  have e:∀ k ∈ List.range b.length,fitAt hs hs' M M' ((b++[x]).take k) ((b++[x]).getD k 0)=fitAt hs hs' M M' (b.take k) (b.getD k 0):=fun k hk=>by
   have hk:=List.mem_range.mp hk
   rw [List.take_append_of_le_length (Nat.le_of_lt hk),List.getD_eq_getElem?_getD,List.getD_eq_getElem?_getD,List.getElem?_append_left hk]
  exact ⟨fun h k hk=>by rw [←e k hk]; exact h k hk,fun h k hk=>by rw [e k hk]; exact h k hk⟩
 ·rw [List.all_cons,List.all_nil,Bool.and_true,List.take_left,List.getD_eq_getElem?_getD,List.getElem?_append_right (Nat.le_refl _),Nat.sub_self]
  rfl
def extE (o:List Int):List (List Int):=((rI n).filter fun x=>decide (x ∉ o)).map fun x=>o++[x]
def lev:Nat→List (List Int)
 | 0=>[[]]
 | k+1=>(lev k).flatMap (extE n)
def desc:Nat→List Int→List (List Int)
 | 0,b=>[b]
 | m+1,b=>(extE n b).flatMap (desc m)
theorem desc_snoc:∀ (m:Nat) (b:List Int),desc n (m+1) b=(desc n m b).flatMap (extE n)
 | 0,b=>by
  show (extE n b).flatMap (desc n 0)=[b].flatMap (extE n)
  rw [List.flatMap_singleton]
  show (extE n b).flatMap (fun c=>[c])=_
  rw [List.flatMap_singleton']
 | m+1,b=>by
  show (extE n b).flatMap (desc n (m+1))=((extE n b).flatMap (desc n m)).flatMap (extE n)
  rw [List.flatMap_assoc]
  congr 1
  funext c
  exact desc_snoc m c
theorem lev_desc:∀ k,lev n k=desc n k []
 | 0=>rfl
 | k+1=>by
  rw [desc_snoc,←lev_desc k]
  rfl
theorem desc_bad:∀ (m:Nat) (b:List Int),goodB hs hs' M M' b=false→∀ c ∈ desc n m b,goodB hs hs' M M' c=false
 | 0,b,h,c,hc=>by rw [List.mem_singleton.mp hc]; exact h
 | m+1,b,h,c,hc=>by
  obtain ⟨d,hd,hc⟩:=List.mem_flatMap.mp hc
  obtain ⟨x,_,rfl⟩:=List.mem_map.mp hd
  exact desc_bad m _ (by rw [goodB_snoc,h]; rfl) c hc
theorem sols_desc:∀ (m:Nat) (b:List Int),goodB hs hs' M M' b=true→sols hs hs' M M' n m b=(desc n m b).filter (goodB hs hs' M M')
 | 0,b,h=>by
  show [b]=[b].filter _
  rw [List.filter_cons_of_pos h,List.filter_nil]
 | m+1,b,h=>by
  show (led hs hs' M M' n b).flatMap (sols hs hs' M M' n m)=((extE n b).flatMap (desc n m)).filter _
  unfold led extE
  induction rI n with
  | nil=>rfl
  | cons x xs ih =>
   by_cases hx:x ∈ b
   ·rw [List.filter_cons_of_neg (by simp [hx]),List.filter_cons_of_neg (by simp [hx])]
    exact ih
   ·rw [List.filter_cons_of_pos (a:=x) (p:=fun x=>decide (x ∉ b)) (by simp [hx]),List.map_cons,List.flatMap_cons,List.filter_append,←ih]
    cases hf:fitAt hs hs' M M' b x with
    | true =>
     rw [List.filter_cons_of_pos (by simp [hx,hf]),List.map_cons,List.flatMap_cons,sols_desc m (b++[x]) (by rw [goodB_snoc,h,hf]; rfl)]
    | false =>
     rw [List.filter_cons_of_neg (by simp [hf])]
     have:(desc n m (b++[x])).filter (goodB hs hs' M M')=[]:=by
      rw [List.filter_eq_nil_iff]
      intro c hc z
      rw [desc_bad hs hs' M M' n m (b++[x]) (by rw [goodB_snoc,hf,Bool.and_false]) c hc] at z
      cases z
     rw [this,List.nil_append]
theorem goodB_nil:goodB hs hs' M M' []=true:=rfl
theorem sols_lev:sols hs hs' M M' n n []=(lev n n).filter (goodB hs hs' M M'):=by
 rw [lev_desc]
 exact sols_desc hs hs' M M' n n [] (goodB_nil hs hs' M M')
theorem lev_pt:∀ k,∀ o ∈ lev n k,Pt n o∧o.length=k
 | 0,o,h=>by rw [List.mem_singleton.mp h]; exact ⟨Pt.nil n,rfl⟩
 | k+1,o,h=>by
  obtain ⟨c,hc,h⟩:=List.mem_flatMap.mp h
  obtain ⟨x,hx,rfl⟩:=List.mem_map.mp h
  obtain ⟨hx,hn⟩:=List.mem_filter.mp hx
  obtain ⟨p,l⟩:=lev_pt k c hc
  exact ⟨p.snoc hx (of_decide_eq_true hn),by rw [List.length_append,l]; rfl⟩
theorem lev_mem {o:List Int} (hn:o.Nodup) (hm:∀ x ∈ o,x ∈ rI n):∀ k≤o.length,o.take k ∈ lev n k
 | 0,_=>by rw [List.take_zero]; exact List.mem_singleton.mpr rfl
 | k+1,hk=>by
  have ex:o[k]? = some o[k]:=List.getElem?_eq_getElem hk
  rw [take_snoc ex]
  refine List.mem_flatMap.mpr ⟨o.take k,lev_mem hn hm k (by omega),List.mem_map.mpr ⟨o[k],List.mem_filter.mpr ⟨hm _ (List.getElem_mem hk),decide_eq_true fun z=>?_⟩,rfl⟩⟩
  obtain ⟨i,hi,e⟩:=List.getElem_of_mem z
  rw [List.length_take] at hi
  rw [List.getElem_take] at e
  have:=(List.getElem_inj hn).mp e
  omega
def turnsB (o:List Int):Bool:=(List.range o.length).all fun u=>decide (hs.getD u 0=hs'.getD (o.getD u 0).toNat 0) && (List.range o.length).all fun v=>decide (ent M u v=ent M' (o.getD u 0).toNat (o.getD v 0).toNat)
theorem ent_getD (M:List (List Int)) (i j:Nat):(M.getD i []).getD j 0=ent M i j:=by
 unfold ent
 rw [List.getD_eq_getElem?_getD,List.getD_eq_getElem?_getD]
theorem fit_iff (S:Sq n M) {b:List Int} {x:Int} (hb:b.length < n):fitAt hs hs' M M' b x=true↔hs'.getD x.toNat 0=hs.getD b.length 0∧∀ j≤b.length,ent M' x.toNat ((b++[x]).getD j 0).toNat=ent M b.length j:=by
 unfold fitAt
 rw [Bool.and_eq_true,decide_eq_true_iff,decide_eq_true_iff]
 refine and_congr Iff.rfl ?_
 have hM:b.length < M.length:=by rw [S.len]; exact hb
 have hr:M[b.length]? = some M[b.length]:=List.getElem?_eq_getElem hM
 have lr:=(S.row _ _ hr).1
 have er:M.getD b.length []=M[b.length]:=getD_some hr
 have ll:(renH (M'.getD x.toNat []) (b++[x])).length=((M.getD b.length []).take (b.length+1)).length:=by
  unfold renH
  rw [List.length_map,List.length_append,List.length_take,er,lr,List.length_singleton]
  omega
 have e1:∀ j≤b.length,(renH (M'.getD x.toNat []) (b++[x]))[j]? = some (ent M' x.toNat ((b++[x]).getD j 0).toNat):=fun j hj=>by
  have:(b++[x])[j]? = some ((b++[x]).getD j 0):=by
   rw [List.getD_eq_getElem?_getD,List.getElem?_eq_getElem (by rw [List.length_append,List.length_singleton]; omega)]
   rfl
  unfold renH
  rw [List.getElem?_map,this,Option.map_some,ent_getD]
 have e2:∀ j≤b.length,((M.getD b.length []).take (b.length+1))[j]? = some (ent M b.length j):=fun j hj=>by
  rw [List.getElem?_take_of_lt (by omega),←ent_getD,List.getD_eq_getElem?_getD (l:=M.getD b.length []),List.getElem?_eq_getElem (by rw [er,lr]; omega)]
  rfl
 constructor
 ·intro h j hj
  have:=e1 j hj
  rw [h,e2 j hj] at this
  exact (Option.some.inj this).symm
 ·intro h
  refine List.ext_getElem? fun j=>?_
  by_cases hj:j≤b.length
  ·rw [e1 j hj,e2 j hj,h j hj]
  ·rw [List.getElem?_eq_none (by unfold renH; rw [List.length_map,List.length_append,List.length_singleton]; omega),List.getElem?_eq_none (by rw [List.length_take]; omega)]
theorem good_iff (S:Sq n M) {o:List Int} (hl:o.length=n):goodB hs hs' M M' o=true↔∀ k < n,hs'.getD (o.getD k 0).toNat 0=hs.getD k 0∧∀ j≤k,ent M' (o.getD k 0).toNat (o.getD j 0).toNat=ent M k j:=by
 unfold goodB
 rw [List.all_eq_true]
 have key:∀ k < n,fitAt hs hs' M M' (o.take k) (o.getD k 0)=true↔hs'.getD (o.getD k 0).toNat 0=hs.getD k 0∧∀ j≤k,ent M' (o.getD k 0).toNat (o.getD j 0).toNat=ent M k j:=fun k hk=>by
  have lk:(o.take k).length=k:=by rw [List.length_take]; omega
  rw [fit_iff hs hs' M M' n S (by rw [lk]; exact hk),lk]
  refine and_congr Iff.rfl (forall_congr' fun j=>forall_congr' fun hj=>?_)
  have ex:o[k]? = some (o.getD k 0):=by
   rw [List.getD_eq_getElem?_getD,List.getElem?_eq_getElem (by omega)]
   rfl
  have:(o.take k++[o.getD k 0]).getD j 0=o.getD j 0:=by
   rw [←take_snoc ex,List.getD_eq_getElem?_getD,List.getElem?_take_of_lt (by omega),←List.getD_eq_getElem?_getD]
  rw [this]
 exact ⟨fun h k hk=>(key k hk).mp (h k (List.mem_range.mpr (by omega))),fun h k hk=>(key k (by have:=List.mem_range.mp hk; omega)).mpr (h k (by have:=List.mem_range.mp hk; omega))⟩
theorem turns_iff {o:List Int} (hl:o.length=n):turnsB hs hs' M M' o=true↔∀ u < n,hs.getD u 0=hs'.getD (o.getD u 0).toNat 0∧∀ v < n,ent M u v=ent M' (o.getD u 0).toNat (o.getD v 0).toNat:=by
 unfold turnsB
 rw [hl]
 simp only [List.all_eq_true,Bool.and_eq_true,decide_eq_true_iff,List.mem_range]
theorem good_turns (S:Sq n M) (S':Sq n M') {o:List Int} (hl:o.length=n) (hm:∀ x ∈ o,0≤x∧x < (n:Int)):goodB hs hs' M M' o=turnsB hs hs' M M' o:=by
 rw [Bool.eq_iff_iff,good_iff hs hs' M M' n S hl,turns_iff hs hs' M M' n hl]
 have lt:∀ u < n,(o.getD u 0).toNat < n:=fun u hu=>by
  have:o.getD u 0 ∈ o:=by
   rw [List.getD_eq_getElem?_getD,List.getElem?_eq_getElem (by omega)]
   exact List.getElem_mem _
  have:=hm _ this
  omega
 constructor
 ·intro h u hu
  refine ⟨(h u hu).1.symm,fun v hv=>?_⟩
  by_cases q:v≤u
  ·exact ((h u hu).2 v q).symm
  ·rw [S.sym u v hu hv,S'.sym _ _ (lt u hu) (lt v hv)]
   exact ((h v hv).2 u (by omega)).symm
 ·intro h k hk
  exact ⟨(h k hk).1.symm,fun j hj=>((h k hk).2 j (by omega)).symm⟩
def dueT:List (List Int):=(lev n n).filter (turnsB hs hs' M M')
theorem sols_due (S:Sq n M) (S':Sq n M'):sols hs hs' M M' n n []=dueT hs hs' M M' n:=by
 rw [sols_lev]
 refine List.filter_congr fun o ho=>?_
 obtain ⟨p,l⟩:=lev_pt n n o ho
 exact good_turns hs hs' M M' n S S' l fun x hx=>p.mem hx
end
end
section
section
variable (hs hs':List Int) (M M':List (List Int)) (n:Nat)
def stk (ws:List (List Int)):List (List Int):=ws.reverse.flatMap fun b=>sols hs hs' M M' n (n - b.length) b
def msr (ws:List (List Int)):Nat:=(ws.map fun b=>cnt (n - b.length)).sum
theorem stk_pop (ws:List (List Int)) (b:List Int):stk hs hs' M M' n (ws++[b])=sols hs hs' M M' n (n - b.length) b++stk hs hs' M M' n ws:=by
 unfold stk
 rw [List.reverse_append,List.flatMap_append,List.reverse_singleton,List.flatMap_singleton]
theorem stk_full (ws:List (List Int)) {b:List Int} (h:b.length=n):stk hs hs' M M' n (ws++[b])=b :: stk hs hs' M M' n ws:=by
 rw [stk_pop,h,Nat.sub_self]
 rfl
theorem led_len {b c:List Int} (h:c ∈ led hs hs' M M' n b):c.length=b.length+1:=by
 obtain ⟨x,_,rfl⟩:=List.mem_map.mp h
 rw [List.length_append]
 rfl
theorem led_pt {b c:List Int} (p:Pt n b) (h:c ∈ led hs hs' M M' n b):Pt n c:=by
 obtain ⟨x,hx,rfl⟩:=List.mem_map.mp h
 obtain ⟨hx,hn⟩:=List.mem_filter.mp hx
 rw [Bool.and_eq_true,decide_eq_true_iff] at hn
 exact p.snoc hx hn.1
theorem stk_led (ws:List (List Int)) {b:List Int} (h:b.length < n):stk hs hs' M M' n (ws++(led hs hs' M M' n b).reverse)=stk hs hs' M M' n (ws++[b]):=by
 rw [stk_pop]
 unfold stk
 rw [List.reverse_append,List.flatMap_append,List.reverse_reverse]
 congr 1
 obtain ⟨m,hm⟩:∃ m,n - b.length=m+1:=⟨n - b.length - 1,by omega⟩
 rw [hm]
 show _=(led hs hs' M M' n b).flatMap (sols hs hs' M M' n m)
 rw [List.flatMap_def,List.flatMap_def]
 congr 1
 refine List.map_congr_left fun c hc=>?_
 rw [led_len hs hs' M M' n hc,show n - (b.length+1)=m by omega]
theorem msr_pop (ws:List (List Int)) (b:List Int):msr n (ws++[b])=msr n ws+cnt (n - b.length):=by
 unfold msr
 rw [List.map_append,List.sum_append]
 simp
theorem msr_led {ws:List (List Int)} {b:List Int} (p:Pt n b) (h:b.length < n):msr n (ws++(led hs hs' M M' n b).reverse) < msr n (ws++[b]):=by
 rw [msr_pop]
 unfold msr
 rw [List.map_append,List.sum_append]
 refine Nat.add_lt_add_left ?_ _
 obtain ⟨m,hm⟩:∃ m,n - b.length=m+1:=⟨n - b.length - 1,by omega⟩
 have e:((led hs hs' M M' n b).reverse.map fun c=>cnt (n - c.length))=List.replicate (led hs hs' M M' n b).length (cnt m):=by
  rw [List.eq_replicate_iff]
  refine ⟨by rw [List.length_map,List.length_reverse],fun x hx=>?_⟩
  obtain ⟨c,hc,rfl⟩:=List.mem_map.mp hx
  rw [led_len hs hs' M M' n (List.mem_reverse.mp hc),show n - (b.length+1)=m by omega]
 rw [e,List.sum_replicate_nat,hm]
 have hl:(led hs hs' M M' n b).length≤m+1:=by
  unfold led
  rw [List.length_map,←hm]
  exact p.few _
 have:=Nat.mul_le_mul_right (cnt m) hl
 show _ < 1+(m+1) * cnt m
 omega
theorem len_msr (ws:List (List Int)):ws.length≤msr n ws:=by
 unfold msr
 induction ws with
 | nil=>exact Nat.le_refl _
 | cons b ws ih =>
  rw [List.map_cons,List.sum_cons,List.length_cons]
  have:=cnt_pos (n - b.length)
  omega
end
theorem sum_le {xs:List (List Int)} {f:List Int→Nat} {c:Nat} (h:∀ x ∈ xs,f x≤c):(xs.map f).sum≤xs.length * c:=by
 induction xs with
 | nil=>simp
 | cons x xs ih =>
  rw [List.map_cons,List.sum_cons,List.length_cons,Nat.succ_mul]
  have:=h x (List.mem_cons_self ..)
  have:=ih fun y hy=>h y (List.mem_cons_of_mem _ hy)
  omega
theorem sols_len (hs hs':List Int) (M M':List (List Int)) (n:Nat):∀ (m:Nat) (b:List Int),Pt n b→b.length+m=n→(sols hs hs' M M' n m b).length≤cnt m
 | 0,b,_,_=>Nat.le_refl _
 | m+1,b,p,h=>by
  show ((led hs hs' M M' n b).flatMap (sols hs hs' M M' n m)).length≤1+(m+1) * cnt m
  rw [List.length_flatMap]
  have h1:=sum_le (xs:=led hs hs' M M' n b) (f:=fun c=>(sols hs hs' M M' n m c).length) (c:=cnt m) fun c hc=>sols_len hs hs' M M' n m c (led_pt hs hs' M M' n p hc) (by rw [led_len hs hs' M M' n hc]; omega)
  have hl:(led hs hs' M M' n b).length≤m+1:=by
   unfold led
   rw [List.length_map]
   have:=p.few (fun x=>fitAt hs hs' M M' b x)
   omega
  have:=Nat.mul_le_mul_right (cnt m) hl
  omega
end
section
variable {P:Program} {w:World} {K:PySem.W.Frag} {mg:Str→Option Value} {base:Heap}
structure BltT (mg:Str→Option Value):Prop where
 range:mg "range" = none
 list:mg "list" = none
 len:mg "len" = none
 int:mg "int" = none
 bool:mg "bool" = none
 sorted:mg "sorted" = none
 isi:mg "isinstance" = none
 enum:mg "enumerate" = none
theorem rI_map (k:Nat):((List.range k).map fun (i:Nat)=>V.int (i:Int))=(rI k).map V.int:=by unfold rI; rw [List.map_map]; rfl
theorem at_int {xs:List Int} {o:Int} (h0:0≤o) (h1:o < (xs.length:Int)):atI (xs.map V.int) o=some (.int (xs.getD o.toNat 0)):=by
 obtain ⟨j,rfl⟩:=Int.eq_ofNat_of_zero_le h0
 have hj:j < xs.length:=by omega
 refine atI_nat ?_
 rw [List.getElem?_map,List.getElem?_eq_getElem hj]
 show some (V.int xs[j])=some (V.int (xs.getD (Int.toNat (j:Int)) 0))
 rw [Int.toNat_natCast,List.getD_eq_getElem?_getD,List.getElem?_eq_getElem hj]
 rfl
theorem at_intN {xs:List Int} {j:Nat} (h:j < xs.length):atI (xs.map V.int) (j:Int)=some (.int (xs.getD j 0)):=at_int (o:=(j:Int)) (by omega) (by omega)
theorem inV_int (x:Int) (b:List Int):inV (.int x) (b.map V.int)=decide (x ∈ b):=by
 unfold inV
 rw [Bool.eq_iff_iff,List.any_eq_true,decide_eq_true_iff]
 constructor
 ·rintro ⟨v,hv,e⟩
  obtain ⟨y,hy,rfl⟩:=List.mem_map.mp hv
  have:y=x:=by simpa [eqV] using e
  exact this ▸ hy
 ·intro h
  exact ⟨.int x,List.mem_map.mpr ⟨x,h,rfl⟩,by simp [eqV]⟩
theorem flat_ints (b:List Int):(b.map V.int).all flatV=true:=by
 rw [List.all_eq_true]
 intro v hv
 obtain ⟨y,_,rfl⟩:=List.mem_map.mp hv
 rfl
theorem cut_head {α:Type} (f:α→V) (ns:List α) (k:Nat):cutV (ns.map f) none (some (k:Int))=(ns.take k).map f:=by
 unfold cutV
 rw [HT.sIx_none,HT.sIx_nat,List.drop_zero,Nat.sub_zero,List.length_map,List.map_take]
 rcases Nat.le_total k ns.length with h | h
 ·rw [Nat.min_eq_left h]
 ·rw [Nat.min_eq_right h,List.take_of_length_le (by rw [List.length_map]; exact Nat.le_refl _),List.take_of_length_le (by rw [List.length_map]; exact h)]
def spPicked:Sp:=fun vs H Q _=>∃ (tA oA:Addr) (xs os:List Int),vs=[.ref tA,.ref oA]∧H tA=some (.lst (xs.map V.int))∧H oA=some (.lst (os.map V.int))∧(∀ o ∈ os,0≤o∧o < (xs.length:Int))∧os.length≤100 ∧
 ∀ p,H p=none→Q (.ref p) (upd H p (.lst ((renH xs os).map V.int)))
abbrev nPicked:List Str:=["things","order"]
theorem scPicked:FnScope nPicked ["things","order"] (defScope sPicked):=⟨rfl,rfl,rfl,by decide +kernel,rfl,by decide +kernel,by decide +kernel⟩
theorem lcPicked:LcScopes (defScope sPicked) nPicked (lcScope (asgVal (bodyAt sPicked 0))) ["place"]:=⟨by decide +kernel,rfl,by decide +kernel,by decide +kernel,by decide +kernel,by decide +kernel,by decide +kernel,by decide +kernel,by decide +kernel,by decide +kernel⟩
theorem ok_picked {f:Addr} {fd:FuncData} (F:Fun K "picked" "picked" sPicked f fd):FnOk P w K mg base CX0 1 f fd ["things","order"] spPicked:=by
 refine F.ok scPicked (fun vs H Q E h=>?_) (fun cdv A outer s H vs Q E hr h=>?_)
 ·obtain ⟨tA,oA,xs,os,rfl,_⟩:=h
  rfl
 ·obtain ⟨tA,oA,xs,os,rfl,ht,ho,hb,hl,q⟩:=h
  refine ⟨_,pss_one (ps_ret (pe_lc1 rfl lcPicked rfl (pi_list (pv 1)) (fun _ _ _=>pe_ix (ix_listK (K:=K)) (pv 0) (pv 2) (fun _ _=>rfl)))),?_⟩
  refine ⟨_,rfl,oA,rfl,⟨_,SqL.of ho⟩,fun D hD=>?_⟩
  have nt:tA≠D:=ne_of_none ht hD
  have no:oA≠D:=ne_of_none ho hD
  refine lc_list (xs:=os.map V.int) (fun i ys H'=>ys=(renH xs (os.take i)).map V.int∧H'=upd H D (.lst ys)) ⟨rfl,rfl⟩ (fun i ys H' _ ⟨_,e⟩=>?_) ?_ ?_ ?_
  ·subst e
   exact ⟨SqL.of (by rw [upd_ne no]; exact ho),upd_same⟩
  ·rintro i x ys H' hx ⟨rfl,rfl⟩
   obtain ⟨o,ho',rfl⟩:=map_get hx
   have hm:=hb o (List.mem_of_getElem? ho')
   refine ⟨_,rfl,_,rfl,tA,_,_,_,rfl,rfl,SqL.of (by rw [upd_ne nt]; exact ht),at_int hm.1 hm.2,upd_same,small1000 (by unfold renH; rw [List.length_map,List.length_map,List.length_take]; omega),?_,by rw [upd_upd]⟩
   rw [take_snoc ho']
   unfold renH
   rw [List.map_append,List.map_append]
   rfl
  ·rintro ys H' ⟨rfl,rfl⟩
   have:=q D hD
   rw [List.length_map,List.take_length]
   exact this
  ·rintro σ H' Q1 Q2 hq ⟨v,e,v',e',p,xs',i,z,e1,e2,e3,e4,e5⟩
   exact ⟨v,e,v',e',p,xs',i,z,e1,e2,e3,e4,hq _ _ e5⟩
def fitP (hs hs':List Int) (M M':List (List Int)) (b:List Int) (x:Int):Bool:=decide (x ∉ b) && fitAt hs hs' M M' b x
def ledTo (hs hs':List Int) (M M':List (List Int)) (n:Nat) (b:List Int) (i:Nat):List (List Int):=(((rI n).take i).filter (fitP hs hs' M M' b)).map fun x=>b++[x]
theorem rI_get {n i:Nat} (h:i < n):(rI n)[i]? = some (i:Int):=by
 unfold rI
 rw [List.getElem?_map,List.getElem?_range h]
 rfl
theorem ledTo_yes {hs hs':List Int} {M M':List (List Int)} {n:Nat} {b:List Int} {i:Nat} (h:i < n) (hp:fitP hs hs' M M' b (i:Int)=true):ledTo hs hs' M M' n b (i+1)=ledTo hs hs' M M' n b i++[b++[(i:Int)]]:=by
 unfold ledTo
 rw [take_snoc (rI_get h),List.filter_append,List.filter_cons_of_pos hp,List.filter_nil,List.map_append]
 rfl
theorem ledTo_no {hs hs':List Int} {M M':List (List Int)} {n:Nat} {b:List Int} {i:Nat} (h:i < n) (hp:fitP hs hs' M M' b (i:Int)=false):ledTo hs hs' M M' n b (i+1)=ledTo hs hs' M M' n b i:=by
 unfold ledTo
 rw [take_snoc (rI_get h),List.filter_append,List.filter_cons_of_neg (by rw [hp]; exact Bool.false_ne_true),List.filter_nil,List.append_nil]
theorem ledTo_all (hs hs':List Int) (M M':List (List Int)) (n:Nat) (b:List Int):ledTo hs hs' M M' n b n=led hs hs' M M' n b:=by
 unfold ledTo led
 rw [List.take_of_length_le (by rw [rI_len]; exact Nat.le_refl _)]
 rfl
theorem ledTo_len (hs hs':List Int) (M M':List (List Int)) (n:Nat) (b:List Int) (i:Nat):(ledTo hs hs' M M' n b i).length≤n:=by
 unfold ledTo
 rw [List.length_map]
 refine Nat.le_trans (List.length_filter_le _ _) ?_
 rw [List.length_take,rI_len]
 omega
def spLed:Sp:=fun vs H Q _=>∃ (wA oA bA:Addr) (n:Nat) (hs hs' b:List Int) (M M':List (List Int)),vs=[.ref wA,.ref oA,.ref bA]∧WR H wA hs M∧WR H oA hs' M'∧hs.length=n∧hs'.length=n∧Sq n M∧Sq n M'∧n≤8∧H bA=some (.lst (b.map V.int))∧Pt n b∧b.length < n ∧
 ∀ (lA:Addr) (as:List Addr) (H':Hp),Same H H'→H lA=none→H' lA=some (.lst (as.map V.ref))→RowsAt H' as (led hs hs' M M' n b)→(∀ a ∈ as,H a=none∧a≠lA)→Q (.ref lA) H'
abbrev nLed:List Str:=["web","other","begun","place","weights","longer","place_there","hue_there","turning"]
theorem scLed:FnScope nLed ["web","other","begun"] (defScope sLed):=⟨rfl,rfl,rfl,by decide +kernel,rfl,by decide +kernel,by decide +kernel⟩
theorem _root_.L2.Same.over {H H':Hp} {a:Addr} {o:HO} (s:Same H H') (h:H a=none):Same H (L2.upd H' a o):=fun b u e=>by
 rw [upd_ne (ne_of_none e h)]
 exact s b u e
theorem ok_led {f fP:Addr} {fd fdP:FuncData} (B:BltT mg) (F:Fun K "led_on" "led_on" sLed f fd) (DP:Dn K mg "picked" sPicked ["things","order"] fP fdP) (GP:FnOk P w K mg base CX0 1 fP fdP ["things","order"] spPicked) :
  FnOk P w K mg base CX0 2 f fd ["web","other","begun"] spLed:=by
 refine F.ok scLed (fun vs H Q E h=>?_) (fun cdv A outer s H vs Q E hr h=>?_)
 ·obtain ⟨wA,oA,bA,n,hs,hs',b,M,M',rfl,_⟩:=h
  rfl
 ·obtain ⟨wA,oA,bA,n,hs,hs',b,M,M',rfl,W,W',hl,hl',S,S',hn,hb,pt,hlt,q⟩:=h
  obtain ⟨hA,rA,rs,w1,w2,w3,R⟩:=W.ex
  obtain ⟨hA',rA',rs',w1',w2',w3',R'⟩:=W'.ex
  refine ⟨_,pss_cons (ps_set (i:=3) scLed.nd rfl (Or.inl rfl) (pe_callB call_len_seq (by rfl) B.len PySem.boot_len (pa_cons (pv 2) pa_nil)))
   (pss_cons (ps_set (i:=4) scLed.nd rfl (Or.inl rfl) (pe_slice sl_list (pe_ix ix_list (pe_ix ix_tup (pv 0) pe_int (fun _ _=>rfl)) (pv 3) (fun _ _=>rfl)) po_none (po_some (pe_op op_add (pv 3) pe_int))))
   (pss_cons (ps_set (i:=5) scLed.nd rfl (Or.inl rfl) (pe_lst pa_nil))
   (pss_cons (ps_for PassesOwn.never rfl (pi_enum rfl B.enum (pa_cons (pe_ix ix_tup (pv 1) pe_int (fun _ _=>rfl)) pa_nil)) (pg_tup rfl (pgs_cons (pg_name (i:=6) scLed.nd rfl (Or.inl rfl)) (pgs_cons (pg_name (i:=7) scLed.nd rfl (Or.inl rfl)) pgs_nil)))
    (pss_one (ps_if (PW.pt (pw_and (pt_cmpR op_eq (pv 7) (pe_ix ix_list (pe_ix ix_tup (pv 0) pe_int (fun _ _=>rfl)) (pv 3) (fun _ _=>rfl)) (nomark _)) (pw_and1 (pt_cmpR op_notIn_seq (pv 6) (pv 2) rfl))))
     (pss_cons (ps_set (i:=8) scLed.nd rfl (Or.inl rfl) (pe_op op_cat (pv 2) (pe_lst (pa_cons (pv 6) pa_nil))))
     (pss_one (ps_if (pt_cmpR (op_eqD hr.units) (pe_fn DP GP (hr.mono (by decide)) rfl (pa_cons (pe_ix ix_list (pe_ix ix_tup (pv 1) pe_int (fun _ _=>rfl)) (pv 6) (fun _ _=>rfl)) (pa_cons (pv 8) pa_nil))) (pv 4) (nomark _))
      (pss_one (ps_expr (pe_bm PySem.F.plainAttrs_list PySem.F.slot_list_append PySem.F.type_list_append mt_append (pv 5) (pa_cons (pv 8) pa_nil)))) pss_nil)))
     pss_nil)))
   (pss_one (ps_ret (pv 5)))))),?_⟩
  refine ⟨_,rfl,bA,_,rfl,.inl (SqL.of hb),?_⟩
  rw [List.length_map]
  obtain ⟨ru,xu,g1,g2,g3⟩:=R.get (i:=b.length) (by rw [R.len,S.len]; exact hlt)
  have lxu:=(S.row _ xu g2).1
  refine ⟨_,rfl,wA,_,_,_,rfl,rfl,SqT.of w1,rfl,_,rfl,rA,_,_,_,rfl,rfl,SqL.of w3,at_ref g1,_,rfl,_,_,rfl,rfl,_,rfl,ru,_,rfl,SqL.of g3,fun gA hgA=>?_⟩
  have eg:upd H gA (.lst (cutV (xu.map V.int) none (some ((b.length:Int)+1)))) gA=some (.lst ((xu.take (b.length+1)).map V.int)):=by
   rw [upd_same]
   have:=cut_head V.int xu (b.length+1)
   rw [←this]
   rfl
  have s1:Same H (upd H gA (.lst (cutV (xu.map V.int) none (some ((b.length:Int)+1))))):=Same.upd hgA
  generalize upd H gA (.lst (cutV (xu.map V.int) none (some ((b.length:Int)+1))))=H1 at eg s1 ⊢
  refine ⟨Nat.zero_le _,fun lA hlA=>?_⟩
  have hlA0:H lA=none:=s1.free hlA
  have ngl:gA≠lA:=ne_of_none eg hlA
  have hgA0:H gA=none:=hgA
  refine ⟨_,rfl,oA,_,_,_,rfl,rfl,SqT.of ((s1.trans (Same.upd hlA)) _ _ w1'),rfl,hA',rfl,⟨_,SqL.of ((s1.trans (Same.upd hlA)) _ _ w2')⟩,for_enum (K:=K) (xs:=hs'.map V.int) (fun i σ H'=>∃ (o6 o7 o8:Option V) (as:List Addr),
   σ=[some (.ref wA),some (.ref oA),some (.ref bA),some (.int (b.length:Int)),some (.ref gA),some (.ref lA),o6,o7,o8]∧Same H H'∧H' gA=some (.lst ((xu.take (b.length+1)).map V.int))∧H' lA=some (.lst (as.map V.ref))∧RowsAt H' as (ledTo hs hs' M M' n b i)∧∀ a ∈ as,H a=none∧a≠lA) ?_ ?_ ?_ ?_⟩
  ·exact ⟨none,none,none,[],rfl,s1.trans (Same.upd hlA),by rw [upd_ne ngl]; exact eg,upd_same,⟨rfl,(fun i r x h _=>by cases h),List.nodup_nil⟩,fun a ha=>by cases ha⟩
  ·rintro i σ H' _ ⟨o6,o7,o8,as,rfl,s2,_⟩
   exact SqL.of (s2 _ _ w2')
  ·rintro i x t σ H2 hx ⟨o6,o7,o8,as,rfl,s2,e2,l2,R2,f2⟩ ht
   obtain ⟨h',eh',rfl⟩:=map_get hx
   have hi:i < n:=by rw [←hl']; exact (List.getElem?_eq_some_iff.mp eh').1
   refine ⟨t,_,rfl,SqT.of upd_same,rfl,_,_,rfl,_,_,rfl,rfl,?_⟩
   have t3:Same H2 (L2.upd H2 t (.tup [.int (i:Int),.int h'])):=Same.upd ht
   generalize L2.upd H2 t (.tup [.int (i:Int),.int h'])=H3 at t3 ⊢
   have s3:=s2.trans t3
   have e3:=t3 _ _ e2
   have l3:=t3 _ _ l2
   have R3:RowsAt H3 as (ledTo hs hs' M M' n b i):=R2.keep fun r _ o z=>t3 r o z
   have ah:atI (hs.map V.int) ((b.length:Nat):Int)=some (.int (hs.getD b.length 0)):=at_intN (by omega)
   have eh2:hs'.getD (i:Int).toNat 0=h':=by rw [Int.toNat_natCast]; exact getD_some eh'
   refine ⟨_,rfl,_,rfl,wA,_,_,_,rfl,rfl,SqT.of (s3 _ _ w1),rfl,_,rfl,hA,_,_,_,rfl,rfl,SqL.of (s3 _ _ w2),ah,rfl,_,rfl,?_⟩
   by_cases e:h'=hs.getD b.length 0
   ·refine itDP (by rw [e]) ?_
    refine ⟨_,rfl,_,rfl,bA,_,rfl,.inl (SqL.of (s3 _ _ hb)),rfl,flat_ints b,_,rfl,?_⟩
    show if (!inV (.int (i:Int)) (b.map V.int))=true then _ else _
    rw [inV_int]
    by_cases hm:(i:Int) ∈ b
    ·refine iteNS hm ?_
     refine ⟨_,_,_,as,rfl,s3,e3,l3,?_,f2⟩
     rw [ledTo_no hi (by unfold fitP; rw [decide_eq_false (fun z=>z hm)]; rfl)]
     exact R3
    ·refine iteNP hm ?_
     refine ⟨_,rfl,_,rfl,(by show 1≤sizeLine; decide),fun l1 hl1=>⟨bA,l1,_,_,rfl,rfl,Same.upd hl1 _ _ (s3 _ _ hb),upd_same,Nat.le_of_lt (small1000 (by rw [List.length_map]; show b.length+1≤1000; omega)),fun tA htA=>?_⟩⟩
     have t4:Same H3 (L2.upd (L2.upd H3 l1 (.lst [.int (i:Int)])) tA (.lst (b.map V.int++[.int (i:Int)]))):=(Same.upd hl1).trans (Same.upd htA)
     have et:L2.upd (L2.upd H3 l1 (.lst [.int (i:Int)])) tA (.lst (b.map V.int++[.int (i:Int)])) tA=some (.lst ((b++[(i:Int)]).map V.int)):=by rw [upd_same,List.map_append]; rfl
     have htA3:H3 tA=none:=(Same.upd hl1).free htA
     generalize L2.upd (L2.upd H3 l1 (.lst [.int (i:Int)])) tA (.lst (b.map V.int++[.int (i:Int)]))=H4 at t4 et ⊢
     have s4:=s3.trans t4
     obtain ⟨rv,xv,k1,k2,k3⟩:=R'.get (i:=i) (by rw [R'.len,S'.len]; exact hi)
     have lxv:=(S'.row _ xv k2).1
     have hmem:∀ o ∈ b++[(i:Int)],0≤o∧o < (xv.length:Int):=fun o ho=>by
      rw [lxv]
      rcases List.mem_append.mp ho with z | z
      ·exact pt.mem z
      ·rw [List.mem_singleton.mp z]; omega
     refine ⟨_,rfl,oA,_,_,_,rfl,rfl,SqT.of (s4 _ _ w1'),rfl,_,rfl,rA',_,_,_,rfl,rfl,SqL.of (s4 _ _ w3'),at_ref k1,_,rfl,rv,tA,xv,b++[(i:Int)],rfl,s4 _ _ k3,et,hmem,by rw [List.length_append,List.length_singleton]; omega,fun pA hpA=>?_⟩
     have t5:Same H4 (L2.upd H4 pA (.lst ((renH xv (b++[(i:Int)])).map V.int))):=Same.upd hpA
     have ep:L2.upd H4 pA (.lst ((renH xv (b++[(i:Int)])).map V.int)) pA=some (.lst ((renH xv (b++[(i:Int)])).map V.int)):=upd_same
     generalize L2.upd H4 pA (.lst ((renH xv (b++[(i:Int)])).map V.int))=H5 at t5 ep ⊢
     have t6:=t4.trans t5
     have s5:=s3.trans t6
     refine ⟨_,rfl,dI _,dI _,daI trivial (SqL.of ep),daI trivial (SqL.of (t6 _ _ e3)),⟨(lay_dI _).1,(lay_dI _).1,Nat.le_trans (lay_dI _).2 (by decide)⟩,_,rfl,?_⟩
     rw [eqv_dI]
     have ew:(M.getD b.length []).take (b.length+1)=xu.take (b.length+1):=by rw [getD_some g2]
     have ev:M'.getD (i:Int).toNat []=xv:=by rw [Int.toNat_natCast]; exact getD_some k2
     have R5:RowsAt H5 as (ledTo hs hs' M M' n b i):=R3.keep fun r _ o z=>t6 r o z
     by_cases eq:renH xv (b++[(i:Int)])=xu.take (b.length+1)
     ·refine itDP eq ?_
      have hp:fitP hs hs' M M' b (i:Int)=true:=by
       unfold fitP fitAt
       rw [decide_eq_true hm,eh2,decide_eq_true e,ev,ew,decide_eq_true eq]
       rfl
      have la:as.length≤n:=by rw [R5.len]; exact ledTo_len ..
      refine ⟨_,rfl,.inl ⟨rfl,_,SqL.of (t6 _ _ l3)⟩,_,rfl,lA,_,_,rfl,rfl,t6 _ _ l3,small1000 (by rw [List.length_map]; omega),?_⟩
      have ntl:tA≠lA:=(ne_of_none l3 htA3).symm
      have nta:tA ∉ as:=rows_out R3 htA3
      refine ⟨_,_,_,as++[tA],rfl,s5.over hlA0,by rw [upd_ne ngl]; exact t6 _ _ e3,by rw [List.map_append]; exact upd_same,?_,?_⟩
      ·rw [ledTo_yes hi hp]
       refine RowsAt.keep (RowsAt.snoc R5 (fun _ _ _ z=>z) (t5 _ _ et) nta) fun r hr o z=>?_
       rw [upd_ne]
       ·exact z
       ·rcases List.mem_append.mp hr with y | y
        ·exact (f2 r y).2
        ·rw [List.mem_singleton.mp y]; exact ntl
      ·intro a ha
       rcases List.mem_append.mp ha with y | y
       ·exact f2 a y
       ·rw [List.mem_singleton.mp y]
        exact ⟨s3.free htA3,ntl⟩
     ·refine itDN eq ?_
      refine ⟨_,_,_,as,rfl,s5,t6 _ _ e3,t6 _ _ l3,?_,f2⟩
      rw [ledTo_no hi (by unfold fitP fitAt; rw [ev,ew,decide_eq_false eq,Bool.and_false,Bool.and_false])]
      exact R5
   ·refine itDN (fun z=>e (V.int.inj z)) (iteF ?_)
    refine ⟨_,_,_,as,rfl,s3,e3,l3,?_,f2⟩
    rw [ledTo_no hi (by unfold fitP fitAt; rw [eh2,decide_eq_false e,Bool.false_and,Bool.and_false])]
    exact R3
  ·rintro σ H2 ⟨o6,o7,o8,as,rfl,s2,e2,l2,R2,f2⟩
   rw [List.length_map,hl',ledTo_all] at R2
   exact ⟨_,rfl,q lA as H2 s2 hlA0 l2 R2 f2⟩
def begT (hs hs':List Int):List (List Int):=if hs.length=hs'.length then [[]] else []
def spBegunT:Sp:=fun vs H Q _=>∃ (wA oA:Addr) (hs hs':List Int) (M M':List (List Int)),vs=[.ref wA,.ref oA]∧WR H wA hs M∧WR H oA hs' M' ∧
 ∀ (qA:Addr) (as:List Addr) (H':Hp),Same H H'→H qA=none→H' qA=some (.lst (as.map V.ref))→RowsAt H' as (begT hs hs')→(∀ a ∈ as,H a=none∧a≠qA)→Q (.ref qA) H'
theorem scBegunT:FnScope ["web","other"] ["web","other"] (defScope sBegunT):=⟨rfl,rfl,rfl,by decide +kernel,rfl,by decide +kernel,by decide +kernel⟩
theorem ok_begunT {f:Addr} {fd:FuncData} (B:BltT mg) (F:Fun K "begun_turnings" "begun_turnings" sBegunT f fd):FnOk P w K mg base CX0 1 f fd ["web","other"] spBegunT:=by
 refine F.ok scBegunT (fun vs H Q E h=>?_) (fun cdv A outer s H vs Q E hr h=>?_)
 ·obtain ⟨wA,oA,hs,hs',M,M',rfl,_⟩:=h
  rfl
 ·obtain ⟨wA,oA,hs,hs',M,M',rfl,W,W',q⟩:=h
  obtain ⟨hA,rA,rs,w1,w2,w3,R⟩:=W.ex
  obtain ⟨hA',rA',rs',w1',w2',w3',R'⟩:=W'.ex
  refine ⟨_,pss_one (ps_ret (pe_ifExp (pt_cmpR op_eq (pe_callB call_len_seq (by rfl) B.len PySem.boot_len (pa_cons (pe_ix ix_tup (pv 0) pe_int (fun _ _=>rfl)) pa_nil)) (pe_callB call_len_seq (by rfl) B.len PySem.boot_len (pa_cons (pe_ix ix_tup (pv 1) pe_int (fun _ _=>rfl)) pa_nil)) (nomark _))
   (pe_lst (pa_cons (pe_lst pa_nil) pa_nil)) (pe_lst pa_nil))),?_⟩
  refine ⟨_,rfl,wA,_,_,_,rfl,rfl,SqT.of w1,rfl,hA,_,rfl,.inl (SqL.of w2),_,rfl,oA,_,_,_,rfl,rfl,SqT.of w1',rfl,hA',_,rfl,.inl (SqL.of w2'),rfl,_,rfl,?_⟩
  rw [List.length_map,List.length_map]
  by_cases e:hs.length=hs'.length
  ·refine itDP (by rw [e]) ?_
   refine ⟨Nat.zero_le _,fun a ha=>⟨(by show 1≤sizeLine; decide),fun qA hqA=>?_⟩⟩
   have naq:a≠qA:=ne_of_none upd_same hqA
   refine q qA [a] _ ((Same.upd ha).trans (Same.upd hqA)) ((Same.upd ha).free hqA) upd_same ?_ ?_
   ·unfold begT
    rw [if_pos e]
    refine ⟨rfl,fun i r x h1 h2=>?_,by simp⟩
    match i,h1,h2 with
    | 0,h1,h2 =>
     cases h1
     cases h2
     rw [upd_ne naq,upd_same]
     rfl
   ·intro a' ha'
    rw [List.mem_singleton.mp ha']
    exact ⟨ha,naq⟩
  ·refine itDN (fun z=>e (by have:=V.int.inj z; omega)) ?_
   refine ⟨Nat.zero_le _,fun qA hqA=>?_⟩
   refine q qA [] _ (Same.upd hqA) hqA upd_same ?_ (fun a ha=>by cases ha)
   unfold begT
   rw [if_neg e]
   exact ⟨rfl,(fun i r x h _=>by cases h),List.nodup_nil⟩
end
section
variable {P:Program} {w:World} {K:PySem.W.Frag} {mg:Str→Option Value} {base:Heap}
theorem RowsAt.unsnoc {H:Hp} {as:List Addr} {a:Addr} {ws:List (List Int)} {b:List Int} (R:RowsAt H (as++[a]) (ws++[b])):RowsAt H as ws∧H a=some (.lst (b.map V.int))∧a ∉ as:=by
 have l:=R.len
 rw [List.length_append,List.length_append] at l
 have l:as.length=ws.length:=by simpa using l
 have nd:=List.nodup_append.mp R.nd
 refine ⟨⟨l,fun i r x h1 h2=>R.row i r x ?_ ?_,nd.1⟩,R.row as.length a b ?_ ?_,fun z=>nd.2.2 a z a (by simp) rfl⟩
 ·rw [List.getElem?_append_left (List.getElem?_eq_some_iff.mp h1).1]; exact h1
 ·rw [List.getElem?_append_left (List.getElem?_eq_some_iff.mp h2).1]; exact h2
 ·rw [List.getElem?_append_right (Nat.le_refl _),Nat.sub_self]; rfl
 ·rw [l,List.getElem?_append_right (Nat.le_refl _),Nat.sub_self]; rfl
theorem RowsAt.rev {H:Hp} {as:List Addr} {ws:List (List Int)} (R:RowsAt H as ws):RowsAt H as.reverse ws.reverse:=by
 refine ⟨by rw [List.length_reverse,List.length_reverse,R.len],fun i r x h1 h2=>?_,((List.reverse_perm _).symm.nodup R.nd)⟩
 have hi:=(List.getElem?_eq_some_iff.mp h1).1
 rw [List.length_reverse] at hi
 rw [List.getElem?_reverse hi] at h1
 rw [List.getElem?_reverse (by rw [←R.len]; exact hi),←R.len] at h2
 exact R.row _ r x h1 h2
theorem RowsAt.app {H:Hp} {as bs:List Addr} {ws vs:List (List Int)} (R:RowsAt H as ws) (R':RowsAt H bs vs) (d:∀ a ∈ as,a ∉ bs):RowsAt H (as++bs) (ws++vs):=by
 refine ⟨by rw [List.length_append,List.length_append,R.len,R'.len],fun i r x h1 h2=>?_,List.nodup_append.mpr ⟨R.nd,R'.nd,fun a ha b hb e=>d a ha (e ▸ hb)⟩⟩
 by_cases hi:i < as.length
 ·rw [List.getElem?_append_left hi] at h1
  rw [List.getElem?_append_left (by rw [←R.len]; exact hi)] at h2
  exact R.row i r x h1 h2
 ·rw [List.getElem?_append_right (by omega)] at h1
  rw [List.getElem?_append_right (by rw [←R.len]; omega),←R.len] at h2
  exact R'.row _ r x h1 h2
def spNext:Sp:=fun vs H Q _=>∃ (wA oA qA:Addr) (n:Nat) (hs hs':List Int) (M M':List (List Int)) (H0:Hp) (as:List Addr) (ws:List (List Int)),vs=[.ref wA,.ref oA,.ref qA]∧WR H0 wA hs M∧WR H0 oA hs' M'∧Same H0 H∧H0 qA=none ∧
 hs.length=n∧Sq n M∧(ws≠[]→hs'.length=n∧Sq n M')∧n≤8∧H qA=some (.lst (as.map V.ref))∧RowsAt H as ws∧qA ∉ as∧(∀ b ∈ ws,Pt n b)∧msr n ws≤110000 ∧
 ∀ (v:V) (H':Hp) (as':List Addr) (ws':List (List Int)),But qA H H'→H' qA=some (.lst (as'.map V.ref))→RowsAt H' as' ws'→qA ∉ as'→(∀ a ∈ as',a ∈ as ∨ H a=none)→(∀ b ∈ ws',Pt n b)→(ws'≠[]→ws≠[])→msr n ws'≤msr n ws →
  ((stk hs hs' M M' n ws=[]∧ws'=[]∧v=.non) ∨ ∃ (t:List Int) (r:Addr),stk hs hs' M M' n ws=t :: stk hs hs' M M' n ws'∧v=.ref r∧H' r=some (.lst (t.map V.int))∧r≠qA∧r ∉ as'∧(r ∈ as ∨ H r=none))→Q v H'
abbrev nNext:List Str:=["web","other","waiting","begun","longer"]
theorem scNext:FnScope nNext ["web","other","waiting"] (defScope sNext):=⟨rfl,rfl,rfl,by decide +kernel,rfl,by decide +kernel,by decide +kernel⟩
theorem ok_next {f fL:Addr} {fd fdL:FuncData} (B:BltT mg) (F:Fun K "next_turning" "next_turning" sNext f fd) (DL:Dn K mg "led_on" sLed ["web","other","begun"] fL fdL) (GL:FnOk P w K mg base CX0 2 fL fdL ["web","other","begun"] spLed) :
  FnOk P w K mg base CX0 3 f fd ["web","other","waiting"] spNext:=by
 refine F.ok scNext (fun vs H Q E h=>?_) (fun cdv A outer s H vs Q E hr h=>?_)
 ·obtain ⟨wA,oA,qA,n,hs,hs',M,M',H0,as,ws,rfl,_⟩:=h
  rfl
 ·obtain ⟨wA,oA,qA,n,hs,hs',M,M',H0,as,ws,rfl,W,W',s0,hq0,hl,S,hS',hn,hq,R,nq,hp,hms,q⟩:=h
  obtain ⟨hA,rA,rs,w1,w2,w3,_⟩:=W.ex
  refine ⟨_,pss_cons (ps_while PassesOwn.never (pt_truth (pv 2) (fun _=>rfl))
    (pss_cons (ps_set (i:=3) scNext.nd rfl (Or.inl rfl) (pe_bm0 PySem.F.plainAttrs_list PySem.F.slot_list_pop PySem.F.type_list_pop mt_pop (pv 2)))
    (pss_cons (ps_if (pt_cmpR op_eq (pe_callB call_len_seq (by rfl) B.len PySem.boot_len (pa_cons (pv 3) pa_nil)) (pe_callB call_len_seq (by rfl) B.len PySem.boot_len (pa_cons (pe_ix ix_tup (pv 0) pe_int (fun _ _=>rfl)) pa_nil)) (nomark _)) (pss_one (ps_ret (pv 3))) pss_nil)
    (pss_cons (ps_set (i:=4) scNext.nd rfl (Or.inl rfl) (pe_fn DL GL (hr.mono (by decide)) rfl (pa_cons (pv 0) (pa_cons (pv 1) (pa_cons (pv 3) pa_nil)))))
    (pss_cons (ps_expr (pe_bm0 PySem.F.plainAttrs_list PySem.F.slot_list_reverse PySem.F.type_list_reverse mt_reverse (pv 4)))
    (pss_one (ps_expr (pe_bm PySem.F.plainAttrs_list PySem.F.slot_list_extend PySem.F.type_list_extend mt_extend (pv 2) (pa_cons (pv 4) pa_nil)))))))))
   (pss_one (ps_ret pe_non)),?_⟩
  refine ⟨fun m σ H1=>∃ (o3 o4:Option V) (as1:List Addr) (ws1:List (List Int)),m=msr n ws1∧σ=[some (.ref wA),some (.ref oA),some (.ref qA),o3,o4]∧But qA H H1∧H1 qA=some (.lst (as1.map V.ref))∧RowsAt H1 as1 ws1∧qA ∉ as1∧(∀ a ∈ as1,a ∈ as ∨ H a=none)∧(∀ b ∈ ws1,Pt n b)∧(ws1≠[]→ws≠[])∧msr n ws1≤msr n ws∧stk hs hs' M M' n ws=stk hs hs' M M' n ws1,
   ⟨_,none,none,as,ws,rfl,rfl,But.refl _ _,hq,R,nq,fun a ha=>.inl ha,hp,id,Nat.le_refl _,rfl⟩,?_⟩
  rintro m σ H1 ⟨o3,o4,as1,ws1,rfl,rfl,b1,q1,R1,nq1,f1,p1,ne1,m1,st1⟩
  have sm1:Same H0 H1:=fun c o e=>b1 c o (ne_of_none e hq0) (s0 c o e)
  refine ⟨_,rfl,_,.inl ⟨_,SqL.of q1,rfl⟩,?_⟩
  rcases List.eq_nil_or_concat as1 with rfl | ⟨as2,a,rfl⟩
  ·refine iteF ?_
   have ew:ws1=[]:=List.length_eq_zero_iff.mp R1.len.symm
   subst ew
   exact q .non H1 [] [] b1 q1 R1 nq1 f1 p1 ne1 m1 (.inl ⟨st1,rfl,rfl⟩)
  ·rw [List.concat_eq_append] at q1 R1 nq1 f1 ⊢
   obtain ⟨ws2,b,rfl⟩:∃ ws2 b,ws1=ws2++[b]:=by
    rcases List.eq_nil_or_concat ws1 with rfl | ⟨ws2,b,e⟩
    ·have:=R1.len
     rw [List.length_append] at this
     simp at this
    ·exact ⟨ws2,b,by rw [e,List.concat_eq_append]⟩
   have hws:ws≠[]:=ne1 (by simp)
   obtain ⟨hl',S'⟩:=hS' hws
   obtain ⟨R2,ha,na⟩:=R1.unsnoc
   have naq:a≠qA:=fun e=>nq1 (by rw [e]; simp)
   have nq2:qA ∉ as2:=fun z=>nq1 (List.mem_append_left _ z)
   have pb:Pt n b:=p1 b (by simp)
   have eb:(!((as2++[a]).map V.ref).isEmpty)=true:=by
    rw [List.map_append]
    cases as2 <;> rfl
   rw [eb]
   refine iteT ⟨_,fun _ _ z=>z,?_⟩
   refine ⟨_,rfl,.inl ⟨rfl,_,SqL.of q1⟩,qA,_,.ref a,rfl,rfl,q1,?_,?_⟩
   ·rw [List.length_map,List.length_append,List.getElem?_map]
    show Option.map V.ref ((as2++[a])[as2.length]?)=_
    rw [List.getElem?_append_right (Nat.le_refl _),Nat.sub_self]
    rfl
   have q2:L2.upd H1 qA (.lst ((as2++[a]).map V.ref).dropLast) qA=some (.lst (as2.map V.ref)):=by
    rw [upd_same,List.map_append,List.map_singleton,List.dropLast_concat]
   have b2:But qA H1 (L2.upd H1 qA (.lst ((as2++[a]).map V.ref).dropLast)):=But.upd
   generalize L2.upd H1 qA (.lst ((as2++[a]).map V.ref).dropLast)=H2 at q2 b2 ⊢
   have ha2:=b2 a _ naq ha
   have R2':RowsAt H2 as2 ws2:=R2.keep fun r hr o z=>b2 r o (fun e=>nq2 (e ▸ hr)) z
   have bb2:=b1.trans b2
   have sm2:Same H0 H2:=fun c o e=>b2 c o (ne_of_none e hq0) (sm1 c o e)
   refine ⟨_,rfl,a,_,rfl,.inl (SqL.of ha2),_,rfl,wA,_,_,_,rfl,rfl,SqT.of (sm2 _ _ w1),rfl,hA,_,rfl,.inl (SqL.of (sm2 _ _ w2)),rfl,_,rfl,?_⟩
   rw [List.length_map,List.length_map,hl]
   have hfa:a ∈ as ∨ H a=none:=f1 a (by simp)
   by_cases e:b.length=n
   ·refine itDP (by rw [e]) ?_
    refine ⟨_,rfl,q (.ref a) H2 as2 ws2 bb2 q2 R2' nq2 (fun c hc=>f1 c (List.mem_append_left _ hc)) (fun c hc=>p1 c (List.mem_append_left _ hc)) (fun _=>hws) ?_ (.inr ⟨b,a,?_,rfl,ha2,naq,na,hfa⟩)⟩
    ·rw [msr_pop] at m1
     omega
    ·rw [st1,stk_full _ _ _ _ _ _ e]
   ·have hlt:b.length < n:=by have:=pb.len; omega
    refine itDN (fun z=>e (by have:=V.int.inj z; omega)) ?_
    refine ⟨_,rfl,_,rfl,_,rfl,wA,oA,a,n,hs,hs',b,M,M',rfl,W.mono sm2,W'.mono sm2,hl,hl',S,S',hn,ha2,pb,hlt,fun lA as3 H3 s3 hlA l3 R3 f3=>?_⟩
    have q3:=s3 _ _ q2
    have nlq:lA≠qA:=(ne_of_none q2 hlA).symm
    refine ⟨_,rfl,.inl ⟨rfl,_,SqL.of l3⟩,lA,_,rfl,rfl,l3,?_⟩
    have b4:But lA H3 (L2.upd H3 lA (.lst (as3.map V.ref).reverse)):=But.upd
    have l4:L2.upd H3 lA (.lst (as3.map V.ref).reverse) lA=some (.lst (as3.reverse.map V.ref)):=by rw [upd_same,List.map_reverse]
    generalize L2.upd H3 lA (.lst (as3.map V.ref).reverse)=H4 at b4 l4 ⊢
    have q4:=b4 qA _ nlq.symm q3
    have la2:as2.length≤110000:=by
     have h1:=len_msr n (ws2++[b])
     rw [List.length_append,←R2'.len] at h1
     omega
    have la3:as3.length≤8:=by
     rw [R3.len]
     have:(led hs hs' M M' n b).length≤n - b.length:=by
      unfold led
      rw [List.length_map]
      exact pb.few _
     omega
    refine ⟨_,rfl,.inl ⟨rfl,_,SqL.of q4⟩,_,rfl,qA,lA,_,_,rfl,rfl,q4,l4,?_,?_⟩
    ·rw [List.length_map,List.length_map,List.length_reverse]
     exact Nat.le_trans (show as2.length+as3.length≤110008 by omega) (by decide)
    have q5:L2.upd H4 qA (.lst (as2.map V.ref++as3.reverse.map V.ref)) qA=some (.lst ((as2++as3.reverse).map V.ref)):=by rw [upd_same,List.map_append]
    have b5:But qA H4 (L2.upd H4 qA (.lst (as2.map V.ref++as3.reverse.map V.ref))):=But.upd
    generalize L2.upd H4 qA (.lst (as2.map V.ref++as3.reverse.map V.ref))=H5 at q5 b5 ⊢
    have k2:∀ c o,H2 c=some o→c≠qA→H5 c=some o:=fun c o z nz=>b5 c o nz (b4 c o (ne_of_none z hlA) (s3 c o z))
    have k3:∀ c ∈ as3,∀ o,H3 c=some o→H5 c=some o:=fun c hc o z=>b5 c o (fun e'=>by
     have:=(f3 c hc).1
     rw [e',q2] at this
     cases this) (b4 c o (f3 c hc).2 z)
    have n23:∀ c ∈ as2,c ∉ as3.reverse:=fun c hc z=>by
     obtain ⟨o,eo⟩:=rows_some R2' hc
     have:=(f3 c (List.mem_reverse.mp z)).1
     rw [eo] at this
     cases this
    have R5:RowsAt H5 (as2++as3.reverse) (ws2++(led hs hs' M M' n b).reverse) :=
     RowsAt.app (R2'.keep fun c hc o z=>k2 c o z (fun e'=>nq2 (e' ▸ hc))) (RowsAt.rev (R3.keep fun c hc o z=>k3 c hc o z)) n23
    have mm:=msr_led hs hs' M M' n (ws:=ws2) pb hlt
    refine ⟨_,mm,_,_,as2++as3.reverse,ws2++(led hs hs' M M' n b).reverse,rfl,rfl,?_,q5,R5,?_,?_,?_,fun _=>hws,by omega,by rw [stk_led _ _ _ _ _ _ hlt]; exact st1⟩
    ·intro c o nc z
     exact k2 c o (bb2 c o nc z) nc
    ·intro z
     rcases List.mem_append.mp z with y | y
     ·exact nq2 y
     ·have:=(f3 qA (List.mem_reverse.mp y)).1
      rw [q2] at this
      cases this
    ·intro c hc
     rcases List.mem_append.mp hc with y | y
     ·exact f1 c (List.mem_append_left _ y)
     ·refine .inr ?_
      have h2:=(f3 c (List.mem_reverse.mp y)).1
      cases eH:H c with
      | none=>rfl
      | some o =>
       have nc:c≠qA:=fun e'=>by rw [e',q2] at h2; cases h2
       rw [bb2 c o nc eH] at h2
       cases h2
    ·intro c hc
     rcases List.mem_append.mp hc with y | y
     ·exact p1 c (List.mem_append_left _ y)
     ·exact led_pt hs hs' M M' n pb (List.mem_reverse.mp y)
end
section
variable {P:Program} {w:World} {K:PySem.W.Frag} {mg:Str→Option Value} {base:Heap}
def turnAll (hs hs':List Int) (M M':List (List Int)):List (List Int):=if hs.length=hs'.length then dueT hs hs' M M' hs.length else []
theorem stk_beg {hs hs':List Int} {M M':List (List Int)} {n n':Nat} (hl:hs.length=n) (hl':hs'.length=n') (S:Sq n M) (S':Sq n' M'):stk hs hs' M M' n (begT hs hs')=turnAll hs hs' M M':=by
 unfold begT turnAll
 by_cases e:hs.length=hs'.length
 ·rw [if_pos e,if_pos e]
  have en:n'=n:=by omega
  subst en
  rw [hl,←sols_due hs hs' M M' n' S S']
  show [([]:List Int)].flatMap _=_
  rw [List.flatMap_singleton]
  rfl
 ·rw [if_neg e,if_neg e]
  rfl
theorem beg_pt {hs hs':List Int} (n:Nat):∀ b ∈ begT hs hs',Pt n b:=fun b hb=>by
 unfold begT at hb
 by_cases e:hs.length=hs'.length
 ·rw [if_pos e] at hb
  rw [List.mem_singleton.mp hb]
  exact Pt.nil n
 ·rw [if_neg e] at hb
  cases hb
theorem beg_msr {hs hs':List Int} {n:Nat} (h:n≤8):msr n (begT hs hs')≤110000:=by
 unfold begT
 by_cases e:hs.length=hs'.length
 ·rw [if_pos e]
  show cnt (n - 0)+0≤_
  exact cnt8 (n:=n - 0) (by omega)
 ·rw [if_neg e]
  exact Nat.zero_le _
theorem beg_ne {hs hs':List Int} (h:begT hs hs'≠[]):hs.length=hs'.length:=by
 unfold begT at h
 by_cases e:hs.length=hs'.length
 ·exact e
 ·rw [if_neg e] at h
  exact absurd rfl h
theorem turnAll_len {hs hs':List Int} {M M':List (List Int)} {n n':Nat} (hl:hs.length=n) (hl':hs'.length=n') (S:Sq n M) (S':Sq n' M') (hn:n≤8):(turnAll hs hs' M M').length≤110000:=by
 unfold turnAll
 by_cases e:hs.length=hs'.length
 ·have en:n'=n:=by omega
  subst en
  rw [if_pos e,hl,←sols_due hs hs' M M' n' S S']
  exact Nat.le_trans (sols_len hs hs' M M' n' n' [] (Pt.nil _) (by simp)) (cnt8 hn)
 ·rw [if_neg e]
  exact Nat.zero_le _
def TwoW (H:Hp) (wA oA:Addr) (n n':Nat) (hs hs':List Int) (M M':List (List Int)):Prop:=WR H wA hs M∧WR H oA hs' M'∧hs.length=n∧hs'.length=n'∧Sq n M∧Sq n' M'∧n≤8
def spAllT:Sp:=fun vs H Q _=>∃ (wA oA:Addr) (n n':Nat) (hs hs':List Int) (M M':List (List Int)),vs=[.ref wA,.ref oA]∧TwoW H wA oA n n' hs hs' M M' ∧
 ∀ (tA:Addr) (rs:List Addr) (H':Hp),Same H H'→H tA=none→H' tA=some (.lst (rs.map V.ref))→RowsAt H' rs (turnAll hs hs' M M')→(∀ r ∈ rs,H r=none∧r≠tA)→Q (.ref tA) H'
abbrev nAllT:List Str:=["web","other","waiting","turnings","turning"]
theorem scAllT:FnScope nAllT ["web","other"] (defScope sAllT):=⟨rfl,rfl,rfl,by decide +kernel,rfl,by decide +kernel,by decide +kernel⟩
theorem ok_allT {f fB fN:Addr} {fd fdB fdN:FuncData} (F:Fun K "all_turnings" "all_turnings" sAllT f fd) (DB:Dn K mg "begun_turnings" sBegunT ["web","other"] fB fdB) (GB:FnOk P w K mg base CX0 1 fB fdB ["web","other"] spBegunT)
  (DN:Dn K mg "next_turning" sNext ["web","other","waiting"] fN fdN) (GN:FnOk P w K mg base CX0 3 fN fdN ["web","other","waiting"] spNext):FnOk P w K mg base CX0 4 f fd ["web","other"] spAllT:=by
 refine F.ok scAllT (fun vs H Q E h=>?_) (fun cdv A outer s H vs Q E hr h=>?_)
 ·obtain ⟨wA,oA,n,n',hs,hs',M,M',rfl,_⟩:=h
  rfl
 ·obtain ⟨wA,oA,n,n',hs,hs',M,M',rfl,⟨W,W',hl,hl',S,S',hn⟩,q⟩:=h
  refine ⟨_,pss_cons (ps_set (i:=2) scAllT.nd rfl (Or.inl rfl) (pe_fn DB GB (hr.mono (by decide)) rfl (pa_cons (pv 0) (pa_cons (pv 1) pa_nil))))
   (pss_cons (ps_set (i:=3) scAllT.nd rfl (Or.inl rfl) (pe_lst pa_nil))
   (pss_cons (ps_set (i:=4) scAllT.nd rfl (Or.inl rfl) (pe_fn DN GN (hr.mono (by decide)) rfl (pa_cons (pv 0) (pa_cons (pv 1) (pa_cons (pv 2) pa_nil)))))
   (pss_cons (ps_while PassesOwn.never (pt_cmpR op_notN (pv 4) pe_non (nomark _))
    (pss_cons (ps_expr (pe_bm PySem.F.plainAttrs_list PySem.F.slot_list_append PySem.F.type_list_append mt_append (pv 3) (pa_cons (pv 4) pa_nil)))
    (pss_one (ps_set (i:=4) scAllT.nd rfl (Or.inl rfl) (pe_fn DN GN (hr.mono (by decide)) rfl (pa_cons (pv 0) (pa_cons (pv 1) (pa_cons (pv 2) pa_nil))))))))
   (pss_one (ps_ret (pv 3)))))),?_⟩
  refine ⟨_,rfl,_,rfl,wA,oA,hs,hs',M,M',rfl,W,W',fun qA as1 H1 s1 hqA q1 R1 f1=>?_⟩
  refine ⟨Nat.zero_le _,fun tA htA=>?_⟩
  have ntq:qA≠tA:=ne_of_none q1 htA
  have htA0:H tA=none:=s1.free htA
  have s2:Same H1 (L2.upd H1 tA (.lst [])):=Same.upd htA
  have t2:L2.upd H1 tA (.lst []) tA=some (.lst []):=upd_same
  generalize L2.upd H1 tA (.lst [])=H2 at s2 t2 ⊢
  have S0:∀ ws:List (List Int),ws=begT hs hs'→stk hs hs' M M' n ws=turnAll hs hs' M M':=fun ws e=>by rw [e]; exact stk_beg hl hl' S S'
  have lS:=turnAll_len hl hl' S S' hn
  have out:∀ a ∈ as1,a≠tA:=fun a ha e=>by
   obtain ⟨o,eo⟩:=rows_some R1 ha
   rw [e,htA] at eo
   cases eo
  refine ⟨_,rfl,_,rfl,_,rfl,wA,oA,qA,n,hs,hs',M,M',H,as1,begT hs hs',rfl,W,W',s1.trans s2,hqA,hl,S,fun z=>?_,hn,s2 _ _ q1,R1.keep fun r _ o z=>s2 r o z,fun z=>(f1 _ z).2 rfl,beg_pt n,beg_msr hn,?_⟩
  ·have:=beg_ne z
   have en:n'=n:=by omega
   subst en
   exact ⟨hl',S'⟩
  intro v H3 as3 ws3 b3 q3 R3 nq3 f3 p3 ne3 m3 cs
  refine ⟨fun m σ H4=>∃ (v:V) (as:List Addr) (ws:List (List Int)) (rs:List Addr) (ts:List (List Int)),σ=[some (.ref wA),some (.ref oA),some (.ref qA),some (.ref tA),some v]∧Same H H4∧H4 qA=some (.lst (as.map V.ref))∧RowsAt H4 as ws∧qA ∉ as∧(∀ a ∈ as,H a=none∧a≠tA∧a ∉ rs)∧(∀ b ∈ ws,Pt n b)∧(ws≠[]→begT hs hs'≠[])∧msr n ws≤110000 ∧
   H4 tA=some (.lst (rs.map V.ref))∧RowsAt H4 rs ts∧(∀ r ∈ rs,H r=none∧r≠tA∧r≠qA) ∧
   ((m=0∧ts=turnAll hs hs' M M'∧v=.non) ∨ ∃ (t:List Int) (r:Addr),m=(stk hs hs' M M' n ws).length+1∧turnAll hs hs' M M'=ts++t :: stk hs hs' M M' n ws∧v=.ref r∧H4 r=some (.lst (t.map V.int))∧r≠qA∧r≠tA∧r ∉ as∧r ∉ rs∧H r=none),?_,?_⟩
  ·have sm3:Same H H3:=fun c o e=>b3 c o (ne_of_none e hqA) ((s1.trans s2) c o e)
   have fr3:∀ a,a ∈ as1 ∨ H2 a=none→H a=none∧a≠tA∧a ∉ ([]:List Addr):=fun a ha=>by
    refine ⟨?_,?_,fun z=>by cases z⟩
    ·rcases ha with z | z
     ·exact (f1 a z).1
     ·exact (s1.trans s2).free z
    ·rcases ha with z | z
     ·exact out a z
     ·exact (ne_of_none t2 z).symm
   have base:Same H H3∧H3 qA=some (.lst (as3.map V.ref))∧RowsAt H3 as3 ws3∧qA ∉ as3∧(∀ a ∈ as3,H a=none∧a≠tA∧a ∉ ([]:List Addr))∧(∀ b ∈ ws3,Pt n b)∧(ws3≠[]→begT hs hs'≠[])∧msr n ws3≤110000∧H3 tA=some (.lst (([]:List Addr).map V.ref))∧RowsAt H3 [] []∧(∀ r ∈ ([]:List Addr),H r=none∧r≠tA∧r≠qA) :=
    ⟨sm3,q3,R3,nq3,fun a ha=>fr3 a (f3 a ha),p3,ne3,Nat.le_trans m3 (beg_msr hn),b3 tA _ ntq.symm t2,⟨rfl,(fun i r x h _=>by cases h),List.nodup_nil⟩,fun r hr=>by cases hr⟩
   obtain ⟨c1,c2,c3,c4,c5,c6,c7,c8,c9,c10,c11⟩:=base
   rcases cs with ⟨e1,e2,e3⟩ | ⟨t,r,e1,e2,e3,e4,e5,e6⟩
   ·exact ⟨0,v,as3,ws3,[],[],rfl,c1,c2,c3,c4,c5,c6,c7,c8,c9,c10,c11,.inl ⟨rfl,by rw [←S0 _ rfl,e1],e3⟩⟩
   ·have fr:=fr3 r e6
    exact ⟨_,v,as3,ws3,[],[],rfl,c1,c2,c3,c4,c5,c6,c7,c8,c9,c10,c11,.inr ⟨t,r,rfl,by rw [←S0 _ rfl,e1]; rfl,e2,e3,e4,fr.2.1,e5,fr.2.2,fr.1⟩⟩
  ·rintro m σ H4 ⟨v,as,ws,rs,ts,rfl,sm,q4,R4,nq4,f4,p4,ne4,m4,t4,Rt,ft,cs⟩
   refine ⟨_,rfl,rfl,_,rfl,?_⟩
   rcases cs with ⟨rfl,rfl,rfl⟩ | ⟨t,r,rfl,eS,rfl,hr4,nrq,nrt,nra,nrr,hr0⟩
   ·refine iteNS rfl ?_
    exact ⟨_,rfl,q tA rs H4 sm htA0 t4 Rt fun r hr=>⟨(ft r hr).1,(ft r hr).2.1⟩⟩
   ·refine iteNP (fun z=>by cases z) ⟨_,fun _ _ z=>z,?_⟩
    have lr:rs.length≤110000:=by
     rw [Rt.len]
     have:=congrArg List.length eS
     rw [List.length_append] at this
     omega
    refine ⟨_,rfl,.inl ⟨rfl,_,SqL.of t4⟩,_,rfl,tA,_,_,rfl,rfl,t4,?_,?_⟩
    ·rw [List.length_map]
     exact Nat.lt_of_le_of_lt lr (by decide)
    have b5:But tA H4 (L2.upd H4 tA (.lst (rs.map V.ref++[.ref r]))):=But.upd
    have t5:L2.upd H4 tA (.lst (rs.map V.ref++[.ref r])) tA=some (.lst ((rs++[r]).map V.ref)):=by rw [upd_same,List.map_append]; rfl
    have sm5:Same H (L2.upd H4 tA (.lst (rs.map V.ref++[.ref r]))):=sm.over htA0
    generalize L2.upd H4 tA (.lst (rs.map V.ref++[.ref r]))=H5 at b5 t5 sm5 ⊢
    have q5:=b5 qA _ ntq q4
    have R5:RowsAt H5 as ws:=R4.keep fun c hc o z=>b5 c o (f4 c hc).2.1 z
    have Rt5:RowsAt H5 (rs++[r]) (ts++[t]):=RowsAt.snoc Rt (fun c hc o z=>b5 c o (ft c hc).2.1 z) (b5 r _ nrt hr4) nrr
    refine ⟨_,rfl,_,rfl,_,rfl,wA,oA,qA,n,hs,hs',M,M',H,as,ws,rfl,W,W',sm5,hqA,hl,S,fun z=>?_,hn,q5,R5,nq4,p4,m4,?_⟩
    ·have:=beg_ne (ne4 z)
     have en:n'=n:=by omega
     subst en
     exact ⟨hl',S'⟩
    intro v6 H6 as6 ws6 b6 q6 R6 nq6 f6 p6 ne6 m6 cs6
    have ft5:∀ c ∈ rs++[r],H c=none∧c≠tA∧c≠qA:=fun c hc=>by
     rcases List.mem_append.mp hc with z | z
     ·exact ft c z
     ·rw [List.mem_singleton.mp z]; exact ⟨hr0,nrt,nrq⟩
    have fr6:∀ a,a ∈ as ∨ H5 a=none→H a=none∧a≠tA∧a ∉ rs++[r]:=fun a ha=>by
     rcases ha with z | z
     ·refine ⟨(f4 a z).1,(f4 a z).2.1,fun y=>?_⟩
      rcases List.mem_append.mp y with y | y
      ·exact (f4 a z).2.2 y
      ·rw [List.mem_singleton.mp y] at z; exact nra z
     ·exact ⟨sm5.free z,(ne_of_none t5 z).symm,fun y=>by
       obtain ⟨o,eo⟩:=rows_some Rt5 y
       rw [z] at eo
       cases eo⟩
    have sm6:Same H H6:=fun c o e=>b6 c o (ne_of_none e hqA) (sm5 c o e)
    have Rt6:RowsAt H6 (rs++[r]) (ts++[t]):=Rt5.keep fun c hc o z=>b6 c o (ft5 c hc).2.2 z
    have t6:=b6 tA _ ntq.symm t5
    rcases cs6 with ⟨e1,e2,e3⟩ | ⟨u,r',e1,e2,e3,e4,e5,e6⟩
    ·refine ⟨0,Nat.succ_pos _,v6,as6,ws6,rs++[r],ts++[t],rfl,sm6,q6,R6,nq6,fun a ha=>fr6 a (f6 a ha),p6,fun z=>ne4 (ne6 z),Nat.le_trans m6 m4,t6,Rt6,ft5,.inl ⟨rfl,?_,e3⟩⟩
     rw [eS,e1]
    ·have fr:=fr6 r' e6
     refine ⟨_,?_,v6,as6,ws6,rs++[r],ts++[t],rfl,sm6,q6,R6,nq6,fun a ha=>fr6 a (f6 a ha),p6,fun z=>ne4 (ne6 z),Nat.le_trans m6 m4,t6,Rt6,ft5,.inr ⟨u,r',rfl,?_,e2,e3,e4,fr.2.1,e5,fr.2.2,fr.1⟩⟩
     ·rw [e1,List.length_cons]
      omega
     ·rw [eS,e1,List.append_assoc]
      rfl
end
section
variable {P:Program} {w:World} {K:PySem.W.Frag} {mg:Str→Option Value} {base:Heap}
def spOrder:Sp:=fun vs H Q _=>∃ (d:Addr) (k n:Nat),vs=[.ref d,.int (k:Int)]∧k≤8∧Drw H d n∧n≤800000 ∧
 ∀ (p:Addr) (H':Hp) (os:List Int),But d H H'→Drw H' d (n+20)→H p=none→p≠d→H' p=some (.lst (os.map V.int))→os.Perm (rI k)→Q (.ref p) H'
theorem scOrder:FnScope ["_law_draw","_law_many","_law_left","_law_found"] ["_law_draw","_law_many"] (defScope sOrder):=⟨rfl,rfl,rfl,by decide +kernel,rfl,by decide +kernel,by decide +kernel⟩
theorem map_erase {α β:Type} (f:α→β):∀ (l:List α) (i:Nat),(l.map f).eraseIdx i=(l.eraseIdx i).map f
 | [],_=>rfl
 | a :: l,0=>rfl
 | a :: l,i+1=>by
  show f a :: (l.map f).eraseIdx i=f a :: (l.eraseIdx i).map f
  rw [map_erase f l i]
theorem erase_perm {α:Type}:∀ (l:List α) (i:Nat) (h:i < l.length),(l[i] :: l.eraseIdx i).Perm l
 | a :: l,0,_=>List.Perm.refl _
 | a :: l,i+1,h=>by
  have hi:i < l.length:=by simpa using h
  have ih:=erase_perm l i hi
  show (l[i] :: a :: l.eraseIdx i).Perm (a :: l)
  exact (List.Perm.swap a l[i] _).trans (List.Perm.cons a ih)
theorem ok_order {f fT:Addr} {fd fdT:FuncData} (B:BltT mg) (F:Fun K "_law_order" "_law_order" sOrder f fd) (DT:Dn K mg "_law_take" sTake ["_law_draw","_law_most"] fT fdT) (GT:FnOk P w K mg base CX0 2 fT fdT ["_law_draw","_law_most"] spTake):FnOk P w K mg base CX0 3 f fd ["_law_draw","_law_many"] spOrder:=by
 refine F.ok scOrder (fun vs H Q E h=>?_) (fun cdv A outer s H vs Q E hr h=>?_)
 ·obtain ⟨d,k,n,rfl,_⟩:=h
  rfl
 ·obtain ⟨d,k,n,rfl,hk,hd,hn,q⟩:=h
  refine ⟨_,pss_cons (ps_set (i:=2) scOrder.nd rfl (Or.inl rfl) (pe_callTy (call_list_rng rfl) (by rfl) B.list boot_list (pa_cons (pe_callTy call_range1v (by rfl) B.range boot_range (pa_cons (pv 1) pa_nil)) pa_nil)))
   (pss_cons (ps_set (i:=3) scOrder.nd rfl (Or.inl rfl) (pe_lst pa_nil))
   (pss_cons (ps_while PassesOwn.never (pt_cmpR (op_neD hr.units) (pv 2) (pe_lst pa_nil) (nomark _))
    (pss_one (ps_expr (pe_bm PySem.F.plainAttrs_list PySem.F.slot_list_append PySem.F.type_list_append mt_append (pv 3) (pa_cons
     (pe_bm PySem.F.plainAttrs_list PySem.F.slot_list_pop PySem.F.type_list_pop mt_popAt (pv 2) (pa_cons (pe_fn DT GT hr rfl (pa_cons (pv 0) (pa_cons (pe_callB call_len_seq (by rfl) B.len PySem.boot_len (pa_cons (pv 2) pa_nil)) pa_nil))) pa_nil)) pa_nil)))))
   (pss_one (ps_ret (pv 3))))),?_⟩
  refine ⟨_,rfl,(k:Int),rfl,fun rA hrA=>⟨rA,k,rfl,upd_same,by omega,fun lA hlA=>?_⟩⟩
  refine ⟨Nat.zero_le _,fun fA hfA=>?_⟩
  have nd1:∀ {a:Addr} {Hx:Hp} {j:Nat},Drw Hx d j→Hx a=none→a≠d:=fun {a Hx j} D h e=>by
   obtain ⟨_,_,_,e',_⟩:=D
   rw [e,e'] at h
   cases h
  have d1:=hd.new (o:=.rng 0 (k:Int)) hrA
  have lAd:=nd1 d1 hlA
  have d2:=d1.new (o:=.lst ((List.range k).map fun (i:Nat)=>V.int (i:Int))) hlA
  have fAd:=nd1 d2 hfA
  have nlr:lA≠rA:=(ne_of_none upd_same hlA).symm
  have hlA0:H lA=none:=by rw [upd_ne nlr] at hlA; exact hlA
  have nfl:fA≠lA:=(ne_of_none upd_same hfA).symm
  have hfA0:H fA=none:=by
   rw [upd_ne nfl] at hfA
   have nfr:fA≠rA:=(ne_of_none upd_same hfA).symm
   rw [upd_ne nfr] at hfA
   exact hfA
  have d3:=d2.new (o:=.lst []) hfA
  have c3:But d H (L2.upd (L2.upd (L2.upd H rA (.rng 0 (k:Int))) lA (.lst ((List.range k).map fun (i:Nat)=>V.int (i:Int)))) fA (.lst [])):=((But.new hrA).trans (But.new hlA)).trans (But.new hfA)
  have e3:L2.upd (L2.upd (L2.upd H rA (.rng 0 (k:Int))) lA (.lst ((List.range k).map fun (i:Nat)=>V.int (i:Int)))) fA (.lst []) lA=some (.lst ((rI k).map V.int)):=by
   rw [upd_ne (Ne.symm nfl),upd_same,rI_map]
  have g3:L2.upd (L2.upd (L2.upd H rA (.rng 0 (k:Int))) lA (.lst ((List.range k).map fun (i:Nat)=>V.int (i:Int)))) fA (.lst []) fA=some (.lst []):=upd_same
  generalize L2.upd (L2.upd (L2.upd H rA (.rng 0 (k:Int))) lA (.lst ((List.range k).map fun (i:Nat)=>V.int (i:Int)))) fA (.lst [])=H3 at d3 c3 e3 g3 ⊢
  refine while_by (fun σ H'=>∃ (ls fs:List Int),σ=[some (.ref d),some (.int (k:Int)),some (.ref lA),some (.ref fA)]∧But d H H'∧Drw H' d (n+2 * fs.length)∧H' lA=some (.lst (ls.map V.int))∧H' fA=some (.lst (fs.map V.int))∧(fs++ls).Perm (rI k))
   (fun _ H'=>match H' lA with | some (.lst xs)=>xs.length | _=>0) ⟨rI k,[],rfl,c3,d3,e3,g3,List.Perm.refl _⟩ ?_ ?_
  ·rintro σ H4 ⟨ls,fs,rfl,c4,d4,e4,g4,pm⟩
   have hlen:fs.length+ls.length=k:=by
    have:=pm.length_eq
    rw [List.length_append,rI_len] at this
    exact this
   refine ⟨_,rfl,Nat.zero_le _,fun e he=>?_⟩
   have s5:Same H4 (L2.upd H4 e (.lst [])):=Same.upd he
   have e5:L2.upd H4 e (.lst []) e=some (.lst []):=upd_same
   have d5:=d4.new (o:=.lst []) he
   have c5:=c4.trans (But.new (o:=.lst []) he)
   generalize L2.upd H4 e (.lst [])=H5 at s5 e5 d5 c5 ⊢
   refine ⟨dI ls,dI [],daI trivial (SqL.of (s5 _ _ e4)),daI trivial (SqL.of e5),⟨(lay_dI ls).1,(lay_dI []).1,Nat.le_trans (lay_dI ls).2 (by decide)⟩,_,rfl,?_⟩
   cases ls with
   | nil =>
    refine iteF ?_
    rw [List.append_nil] at pm
    exact ⟨_,rfl,q fA H5 fs c5 (d5.mono (by rw [List.length_nil] at hlen; omega)) hfA0 fAd (s5 _ _ g4) pm⟩
   | cons z zs =>
    refine iteT ?_
    have hl5:=s5 _ _ e4
    have hf5:=s5 _ _ g4
    refine ⟨_,rfl,.inl ⟨rfl,_,SqL.of hf5⟩,_,rfl,.inl ⟨rfl,_,SqL.of hl5⟩,_,rfl,_,rfl,lA,_,rfl,.inl (SqL.of hl5),d,_,n+2 * fs.length,rfl,(by rw [List.length_map,List.length_cons]; omega),(by rw [List.length_map]; omega),d5,by omega,fun r H6 r0 r1 hB6 d6=>?_⟩
    have hl6:=hB6 lA _ lAd hl5
    have hf6:=hB6 fA _ fAd hf5
    obtain ⟨j,rfl⟩:=Int.eq_ofNat_of_zero_le r0
    rw [List.length_map] at r1
    have hj:j < (z :: zs).length:=by omega
    have hx:((z :: zs).map V.int)[j]? = some (.int (z :: zs)[j]):=by rw [List.getElem?_map,List.getElem?_eq_getElem hj]; rfl
    refine ⟨lA,_,(j:Int),j,_,rfl,rfl,hl6,by omega,by omega,by rw [List.length_map]; exact (ixN_seq (ixN_nat hj)).1,hx,?_⟩
    have nfl':fA≠lA:=nfl
    refine ⟨fA,_,_,rfl,rfl,by rw [upd_ne nfl']; exact hf6,small1000 (by rw [List.length_map]; omega),?_⟩
    refine ⟨⟨(z :: zs).eraseIdx j,fs++[(z :: zs)[j]],rfl,((c5.trans hB6).updN hlA0).updN hfA0,((d6.updN lAd).updN fAd).mono (by rw [List.length_append,List.length_singleton]; omega),?_,?_,?_⟩,?_⟩
    ·rw [upd_ne (Ne.symm nfl'),upd_same,map_erase]
    ·rw [upd_same,List.map_append]; rfl
    ·have p1:((z :: zs)[j] :: (z :: zs).eraseIdx j).Perm (z :: zs):=erase_perm _ j hj
     rw [List.append_assoc]
     exact (List.Perm.append_left fs p1).trans pm
    ·have m1:L2.upd (L2.upd H6 lA (.lst (((z :: zs).map V.int).eraseIdx j))) fA (.lst (fs.map V.int++[.int (z :: zs)[j]])) lA=some (.lst (((z :: zs).map V.int).eraseIdx j)):=by rw [upd_ne (Ne.symm nfl'),upd_same]
     show (match L2.upd (L2.upd H6 lA (.lst (((z :: zs).map V.int).eraseIdx j))) fA (.lst (fs.map V.int++[.int (z :: zs)[j]])) lA with | some (.lst xs)=>xs.length | _=>0) < (match H4 lA with | some (.lst xs)=>xs.length | _=>0)
     rw [m1,e4]
     show (((z :: zs).map V.int).eraseIdx j).length < ((z :: zs).map V.int).length
     rw [List.length_eraseIdx_of_lt (by rw [List.length_map]; exact hj),List.length_map,List.length_cons]
     omega
  ·rintro σ H4 Q1 Q2 hq ⟨v,ev,sz,fn⟩
   exact ⟨v,ev,sz,fun p hp=>let ⟨a,b,x1,x2,x3,c,ec,z⟩:=fn p hp; ⟨a,b,x1,x2,x3,c,ec,hq _ _ z⟩⟩
theorem lc_ints {a:Addr} {xs:List V} {te:TE} {Q:Hp→Prop} {σ:L2.St} {H1:Hp} {D:Addr} (zs:List Int) (hlen:zs.length=xs.length) (hm:xs.length≤900) (hD:H1 D=none) (hxs:SqL K H1 a xs)
  (hs:∀ (i:Nat) (x:V) (z:Int) (H':Hp),xs[i]? = some x→zs[i]? = some z→Same H1 H'→te (σ++[some x]) H' fun v H3=>v=.int z∧H3=H')
  (hd:Q (upd H1 D (.lst (zs.map V.int)))) (mono:∀ σ H Q Q',(∀ v H1,Q v H1→Q' v H1)→te σ H Q→te σ H Q') :
  ∃ W:Nat→Nat→List V→Hp→Prop,(∃ m,W 0 m [] (upd H1 D (.lst []))) ∧
   ∀ i m ys H',W i m ys H'→H' D=some (.lst ys)∧(((Itl K a).stop i H'∧Q H') ∨ ((Itl K a).go i H'∧∀ z H2,(Itl K a).yld i H' z H2→te (σ++[some z]) H2 fun v H3=>H3 D=some (.lst ys)∧ys.length < sizeLine∧∃ m',m' < m∧W (i+1) m' (ys++[v]) (upd H3 D (.lst (ys++[v]))))):=by
 refine lc_list (xs:=xs) (fun i ys H'=>ys=(zs.take i).map V.int∧H'=upd H1 D (.lst ys)) ⟨rfl,rfl⟩ (fun i ys H' _ ⟨_,e⟩=>?_) ?_ ?_ mono
 ·subst e
  exact ⟨Same.sq (Same.upd hD) hxs,upd_same⟩
 ·rintro i x ys H4 hx ⟨rfl,rfl⟩
  have hi:i < zs.length:=by rw [hlen]; exact (List.getElem?_eq_some_iff.mp hx).1
  have hz:zs[i]? = some zs[i]:=List.getElem?_eq_getElem hi
  refine mono _ _ _ _ ?_ (hs i x zs[i] _ hx hz (Same.upd hD))
  rintro v H5 ⟨rfl,rfl⟩
  refine ⟨upd_same,small1000 (by rw [List.length_map,List.length_take]; omega),?_,by rw [upd_upd]⟩
  rw [take_snoc hz,List.map_append]
  rfl
 ·rintro ys H4 ⟨rfl,rfl⟩
  rw [←hlen,List.take_length]
  exact hd
structure WN (H H':Hp) (p:Addr) (hs:List Int) (M:List (List Int)):Prop where
 ex:∃ hA rA rs,H' p=some (.tup [.ref hA,.ref rA])∧H' hA=some (.lst (hs.map V.int))∧H' rA=some (.lst (rs.map V.ref))∧RowsAt H' rs M∧(∀ a ∈ p :: hA :: rA :: rs,H a=none)∧p ∉ rs∧hA ∉ rs∧rA ∉ rs
def spLRen:Sp:=fun vs H Q _=>∃ (wA oA:Addr) (n:Nat) (hs:List Int) (M:List (List Int)) (os:List Int),vs=[.ref wA,.ref oA]∧WR H wA hs M∧hs.length=n∧Sq n M∧n≤8∧H oA=some (.lst (os.map V.int))∧os.Perm (rI n) ∧
 ∀ p H',Same H H'→WN H H' p (renH hs os) (renM M os)→Q (.ref p) H'
abbrev nLRen:List Str:=["_law_web_here","_law_order_here"]
def lcElt (e:Expr):Expr:=match e with
 | .ListComp x _ _ _=>x
 | _=>.Constant .none 0 ⟨0,0,0,0⟩
theorem scLRen:FnScope nLRen ["_law_web_here","_law_order_here"] (defScope sRenamed):=⟨rfl,rfl,rfl,by decide +kernel,rfl,by decide +kernel,by decide +kernel⟩
theorem lcLRen0:LcScopes (defScope sRenamed) nLRen (lcScope (tupAt (asgVal (bodyAt sRenamed 0)) 0)) ["_law_u"]:=⟨by decide +kernel,rfl,by decide +kernel,by decide +kernel,by decide +kernel,by decide +kernel,by decide +kernel,by decide +kernel,by decide +kernel,by decide +kernel⟩
theorem lcLRen1:LcScope (defScope sRenamed) nLRen (lcScope (tupAt (asgVal (bodyAt sRenamed 0)) 1)) "_law_u":=⟨by decide +kernel,rfl,by decide +kernel,by decide +kernel,by decide +kernel,by decide +kernel,by decide +kernel,by decide +kernel,by decide +kernel,by decide +kernel⟩
def blkLRen:Scope:=relabel (lcScope (tupAt (asgVal (bodyAt sRenamed 0)) 1)) (envOfC "" (defScope sRenamed) 0 0 .none)
theorem lcLRen2:LcScopes blkLRen (blkN nLRen "_law_u") (lcScope (lcElt (tupAt (asgVal (bodyAt sRenamed 0)) 1))) ["_law_v"]:=⟨by decide +kernel,rfl,by decide +kernel,by decide +kernel,by decide +kernel,by decide +kernel,by decide +kernel,by decide +kernel,by decide +kernel,by decide +kernel⟩
theorem ok_lren {f:Addr} {fd:FuncData} (F:Fun K "_law_renamed" "_law_renamed" sRenamed f fd):FnOk P w K mg base CX0 1 f fd ["_law_web_here","_law_order_here"] spLRen:=by
 refine F.ok scLRen (fun vs H Q E h=>?_) (fun cdv A outer s H vs Q E hr h=>?_)
 ·obtain ⟨wA,oA,n,hs,M,os,rfl,_⟩:=h
  rfl
 ·obtain ⟨wA,oA,n,hs,M,os,rfl,hW,hl,hS,hn,ho,hp,q⟩:=h
  obtain ⟨hA,rA,rs,w1,w2,w3,R⟩:=hW.ex
  have hmem:∀ o ∈ os,0≤o∧o < (n:Int):=fun o h=>rI_mem.mp (hp.mem_iff.mp h)
  have hlos:os.length=n:=by rw [hp.length_eq,rI_len]
  refine ⟨_,pss_one (ps_ret (pe_tup (pa_cons (pe_lc1 rfl lcLRen0 rfl (pi_list (pv 1)) (fun _ _ _=>pe_ix (ix_listK (K:=K)) (pe_ix (ix_tupK (K:=K)) (pv 0) pe_int (fun _ _=>rfl)) (pv 2) (fun _ _=>rfl))) (pa_cons (pe_lc rfl lcLRen1 rfl (pi_list (pv 1))
    (fun _ _ _=>pe_lc1 rfl lcLRen2 rfl (pi_listK (K:=K) (pv 1)) (fun _ _ _=>pe_ix (ix_listK (K:=K)) (pe_ix (ix_listK (K:=K)) (pe_ix (ix_tupK (K:=K)) (pv 0) pe_int (fun _ _=>rfl)) (pv 2) (fun _ _=>rfl)) (pv 3) (fun _ _=>rfl)))) pa_nil)))),?_⟩
  refine ⟨_,rfl,oA,rfl,⟨_,SqL.of ho⟩,fun D hD=>?_⟩
  refine lc_ints (xs:=os.map V.int) (renH hs os) (by unfold renH; rw [List.length_map,List.length_map]) (by rw [List.length_map]; omega) hD (SqL.of ho) ?_ ?_ ?_
  ·intro i x z H1 hx hz s1
   obtain ⟨o,ho',rfl⟩:=map_get hx
   obtain ⟨o2,ho2,rfl⟩:=map_get (show (os.map fun o=>hs.getD o.toNat 0)[i]? = some z from hz)
   rw [ho'] at ho2
   cases ho2
   have hm:=hmem o (List.mem_of_getElem? ho')
   exact ⟨_,rfl,wA,_,_,_,rfl,rfl,SqT.of (s1 _ _ w1),rfl,_,rfl,hA,_,_,_,rfl,rfl,SqL.of (s1 _ _ w2),at_int hm.1 (by rw [hl]; exact hm.2),rfl,rfl⟩
  ·have s1:Same H (L2.upd H D (.lst ((renH hs os).map V.int))):=Same.upd hD
   have e1:L2.upd H D (.lst ((renH hs os).map V.int)) D=some (.lst ((renH hs os).map V.int)):=upd_same
   generalize L2.upd H D (.lst ((renH hs os).map V.int))=H1 at s1 e1 ⊢
   refine ⟨_,rfl,oA,rfl,⟨_,SqL.of (s1 _ _ ho)⟩,fun D2 hD2=>?_⟩
   refine lc_rows (xs:=os.map V.int) (renM M os) (by unfold renM; rw [List.length_map,List.length_map]) (by rw [List.length_map]; omega) hD2 (SqL.of (s1 _ _ ho)) ?_ ?_ ?_
   ·intro i x row H2 hx hrow s2
    obtain ⟨o,ho',rfl⟩:=map_get hx
    obtain ⟨o2,ho2,rfl⟩:=map_get (show (os.map fun o=>renH (M.getD o.toNat []) os)[i]? = some row from hrow)
    rw [ho'] at ho2
    cases ho2
    have hm:=hmem o (List.mem_of_getElem? ho')
    obtain ⟨j,rfl⟩:=Int.eq_ofNat_of_zero_le hm.1
    have hj:j < rs.length:=by rw [R.len,hS.len]; omega
    obtain ⟨r,xr,g1,g2,g3⟩:=R.get hj
    have t2:=s1.trans s2
    have hlr:=(hS.row j xr g2).1
    have er:M.getD (Int.toNat (j:Int)) []=xr:=by rw [Int.toNat_natCast,getD_some g2]
    rw [er]
    refine ⟨_,rfl,oA,rfl,⟨_,SqL.of (t2 _ _ ho)⟩,fun D3 hD3=>?_⟩
    refine lc_ints (xs:=os.map V.int) (renH xr os) (by unfold renH; rw [List.length_map,List.length_map]) (by rw [List.length_map]; omega) hD3 (SqL.of (t2 _ _ ho)) ?_ ?_ ?_
    ·intro i' x' z H3 hx' hz' s3
     obtain ⟨o',ho1,rfl⟩:=map_get hx'
     obtain ⟨o2,ho2,rfl⟩:=map_get (show (os.map fun o=>xr.getD o.toNat 0)[i']? = some z from hz')
     rw [ho1] at ho2
     cases ho2
     have hm':=hmem o' (List.mem_of_getElem? ho1)
     have t3:=t2.trans s3
     exact ⟨_,rfl,wA,_,_,_,rfl,rfl,SqT.of (t3 _ _ w1),rfl,_,rfl,rA,_,_,_,rfl,rfl,SqL.of (t3 _ _ w3),at_ref g1,_,rfl,r,_,_,_,rfl,rfl,SqL.of (t3 _ _ g3),at_int hm'.1 (by rw [hlr]; exact hm'.2),rfl,rfl⟩
    ·exact ⟨D3,rfl,Same.upd hD3,hD3,upd_same⟩
    ·rintro σ H' Q1 Q2 hq ⟨v,x1,p1,x3,i1,z1,x4,x5,x6,x7,v3,x8,p2,y3,i2,z2,y4,y5,y6,y7,v4,y8,p3,u3,i3,z3,u4,u5,u6,u7,u8⟩
     exact ⟨v,x1,p1,x3,i1,z1,x4,x5,x6,x7,v3,x8,p2,y3,i2,z2,y4,y5,y6,y7,v4,y8,p3,u3,i3,z3,u4,u5,u6,u7,hq _ _ u8⟩
   ·intro rs1 H2 s2 eD R2 f2
    refine ⟨(by show 2≤sizeLine; decide),fun tA htA=>?_⟩
    have s3:Same H2 (L2.upd H2 tA (.tup [.ref D,.ref D2])):=Same.upd htA
    refine q tA _ ((s1.trans s2).trans s3) ⟨D,D2,rs1,upd_same,s3 _ _ (s2 _ _ e1),s3 _ _ eD,R2.keep fun r _ o z=>s3 r o z,?_,rows_out R2 htA,fun z=>?_,fun z=>(f2 _ z).2 rfl⟩
    ·intro a ha
     rcases List.mem_cons.mp ha with rfl | ha
     ·exact (s1.trans s2).free htA
     ·rcases List.mem_cons.mp ha with rfl | ha
      ·exact hD
      ·rcases List.mem_cons.mp ha with rfl | ha
       ·exact s1.free hD2
       ·exact s1.free (f2 a ha).1
    ·have:=(f2 _ z).1
     rw [e1] at this
     cases this
   ·rintro σ H' Q1 Q2 hq ⟨v,e,a,e2,e3,g⟩
    exact ⟨v,e,a,e2,e3,fun D hD=>let ⟨W,m0,st⟩:=g D hD; ⟨W,m0,fun i m ys H' hw=>let ⟨a1,a2⟩:=st i m ys H' hw; ⟨a1,a2.imp (fun ⟨b1,b2⟩=>⟨b1,hq _ _ b2⟩) id⟩⟩⟩
  ·rintro σ H' Q1 Q2 hq ⟨v,x1,p1,x3,i1,z1,x4,x5,x6,x7,v3,x8,p2,y3,i2,z2,y4,y5,y6,y7,y8⟩
   exact ⟨v,x1,p1,x3,i1,z1,x4,x5,x6,x7,v3,x8,p2,y3,i2,z2,y4,y5,y6,y7,hq _ _ y8⟩
theorem renM_ent (M:List (List Int)) (os:List Int) {n i j:Nat} (lo:os.length=n) (hi:i < n) (hj:j < n):ent (renM M os) i j=ent M (os.getD i 0).toNat (os.getD j 0).toNat:=by
 have gi:os[i]? = some (os.getD i 0):=by rw [List.getD_eq_getElem?_getD,List.getElem?_eq_getElem (by omega)]; rfl
 have gj:os[j]? = some (os.getD j 0):=by rw [List.getD_eq_getElem?_getD,List.getElem?_eq_getElem (by omega)]; rfl
 rw [←ent_getD (renM M os)]
 unfold renM
 rw [getD_some (xs:=os.map _) (by rw [List.getElem?_map,gi]; rfl)]
 unfold renH
 rw [getD_some (xs:=os.map _) (by rw [List.getElem?_map,gj]; rfl)]
 exact ent_getD M _ _
theorem Sq.ren {M:List (List Int)} {os:List Int} {n:Nat} (S:Sq n M) (hp:os.Perm (rI n)):Sq n (renM M os):=by
 have lo:os.length=n:=by rw [hp.length_eq,rI_len]
 have hm:∀ o ∈ os,0≤o∧o < (n:Int):=fun o h=>rI_mem.mp (hp.mem_iff.mp h)
 have gm:∀ i < n,(os.getD i 0).toNat < n:=fun i hi=>by
  have:os.getD i 0 ∈ os:=by
   rw [List.getD_eq_getElem?_getD,List.getElem?_eq_getElem (by omega)]
   exact List.getElem_mem _
  have:=hm _ this
  omega
 refine ⟨by unfold renM; rw [List.length_map,lo],fun i x hx=>?_,fun i j hi hj=>?_⟩
 ·obtain ⟨o,ho,rfl⟩:=map_get (show (os.map fun u=>renH (M.getD u.toNat []) os)[i]? = some x from hx)
  refine ⟨by unfold renH; rw [List.length_map,lo],fun z hz=>?_⟩
  obtain ⟨v,hv,rfl⟩:=List.mem_map.mp (show z ∈ os.map fun o'=>(M.getD o.toNat []).getD o'.toNat 0 from hz)
  have h1:=hm o (List.mem_of_getElem? ho)
  have h2:=hm v hv
  have hk:o.toNat < M.length:=by rw [S.len]; omega
  have hr:M[o.toNat]? = some M[o.toNat]:=List.getElem?_eq_getElem hk
  obtain ⟨l1,l2⟩:=S.row _ _ hr
  rw [getD_some hr,List.getD_eq_getElem?_getD,List.getElem?_eq_getElem (by rw [l1]; omega)]
  exact l2 _ (List.getElem_mem _)
 ·rw [renM_ent M os lo hi hj,renM_ent M os lo hj hi]
  exact S.sym _ _ (gm i hi) (gm j hj)
end
section
variable {P:Program} {w:World} {K:PySem.W.Frag} {mg:Str→Option Value} {base:Heap}
def Off (d:Addr) (H:Hp):Hp:=fun b=>if b=d then none else H b
theorem Off.get {d b:Addr} {H:Hp} {o:HO} (h:Off d H b=some o):b≠d∧H b=some o:=by
 unfold Off at h
 by_cases e:b=d
 ·rw [if_pos e] at h
  cases h
 ·rw [if_neg e] at h
  exact ⟨e,h⟩
theorem Off.mk {d b:Addr} {H:Hp} {o:HO} (n:b≠d) (h:H b=some o):Off d H b=some o:=by
 unfold Off
 rw [if_neg n]
 exact h
theorem But.off {d:Addr} {H H':Hp} (b:But d H H'):Same (Off d H) (Off d H'):=fun c o e=>Off.mk (Off.get e).1 (b c o (Off.get e).1 (Off.get e).2)
theorem Off.same (d:Addr) (H:Hp):Same (Off d H) H:=fun _ _ e=>(Off.get e).2
theorem But.rd {d:Addr} {H H':Hp} (b:But d H H'):Same (Off d H) H':=b.off.trans (Off.same d H')
theorem WebAt.off {H:Hp} {d p hA rA:Addr} {rs:List Addr} {n:Nat} {hs:List Int} {M:List (List Int)} (W:WebAt H p hA rA rs n hs M) (ne:∀ a ∈ p :: hA :: rA :: rs,a≠d):WR (Off d H) p hs M :=
 ⟨hA,rA,rs,Off.mk (ne p (by simp)) W.tup,Off.mk (ne hA (by simp)) W.hue,Off.mk (ne rA (by simp)) W.rws,W.row.keep fun r hr o e=>Off.mk (ne r (by simp [hr])) e⟩
theorem Drw.ne {H:Hp} {d a:Addr} {n:Nat} (D:Drw H d n) (h:H a=none):a≠d:=fun e=>by
 obtain ⟨_,_,_,e',_⟩:=D
 rw [e,e'] at h
 cases h
theorem But.old {d a:Addr} {H H':Hp} (b:But d H H') (n:a≠d) (h:H' a=none):H a=none:=by
 cases e:H a with
 | none=>rfl
 | some o=>rw [b a o n e] at h; cases h
theorem lc_rowsR {lo:Int} {m:Nat} {te:TE} {Q:Hp→Prop} {σ:L2.St} {H1:Hp} {D:Addr} (M:List (List Int)) (hlen:M.length=m) (hm:m≤900) (hD:H1 D=none)
  (hs:∀ (i:Nat) (row:List Int) (H':Hp),M[i]? = some row→Same H1 H'→te (σ++[some (.int (lo+(i:Nat)))]) H' fun v H3=>∃ r,v=.ref r∧Same H' H3∧H' r=none∧H3 r=some (.lst (row.map V.int)))
  (hd:∀ rs H',Same H1 H'→H' D=some (.lst (rs.map V.ref))→RowsAt H' rs M→(∀ r ∈ rs,H1 r=none∧r≠D)→Q H')
  (mono:∀ σ H Q Q',(∀ v H1,Q v H1→Q' v H1)→te σ H Q→te σ H Q') :
  ∃ W:Nat→Nat→List V→Hp→Prop,(∃ m,W 0 m [] (upd H1 D (.lst []))) ∧
   ∀ i m' ys H',W i m' ys H'→H' D=some (.lst ys)∧(((Itr lo m).stop i H'∧Q H') ∨ ((Itr lo m).go i H'∧∀ z H2,(Itr lo m).yld i H' z H2→te (σ++[some z]) H2 fun v H3=>H3 D=some (.lst ys)∧ys.length < sizeLine∧∃ m'',m'' < m'∧W (i+1) m'' (ys++[v]) (upd H3 D (.lst (ys++[v]))))):=by
 refine lc_range (fun i ys H'=>∃ rs':List Addr,ys=rs'.map V.ref∧rs'.length=i∧Same H1 H'∧H' D=some (.lst ys)∧RowsAt H' rs' (M.take i)∧∀ r ∈ rs',H1 r=none∧r≠D) ⟨[],rfl,rfl,Same.upd hD,upd_same,⟨rfl,(fun i r x h _=>by cases h),List.nodup_nil⟩,(fun r hr=>by cases hr)⟩ (fun i ys H' _ ⟨_,_,_,_,eD,_⟩=>eD) ?_ ?_ mono
 ·rintro i ys H4 hi' ⟨rs',rfl,l4,s4,eD,R4,o4⟩
  have hi:i < M.length:=by rw [hlen]; exact hi'
  have hrow:M[i]? = some M[i]:=List.getElem?_eq_getElem hi
  refine mono _ _ _ _ ?_ (hs i M[i] H4 hrow s4)
  rintro v H5 ⟨r,rfl,s5,hr,er⟩
  have nDr:r≠D:=(ne_of_none eD hr).symm
  have nR:=rows_out R4 hr
  have R5:RowsAt H5 (rs'++[r]) (M.take i++[M[i]]):=R4.snoc (fun r' _ o' z=>s5 r' o' z) er nR
  refine ⟨s5 _ _ eD,small1000 (by rw [List.length_map]; omega),rs'++[r],by rw [List.map_append]; rfl,by rw [List.length_append,l4]; rfl,(s4.trans s5).over hD,upd_same,?_,?_⟩
  ·rw [take_snoc hrow]
   refine R5.keep fun r' hr' o' e=>?_
   have:r'≠D:=by
    rcases List.mem_append.mp hr' with z | z
    ·exact (o4 r' z).2
    ·rw [List.mem_singleton.mp z]; exact nDr
   rw [upd_ne this]
   exact e
  ·intro r' hr'
   rcases List.mem_append.mp hr' with z | z
   ·exact o4 r' z
   ·rw [List.mem_singleton.mp z]
    exact ⟨s4.free hr,nDr⟩
 ·rintro ys H4 ⟨rs',rfl,l4,s4,eD,R4,o4⟩
  rw [←hlen,List.take_length] at R4
  exact hd rs' H4 s4 eD R4 o4
structure LS (H:Hp) (d D:Addr) (rs:List Addr) (m c:Nat) (H':Hp) (N:List (List Int)):Prop where
 but:But d H H'
 drw:Drw H' d c
 dd:H' D=some (.lst (rs.map V.ref))
 rows:RowsAt H' rs N
 len:N.length=m
 row:∀ (i:Nat) (x:List Int),N[i]? = some x→x.length=m∧∀ z ∈ x,z.natAbs≤wMax
 fr:∀ r ∈ rs,H r=none∧r≠d∧r≠D
theorem LS.put {H:Hp} {d D:Addr} {rs:List Addr} {m c:Nat} {H':Hp} {N:List (List Int)} (L:LS H d D rs m c H' N) {i:Nat} (j:Nat) {z:Int} (hi:i < m) (hz:z.natAbs≤wMax) :
  ∃ (r:Addr) (x:List Int),rs[i]? = some r∧H' r=some (.lst (x.map V.int))∧x.length=m∧LS H d D rs m c (upd H' r (.lst ((x.set j z).map V.int))) (put N i j z):=by
 obtain ⟨r,x,g1,g2,g3⟩:=L.rows.get (i:=i) (by rw [L.rows.len,L.len]; exact hi)
 have fr:=L.fr r (List.mem_of_getElem? g1)
 obtain ⟨l1,r1⟩:=put_row (i:=i) (j:=j) L.len hz L.row
 exact ⟨r,x,g1,g3,(L.row i x g2).1,L.but.updN fr.1,L.drw.updN fr.2.1,(upd_ne fr.2.2.symm).trans L.dd,L.rows.put g1 g2,l1,r1,L.fr⟩
theorem LS.mono {H:Hp} {d D:Addr} {rs:List Addr} {m c c':Nat} {H':Hp} {N:List (List Int)} (L:LS H d D rs m c H' N) (h:c≤c'):LS H d D rs m c' H' N:=⟨L.but,L.drw.mono h,L.dd,L.rows,L.len,L.row,L.fr⟩
theorem LS.take {H:Hp} {d D:Addr} {rs:List Addr} {m c c':Nat} {H' H2:Hp} {N:List (List Int)} (L:LS H d D rs m c H' N) (nD:D≠d) (b:But d H' H2) (D2:Drw H2 d c'):LS H d D rs m c' H2 N :=
 ⟨L.but.trans b,D2,b D _ nD L.dd,L.rows.keep fun r hr o z=>b r o (L.fr r hr).2.1 z,L.len,L.row,L.fr⟩
theorem Sq.put1 {n:Nat} {M:List (List Int)} (S:Sq n M) {i:Nat} {z:Int} (hi:i < n) (hz:z.natAbs≤wMax):Sq n (My.put M i i z):=by
 obtain ⟨l1,r1⟩:=put_row (i:=i) (j:=i) S.len hz S.row
 refine ⟨l1,r1,fun a b ha hb=>?_⟩
 have hr:=fun (i:Nat) (x:List Int) h=>(S.row i x h).1
 rw [ent_put _ n i i a b z S.len hr hi hi,ent_put _ n i i b a z S.len hr hi hi]
 by_cases h:a=i∧b=i
 ·rw [if_pos h,if_pos ⟨h.2,h.1⟩]
 ·rw [if_neg h,if_neg (fun q=>h ⟨q.2,q.1⟩)]
  exact S.sym a b ha hb
theorem Sq.bnd {n:Nat} {M:List (List Int)} (S:Sq n M) {i j:Nat} {x:List Int} (hx:M[i]? = some x) (hj:j < n):(x.getD j 0).natAbs≤wMax:=by
 obtain ⟨l1,l2⟩:=S.row i x hx
 rw [List.getD_eq_getElem?_getD,List.getElem?_eq_getElem (by rw [l1]; exact hj)]
 exact l2 _ (List.getElem_mem _)
def spLift:Sp:=fun vs H Q _=>∃ (d wA:Addr) (n k:Nat) (hs:List Int) (M:List (List Int)),vs=[.ref d,.ref wA]∧Drw H d n∧n≤800000∧WR (Off d H) wA hs M∧hs.length=k∧Sq k M∧k≤8 ∧
 ∀ (p:Addr) (H':Hp) (N:List (List Int)),But d H H'→Drw H' d (n+200)→p≠d→WR (Off d H') p (hs++hs) N→Sq (2 * k) N→Q (.ref p) H'
abbrev nLift:List Str:=["_law_draw","_law_web_here","_law_many","_law_rows","_law_u","_law_v","_law_bit","_law_side","_law_one","_law_other"]
theorem scLift:FnScope nLift ["_law_draw","_law_web_here"] (defScope sLift):=⟨rfl,rfl,rfl,by decide +kernel,rfl,by decide +kernel,by decide +kernel⟩
theorem lcLift:LcScopes (defScope sLift) nLift (lcScope (asgVal (bodyAt sLift 1))) ["_law_u"]:=⟨by decide +kernel,rfl,by decide +kernel,by decide +kernel,by decide +kernel,by decide +kernel,by decide +kernel,by decide +kernel,by decide +kernel,by decide +kernel⟩
theorem side_at {u k s:Nat} (hu:u < k) (hs:s < 2):∃ i:Nat,i < 2 * k∧(u:Int)+(k:Int) * (s:Int)=(i:Int):=by
 match s,hs with
 | 0,_=>exact ⟨u,by omega,by simp⟩
 | 1,_=>exact ⟨u+k,by omega,by simp⟩
theorem ok_lift {f fT:Addr} {fd fdT:FuncData} (B:BltT mg) (F:Fun K "_law_lift" "_law_lift" sLift f fd) (DT:Dn K mg "_law_take" sTake ["_law_draw","_law_most"] fT fdT) (GT:FnOk P w K mg base CX0 2 fT fdT ["_law_draw","_law_most"] spTake) :
  FnOk P w K mg base CX0 3 f fd ["_law_draw","_law_web_here"] spLift:=by
 refine F.ok scLift (fun vs H Q E h=>?_) (fun cdv A outer s H vs Q E hr h=>?_)
 ·obtain ⟨d,wA,n,k,hs,M,rfl,_⟩:=h
  rfl
 ·obtain ⟨d,wA,n,k,hs,M,rfl,hd,hn,W,hl,S,hk,q⟩:=h
  obtain ⟨hA,rA,ws,w1,w2,w3,R⟩:=W.ex
  refine ⟨_,pss_cons (ps_set (i:=2) scLift.nd rfl (Or.inr rfl) (pe_callB call_len_seq (by rfl) B.len PySem.boot_len (pa_cons (pe_ix ix_tup (pv 1) pe_int (fun _ _=>rfl)) pa_nil)))
   (pss_cons (ps_setLc1 (i:=3) scLift.nd rfl (Or.inl rfl) rfl lcLift rfl (pi_range1 rfl B.range (pa_cons (pe_op op_mul pe_int (pv 2)) pa_nil)) (fun _ _ _=>pe_op op_rep (pe_lst (pa_cons pe_int pa_nil)) (pe_op op_mul pe_int (pv 2))))
   (pss_cons (ps_for PassesOwn.never rfl (pi_range1 rfl B.range (pa_cons (pv 2) pa_nil)) (pg_name (i:=4) scLift.nd rfl (Or.inl rfl))
    (pss_cons (ps_for PassesOwn.never rfl (pi_range1 rfl B.range (pa_cons (pv 4) pa_nil)) (pg_name (i:=5) scLift.nd rfl (Or.inl rfl))
     (pss_cons (ps_set (i:=6) scLift.nd rfl (Or.inl rfl) (pe_fn DT GT (hr.mono (by decide)) rfl (pa_cons (pv 0) (pa_cons pe_int pa_nil))))
     (pss_one (ps_for PassesOwn.never rfl (pi_range1 rfl B.range (pa_cons pe_int pa_nil)) (pg_name (i:=7) scLift.nd rfl (Or.inl rfl))
      (pss_cons (ps_set (i:=8) scLift.nd rfl (Or.inl rfl) (pe_op op_add (pv 4) (pe_op op_mul (pv 2) (pv 7))))
      (pss_cons (ps_set (i:=9) scLift.nd rfl (Or.inl rfl) (pe_op op_add (pv 5) (pe_op op_mul (pv 2) (pe_op op_mod (pe_op op_add (pv 7) (pv 6)) pe_int))))
      (pss_cons (ps_asg (pe_ix ix_list (pe_ix ix_list (pe_ix ix_tup (pv 1) pe_int (fun _ _=>rfl)) (pv 4) (fun _ _=>rfl)) (pv 5) (fun _ _=>rfl)) (pg_sub (pe_ix ix_list (pv 3) (pv 8) (fun _ _=>rfl)) (pv 9) set_list))
      (pss_one (ps_asg (pe_ix ix_list (pe_ix ix_list (pe_ix ix_tup (pv 1) pe_int (fun _ _=>rfl)) (pv 4) (fun _ _=>rfl)) (pv 5) (fun _ _=>rfl)) (pg_sub (pe_ix ix_list (pv 3) (pv 9) (fun _ _=>rfl)) (pv 8) set_list))))))))))
    (pss_cons (ps_asg (pe_ix ix_list (pe_ix ix_list (pe_ix ix_tup (pv 1) pe_int (fun _ _=>rfl)) (pv 4) (fun _ _=>rfl)) (pv 4) (fun _ _=>rfl)) (pg_sub (pe_ix ix_list (pv 3) (pv 4) (fun _ _=>rfl)) (pv 4) set_list))
    (pss_one (ps_asg (pe_ix ix_list (pe_ix ix_list (pe_ix ix_tup (pv 1) pe_int (fun _ _=>rfl)) (pv 4) (fun _ _=>rfl)) (pv 4) (fun _ _=>rfl)) (pg_sub (pe_ix ix_list (pv 3) (pe_op op_add (pv 4) (pv 2)) (fun _ _=>rfl)) (pe_op op_add (pv 4) (pv 2)) set_list))))))
   (pss_one (ps_ret (pe_tup (pa_cons (pe_op op_cat (pe_ix ix_tup (pv 1) pe_int (fun _ _=>rfl)) (pe_ix ix_tup (pv 1) pe_int (fun _ _=>rfl))) (pa_cons (pv 3) pa_nil))))))),?_⟩
  have o0:=Off.same d H
  refine ⟨_,rfl,wA,_,_,_,rfl,rfl,SqT.of (o0 _ _ w1),rfl,hA,_,rfl,.inl (SqL.of (o0 _ _ w2)),?_⟩
  rw [List.length_map,hl]
  have e2k:(2:Int) * (k:Int)=((2 * k:Nat):Int):=by omega
  refine ⟨_,rfl,_,_,rfl,rfl,cmul_l (by decide) (by decide),_,rfl,by omega,by omega,fun D hD=>?_⟩
  have et:((2:Int) * (k:Int)).toNat=2 * k:=by omega
  rw [et]
  refine lc_rowsR (List.replicate (2 * k) (List.replicate (2 * k) 0)) List.length_replicate (by omega) hD ?_ ?_ ?_
  ·intro i row H2 hrow s2
   rw [List.getElem?_replicate] at hrow
   have er:row=List.replicate (2 * k) 0:=by
    split at hrow
    ·exact (Option.some.inj hrow).symm
    ·cases hrow
   refine ⟨(by show 1≤sizeLine; decide),fun l1 hl1=>⟨_,rfl,_,_,rfl,rfl,cmul_l (by decide) (by decide),l1,_,_,rfl,rfl,upd_same,by omega,by omega,Nat.le_of_lt (small1000 (by rw [et]; show 1 * (2 * k)≤1000; omega)),fun l2 hl2=>⟨l2,rfl,(Same.upd hl1).trans (Same.upd hl2),(Same.upd hl1).free hl2,?_⟩⟩⟩
   rw [upd_same,et,zeros_map,er]
  ·intro rs H2 s2 eD R2 f2
   have nDd:D≠d:=hd.ne hD
   have bs:But d H H2:=fun c o _ z=>s2 c o z
   have d2:Drw H2 d n:=by
    obtain ⟨a,b,c,e,r⟩:=hd
    exact ⟨a,b,c,s2 _ _ e,r⟩
   have L0:LS H d D rs (2 * k) n H2 (List.replicate (2 * k) (List.replicate (2 * k) 0)) :=
    ⟨bs,d2,eD,R2,(sq_zero (2 * k)).len,(sq_zero (2 * k)).row,fun r hr=>⟨(f2 r hr).1,hd.ne (f2 r hr).1,(f2 r hr).2⟩⟩
   have lz:∀ {H':Hp},But d H H'→∀ {u:Nat},u < k→∃ ru xu,ws[u]? = some ru∧M[u]? = some xu∧H' ru=some (.lst (xu.map V.int))∧xu.length=k:=fun {H'} b {u} hu=>by
    obtain ⟨ru,xu,g1,g2,g3⟩:=R.get (i:=u) (by rw [R.len,S.len]; exact hu)
    exact ⟨ru,xu,g1,g2,b.rd _ _ g3,(S.row u xu g2).1⟩
   refine ⟨_,rfl,(k:Int),rfl,by omega,by omega,for_range (n:=k) (fun u σ H'=>∃ (o4 o5 o6 o7 o8 o9:Option V) (N:List (List Int)),σ=[some (.ref d),some (.ref wA),some (.int (k:Int)),some (.ref D),o4,o5,o6,o7,o8,o9]∧LS H d D rs (2 * k) (n+16 * u) H' N∧Sq (2 * k) N) ⟨none,none,none,none,none,none,_,rfl,L0,sq_zero _⟩ ?_ ?_⟩
   ·rintro u σ H3 hu ⟨o4,o5,o6,o7,o8,o9,N,rfl,L3,S3⟩
    rw [Int.zero_add]
    refine ⟨_,rfl,(u:Int),rfl,by omega,by omega,for_range (n:=u) (fun v σ H'=>∃ (o5 o6 o7 o8 o9:Option V) (N:List (List Int)),σ=[some (.ref d),some (.ref wA),some (.int (k:Int)),some (.ref D),some (.int (u:Int)),o5,o6,o7,o8,o9]∧LS H d D rs (2 * k) (n+16 * u+2 * v) H' N∧Sq (2 * k) N) ⟨_,_,_,_,_,N,rfl,L3,S3⟩ ?_ ?_⟩
    ·rintro v σ H4 hv ⟨o5,o6,o7,o8,o9,N,rfl,L4,S4⟩
     rw [Int.zero_add]
     refine ⟨_,rfl,d,2,n+16 * u+2 * v,rfl,by decide,by decide,L4.drw,by omega,fun b H5 b0 b1 hB5 hD5=>?_⟩
     have L5:=L4.take nDd hB5 hD5
     obtain ⟨b,rfl⟩:=Int.eq_ofNat_of_zero_le b0
     refine ⟨2,rfl,by decide,by decide,for_range (n:=2) (fun s σ H'=>∃ (o7 o8 o9:Option V) (N:List (List Int)),σ=[some (.ref d),some (.ref wA),some (.int (k:Int)),some (.ref D),some (.int (u:Int)),some (.int (v:Int)),some (.int (b:Int)),o7,o8,o9]∧LS H d D rs (2 * k) (n+16 * u+2 * v+2) H' N∧Sq (2 * k) N) ⟨_,_,_,N,rfl,L5,S4⟩ ?_ ?_⟩
     ·rintro s σ H6 hs2 ⟨o7,o8,o9,N,rfl,L6,S6⟩
      rw [Int.zero_add]
      refine ⟨_,rfl,_,rfl,_,rfl,_,_,rfl,rfl,cmul_l (by omega) (by omega),_,_,rfl,rfl,?_⟩
      obtain ⟨i,hi,ei⟩:=side_at hu hs2
      show gName 8 (.int ((u:Int)+(k:Int) * (s:Int))) _ _ _
      rw [ei]
      refine ⟨_,rfl,_,rfl,_,rfl,_,rfl,_,_,rfl,rfl,_,_,rfl,rfl,(by show (0:Int) < 2; decide),_,_,rfl,rfl,cmul_l (by omega) (by omega),_,_,rfl,rfl,?_⟩
      obtain ⟨t,ht,et2⟩:∃ t:Nat,t < 2∧((s:Int)+(b:Int)) % 2=(t:Int):=⟨(((s:Int)+(b:Int)) % 2).toNat,by omega,by omega⟩
      obtain ⟨j,hj,ej⟩:=side_at (u:=v) (k:=k) (by omega) ht
      show gName 9 (.int ((v:Int)+(k:Int) * (((s:Int)+(b:Int)) % 2))) _ _ _
      rw [et2,ej]
      obtain ⟨ru,xu,g1,g2,g3,g4⟩:=lz L6.but hu
      have hz:=S.bnd g2 (j:=v) (by omega)
      obtain ⟨r1,x1,p1,p2,p3,L7⟩:=L6.put j hi hz
      refine ⟨_,rfl,wA,_,_,_,rfl,rfl,SqT.of (L6.but.rd _ _ w1),rfl,_,rfl,rA,_,_,_,rfl,rfl,SqL.of (L6.but.rd _ _ w3),at_ref g1,_,rfl,ru,_,_,_,rfl,rfl,SqL.of g3,at_intN (by omega),?_⟩
      refine ⟨_,rfl,_,rfl,D,_,_,_,rfl,rfl,SqL.of L6.dd,at_ref p1,_,rfl,r1,_,_,j,rfl,rfl,p2,by rw [List.length_map]; exact ixN_nat (by omega),?_⟩
      rw [←List.map_set]
      generalize upd H6 r1 (.lst ((x1.set j (xu.getD v 0)).map V.int))=H7 at L7 ⊢
      obtain ⟨ru',xu',g1',g2',g3',g4'⟩:=lz L7.but hu
      rw [g2] at g2'
      cases g2'
      obtain ⟨r2,x2,p1',p2',p3',L8⟩:=L7.put i hj hz
      refine ⟨_,rfl,wA,_,_,_,rfl,rfl,SqT.of (L7.but.rd _ _ w1),rfl,_,rfl,rA,_,_,_,rfl,rfl,SqL.of (L7.but.rd _ _ w3),at_ref g1',_,rfl,ru',_,_,_,rfl,rfl,SqL.of g3',at_intN (by omega),?_⟩
      refine ⟨_,rfl,_,rfl,D,_,_,_,rfl,rfl,SqL.of L7.dd,at_ref p1',_,rfl,r2,_,_,i,rfl,rfl,p2',by rw [List.length_map]; exact ixN_nat (by omega),?_⟩
      rw [←List.map_set]
      exact ⟨_,_,_,_,rfl,L8,S6.put hi hj hz⟩
     ·rintro σ H6 ⟨o7,o8,o9,N,rfl,L6,S6⟩
      exact ⟨_,_,_,_,_,N,rfl,L6.mono (by omega),S6⟩
    ·rintro σ H4 ⟨o5,o6,o7,o8,o9,N,rfl,L4,S4⟩
     obtain ⟨ru,xu,g1,g2,g3,g4⟩:=lz L4.but hu
     have hz:=S.bnd g2 (j:=u) (by omega)
     obtain ⟨r1,x1,p1,p2,p3,L5⟩:=L4.put u (i:=u) (by omega) hz
     refine ⟨_,rfl,wA,_,_,_,rfl,rfl,SqT.of (L4.but.rd _ _ w1),rfl,_,rfl,rA,_,_,_,rfl,rfl,SqL.of (L4.but.rd _ _ w3),at_ref g1,_,rfl,ru,_,_,_,rfl,rfl,SqL.of g3,at_intN (by omega),?_⟩
     refine ⟨_,rfl,_,rfl,D,_,_,_,rfl,rfl,SqL.of L4.dd,at_ref p1,_,rfl,r1,_,_,u,rfl,rfl,p2,by rw [List.length_map]; exact ixN_nat (by omega),?_⟩
     rw [←List.map_set]
     generalize upd H4 r1 (.lst ((x1.set u (xu.getD u 0)).map V.int))=H5 at L5 ⊢
     obtain ⟨ru',xu',g1',g2',g3',g4'⟩:=lz L5.but hu
     rw [g2] at g2'
     cases g2'
     obtain ⟨r2,x2,p1',p2',p3',L6⟩:=L5.put (u+k) (i:=u+k) (by omega) hz
     refine ⟨_,rfl,wA,_,_,_,rfl,rfl,SqT.of (L5.but.rd _ _ w1),rfl,_,rfl,rA,_,_,_,rfl,rfl,SqL.of (L5.but.rd _ _ w3),at_ref g1',_,rfl,ru',_,_,_,rfl,rfl,SqL.of g3',at_intN (by omega),?_⟩
     have euk:(u:Int)+(k:Int)=((u+k:Nat):Int):=by omega
     refine ⟨_,rfl,_,rfl,_,rfl,_,_,rfl,rfl,D,_,_,_,rfl,rfl,SqL.of L5.dd,by rw [euk]; exact at_ref p1',_,rfl,_,rfl,_,_,rfl,rfl,r2,_,_,u+k,rfl,rfl,p2',by rw [List.length_map,euk]; exact ixN_nat (by omega),?_⟩
     rw [←List.map_set]
     exact ⟨_,_,_,_,_,_,_,rfl,L6.mono (by omega),(S4.put1 (by omega) hz).put1 (by omega) hz⟩
   ·rintro σ H3 ⟨o4,o5,o6,o7,o8,o9,N,rfl,L3,S3⟩
    have h3:=L3.but.rd
    refine ⟨_,rfl,wA,_,_,_,rfl,rfl,SqT.of (h3 _ _ w1),rfl,_,rfl,wA,_,_,_,rfl,rfl,SqT.of (h3 _ _ w1),rfl,hA,hA,_,_,rfl,rfl,h3 _ _ w2,h3 _ _ w2,Nat.le_of_lt (small1000 (by rw [List.length_map]; omega)),fun pA hpA=>⟨_,rfl,(by show 2≤sizeLine; decide),fun tA htA=>?_⟩⟩
    have pd:=L3.drw.ne hpA
    have td:=(L3.drw.new (o:=.lst (hs.map V.int++hs.map V.int)) hpA).ne htA
    have s4:Same H3 (L2.upd (L2.upd H3 pA (.lst (hs.map V.int++hs.map V.int))) tA (.tup [.ref pA,.ref D])):=(Same.upd hpA).trans (Same.upd htA)
    have npt:pA≠tA:=ne_of_none upd_same htA
    refine q tA _ N (L3.but.trans ((But.new hpA).trans (But.new htA))) (((L3.drw.new hpA).new htA).mono (by omega)) td ?_ S3
    exact ⟨pA,D,rs,Off.mk td upd_same,Off.mk pd (by rw [upd_ne npt,upd_same,List.map_append]),Off.mk nDd (s4 _ _ L3.dd),L3.rows.keep fun r hr o z=>Off.mk (L3.fr r hr).2.1 (s4 _ _ z)⟩
  ·rintro σ H' Q1 Q2 hq ⟨sz,fn⟩
   exact ⟨sz,fun l1 h1=>let ⟨v,e,i,j,a1,a2,a3,l,k',xs,b1,b2,b3,b4,b5,b6,g⟩:=fn l1 h1; ⟨v,e,i,j,a1,a2,a3,l,k',xs,b1,b2,b3,b4,b5,b6,fun p hp=>hq _ _ (g p hp)⟩⟩
end
section
variable {P:Program} {w:World} {K:PySem.W.Frag} {mg:Str→Option Value} {base:Heap}
def tMid (t u:TS):TS:=fun D σ H=>∃ J:L2.St→Hp→Prop,t { D with nx:=J } σ H∧∀ σ' H',J σ' H'→u D σ' H'
theorem pss_mid {X:Cx} {st:Stmt} {rest:List Stmt} {t u:TS} (h1:PS X st t) (h2:PSs X rest u):PSs X (st :: rest) (tMid t u):=by
 intro pins s σ H D I h
 obtain ⟨J,h,k⟩:=h
 refine wpAny_execs_cons (thn (h1 pins s σ H { D with nx:=J } I h) fun f s1 q=>?_)
 cases f with
 | next =>
  obtain ⟨σ',H',I',q⟩:=q
  exact h2 pins s1 σ' H' D I' (k σ' H' q)
 | ret v=>exact q
 | brk=>exact q
 | cont=>exact q
def spSecond:Sp:=fun vs H Q _=>∃ (d wA:Addr) (m:Int) (n k:Nat) (hs:List Int) (M:List (List Int)),vs=[.ref d,.ref wA,.int m]∧0≤m∧m≤8∧Drw H d n∧n≤700000∧WR (Off d H) wA hs M∧hs.length=k∧Sq k M∧(k:Int)≤m ∧
 ∀ (p:Addr) (H':Hp) (k':Nat) (hs':List Int) (M':List (List Int)),But d H H'→Drw H' d (n+300)→p≠d→WR (Off d H') p hs' M'→hs'.length=k'→Sq k' M'→(k':Int)≤m→Q (.ref p) H'
abbrev nSecond:List Str:=["_law_draw","_law_web_here","_law_most","_law_way","_law_other","_law_u","_law_v","_law_weight_here"]
theorem scSecond:FnScope nSecond ["_law_draw","_law_web_here","_law_most"] (defScope sSecond):=⟨rfl,rfl,rfl,by decide +kernel,rfl,by decide +kernel,by decide +kernel⟩
theorem step_bnd {z:Int} (h:z.natAbs≤wMax):(z+(if decide ((0:Int) < z)=true then -1 else 1)).natAbs≤wMax:=by
 have:1≤wMax:=by unfold wMax; decide
 by_cases e:(0:Int) < z
 ·rw [decide_eq_true e,if_pos rfl]
  omega
 ·rw [decide_eq_false e,if_neg Bool.false_ne_true]
  omega
theorem pick2 (b:Bool):atI [V.int 1,V.int (-1)] (if b=true then 1 else 0:Int)=some (.int (if b=true then -1 else 1)):=by
 cases b <;> rfl
theorem ok_second {f fT fO fR fW:Addr} {fd fdT fdO fdR fdW:FuncData} (B:BltT mg) (F:Fun K "_law_second" "_law_second" sSecond f fd)
  (DT:Dn K mg "_law_take" sTake ["_law_draw","_law_most"] fT fdT) (GT:FnOk P w K mg base CX0 2 fT fdT ["_law_draw","_law_most"] spTake)
  (DO:Dn K mg "_law_order" sOrder ["_law_draw","_law_many"] fO fdO) (GO:FnOk P w K mg base CX0 3 fO fdO ["_law_draw","_law_many"] spOrder)
  (DR:Dn K mg "_law_renamed" sRenamed ["_law_web_here","_law_order_here"] fR fdR) (GR:FnOk P w K mg base CX0 1 fR fdR ["_law_web_here","_law_order_here"] spLRen)
  (DW:Dn K mg "_law_web" sWeb ["_law_draw","_law_most"] fW fdW) (GW:FnOk P w K mg base CX0 4 fW fdW ["_law_draw","_law_most"] spWeb) :
  FnOk P w K mg base CX0 5 f fd ["_law_draw","_law_web_here","_law_most"] spSecond:=by
 refine F.ok scSecond (fun vs H Q E h=>?_) (fun cdv A outer s H vs Q E hr h=>?_)
 ·obtain ⟨d,wA,m,n,k,hs,M,rfl,_⟩:=h
  rfl
 ·obtain ⟨d,wA,m,n,k,hs,M,rfl,hm0,hm8,hd,hn,W,hl,S,hk,q⟩:=h
  obtain ⟨hA,rA,ws,w1,w2,w3,R⟩:=W.ex
  have r2:=hr.mono (j:=2) (by decide)
  refine ⟨_,pss_cons (ps_set (i:=3) scSecond.nd rfl (Or.inl rfl) (pe_fn DT GT r2 rfl (pa_cons (pv 0) (pa_cons pe_int pa_nil))))
   (pss_cons (ps_set (i:=4) scSecond.nd rfl (Or.inl rfl) (pe_fn DR GR (hr.mono (by decide)) rfl (pa_cons (pv 1) (pa_cons (pe_fn DO GO (hr.mono (by decide)) rfl (pa_cons (pv 0) (pa_cons (pe_callB call_len_seq (by rfl) B.len PySem.boot_len (pa_cons (pe_ix ix_tup (pv 1) pe_int (fun _ _=>rfl)) pa_nil)) pa_nil))) pa_nil))))
   (pss_mid (ps_if (PW.pt (pw_and (pt_cmpR op_eq (pv 3) pe_int (nomark _)) (pw_and1 (pt_cmpR (op_neD hr.units) (pe_ix ix_tup (pv 1) pe_int (fun _ _=>rfl)) (pe_lst pa_nil) (nomark _)))))
    (pss_cons (ps_set (i:=5) scSecond.nd rfl (Or.inl rfl) (pe_fn DT GT r2 rfl (pa_cons (pv 0) (pa_cons (pe_callB call_len_seq (by rfl) B.len PySem.boot_len (pa_cons (pe_ix ix_tup (pv 1) pe_int (fun _ _=>rfl)) pa_nil)) pa_nil))))
    (pss_cons (ps_set (i:=6) scSecond.nd rfl (Or.inl rfl) (pe_fn DT GT r2 rfl (pa_cons (pv 0) (pa_cons (pe_callB call_len_seq (by rfl) B.len PySem.boot_len (pa_cons (pe_ix ix_tup (pv 1) pe_int (fun _ _=>rfl)) pa_nil)) pa_nil))))
    (pss_cons (ps_set (i:=7) scSecond.nd rfl (Or.inl rfl) (pe_op op_add (pe_ix ix_list (pe_ix ix_list (pe_ix ix_tup (pv 4) pe_int (fun _ _=>rfl)) (pv 5) (fun _ _=>rfl)) (pv 6) (fun _ _=>rfl)) (pe_ix ix_list (pe_lst (pa_cons pe_int (pa_cons (pe_un un_neg pe_int) pa_nil)))
     (pe_callTy call_int1 (by rfl) B.int boot_int (pa_cons (pe_cmpR op_gt (pe_ix ix_list (pe_ix ix_list (pe_ix ix_tup (pv 4) pe_int (fun _ _=>rfl)) (pv 5) (fun _ _=>rfl)) (pv 6) (fun _ _=>rfl)) pe_int (nomark _)) pa_nil)) (fun _ _=>rfl))))
    (pss_cons (ps_asg (pv 7) (pg_sub (pe_ix ix_list (pe_ix ix_tup (pv 4) pe_int (fun _ _=>rfl)) (pv 5) (fun _ _=>rfl)) (pv 6) set_list))
    (pss_one (ps_asg (pv 7) (pg_sub (pe_ix ix_list (pe_ix ix_tup (pv 4) pe_int (fun _ _=>rfl)) (pv 6) (fun _ _=>rfl)) (pv 5) set_list)))))))
    pss_nil)
   (pss_cons (ps_if (pt_cmpR op_eq (pv 3) pe_int (nomark _)) (pss_one (ps_ret (pe_fn DW GW (hr.mono (by decide)) rfl (pa_cons (pv 0) (pa_cons (pv 2) pa_nil))))) pss_nil)
   (pss_one (ps_ret (pv 4)))))),?_⟩
  refine ⟨_,rfl,d,4,n,rfl,by decide,by decide,hd,by omega,fun y H1 y0 y1 b1 d1=>?_⟩
  have h1:=b1.rd
  refine ⟨_,rfl,_,rfl,_,rfl,wA,_,_,_,rfl,rfl,SqT.of (h1 _ _ w1),rfl,hA,_,rfl,.inl (SqL.of (h1 _ _ w2)),d,k,n+2,(by rw [List.length_map,hl]; rfl),by omega,d1,by omega,fun oA H2 os b2 d2 oA1 oAd eo pm=>?_⟩
  have b12:=b1.trans b2
  refine ⟨wA,oA,k,hs,M,os,rfl,W.mono b12.rd,hl,S,by omega,eo,pm,fun p H3 s3 WNw=>?_⟩
  obtain ⟨hA',rA',rs,v1,v2,v3,R3,fr,np,nh,nr⟩:=WNw.ex
  have d3:Drw H3 d (n+2+20):=by
   obtain ⟨a,b,c,e,r⟩:=d2
   exact ⟨a,b,c,s3 _ _ e,r⟩
  have b3:But d H H3:=fun c o nc z=>s3 c o (b12 c o nc z)
  have S3:Sq k (renM M os):=S.ren pm
  have lren:(renH hs os).length=k:=by unfold renH; rw [List.length_map,pm.length_eq,rI_len]
  have L3:LS H d rA' rs k (n+22) H3 (renM M os):=⟨b3,d3,v3,R3,S3.len,S3.row,fun r hr'=>by
   have f:=fr r (by simp [hr'])
   exact ⟨b12.old (d2.ne f) f,d2.ne f,fun e=>nr (e ▸ hr')⟩⟩
  have pd:p≠d:=d2.ne (fr p (by simp))
  have hd':hA'≠d:=d2.ne (fr hA' (by simp))
  have rd':rA'≠d:=d2.ne (fr rA' (by simp))
  refine ⟨fun σ H'=>∃ (o5 o6 o7:Option V) (N:List (List Int)),σ=[some (.ref d),some (.ref wA),some (.int m),some (.int y),some (.ref p),o5,o6,o7]∧But d H H'∧Drw H' d (n+30)∧WR (Off d H') p (renH hs os) N∧Sq k N,?_,?_⟩
  ·have keep:∃ (o5 o6 o7:Option V) (N:List (List Int)),([some (.ref d),some (.ref wA),some (.int m),some (.int y),some (.ref p),none,none,none]:L2.St)=[some (.ref d),some (.ref wA),some (.int m),some (.int y),some (.ref p),o5,o6,o7]∧But d H H3∧Drw H3 d (n+30)∧WR (Off d H3) p (renH hs os) N∧Sq k N :=
    ⟨_,_,_,renM M os,rfl,b3,d3.mono (by omega),⟨hA',rA',rs,Off.mk pd v1,Off.mk hd' v2,Off.mk rd' v3,R3.keep fun r hr' o z=>Off.mk (L3.fr r hr').2.1 z⟩,S3⟩
   refine ⟨_,rfl,rfl,_,rfl,?_⟩
   by_cases ey:y=1
   ·refine itDP (by rw [ey]) ?_
    have t3:=b3.rd
    refine ⟨_,rfl,wA,_,_,_,rfl,rfl,SqT.of (t3 _ _ w1),rfl,Nat.zero_le _,fun l hl'=>?_⟩
    have s4:Same H3 (L2.upd H3 l (.lst [])):=Same.upd hl'
    have e4:L2.upd H3 l (.lst []) l=some (.lst (([]:List Int).map V.int)):=upd_same
    have L4:LS H d rA' rs k (n+22) (L2.upd H3 l (.lst [])) (renM M os):=⟨b3.trans (But.new hl'),d3.new hl',s4 _ _ v3,R3.keep fun r _ o z=>s4 r o z,S3.len,S3.row,L3.fr⟩
    generalize L2.upd H3 l (.lst [])=H4 at s4 e4 L4 ⊢
    have t4:=L4.but.rd
    refine ⟨dI hs,dI [],daI trivial (SqL.of (t4 _ _ w2)),daI trivial (SqL.of e4),⟨(lay_dI _).1,(lay_dI _).1,Nat.le_trans (lay_dI _).2 (by decide)⟩,_,rfl,?_⟩
    rw [eqv_dI]
    by_cases eh:hs=[]
    ·refine iteNS eh ?_
     exact ⟨_,_,_,renM M os,rfl,L4.but,L4.drw.mono (by omega),⟨hA',rA',rs,Off.mk pd (s4 _ _ v1),Off.mk hd' (s4 _ _ v2),Off.mk rd' L4.dd,L4.rows.keep fun r hr' o z=>Off.mk (L3.fr r hr').2.1 z⟩,S3⟩
    ·refine iteNP eh ?_
     have kpos:0 < k:=by
      rw [←hl]
      exact List.length_pos_iff.mpr eh
     refine ⟨_,rfl,_,rfl,wA,_,_,_,rfl,rfl,SqT.of (t4 _ _ w1),rfl,hA,_,rfl,.inl (SqL.of (t4 _ _ w2)),d,(k:Int),n+22,(by rw [List.length_map,hl]; rfl),by omega,by omega,L4.drw,by omega,fun u H5 u0 u1 b5 d5=>?_⟩
     have L5:=L4.take rd' b5 d5
     obtain ⟨u,rfl⟩:=Int.eq_ofNat_of_zero_le u0
     have t5:=L5.but.rd
     refine ⟨_,rfl,_,rfl,wA,_,_,_,rfl,rfl,SqT.of (t5 _ _ w1),rfl,hA,_,rfl,.inl (SqL.of (t5 _ _ w2)),d,(k:Int),n+24,(by rw [List.length_map,hl]; rfl),by omega,by omega,L5.drw,by omega,fun v H6 v0 v1' b6 d6=>?_⟩
     have L6:=L5.take rd' b6 d6
     obtain ⟨v,rfl⟩:=Int.eq_ofNat_of_zero_le v0
     have p6:H6 p=some (.tup [.ref hA',.ref rA']):=b6 p _ pd (b5 p _ pd (s4 _ _ v1))
     have h6:H6 hA'=some (.lst ((renH hs os).map V.int)):=b6 hA' _ hd' (b5 hA' _ hd' (s4 _ _ v2))
     obtain ⟨ru,xu,g1,g2,g3⟩:=L6.rows.get (i:=u) (by rw [L6.rows.len,L6.len]; omega)
     have lxu:=(S3.row u xu g2).1
     have hz:=S3.bnd g2 (j:=v) (by omega)
     refine ⟨_,rfl,p,_,_,_,rfl,rfl,SqT.of p6,rfl,_,rfl,rA',_,_,_,rfl,rfl,SqL.of L6.dd,at_ref g1,_,rfl,ru,_,_,_,rfl,rfl,SqL.of g3,at_intN (by omega),_,rfl,(by show 2≤sizeLine; decide),fun l2 hl2=>?_⟩
     have s7:Same H6 (L2.upd H6 l2 (.lst [.int 1,.int (-1)])):=Same.upd hl2
     have e7:L2.upd H6 l2 (.lst [.int 1,.int (-1)]) l2=some (.lst [.int 1,.int (-1)]):=upd_same
     have L7:LS H d rA' rs k (n+26) (L2.upd H6 l2 (.lst [.int 1,.int (-1)])) (renM M os):=⟨L6.but.trans (But.new hl2),L6.drw.new hl2,s7 _ _ L6.dd,L6.rows.keep fun r _ o z=>s7 r o z,L6.len,L6.row,L6.fr⟩
     generalize L2.upd H6 l2 (.lst [.int 1,.int (-1)])=H7 at s7 e7 L7 ⊢
     refine ⟨_,rfl,p,_,_,_,rfl,rfl,SqT.of (s7 _ _ p6),rfl,_,rfl,rA',_,_,_,rfl,rfl,SqL.of L7.dd,at_ref g1,_,rfl,ru,_,_,_,rfl,rfl,SqL.of (s7 _ _ g3),at_intN (by omega),_,_,rfl,rfl,.inr ⟨_,rfl,l2,_,_,_,rfl,rfl,SqL.of e7,pick2 _,_,_,rfl,rfl,?_⟩⟩
     have hz':=step_bnd hz
     show gName 7 (.int (xu.getD v 0+(if decide ((0:Int) < xu.getD v 0)=true then -1 else 1))) _ _ _
     generalize xu.getD v 0+(if decide ((0:Int) < xu.getD v 0)=true then -1 else 1)=z at hz' ⊢
     obtain ⟨r1,x1,p1,p2,p3,L8⟩:=L7.put (i:=u) v (by omega) hz'
     refine ⟨_,rfl,_,rfl,p,_,_,_,rfl,rfl,SqT.of (s7 _ _ p6),rfl,_,rfl,rA',_,_,_,rfl,rfl,SqL.of L7.dd,at_ref p1,_,rfl,r1,_,_,v,rfl,rfl,p2,by rw [List.length_map]; exact ixN_nat (by omega),?_⟩
     rw [←List.map_set]
     have m1:=List.mem_of_getElem? p1
     have np1:p≠r1:=fun e=>np (e ▸ m1)
     have nh1:hA'≠r1:=fun e=>nh (e ▸ m1)
     have p8:upd H7 r1 (.lst ((x1.set v z).map V.int)) p=_:=(upd_ne np1).trans (s7 _ _ p6)
     have h8:upd H7 r1 (.lst ((x1.set v z).map V.int)) hA'=_:=(upd_ne nh1).trans (s7 _ _ h6)
     generalize upd H7 r1 (.lst ((x1.set v z).map V.int))=H8 at L8 p8 h8 ⊢
     obtain ⟨r2',x2,p1',p2',p3',L9⟩:=L8.put (i:=v) u (by omega) hz'
     refine ⟨_,rfl,_,rfl,p,_,_,_,rfl,rfl,SqT.of p8,rfl,_,rfl,rA',_,_,_,rfl,rfl,SqL.of L8.dd,at_ref p1',_,rfl,r2',_,_,u,rfl,rfl,p2',by rw [List.length_map]; exact ixN_nat (by omega),?_⟩
     rw [←List.map_set]
     have m2:=List.mem_of_getElem? p1'
     have np2:p≠r2':=fun e=>np (e ▸ m2)
     have nh2:hA'≠r2':=fun e=>nh (e ▸ m2)
     exact ⟨_,_,_,_,rfl,L9.but,L9.drw.mono (by omega),⟨hA',rA',rs,Off.mk pd ((upd_ne np2).trans p8),Off.mk hd' ((upd_ne nh2).trans h8),Off.mk rd' L9.dd,L9.rows.keep fun r hr' o z=>Off.mk (L3.fr r hr').2.1 z⟩,S3.put (by omega) (by omega) hz'⟩
   ·refine itDN (fun z=>ey (V.int.inj z)) (iteF ?_)
    exact keep
  ·rintro σ H4 ⟨o5,o6,o7,N,rfl,b4,d4,W4,S4⟩
   refine ⟨_,rfl,rfl,_,rfl,?_⟩
   refine ite2 (fun _=>?_) (fun _=>?_)
   ·refine ⟨_,rfl,_,rfl,d,m,n+30,rfl,hm0,hm8,d4,by omega,fun H5 p5 hA5 rA5 rs5 k5 hs5 M5 hk5 b5 d5 W5 f5 _ _ _=>?_⟩
    exact q p5 H5 k5 hs5 M5 (b4.trans b5) (d5.mono (by omega)) (f5 p5 (by simp)).2 (W5.off fun a ha=>(f5 a ha).2) W5.len W5.sq hk5
   ·exact ⟨_,rfl,q p H4 k _ N b4 (d4.mono (by omega)) pd W4 lren S4 hk⟩
def spBoth:Sp:=fun vs H Q _=>∃ (d:Addr) (n:Nat),vs=[.ref d,.int 5]∧Drw H d n∧n≤500000 ∧
 ∀ (t p p':Addr) (H':Hp) (k k':Nat) (hs hs':List Int) (M M':List (List Int)),But d H H'→Drw H' d (n+800)→H' t=some (.tup [.ref p,.ref p'])→WR (Off d H') p hs M→WR (Off d H') p' hs' M'→hs.length=k→hs'.length=k'→Sq k M→Sq k' M'→k≤5→k'≤5→Q (.ref t) H'
abbrev nBoth:List Str:=["_law_draw","_law_most","_law_web_here"]
theorem scBoth:FnScope nBoth ["_law_draw","_law_most"] (defScope sBoth):=⟨rfl,rfl,rfl,by decide +kernel,rfl,by decide +kernel,by decide +kernel⟩
theorem ok_both {f fT fL fS fW:Addr} {fd fdT fdL fdS fdW:FuncData} (F:Fun K "_law_both" "_law_both" sBoth f fd)
  (DT:Dn K mg "_law_take" sTake ["_law_draw","_law_most"] fT fdT) (GT:FnOk P w K mg base CX0 2 fT fdT ["_law_draw","_law_most"] spTake)
  (DL:Dn K mg "_law_lift" sLift ["_law_draw","_law_web_here"] fL fdL) (GL:FnOk P w K mg base CX0 3 fL fdL ["_law_draw","_law_web_here"] spLift)
  (DS:Dn K mg "_law_second" sSecond ["_law_draw","_law_web_here","_law_most"] fS fdS) (GS:FnOk P w K mg base CX0 5 fS fdS ["_law_draw","_law_web_here","_law_most"] spSecond)
  (DW:Dn K mg "_law_web" sWeb ["_law_draw","_law_most"] fW fdW) (GW:FnOk P w K mg base CX0 4 fW fdW ["_law_draw","_law_most"] spWeb) :
  FnOk P w K mg base CX0 6 f fd ["_law_draw","_law_most"] spBoth:=by
 refine F.ok scBoth (fun vs H Q E h=>?_) (fun cdv A outer s H vs Q E hr h=>?_)
 ·obtain ⟨d,n,rfl,_⟩:=h
  rfl
 ·obtain ⟨d,n,rfl,hd,hn,q⟩:=h
  refine ⟨_,pss_cons (ps_if (pt_cmpR op_eq (pe_fn DT GT (hr.mono (by decide)) rfl (pa_cons (pv 0) (pa_cons pe_int pa_nil))) pe_int (nomark _))
    (pss_cons (ps_set (i:=2) scBoth.nd rfl (Or.inl rfl) (pe_fn DW GW (hr.mono (by decide)) rfl (pa_cons (pv 0) (pa_cons (pe_op op_fdiv (pv 1) pe_int) pa_nil))))
    (pss_one (ps_ret (pe_tup (pa_cons (pe_fn DL GL (hr.mono (by decide)) rfl (pa_cons (pv 0) (pa_cons (pv 2) pa_nil))) (pa_cons (pe_fn DL GL (hr.mono (by decide)) rfl (pa_cons (pv 0) (pa_cons (pv 2) pa_nil))) pa_nil))))))
    pss_nil)
   (pss_cons (ps_set (i:=2) scBoth.nd rfl (Or.inl rfl) (pe_fn DW GW (hr.mono (by decide)) rfl (pa_cons (pv 0) (pa_cons (pv 1) pa_nil))))
   (pss_one (ps_ret (pe_tup (pa_cons (pv 2) (pa_cons (pe_fn DS GS (hr.mono (by decide)) rfl (pa_cons (pv 0) (pa_cons (pv 2) (pa_cons (pv 1) pa_nil)))) pa_nil)))))),?_⟩
  refine ⟨_,rfl,d,4,n,rfl,by decide,by decide,hd,by omega,fun y H1 y0 y1 b1 d1=>⟨rfl,_,rfl,?_⟩⟩
  refine ite2 (fun _=>?_) (fun _=>?_)
  ·refine ⟨_,rfl,_,rfl,_,_,rfl,rfl,⟨by decide,by decide⟩,d,_,n+2,rfl,by decide,by decide,d1,by omega,fun H2 p hA rA rs k hs M hk b2 d2 W2 f2 _ _ _=>?_⟩
   have hk:k≤2:=by
    have:((5:Int) / 2)=2:=by decide
    omega
   have pd:=fun a ha=>(f2 a ha).2
   have WO:=W2.off pd
   refine ⟨_,rfl,_,rfl,d,p,n+202,k,hs,M,rfl,d2,by omega,WO,W2.len,W2.sq,by omega,fun p1 H3 N b3 d3 nd1 W3 S3=>?_⟩
   refine ⟨_,rfl,_,rfl,d,p,n+402,k,hs,M,rfl,d3,by omega,WO.mono b3.off,W2.len,W2.sq,by omega,fun p2 H4 N' b4 d4 nd2 W4 S4=>?_⟩
   refine ⟨(by show 2≤sizeLine; decide),fun t ht=>?_⟩
   have b5:But d H4 (L2.upd H4 t (.tup [.ref p1,.ref p2])):=But.new ht
   have l2:(hs++hs).length=2 * k:=by rw [List.length_append,W2.len]; omega
   exact q t p1 p2 _ (2 * k) (2 * k) _ _ N N' ((((b1.trans b2).trans b3).trans b4).trans b5) ((d4.new ht).mono (by omega)) upd_same (W3.mono (b4.trans b5).off) (W4.mono b5.off) l2 l2 S3 S4 (by omega) (by omega)
  ·refine ⟨_,rfl,_,rfl,d,5,n+2,rfl,by decide,by decide,d1,by omega,fun H2 p hA rA rs k hs M hk b2 d2 W2 f2 _ _ _=>?_⟩
   have WO:=W2.off fun a ha=>(f2 a ha).2
   refine ⟨_,rfl,_,rfl,_,rfl,_,rfl,d,p,5,n+202,k,hs,M,rfl,by decide,by decide,d2,by omega,WO,W2.len,W2.sq,hk,fun p2 H3 k' hs' M' b3 d3 nd2 W3 l3 S3 hk'=>?_⟩
   refine ⟨(by show 2≤sizeLine; decide),fun t ht=>?_⟩
   have b4:But d H3 (L2.upd H3 t (.tup [.ref p,.ref p2])):=But.new ht
   exact q t p p2 _ k k' _ _ M M' (((b1.trans b2).trans b3).trans b4) ((d3.new ht).mono (by omega)) upd_same (WO.mono (b3.trans b4).off) (W3.mono b4.off) W2.len l3 W2.sq S3 (by omega) (by omega)
end
section
variable {P:Program} {w:World} {K:PySem.W.Frag} {mg:Str→Option Value} {base:Heap}
theorem op_notInK {X:Cx} (h:X.K=K:=by rfl):OpR X (compareOp .NotIn) (rIn K true):=by subst h; exact op_notIn_seq
theorem set1 (σ:L2.St) (o:Option V) (x:V):(σ++[o]).set σ.length (some x)=σ++[some x]:=by
 rw [List.set_append_right _ _ (Nat.le_refl _),Nat.sub_self]
 rfl
theorem lc_filR {n N:Nat} {tt:TT} {te:TE} {σ:L2.St} {H1:Hp} {Q:VK} (hN:σ.length=N) (f:Nat→Bool) (row:Nat→List Int) (hn:n≤900)
  (ht:∀ (i:Nat) (H':Hp) (R:Bool→Hp→Prop),i < n→Same H1 H'→R (f i) H'→tt (σ++[some (.int (i:Int))]) H' R)
  (he:∀ (i:Nat) (H':Hp) (R:VK),i < n→Same H1 H'→(∀ r H3,Same H' H3→H' r=none→H3 r=some (.lst ((row i).map V.int))→R (.ref r) H3)→te (σ++[some (.int (i:Int))]) H' R)
  (hd:∀ (D:Addr) (rs:List Addr) (H':Hp),Same H1 H'→H1 D=none→H' D=some (.lst (rs.map V.ref))→RowsAt H' rs (((List.range n).filter f).map row)→(∀ r ∈ rs,H1 r=none∧r≠D)→Q (.ref D) H'):LcW 1 (Itr 0 n) (gName N) tt te σ H1 Q:=by
 subst hN
 intro D hD
 refine ⟨fun i m ys H'=>m=n - i∧i≤n∧∃ rs:List Addr,ys=rs.map V.ref∧Same H1 H'∧H' D=some (.lst ys)∧RowsAt H' rs (((List.range i).filter f).map row)∧∀ r ∈ rs,H1 r=none∧r≠D,
  ⟨n,by simp,Nat.zero_le _,[],rfl,Same.upd hD,upd_same,⟨rfl,(fun i r x h _=>by cases h),List.nodup_nil⟩,(fun r hr=>by cases hr)⟩,?_⟩
 rintro i m ys H2 ⟨rfl,hi,rs,rfl,s2,eD,R2,f2⟩
 refine ⟨eD,?_⟩
 by_cases hlt:i < n
 ·refine .inr ⟨hlt,?_⟩
  rintro z H3 ⟨rfl,rfl⟩ os los
  match os,los with
  | [o],_ =>
   rw [Int.zero_add]
   refine ⟨⟨[some (.int (i:Int))],set1 σ o _,rfl⟩,?_⟩
   rw [set1 σ o _]
   refine ht i _ _ hlt s2 ?_
   have sn:((List.range (i+1)).filter f).map row=((List.range i).filter f).map row++(if f i=true then [row i] else []):=by
    rw [List.range_succ,List.filter_append,List.map_append]
    congr 1
    by_cases e:f i=true
    ·rw [List.filter_cons_of_pos e,if_pos e]; rfl
    ·rw [List.filter_cons_of_neg e,if_neg e]; rfl
   have lr:rs.length≤i:=by
    rw [R2.len,List.length_map]
    exact Nat.le_trans (List.length_filter_le _ _) (by rw [List.length_range]; exact Nat.le_refl _)
   refine ite2 (fun e=>?_) (fun e=>?_)
   ·rw [if_pos e] at sn
    refine he i _ _ hlt s2 fun r H4 s4 hr er=>?_
    have nDr:r≠D:=(ne_of_none eD hr).symm
    have R5:=R2.snoc (fun r' _ o' z=>s4 r' o' z) er (rows_out R2 hr)
    refine ⟨s4 _ _ eD,small1000 (by rw [List.length_map]; omega),n - (i+1),by omega,rfl,hlt,rs++[r],by rw [List.map_append]; rfl,(s2.trans s4).over hD,upd_same,?_,?_⟩
    ·rw [sn]
     refine R5.keep fun r' hr' o' z=>?_
     have:r'≠D:=by
      rcases List.mem_append.mp hr' with y | y
      ·exact (f2 r' y).2
      ·rw [List.mem_singleton.mp y]; exact nDr
     rw [upd_ne this]
     exact z
    ·intro r' hr'
     rcases List.mem_append.mp hr' with y | y
     ·exact f2 r' y
     ·rw [List.mem_singleton.mp y]
      exact ⟨s2.free hr,nDr⟩
   ·rw [if_neg e,List.append_nil] at sn
    exact ⟨n - (i+1),by omega,rfl,hlt,rs,rfl,s2,eD,by rw [sn]; exact R2,f2⟩
 ·have:i=n:=by omega
  subst this
  exact .inl ⟨Nat.le_refl _,hd D rs H2 s2 hD eD R2 f2⟩
theorem lc_filL {a:Addr} {rs:List Addr} {M:List (List Int)} {N:Nat} {tt:TT} {te:TE} {σ:L2.St} {H1:Hp} {Q:VK} (hN:σ.length=N) (f:List Int→Bool) (ha:H1 a=some (.lst (rs.map V.ref))) (R:RowsAt H1 rs M) (hm:rs.length≤900)
  (ht:∀ (r:Addr) (x:List Int) (H':Hp) (Rr:Bool→Hp→Prop),x ∈ M→H1 r=some (.lst (x.map V.int))→Same H1 H'→Rr (f x) H'→tt (σ++[some (.ref r)]) H' Rr)
  (he:∀ (r:Addr) (H':Hp) (Rr:VK),Rr (.ref r) H'→te (σ++[some (.ref r)]) H' Rr)
  (hd:∀ (D:Addr) (rs':List Addr) (H':Hp),Same H1 H'→H' D=some (.lst (rs'.map V.ref))→RowsAt H' rs' (M.filter f)→Q (.ref D) H'):LcW 1 (Itl K a) (gName N) tt te σ H1 Q:=by
 subst hN
 intro D hD
 refine ⟨fun i m ys H'=>m=rs.length - i∧i≤rs.length∧∃ rs':List Addr,ys=rs'.map V.ref∧Same H1 H'∧H' D=some (.lst ys)∧RowsAt H1 rs' ((M.take i).filter f)∧(∀ r ∈ rs',r ∈ rs.take i),
  ⟨rs.length,by simp,Nat.zero_le _,[],rfl,Same.upd hD,upd_same,⟨rfl,(fun i r x h _=>by cases h),List.nodup_nil⟩,(fun r hr=>by cases hr)⟩,?_⟩
 rintro i m ys H2 ⟨rfl,hi,rs',rfl,s2,eD,R2,f2⟩
 refine ⟨eD,?_⟩
 by_cases hlt:i < rs.length
 ·obtain ⟨r,x,g1,g2,g3⟩:=R.get hlt
  have gr:(rs.map V.ref)[i]? = some (.ref r):=by rw [List.getElem?_map,g1]; rfl
  refine .inr ⟨⟨_,_,SqL.of (s2 _ _ ha),gr⟩,?_⟩
  rintro z H3 ⟨rfl,hz⟩ os los
  have hz:=hz _ (SqL.of (s2 _ _ ha))
  rw [gr] at hz
  cases hz
  match os,los with
  | [o],_ =>
   refine ⟨⟨[some (.ref r)],set1 σ o _,rfl⟩,?_⟩
   rw [set1 σ o _]
   refine ht r x _ _ (List.mem_of_getElem? g2) g3 s2 ?_
   have sn:(M.take (i+1)).filter f=(M.take i).filter f++(if f x=true then [x] else []):=by
    rw [take_snoc g2,List.filter_append]
    congr 1
    by_cases e:f x=true
    ·rw [List.filter_cons_of_pos e,if_pos e]; rfl
    ·rw [List.filter_cons_of_neg e,if_neg e]; rfl
   have lr:rs'.length≤i:=by
    rw [R2.len]
    refine Nat.le_trans (List.length_filter_le _ _) ?_
    rw [List.length_take]
    omega
   have st:∀ c ∈ rs.take i,c ∈ rs.take (i+1):=fun c hc=>by rw [take_snoc g1]; exact List.mem_append_left _ hc
   refine ite2 (fun e=>?_) (fun e=>?_)
   ·rw [if_pos e] at sn
    refine he r _ _ ?_
    have nr:r ∉ rs':=fun z=>by
     obtain ⟨j,hj,ej⟩:=List.getElem_of_mem (f2 r z)
     rw [List.length_take] at hj
     rw [List.getElem_take] at ej
     have e2:rs[j]'(by omega)=rs[i]:=by rw [ej]; exact (Option.some.inj ((List.getElem?_eq_getElem hlt).symm.trans g1)).symm
     have:=(List.getElem_inj R.nd).mp e2
     omega
    refine ⟨eD,small1000 (by rw [List.length_map]; omega),rs.length - (i+1),by omega,rfl,hlt,rs'++[r],by rw [List.map_append]; rfl,s2.over hD,upd_same,?_,?_⟩
    ·rw [sn]
     exact R2.snoc (fun _ _ _ z=>z) g3 nr
    ·intro c hc
     rcases List.mem_append.mp hc with y | y
     ·exact st c (f2 c y)
     ·rw [List.mem_singleton.mp y,take_snoc g1]
      simp
   ·rw [if_neg e,List.append_nil] at sn
    exact ⟨rs.length - (i+1),by omega,rfl,hlt,rs',rfl,s2,eD,by rw [sn]; exact R2,fun c hc=>st c (f2 c hc)⟩
 ·have:i=rs.length:=by omega
  subst this
  rw [R.len,List.take_length] at R2
  exact .inl ⟨⟨_,SqL.of (s2 _ _ ha),by rw [List.length_map]; exact Nat.le_refl _⟩,hd D rs' H2 s2 eD (R2.keep fun r _ o z=>s2 r o z)⟩
theorem extE_rng (n:Nat) (o:List Int):extE n o=((List.range n).filter fun (i:Nat)=>decide ((i:Int) ∉ o)).map fun (i:Nat)=>o++[(i:Int)]:=by
 unfold extE rI
 rw [List.filter_map,List.map_map]
 rfl
theorem ext_len (n:Nat) (o:List Int):(extE n o).length≤n:=by
 unfold extE
 rw [List.length_map]
 exact Nat.le_trans (List.length_filter_le _ _) (by rw [rI_len]; exact Nat.le_refl _)
def facT:Nat→Nat
 | 0=>1
 | m+1=>(m+1) * facT m
theorem facT_pos:∀ m,1≤facT m
 | 0=>Nat.le_refl _
 | m+1=>Nat.mul_pos (Nat.succ_pos m) (facT_pos m)
theorem lev_lenF {n:Nat}:∀ k,k≤n→(lev n k).length * facT (n - k)≤facT n
 | 0,_=>by show 1 * facT (n - 0)≤facT n; rw [Nat.one_mul]; exact Nat.le_refl _
 | k+1,h=>by
  have ih:=lev_lenF (n:=n) k (by omega)
  obtain ⟨m,hm⟩:∃ m,n - k=m+1:=⟨n - k - 1,by omega⟩
  rw [show n - (k+1)=m by omega]
  rw [hm] at ih
  show ((lev n k).flatMap (extE n)).length * facT m≤_
  rw [List.length_flatMap]
  have h1:=sum_le (xs:=lev n k) (f:=fun o=>(extE n o).length) (c:=m+1) fun o ho=>by
   obtain ⟨p,l⟩:=lev_pt n k o ho
   have:=p.few fun _=>true
   unfold extE
   rw [List.length_map]
   simp only [Bool.and_true] at this
   omega
  have h2:=Nat.mul_le_mul_right (facT m) h1
  have h3:(lev n k).length * ((m+1) * facT m)=(lev n k).length * facT (m+1):=rfl
  rw [←Nat.mul_assoc] at h3
  omega
theorem lev_len6 {n k:Nat} (hn:n≤6) (hk:k≤n):(lev n k).length≤720:=by
 have h1:=lev_lenF k hk
 have h2:facT n≤720:=by
  have:∀ n,n < 7→facT n≤720:=by decide
  exact this n (by omega)
 have h3:=Nat.mul_le_mul_left (lev n k).length (facT_pos (n - k))
 omega
def spOrders:Sp:=fun vs H Q _=>∃ n:Nat,vs=[.int (n:Int)]∧n≤6∧∀ (fA:Addr) (rs:List Addr) (H':Hp),Same H H'→H' fA=some (.lst (rs.map V.ref))→RowsAt H' rs (lev n n)→Q (.ref fA) H'
abbrev nOrders:List Str:=["_law_many","_law_found","_law_time","_law_longer","_law_order_here"]
theorem scOrders:FnScope nOrders ["_law_many"] (defScope sOrders):=⟨rfl,rfl,rfl,by decide +kernel,rfl,by decide +kernel,by decide +kernel⟩
def forBody (s:Stmt) (i:Nat):Stmt:=match s with
 | .For _ _ b _ _=>b.getD i (.Pass ⟨0,0,0,0⟩)
 | _=>.Pass ⟨0,0,0,0⟩
def binR (e:Expr):Expr:=match e with
 | .BinOp _ _ b _=>b
 | _=>.Constant .none 0 ⟨0,0,0,0⟩
theorem lcOrders:LcScopes (defScope sOrders) nOrders (lcScope (binR (asgVal (forBody (forBody (bodyAt sOrders 1) 1) 0)))) ["_law_x"]:=⟨by decide +kernel,rfl,by decide +kernel,by decide +kernel,by decide +kernel,by decide +kernel,by decide +kernel,by decide +kernel,by decide +kernel,by decide +kernel⟩
theorem ok_orders {f:Addr} {fd:FuncData} (B:BltT mg) (F:Fun K "_law_orders" "_law_orders" sOrders f fd):FnOk P w K mg base CX0 1 f fd ["_law_many"] spOrders:=by
 refine F.ok scOrders (fun vs H Q E h=>?_) (fun cdv A outer s H vs Q E hr h=>?_)
 ·obtain ⟨n,rfl,_⟩:=h
  rfl
 ·obtain ⟨n,rfl,hn,q⟩:=h
  refine ⟨_,pss_cons (ps_set (i:=1) scOrders.nd rfl (Or.inl rfl) (pe_lst (pa_cons (pe_lst pa_nil) pa_nil)))
   (pss_cons (ps_for PassesOwn.never rfl (pi_range1 rfl B.range (pa_cons (pv 0) pa_nil)) (pg_name (i:=2) scOrders.nd rfl (Or.inl rfl))
    (pss_cons (ps_set (i:=3) scOrders.nd rfl (Or.inl rfl) (pe_lst pa_nil))
    (pss_cons (ps_for PassesOwn.never rfl (pi_list (pv 1)) (pg_name (i:=4) scOrders.nd rfl (Or.inr rfl))
     (pss_one (ps_set (i:=3) scOrders.nd rfl (Or.inl rfl) (pe_op op_cat (pv 3) (pe_lcs rfl lcOrders rfl (pi_range1 rfl B.range (pa_cons (pv 0) pa_nil)) (pg_one lcOrders) (fun _ _ _=>pts_one (pt_cmpR (op_notInK (K:=K)) (pv 5) (pv 4) rfl)) (fun _ _ _=>pe_op op_cat (pv 4) (pe_lst (pa_cons (pv 5) pa_nil))))))))
    (pss_one (ps_set (i:=1) scOrders.nd rfl (Or.inl rfl) (pv 3))))))
   (pss_one (ps_ret (pv 1)))),?_⟩
  refine ⟨Nat.zero_le _,fun a ha=>⟨(by show 1≤sizeLine; decide),fun fA hfA=>?_⟩⟩
  have naf:a≠fA:=ne_of_none upd_same hfA
  refine ⟨_,rfl,(n:Int),rfl,by omega,by omega,for_range (n:=n) (fun k σ H'=>∃ (o2 o3 o4:Option V) (fA:Addr) (rs:List Addr),σ=[some (.int (n:Int)),some (.ref fA),o2,o3,o4]∧Same H H'∧H' fA=some (.lst (rs.map V.ref))∧RowsAt H' rs (lev n k)) ?_ ?_ ?_⟩
  ·refine ⟨none,none,none,fA,[a],rfl,(Same.upd ha).trans (Same.upd hfA),upd_same,rfl,fun i r x h1 h2=>?_,by simp⟩
   match i,h1,h2 with
   | 0,h1,h2 =>
    cases h1
    cases h2
    rw [upd_ne naf,upd_same]
    rfl
  ·rintro k σ H1 hk ⟨o2,o3,o4,fA,rs,rfl,s1,e1,R1⟩
   refine ⟨Nat.zero_le _,fun lA hlA=>?_⟩
   have s2:Same H1 (L2.upd H1 lA (.lst [])):=Same.upd hlA
   have e2:L2.upd H1 lA (.lst []) lA=some (.lst (([]:List Addr).map V.ref)):=upd_same
   generalize L2.upd H1 lA (.lst [])=H2 at s2 e2 ⊢
   have l1:rs.length≤720:=by rw [R1.len]; exact lev_len6 hn (by omega)
   refine ⟨_,rfl,fA,rfl,⟨_,SqL.of (s2 _ _ e1)⟩,for_list (K:=K) (a:=fA) (xs:=rs.map V.ref) (fun i σ H'=>∃ (o2 o4:Option V) (lA:Addr) (ls:List Addr),σ=[some (.int (n:Int)),some (.ref fA),o2,some (.ref lA),o4]∧Same H1 H'∧H' lA=some (.lst (ls.map V.ref))∧RowsAt H' ls (((lev n k).take i).flatMap (extE n))) ⟨_,_,lA,[],rfl,s2,e2,rfl,(fun i r x h _=>by cases h),List.nodup_nil⟩ (fun i σ H' _ ⟨_,_,_,_,_,s',_⟩=>SqL.of (s' _ _ e1)) ?_ ?_⟩
   ·rintro i x σ H3 hx ⟨o2,o4,lA,ls,rfl,s3,e3,R3⟩
    obtain ⟨oA,ho,rfl⟩:=map_get hx
    obtain ⟨r',o,g1,g2,g3⟩:=R1.get (i:=i) (List.getElem?_eq_some_iff.mp ho).1
    rw [ho] at g1
    cases g1
    obtain ⟨pt,lo⟩:=lev_pt n k o (List.mem_of_getElem? g2)
    have ll:ls.length≤720 * 6:=by
     rw [R3.len,List.length_flatMap]
     have:=sum_le (xs:=(lev n k).take i) (f:=fun o=>(extE n o).length) (c:=n) fun o _=>ext_len n o
     rw [List.length_take] at this
     have h4:(min i (lev n k).length) * n≤720 * 6:=Nat.mul_le_mul (by have:=lev_len6 hn (k:=k) (by omega); omega) hn
     omega
    refine ⟨_,rfl,_,rfl,(n:Int),rfl,by omega,by omega,?_⟩
    rw [Int.toNat_natCast]
    refine lc_filR rfl (fun (i:Nat)=>decide ((i:Int) ∉ o)) (fun (i:Nat)=>o++[(i:Int)]) (by omega) ?_ ?_ ?_
    ·intro j H' Rr hj s' hR
     refine ⟨_,rfl,_,rfl,oA,_,rfl,.inl (SqL.of (s' _ _ (s3 _ _ g3))),rfl,flat_ints o,_,rfl,?_⟩
     show Rr (!inV (.int (j:Int)) (o.map V.int)) H'
     rw [inV_int,←decide_not]
     exact hR
    ·intro j H' Rr hj s' hR
     refine ⟨_,rfl,_,rfl,(by show 1≤sizeLine; decide),fun l1 hl1=>⟨oA,l1,_,_,rfl,rfl,Same.upd hl1 _ _ (s' _ _ (s3 _ _ g3)),upd_same,Nat.le_of_lt (small1000 (by rw [List.length_map]; show o.length+1≤1000; omega)),fun l2 hl2=>?_⟩⟩
     exact hR l2 _ ((Same.upd hl1).trans (Same.upd hl2)) ((Same.upd hl1).free hl2) (by rw [upd_same,List.map_append]; rfl)
    ·intro D ds H4 s4 hD eD R4 f4
     rw [←extE_rng] at R4
     have ld:ds.length≤6:=by rw [R4.len]; exact Nat.le_trans (ext_len n o) hn
     refine ⟨lA,D,_,_,rfl,rfl,s4 _ _ e3,eD,Nat.le_trans (show _≤720 * 6+6 by rw [List.length_map,List.length_map]; omega) (by decide),fun nA hnA=>?_⟩
     have s5:Same H4 (L2.upd H4 nA (.lst (ls.map V.ref++ds.map V.ref))):=Same.upd hnA
     refine ⟨_,_,nA,ls++ds,rfl,(s3.trans s4).trans s5,by rw [upd_same,List.map_append],?_⟩
     rw [take_snoc g2,List.flatMap_append,List.flatMap_singleton]
     refine RowsAt.app (R3.keep fun r _ o z=>s5 _ _ (s4 r o z)) (R4.keep fun r _ o z=>s5 _ _ z) fun c hc z=>?_
     obtain ⟨ob,eo⟩:=rows_some R3 hc
     rw [(f4 c z).1] at eo
     cases eo
   ·rintro σ H3 ⟨o2,o4,lA,ls,rfl,s3,e3,R3⟩
    rw [List.length_map,R1.len,List.take_length] at R3
    exact ⟨_,rfl,_,_,_,lA,ls,rfl,s1.trans s3,e3,R3⟩
  ·rintro σ H1 ⟨o2,o3,o4,fA,rs,rfl,s1,e1,R1⟩
   exact ⟨_,rfl,q fA rs H1 s1 e1 R1⟩
def spTurns:Sp:=fun vs H Q _=>∃ (wA oA tA:Addr) (n:Nat) (hs hs' o:List Int) (M M':List (List Int)),vs=[.ref wA,.ref oA,.ref tA]∧WR H wA hs M∧WR H oA hs' M'∧hs.length=n∧hs'.length=n∧Sq n M∧Sq n M'∧n≤8∧H tA=some (.lst (o.map V.int))∧o.length=n∧(∀ x ∈ o,0≤x∧x < (n:Int))∧Q (.bl (turnsB hs hs' M M' o)) H
abbrev nTurns:List Str:=["_law_web_here","_law_other","_law_order_here","_law_many","_law_u","_law_v"]
theorem scTurns:FnScope nTurns ["_law_web_here","_law_other","_law_order_here"] (defScope sTurns):=⟨rfl,rfl,rfl,by decide +kernel,rfl,by decide +kernel,by decide +kernel⟩
theorem ok_turns {f:Addr} {fd:FuncData} (B:BltT mg) (F:Fun K "_law_turns" "_law_turns" sTurns f fd):FnOk P w K mg base CX0 1 f fd ["_law_web_here","_law_other","_law_order_here"] spTurns:=by
 refine F.ok scTurns (fun vs H Q E h=>?_) (fun cdv A outer s H vs Q E hr h=>?_)
 ·obtain ⟨wA,oA,tA,n,hs,hs',o,M,M',rfl,_⟩:=h
  rfl
 ·obtain ⟨wA,oA,tA,n,hs,hs',o,M,M',rfl,W,W',hl,hl',S,S',hn,ht,lo,hm,q⟩:=h
  obtain ⟨hA,rA,rs,w1,w2,w3,R⟩:=W.ex
  obtain ⟨hA',rA',rs',v1,v2,v3,R'⟩:=W'.ex
  refine ⟨_,pss_cons (ps_set (i:=3) scTurns.nd rfl (Or.inl rfl) (pe_callB call_len_seq (by rfl) B.len PySem.boot_len (pa_cons (pv 2) pa_nil)))
   (pss_cons (ps_for PassesOwn.never rfl (pi_range1 rfl B.range (pa_cons (pv 3) pa_nil)) (pg_name (i:=4) scTurns.nd rfl (Or.inl rfl))
    (pss_cons (ps_if (pt_cmpR op_ne (pe_ix ix_list (pe_ix ix_tup (pv 0) pe_int (fun _ _=>rfl)) (pv 4) (fun _ _=>rfl)) (pe_ix ix_list (pe_ix ix_tup (pv 1) pe_int (fun _ _=>rfl)) (pe_ix ix_list (pv 2) (pv 4) (fun _ _=>rfl)) (fun _ _=>rfl)) (nomark _)) (pss_one (ps_ret pe_bl)) pss_nil)
    (pss_one (ps_for PassesOwn.never rfl (pi_range1 rfl B.range (pa_cons (pv 3) pa_nil)) (pg_name (i:=5) scTurns.nd rfl (Or.inl rfl))
     (pss_one (ps_if (pt_cmpR op_ne (pe_ix ix_list (pe_ix ix_list (pe_ix ix_tup (pv 0) pe_int (fun _ _=>rfl)) (pv 4) (fun _ _=>rfl)) (pv 5) (fun _ _=>rfl)) (pe_ix ix_list (pe_ix ix_list (pe_ix ix_tup (pv 1) pe_int (fun _ _=>rfl)) (pe_ix ix_list (pv 2) (pv 4) (fun _ _=>rfl)) (fun _ _=>rfl)) (pe_ix ix_list (pv 2) (pv 5) (fun _ _=>rfl)) (fun _ _=>rfl)) (nomark _)) (pss_one (ps_ret pe_bl)) pss_nil))))))
   (pss_one (ps_ret pe_bl))),?_⟩
  refine ⟨_,rfl,tA,_,rfl,.inl (SqL.of ht),?_⟩
  rw [List.length_map,lo]
  have go:∀ u:Nat,u < n→∃ x:Nat,x < n∧o.getD u 0=(x:Int)∧atI (o.map V.int) (u:Int)=some (.int (x:Int)):=fun u hu=>by
   have e:=at_intN (xs:=o) (j:=u) (by omega)
   have mem:o.getD u 0 ∈ o:=by
    rw [List.getD_eq_getElem?_getD,List.getElem?_eq_getElem (by omega)]
    exact List.getElem_mem _
   have hb:=hm _ mem
   refine ⟨(o.getD u 0).toNat,by omega,by omega,?_⟩
   rw [e,show (((o.getD u 0).toNat:Nat):Int)=o.getD u 0 by omega]
  have qq:∀ b:Bool,(b=true↔∀ u < n,hs.getD u 0=hs'.getD (o.getD u 0).toNat 0∧∀ v < n,ent M u v=ent M' (o.getD u 0).toNat (o.getD v 0).toNat)→Q (.bl b) H:=fun b hb=>by
   have:turnsB hs hs' M M' o=b:=by
    rw [Bool.eq_iff_iff,turns_iff hs hs' M M' n lo]
    exact hb.symm
   rw [←this]
   exact q
  refine ⟨_,rfl,(n:Int),rfl,by omega,by omega,for_range (n:=n) (fun u σ H'=>∃ (o4 o5:Option V),σ=[some (.ref wA),some (.ref oA),some (.ref tA),some (.int (n:Int)),o4,o5]∧H'=H∧∀ u' < u,hs.getD u' 0=hs'.getD (o.getD u' 0).toNat 0∧∀ v < n,ent M u' v=ent M' (o.getD u' 0).toNat (o.getD v 0).toNat) ⟨none,none,rfl,rfl,fun u hu=>absurd hu (Nat.not_lt_zero _)⟩ ?_ ?_⟩
  ·rintro u σ H1 hu ⟨o4,o5,rfl,rfl,hp⟩
   rw [Int.zero_add]
   obtain ⟨x,hx,ex,ax⟩:=go u hu
   refine ⟨_,rfl,wA,_,_,_,rfl,rfl,SqT.of w1,rfl,_,rfl,hA,_,_,_,rfl,rfl,SqL.of w2,at_intN (by omega),_,rfl,oA,_,_,_,rfl,rfl,SqT.of v1,rfl,_,rfl,_,rfl,tA,_,_,_,rfl,rfl,SqL.of ht,ax,hA',_,_,_,rfl,rfl,SqL.of v2,at_intN (by omega),rfl,_,rfl,?_⟩
   by_cases e:hs.getD u 0=hs'.getD x 0
   ·refine iteNS (by rw [e]) ?_
    refine ⟨_,rfl,(n:Int),rfl,by omega,by omega,for_range (n:=n) (fun v σ H'=>∃ o5:Option V,σ=[some (.ref wA),some (.ref oA),some (.ref tA),some (.int (n:Int)),some (.int (u:Int)),o5]∧H'=H1∧∀ v' < v,ent M u v'=ent M' (o.getD u 0).toNat (o.getD v' 0).toNat) ⟨_,rfl,rfl,fun u hu=>absurd hu (Nat.not_lt_zero _)⟩ ?_ ?_⟩
    ·rintro v σ H2 hv ⟨o5,rfl,rfl,hpv⟩
     rw [Int.zero_add]
     obtain ⟨y,hy,ey,ay⟩:=go v hv
     obtain ⟨ru,xu,g1,g2,g3⟩:=R.get (i:=u) (by rw [R.len,S.len]; exact hu)
     obtain ⟨rx,xx,k1,k2,k3⟩:=R'.get (i:=x) (by rw [R'.len,S'.len]; exact hx)
     have l1:=(S.row u xu g2).1
     have l2:=(S'.row x xx k2).1
     have e1:xu.getD v 0=ent M u v:=by rw [←ent_getD,getD_some g2]
     have e2:xx.getD y 0=ent M' x y:=by rw [←ent_getD,getD_some k2]
     refine ⟨_,rfl,wA,_,_,_,rfl,rfl,SqT.of w1,rfl,_,rfl,rA,_,_,_,rfl,rfl,SqL.of w3,at_ref g1,_,rfl,ru,_,_,_,rfl,rfl,SqL.of g3,at_intN (by omega),
      _,rfl,oA,_,_,_,rfl,rfl,SqT.of v1,rfl,_,rfl,_,rfl,tA,_,_,_,rfl,rfl,SqL.of ht,ax,rA',_,_,_,rfl,rfl,SqL.of v3,at_ref k1,_,rfl,_,rfl,tA,_,_,_,rfl,rfl,SqL.of ht,ay,rx,_,_,_,rfl,rfl,SqL.of k3,at_intN (by omega),rfl,_,rfl,?_⟩
     rw [e1,e2]
     by_cases e':ent M u v=ent M' x y
     ·refine iteNS (by rw [e']) ?_
      refine ⟨_,rfl,rfl,fun v' hv'=>?_⟩
      rcases Nat.lt_or_eq_of_le (Nat.le_of_lt_succ hv') with z | rfl
      ·exact hpv v' z
      ·rw [ex,ey,Int.toNat_natCast,Int.toNat_natCast]
       exact e'
     ·refine iteNP (fun z=>e' (V.int.inj z)) ?_
      refine qq false ⟨fun z=>(by cases z),fun z=>absurd ((z u hu).2 v hv) ?_⟩
      rw [ex,ey,Int.toNat_natCast,Int.toNat_natCast]
      exact e'
    ·rintro σ H2 ⟨o5,rfl,rfl,hpv⟩
     refine ⟨_,_,rfl,rfl,fun u' hu'=>?_⟩
     rcases Nat.lt_or_eq_of_le (Nat.le_of_lt_succ hu') with z | rfl
     ·exact hp u' z
     ·exact ⟨by rw [ex,Int.toNat_natCast]; exact e,hpv⟩
   ·refine iteNP (fun z=>e (V.int.inj z)) ?_
    refine qq false ⟨fun z=>(by cases z),fun z=>absurd (z u hu).1 ?_⟩
    rw [ex,Int.toNat_natCast]
    exact e
  ·rintro σ H1 ⟨o4,o5,rfl,rfl,hp⟩
   exact qq true ⟨fun _=>hp,fun _=>rfl⟩
end
section
variable {K:PySem.W.Frag}
theorem cut_ints (ns:List Int) (lo hi:Option Int):∃ ms:List Int,cutV (ns.map V.int) lo hi=ms.map V.int∧ms.length≤ns.length:=by
 unfold cutV
 rw [←List.map_drop,←List.map_take]
 exact ⟨_,rfl,by rw [List.length_take,List.length_drop]; omega⟩
end
section
variable {P:Program} {w:World} {K:PySem.W.Frag} {mg:Str→Option Value} {base:Heap}
theorem snoc_get {α:Type} {xs:List α} {x y:α} {i:Nat} (h:(xs++[x])[i]? = some y):xs[i]? = some y ∨ (i=xs.length∧y=x):=by
 by_cases hi:i < xs.length
 ·rw [List.getElem?_append_left hi] at h
  exact .inl h
 ·rw [List.getElem?_append_right (by omega)] at h
  cases e:i - xs.length with
  | zero=>rw [e] at h; cases h; exact .inr ⟨by omega,rfl⟩
  | succ j=>rw [e] at h; cases h
theorem get_lt {α:Type} {l:List α} {i:Nat} (h:i < l.length):∃ x,l[i]? = some x:=⟨l[i],List.getElem?_eq_getElem h⟩
theorem lt_get {α:Type} {l:List α} {i:Nat} {x:α} (h:l[i]? = some x):i < l.length:=(List.getElem?_eq_some_iff.mp h).1
end
section
variable {P:Program} {w:World} {K:PySem.W.Frag} {mg:Str→Option Value} {base:Heap}
structure BltR (mg:Str→Option Value):Prop where
 abs:mg "abs" = none
 len:mg "len" = none
 sum:mg "sum" = none
 zip:mg "zip" = none
 range:mg "range" = none
 enum:mg "enumerate" = none
 isi:mg "isinstance" = none
 verr:mg "ValueError" = none
 int:mg "int" = none
 bool:mg "bool" = none
 list:mg "list" = none
 tuple:mg "tuple" = none
def CMulN (i j:Int):Prop:=∃ n,n≤1000000∧M11.Bn n i∧M11.Bn n j
theorem op_mulN {X:Cx}:OpR X (binaryOp .Mult) (L2.rI CMulN fun i j=>.int (i * j)) :=
 opI fun _ _ _ _ _ _ _ hc q=>mul_int q (by
  obtain ⟨n,h,a,b⟩:=hc
  have e:(2:Nat) ^ 20=1048576:=by decide
  exact IntMulOk.of_bits (Nat.le_trans (bits_le a) (by omega)) (Nat.le_trans (bits_le b) (by omega)))
def tupF (l:Int × Int):HO:=.tup [.int l.1,.int l.2]
def TM.dot (w r:List Int):Int:=(List.zipWith (fun a b=>a * b) w r).sum
def spG:Sp:=fun vs H Q _=>∃ a b:Int,vs=[.int a,.int b]∧Q (.int (M11.G a b)) H
def spF:Sp:=fun vs H Q _=>∃ t b:Int,vs=[.int t,.int b]∧b≠0∧b.natAbs < 2 ^ 9000∧∀ p,H p=none→Q (.ref p) (upd H p (tupF (M11.low t b)))
theorem scGd:FnScope ["number","other","rest"] ["number","other"] (defScope sGd):=⟨rfl,rfl,rfl,by decide +kernel,rfl,by decide +kernel,by decide +kernel⟩
theorem ok_gd {f:Addr} {fd:FuncData} (B:BltR mg) (F:Fun K "greatest_divisor" "greatest_divisor" sGd f fd):FnOk P w K mg base CX0 1 f fd ["number","other"] spG:=by
 refine F.ok scGd (fun vs H Q E h=>?_) (fun cdv A outer s H vs Q E hr h=>?_)
 ·obtain ⟨a,b,rfl,_⟩:=h
  rfl
 ·obtain ⟨a,b,rfl,k⟩:=h
  refine ⟨_,pss_cons (ps_while PassesOwn.never (pt_cmpR op_ne (pv 1) pe_int (nomark _))
    (pss_cons (ps_set (i:=2) scGd.nd rfl (Or.inl rfl) (pe_op op_modN (pv 0) (pv 1)))
    (pss_cons (ps_set (i:=0) scGd.nd rfl (Or.inl rfl) (pv 1))
    (pss_one (ps_set (i:=1) scGd.nd rfl (Or.inl rfl) (pv 2))))))
   (pss_one (ps_ret (pe_callB call_abs (by rfl) B.abs boot_abs (pa_cons (pv 0) pa_nil)))),?_⟩
  refine while_by (fun σ H'=>∃ (x y:Int) (r:Option V),σ=[some (.int x),some (.int y),r]∧H'=H∧Int.gcd x y=Int.gcd a b)
   (fun σ _=>match σ with | [_,some (.int y),_]=>y.natAbs | _=>0) ⟨a,b,none,rfl,rfl,rfl⟩ ?_ ?_
  ·rintro σ H' ⟨x,y,r,rfl,rfl,hg⟩
   refine ⟨_,rfl,rfl,_,rfl,?_⟩
   by_cases hy:y=0
   ·subst hy
    refine iteNS rfl ?_
    refine ⟨_,rfl,x,rfl,?_⟩
    have e:(if x < 0 then -x else x)=M11.G a b:=by
     rw [M11.gcd_end]
     show ((Int.gcd x 0:Nat):Int)=((Int.gcd a b:Nat):Int)
     rw [hg]
    rw [e]
    exact k
   ·refine iteNP (fun z=>hy (V.int.inj z)) ?_
    refine ⟨_,rfl,_,rfl,x,y,rfl,rfl,hy,_,rfl,_,rfl,?_⟩
    exact ⟨⟨y,x.fmod y,_,rfl,rfl,by rw [M11.gcd_step]; exact hg⟩,M11.fmod_small x y hy⟩
  ·rintro σ H' Q1 Q2 hq ⟨v,e,sc,c,ec,q⟩
   exact ⟨v,e,sc,c,ec,hq _ _ q⟩
theorem scFr:FnScope ["top","bottom","divisor"] ["top","bottom"] (defScope sFr):=⟨rfl,rfl,rfl,by decide +kernel,rfl,by decide +kernel,by decide +kernel⟩
theorem cdivB {t b:Int} (h:b≠0) (hb:b.natAbs < 2 ^ 9000) (u d:Int) (e:d=M11.sgn t b):CDivL u d:=by
 subst e
 exact ⟨M11.sgn_ne h,Nat.lt_of_le_of_lt (M11.sgn_le h) hb⟩
theorem ok_fr {f fG:Addr} {fd fdG:FuncData} (B:BltR mg) (F:Fun K "fraction_of" "fraction_of" sFr f fd) (DG:Dn K mg "greatest_divisor" sGd ["number","other"] fG fdG) (GG:FnOk P w K mg base CX0 1 fG fdG ["number","other"] spG):FnOk P w K mg base CX0 2 f fd ["top","bottom"] spF:=by
 refine F.ok scFr (fun vs H Q E h=>?_) (fun cdv A outer s H vs Q E hr h=>?_)
 ·obtain ⟨a,b,rfl,_⟩:=h
  rfl
 ·obtain ⟨t,b,rfl,hb,hz,k⟩:=h
  refine ⟨_,pss_cons (ps_set (i:=2) scFr.nd rfl (Or.inl rfl) (pe_fn DG GG hr rfl (pa_cons (pv 0) (pa_cons (pv 1) pa_nil))))
   (pss_cons (ps_if (pt_cmpR op_lt (pv 1) pe_int (nomark _)) (pss_one (ps_set (i:=2) scFr.nd rfl (Or.inl rfl) (pe_un un_neg (pv 2)))) pss_nil)
   (pss_one (ps_ret (pe_tup (pa_cons (pe_op op_fdivL (pv 0) (pv 2)) (pa_cons (pe_op op_fdivL (pv 1) (pv 2)) pa_nil)))))),?_⟩
  refine ⟨_,rfl,_,rfl,t,b,rfl,?_⟩
  refine ⟨_,rfl,_,_,rfl,rfl,_,rfl,?_⟩
  by_cases hn:b < 0
  ·refine itDP hn ?_
   have e:-(M11.G t b)=M11.sgn t b:=(if_pos hn).symm
   refine ⟨_,rfl,_,rfl,?_⟩
   refine ⟨_,rfl,_,rfl,_,_,rfl,rfl,cdivB hb hz _ _ e,_,rfl,_,rfl,_,_,rfl,rfl,cdivB hb hz _ _ e,(by show 2≤sizeLine; decide),fun p hp=>?_⟩
   have q:=k p hp
   unfold M11.low at q
   rw [←e] at q
   exact q
  ·refine itDN hn ?_
   have e:M11.G t b=M11.sgn t b:=(if_neg hn).symm
   refine ⟨_,rfl,_,rfl,_,_,rfl,rfl,cdivB hb hz _ _ e,_,rfl,_,rfl,_,_,rfl,rfl,cdivB hb hz _ _ e,(by show 2≤sizeLine; decide),fun p hp=>?_⟩
   have q:=k p hp
   unfold M11.low at q
   rw [←e] at q
   exact q
theorem at_hd (x:V) (xs:List V):atI (x :: xs) 0=some x:=atI_nat (xs:=x :: xs) (j:=0) rfl
theorem at_snd (x y:V) (xs:List V):atI (x :: y :: xs) 1=some y:=atI_nat (xs:=x :: y :: xs) (j:=1) rfl
theorem lc_vals {a:Addr} {xs:List V} {te:TE} {Q:Hp→Prop} {σ:L2.St} {H1:Hp} {D:Addr} (vs:List V) (hlen:vs.length=xs.length) (hm:xs.length≤900) (hD:H1 D=none) (hxs:SqL K H1 a xs)
  (hs:∀ (i:Nat) (x v:V) (H':Hp),xs[i]? = some x→vs[i]? = some v→Same H1 H'→te (σ++[some x]) H' fun u H3=>u=v∧Same H' H3)
  (hd:∀ H',Same H1 H'→H' D=some (.lst vs)→Q H')
  (mono:∀ σ H Q Q',(∀ v H1,Q v H1→Q' v H1)→te σ H Q→te σ H Q') :
  ∃ W:Nat→Nat→List V→Hp→Prop,(∃ m,W 0 m [] (upd H1 D (.lst []))) ∧
   ∀ i m ys H',W i m ys H'→H' D=some (.lst ys)∧(((Itl K a).stop i H'∧Q H') ∨ ((Itl K a).go i H'∧∀ z H2,(Itl K a).yld i H' z H2→te (σ++[some z]) H2 fun v H3=>H3 D=some (.lst ys)∧ys.length < sizeLine∧∃ m',m' < m∧W (i+1) m' (ys++[v]) (upd H3 D (.lst (ys++[v]))))):=by
 refine lc_list (xs:=xs) (fun i ys H'=>ys=vs.take i∧Same H1 H'∧H' D=some (.lst ys)) ⟨by rw [List.take_zero],Same.upd hD,upd_same⟩ (fun i ys H' _ ⟨_,sm,eD⟩=>⟨Same.sq sm hxs,eD⟩) ?_ ?_ mono
 ·rintro i x ys H4 hx ⟨rfl,s4,eD⟩
  have hi:i < vs.length:=by rw [hlen]; exact (List.getElem?_eq_some_iff.mp hx).1
  have hv:vs[i]? = some vs[i]:=List.getElem?_eq_getElem hi
  refine mono _ _ _ _ ?_ (hs i x vs[i] H4 hx hv s4)
  rintro u H5 ⟨rfl,s5⟩
  refine ⟨s5 _ _ eD,small1000 (by rw [List.length_take]; omega),by rw [take_snoc hv],fun b o e=>?_,upd_same⟩
  rw [upd_ne (ne_of_none e hD)]
  exact s5 _ _ (s4 _ _ e)
 ·rintro ys H4 ⟨rfl,s4,eD⟩
  rw [←hlen,List.take_length] at eD
  exact hd H4 s4 eD
theorem set2 (σ:L2.St) (a b:Option V) (x y:V):((σ++[a,b]).set σ.length (some x)).set (σ.length+1) (some y)=σ++[some x,some y]:=by
 rw [List.set_append_right _ _ (Nat.le_refl _),Nat.sub_self,List.set_append_right _ _ (Nat.le_succ _)]
 have:σ.length+1 - σ.length=1:=by omega
 rw [this]
 rfl
theorem lc_zip {a b:Addr} {xs ys:List V} {te:TE} {Q:VK} {σ:L2.St} {n:Nat} {H1:Hp} (vs:List V) (hn:σ.length=n) (hx:SqL K H1 a xs) (hy:SqL K H1 b ys) (hlx:xs.length=vs.length) (hly:ys.length=vs.length) (hm:vs.length≤900)
  (hs:∀ (i:Nat) (x y v:V) (H':Hp),xs[i]? = some x→ys[i]? = some y→vs[i]? = some v→Same H1 H'→te (σ++[some x,some y]) H' fun u H3=>u=v∧Same H' H3)
  (hd:∀ D H',Same H1 H'→H' D=some (.lst vs)→Q (.ref D) H')
  (mono:∀ σ H Q Q',(∀ v H1,Q v H1→Q' v H1)→te σ H Q→te σ H Q'):LcW 2 (Itz K a b) (g2 K n) tYes te σ H1 Q:=by
 subst hn
 intro D hD
 refine ⟨fun i m zs H'=>m=vs.length - i∧i≤vs.length∧zs=vs.take i∧Same H1 H'∧H' D=some (.lst zs),⟨vs.length,by simp,Nat.zero_le _,by rw [List.take_zero],Same.upd hD,upd_same⟩,?_⟩
 rintro i m zs H2 ⟨rfl,hi,rfl,s2,eD⟩
 refine ⟨eD,?_⟩
 by_cases hlt:i < vs.length
 ·have ex:xs[i]? = some xs[i]:=List.getElem?_eq_getElem (by omega)
  have ey:ys[i]? = some ys[i]:=List.getElem?_eq_getElem (by omega)
  have ev:vs[i]? = some vs[i]:=List.getElem?_eq_getElem hlt
  refine .inr ⟨⟨xs,ys,_,_,Same.sq s2 hx,Same.sq s2 hy,ex,ey⟩,?_⟩
  rintro z H3 ⟨t,x,y,rfl,ht,rfl,hx',hy'⟩ os los
  have hx1:=hx' xs (Same.sq s2 hx)
  have hy1:=hy' ys (Same.sq s2 hy)
  match os,los with
  | [o1,o2],_ =>
   have s3:Same H2 (L2.upd H2 t (.tup [x,y])):=Same.upd ht
   refine ⟨t,[x,y],rfl,SqT.of upd_same,rfl,x,[y],rfl,y,[],rfl,rfl,⟨[some x,some y],set2 σ o1 o2 x y,rfl⟩,?_⟩
   dsimp only [tYes]
   rw [if_pos rfl,set2 σ o1 o2 x y]
   refine mono _ _ _ _ ?_ (hs i x y vs[i] _ hx1 hy1 ev (s2.trans s3))
   rintro u H5 ⟨rfl,s5⟩
   refine ⟨s5 _ _ (s3 _ _ eD),small1000 (by rw [List.length_take]; omega),vs.length - (i+1),by omega,rfl,hlt,by rw [take_snoc ev],fun c o e=>?_,upd_same⟩
   rw [upd_ne (ne_of_none e hD)]
   exact s5 _ _ (s3 _ _ (s2 _ _ e))
 ·have:i=vs.length:=by omega
  subst this
  rw [List.take_length] at eD ⊢
  exact .inl ⟨⟨xs,ys,Same.sq s2 hx,Same.sq s2 hy,.inl (by omega)⟩,hd D H2 s2 eD⟩
end
section
variable {P:Program} {w:World} {K:PySem.W.Frag} {mg:Str→Option Value} {base:Heap}
structure GrdV (H:Hp) (rs:List Addr) (X:List (List V)):Prop where
 len:rs.length=X.length
 row:∀ (i:Nat) (r:Addr) (x:List V),rs[i]? = some r→X[i]? = some x→H r=some (.lst x)
theorem GrdV.mono {H H':Hp} {rs:List Addr} {X:List (List V)} (g:GrdV H rs X) (s:Same H H'):GrdV H' rs X:=⟨g.len,fun i r x h1 h2=>s _ _ (g.row i r x h1 h2)⟩
def GrdAt (H:Hp) (a:Addr) (X:List (List V)):Prop:=∃ rs:List Addr,H a=some (.lst (rs.map V.ref))∧GrdV H rs X
theorem GrdAt.mono {H H':Hp} {a:Addr} {X:List (List V)} (g:GrdAt H a X) (s:Same H H'):GrdAt H' a X:=by
 obtain ⟨rs,h,r⟩:=g
 exact ⟨rs,s _ _ h,r.mono s⟩
def NewR (H H':Hp) (u:V) (x:List V):Prop:=∃ p,u=.ref p∧H' p=some (.lst x)∧H p=none
def GrdI (H1:Hp) (D:Addr) (X:List (List V)) (i:Nat) (ys:List V) (H':Hp):Prop:=∃ rs:List Addr,ys=rs.map V.ref∧rs.length=i∧Same H1 H'∧H' D=some (.lst ys)∧(∀ r ∈ rs,r≠D)∧∀ (j:Nat) (r:Addr) (x:List V),rs[j]? = some r→X[j]? = some x→H' r=some (.lst x)
theorem GrdI.start {H1:Hp} {D:Addr} {X:List (List V)} (hD:H1 D=none):GrdI H1 D X 0 [] (upd H1 D (.lst [])):=⟨[],rfl,rfl,Same.upd hD,upd_same,(fun r h=>by cases h),(fun j r x h _=>by cases h)⟩
theorem GrdI.step {H1 H4 H5:Hp} {D:Addr} {X:List (List V)} {i:Nat} {ys:List V} {u:V} {x:List V} (hD:H1 D=none) (g:GrdI H1 D X i ys H4) (hx:X[i]? = some x) (hu:NewR H4 H5 u x) (s5:Same H4 H5) (hm:i < 900) :
  H5 D=some (.lst ys)∧ys.length < sizeLine∧GrdI H1 D X (i+1) (ys++[u]) (upd H5 D (.lst (ys++[u]))):=by
 obtain ⟨rs,rfl,lr,s4,eD,nD,hr⟩:=g
 obtain ⟨p,rfl,hp,hn⟩:=hu
 have npD:p≠D:=fun z=>by rw [z,eD] at hn; cases hn
 refine ⟨s5 _ _ eD,small1000 (by rw [List.length_map]; omega),rs++[p],by rw [List.map_append]; rfl,by rw [List.length_append,lr]; rfl,fun b o e=>?_,upd_same,fun r h=>?_,fun j r y h1 h2=>?_⟩
 ·rw [upd_ne (ne_of_none e hD)]
  exact s5 _ _ (s4 _ _ e)
 ·rcases List.mem_append.mp h with z | z
  ·exact nD r z
  ·rw [List.mem_singleton.mp z]; exact npD
 ·rcases snoc_get h1 with z | ⟨e,z⟩
  ·rw [upd_ne (nD r (List.mem_of_getElem? z))]
   exact s5 _ _ (hr j r y z h2)
  ·subst z
   rw [e,lr,hx] at h2
   cases h2
   rw [upd_ne npD]
   exact hp
theorem GrdI.done {H1 H':Hp} {D:Addr} {X:List (List V)} {ys:List V} (g:GrdI H1 D X X.length ys H'):Same H1 H'∧GrdAt H' D X:=by
 obtain ⟨rs,rfl,lr,s4,eD,nD,hr⟩:=g
 exact ⟨s4,rs,eD,lr,hr⟩
def spCol:Sp:=fun vs H Q _=>∃ (a:Addr) (X:List (List V)) (j:Nat),vs=[.ref a,.int (j:Int)]∧GrdAt H a X∧X.length≤900∧(∀ x ∈ X,j < x.length)∧∀ D H',Same H H'→H D=none→H' D=some (.lst (X.map fun x=>(x[j]?).getD .non))→Q (.ref D) H'
theorem scCol:FnScope ["rows","place"] ["rows","place"] (defScope sCol):=⟨rfl,rfl,rfl,by decide +kernel,rfl,by decide +kernel,by decide +kernel⟩
theorem lcCol:LcScopes (defScope sCol) ["rows","place"] (lcScope (asgVal (bodyAt sCol 0))) ["row"]:=⟨by decide +kernel,rfl,by decide +kernel,by decide +kernel,by decide +kernel,by decide +kernel,by decide +kernel,by decide +kernel,by decide +kernel,by decide +kernel⟩
theorem ok_col {f:Addr} {fd:FuncData} (F:Fun K "column_of" "column_of" sCol f fd):FnOk P w K mg base CX0 1 f fd ["rows","place"] spCol:=by
 refine F.ok scCol (fun vs H Q E h=>?_) (fun cdv A outer s H vs Q E hr h=>?_)
 ·obtain ⟨a,X,j,rfl,_⟩:=h
  rfl
 ·obtain ⟨a,X,j,rfl,⟨rs,ha,R⟩,hX,hj,q⟩:=h
  refine ⟨_,pss_one (ps_ret (pe_lc1 rfl lcCol rfl (pi_list (pv 0)) (fun _ _ _=>pe_ix (ix_listK (K:=K)) (pv 2) (pv 1) (fun _ _=>rfl)))),?_⟩
  refine ⟨_,rfl,a,rfl,⟨_,SqL.of ha⟩,fun D hD=>?_⟩
  refine lc_vals (X.map fun x=>(x[j]?).getD .non) (by rw [List.length_map,List.length_map,R.len]) (by rw [List.length_map,R.len]; exact hX) hD (SqL.of ha) ?_ ?_ ?_
  ·intro i x v H' hx hv s'
   obtain ⟨r,hr,rfl⟩:=map_get hx
   obtain ⟨y,hy,rfl⟩:=map_get hv
   obtain ⟨z,hz⟩:=get_lt (hj y (List.mem_of_getElem? hy))
   refine ⟨_,rfl,_,rfl,r,_,_,z,rfl,rfl,SqL.of (s' _ _ (R.row i r y hr hy)),atI_nat hz,?_,Same.refl _⟩
   rw [hz]
   rfl
  ·intro H' s' eD
   exact q D H' s' hD eD
  ·rintro σ H' Q1 Q2 hq ⟨v,e,v',e',a1,a2,a3,a4,a5,a6,a7,a8,g⟩
   exact ⟨v,e,v',e',a1,a2,a3,a4,a5,a6,a7,a8,hq _ _ g⟩
def colsV (X:List (List V)) (n:Nat):List (List V):=(List.range n).map fun j=>X.map fun x=>(x[j]?).getD .non
def spCols:Sp:=fun vs H Q _=>∃ (a:Addr) (X:List (List V)) (n:Nat),vs=[.ref a]∧GrdAt H a X∧X.length≤900∧n≤900∧(∀ x ∈ X,x.length=n)∧(X=[]→n=0)∧∀ D H',Same H H'→H D=none→GrdAt H' D (colsV X n)→Q (.ref D) H'
theorem scCols:FnScope ["rows","width"] ["rows"] (defScope sCols):=⟨rfl,rfl,rfl,by decide +kernel,rfl,by decide +kernel,by decide +kernel⟩
theorem lcCols:LcScopes (defScope sCols) ["rows","width"] (lcScope (asgVal (bodyAt sCols 1))) ["place"]:=⟨by decide +kernel,rfl,by decide +kernel,by decide +kernel,by decide +kernel,by decide +kernel,by decide +kernel,by decide +kernel,by decide +kernel,by decide +kernel⟩
theorem ok_cols {f fC:Addr} {fd fdC:FuncData} (B:BltR mg) (F:Fun K "columns_of" "columns_of" sCols f fd) (DC:Dn K mg "column_of" sCol ["rows","place"] fC fdC) (GC:FnOk P w K mg base CX0 1 fC fdC ["rows","place"] spCol):FnOk P w K mg base CX0 2 f fd ["rows"] spCols:=by
 refine F.ok scCols (fun vs H Q E h=>?_) (fun cdv A outer s H vs Q E hr h=>?_)
 ·obtain ⟨a,X,n,rfl,_⟩:=h
  rfl
 ·obtain ⟨a,X,n,rfl,⟨rs,ha,R⟩,hX,hn,hw,h0,q⟩:=h
  refine ⟨_,pss_mid (ps_set (i:=1) scCols.nd rfl (Or.inl rfl) (pe_ifExp (pt_truth (pv 0) (fun _=>rfl)) (pe_callB call_len_seq (by rfl) B.len PySem.boot_len (pa_cons (pe_ix ix_list (pv 0) pe_int (fun _ _=>rfl)) pa_nil)) pe_int))
   (pss_one (ps_ret (pe_lc1 rfl lcCols rfl (pi_range1 rfl B.range (pa_cons (pv 1) pa_nil)) (fun _ _ _=>pe_fn DC GC hr rfl (pa_cons (pv 0) (pa_cons (pv 2) pa_nil)))))),?_⟩
  refine ⟨fun σ H1=>σ=[some (.ref a),some (.int (n:Int))]∧H1=H,?_,?_⟩
  ·refine ⟨_,rfl,!(rs.map V.ref).isEmpty,.inl ⟨_,SqL.of ha,rfl⟩,?_⟩
   have lr:=R.len
   match rs,X,lr with
   | [],[],_ =>
    refine iteF ⟨?_,rfl⟩
    rw [h0 rfl]
    rfl
   | r :: rs,x :: X,_ =>
    refine iteT ?_
    refine ⟨_,rfl,a,_,_,.ref r,rfl,rfl,SqL.of ha,atI_nat (j:=0) rfl,r,_,rfl,.inl (SqL.of (R.row 0 r x rfl rfl)),?_,rfl⟩
    rw [hw x List.mem_cons_self]
    rfl
  ·rintro σ H1 ⟨rfl,rfl⟩
   refine ⟨_,rfl,(n:Int),rfl,by omega,by omega,fun D hD=>?_⟩
   rw [Int.toNat_natCast]
   have lc:(colsV X n).length=n:=by unfold colsV; rw [List.length_map,List.length_range]
   refine lc_range (n:=n) (GrdI H1 D (colsV X n)) (GrdI.start hD) (fun i ys H' _ ⟨_,_,_,_,eD,_⟩=>eD) ?_ ?_ ?_
   ·rintro i ys H' hi g
    have e0:((0:Int)+(i:Nat))=(i:Int):=by omega
    rw [e0]
    have s':Same H1 H':=let ⟨_,_,_,z,_⟩:=g; z
    refine ⟨_,rfl,_,rfl,a,X,i,rfl,⟨rs,s' _ _ ha,R.mono s'⟩,hX,fun x hx=>by rw [hw x hx]; exact hi,fun p H3 s3 np ep=>?_⟩
    refine g.step hD ?_ ⟨p,rfl,ep,np⟩ s3 (by omega)
    unfold colsV
    rw [List.getElem?_map,List.getElem?_range hi]
    rfl
   ·intro ys H' g
    obtain ⟨s',gg⟩:=GrdI.done (X:=colsV X n) (by rw [lc]; exact g)
    exact q D H' s' hD gg
   ·rintro σ H' Q1 Q2 hq ⟨v,e,v',e',a1,a2,a3,a4,a5,a6,a7,g⟩
    exact ⟨v,e,v',e',a1,a2,a3,a4,a5,a6,a7,fun D H3 s3 n3 e3=>hq _ _ (g D H3 s3 n3 e3)⟩
def spInOne:Sp:=fun vs H Q _=>∃ (a:Addr) (X:List (List V)),vs=[.ref a]∧GrdAt H a X∧X.flatten.length≤900∧∀ D H',Same H H'→H D=none→H' D=some (.lst X.flatten)→Q (.ref D) H'
theorem scInOne:FnScope ["rows","things","row"] ["rows"] (defScope sInOne):=⟨rfl,rfl,rfl,by decide +kernel,rfl,by decide +kernel,by decide +kernel⟩
theorem flat_take {X:List (List V)} {i:Nat} {x:List V} (h:X[i]? = some x):(X.take (i+1)).flatten=(X.take i).flatten++x:=by
 rw [take_snoc h,List.flatten_append]
 simp
theorem flat_le (X:List (List V)) (i:Nat):(X.take i).flatten.length≤X.flatten.length:=by
 have:=congrArg (fun l=>(List.flatten l).length) (List.take_append_drop i X)
 simp only [List.flatten_append,List.length_append] at this
 omega
theorem ok_inOne {f:Addr} {fd:FuncData} (F:Fun K "in_one_list" "in_one_list" sInOne f fd):FnOk P w K mg base CX0 1 f fd ["rows"] spInOne:=by
 refine F.ok scInOne (fun vs H Q E h=>?_) (fun cdv A outer s H vs Q E hr h=>?_)
 ·obtain ⟨a,X,rfl,_⟩:=h
  rfl
 ·obtain ⟨a,X,rfl,⟨rs,ha,R⟩,hX,q⟩:=h
  refine ⟨_,pss_cons (ps_set (i:=1) scInOne.nd rfl (Or.inl rfl) (pe_lst pa_nil))
   (pss_cons (ps_for PassesOwn.never rfl (pi_list (pv 0)) (pg_name (i:=2) scInOne.nd rfl (Or.inl rfl))
    (pss_one (ps_expr (pe_bm PySem.F.plainAttrs_list PySem.F.slot_list_extend PySem.F.type_list_extend mt_extend (pv 1) (pa_cons (pv 2) pa_nil)))))
   (pss_one (ps_ret (pv 1)))),?_⟩
  refine ⟨Nat.zero_le _,fun D hD=>?_⟩
  have aD:a≠D:=ne_of_none ha hD
  refine ⟨_,rfl,a,rfl,⟨_,SqL.of (by rw [upd_ne aD]; exact ha)⟩,for_list (xs:=rs.map V.ref) (fun i σ H'=>∃ (o2:Option V),σ=[some (.ref a),some (.ref D),o2]∧Same H H'∧H' D=some (.lst (X.take i).flatten)) ⟨none,rfl,Same.upd hD,by rw [upd_same]; rfl⟩ (fun i σ H' _ ⟨_,_,s',_⟩=>SqL.of (s' _ _ ha)) ?_ ?_⟩
  ·rintro i x σ H1 hx ⟨o2,rfl,s1,e1⟩
   obtain ⟨r,hr,rfl⟩:=map_get hx
   obtain ⟨y,hy⟩:=get_lt (l:=X) (i:=i) (by rw [←R.len]; exact lt_get hr)
   have er:=s1 _ _ (R.row i r y hr hy)
   have fl:=flat_le X (i+1)
   rw [flat_take hy,List.length_append] at fl
   refine ⟨_,rfl,.inl ⟨rfl,_,SqL.of e1⟩,_,rfl,?_⟩
   refine ⟨D,r,_,_,rfl,rfl,e1,er,Nat.le_of_lt (small1000 (by omega)),?_⟩
   refine ⟨_,rfl,fun b o e=>?_,?_⟩
   ·rw [upd_ne (ne_of_none e hD)]
    exact s1 _ _ e
   ·rw [upd_same,flat_take hy]
  ·rintro σ H1 ⟨o2,rfl,s1,e1⟩
   rw [List.length_map,R.len,List.take_length] at e1
   exact ⟨_,rfl,q D H1 s1 hD e1⟩
def squareV (xs:List V) (n:Nat):List (List V):=(List.range n).map fun i=>(xs.drop (n * i)).take n
def spInSq (K:PySem.W.Frag):Sp:=fun vs H Q _=>∃ (a:Addr) (xs:List V) (n:Nat),vs=[.ref a,.int (n:Int)]∧SqL K H a xs∧xs.length=n * n∧n≤16∧∀ D H',Same H H'→H D=none→GrdAt H' D (squareV xs n)→Q (.ref D) H'
theorem scInSq:FnScope ["things","size"] ["things","size"] (defScope sInSq):=⟨rfl,rfl,rfl,by decide +kernel,rfl,by decide +kernel,by decide +kernel⟩
theorem lcInSq:LcScopes (defScope sInSq) ["things","size"] (lcScope (asgVal (bodyAt sInSq 0))) ["place"]:=⟨by decide +kernel,rfl,by decide +kernel,by decide +kernel,by decide +kernel,by decide +kernel,by decide +kernel,by decide +kernel,by decide +kernel,by decide +kernel⟩
theorem cut_sq {xs:List V} {n i:Nat} (hx:xs.length=n * n) (hi:i < n):cutV xs (some ((n:Int) * (i:Int))) (some ((n:Int) * ((i:Int)+1)))=(xs.drop (n * i)).take n:=by
 have h1:n * (i+1)≤n * n:=Nat.mul_le_mul_left n hi
 have e1:(n:Int) * (i:Int)=((n * i:Nat):Int):=by push_cast; rfl
 have e2:(n:Int) * ((i:Int)+1)=((n * (i+1):Nat):Int):=by push_cast; rfl
 have h2:n * (i+1)=n * i+n:=Nat.mul_succ n i
 unfold cutV
 rw [e1,e2,HT.sIx_nat,HT.sIx_nat,hx,Nat.min_eq_left h1,Nat.min_eq_left (show n * i≤n * n by omega)]
 congr 1
 omega
theorem sl_listK {X:Cx} (h:X.K=K:=by rfl):SlR X (rSlL K):=by subst h; exact sl_list
theorem ok_inSq {f:Addr} {fd:FuncData} (B:BltR mg) (F:Fun K "in_square" "in_square" sInSq f fd):FnOk P w K mg base CX0 1 f fd ["things","size"] (spInSq K):=by
 refine F.ok scInSq (fun vs H Q E h=>?_) (fun cdv A outer s H vs Q E hr h=>?_)
 ·obtain ⟨a,xs,n,rfl,_⟩:=h
  rfl
 ·obtain ⟨a,xs,n,rfl,ha,hx,hn,q⟩:=h
  refine ⟨_,pss_one (ps_ret (pe_lc1 rfl lcInSq rfl (pi_range1 rfl B.range (pa_cons (pv 1) pa_nil)) (fun _ _ _=>pe_slice (sl_listK (K:=K)) (pv 0) (po_some (pe_op op_mul (pv 1) (pv 2))) (po_some (pe_op op_mul (pv 1) (pe_op op_add (pv 2) pe_int)))))),?_⟩
  refine ⟨_,rfl,(n:Int),rfl,by omega,by omega,fun D hD=>?_⟩
  rw [Int.toNat_natCast]
  have lc:(squareV xs n).length=n:=by unfold squareV; rw [List.length_map,List.length_range]
  refine lc_range (n:=n) (GrdI H D (squareV xs n)) (GrdI.start hD) (fun i ys H' _ ⟨_,_,_,_,eD,_⟩=>eD) ?_ ?_ ?_
  ·rintro i ys H' hi g
   have e0:((0:Int)+(i:Nat))=(i:Int):=by omega
   rw [e0]
   have s':Same H H':=let ⟨_,_,_,z,_⟩:=g; z
   refine ⟨_,rfl,_,rfl,_,rfl,_,_,rfl,rfl,cmul_l (by omega) (by omega),_,rfl,_,rfl,_,rfl,_,_,rfl,rfl,_,_,rfl,rfl,cmul_l (by omega) (by omega),_,rfl,a,xs,rfl,s'.seq ha,fun p hp=>?_⟩
   have st:=g.step (u:=.ref p) (x:=(xs.drop (n * i)).take n) hD (by unfold squareV; rw [List.getElem?_map,List.getElem?_range hi]; rfl) ⟨p,rfl,upd_same,hp⟩ (Same.upd hp) (by omega)
   rw [←cut_sq hx hi] at st
   exact st
  ·intro ys H' g
   obtain ⟨s',gg⟩:=GrdI.done (X:=squareV xs n) (by rw [lc]; exact g)
   exact q D H' s' hD gg
  ·rintro σ H' Q1 Q2 hq ⟨v1,e1,v2,e2,v3,e3,i1,j1,f1,f2,c1,l1,e4,v5,e5,v6,e6,i2,j2,f3,f4,i3,j3,f5,f6,c2,h1,e7,a1,x1,e8,q1,g⟩
   exact ⟨v1,e1,v2,e2,v3,e3,i1,j1,f1,f2,c1,l1,e4,v5,e5,v6,e6,i2,j2,f3,f4,i3,j3,f5,f6,c2,h1,e7,a1,x1,e8,q1,fun p hp=>hq _ _ (g p hp)⟩
end
section
variable {P:Program} {w:World} {K:PySem.W.Frag} {mg:Str→Option Value} {base:Heap}
def gI (M:List (List Int)):List (List V):=M.map fun x=>x.map V.int
theorem gI_get {M:List (List Int)} {i:Nat} {x:List Int} (h:M[i]? = some x):(gI M)[i]? = some (x.map V.int):=by unfold gI; rw [List.getElem?_map,h]; rfl
theorem gI_len (M:List (List Int)):(gI M).length=M.length:=by unfold gI; rw [List.length_map]
open TM in
def spDot:Sp:=fun vs H Q _=>∃ (a b:Addr) (ws rs:List Int) (n:Nat),vs=[.ref a,.ref b]∧H a=some (.lst (ws.map V.int))∧H b=some (.lst (rs.map V.int))∧ws.length=rs.length∧ws.length≤900∧n≤1000000∧(∀ x ∈ ws,M11.Bn n x)∧(∀ x ∈ rs,M11.Bn n x)∧∀ H',Same H H'→Q (.int (dot ws rs)) H'
theorem scDot:FnScope ["numbers","others"] ["numbers","others"] (defScope sDot):=⟨rfl,rfl,rfl,by decide +kernel,rfl,by decide +kernel,by decide +kernel⟩
def argAt (e:Expr) (i:Nat):Expr:=match e with
 | .Call _ es _ _=>es.getD i (.Constant .none 0 ⟨0,0,0,0⟩)
 | .BinOp _ _ b _=>b
 | _=>.Constant .none 0 ⟨0,0,0,0⟩
theorem lcDot:LcScopes (defScope sDot) ["numbers","others"] (lcScope (argAt (asgVal (bodyAt sDot 0)) 0)) ["number","other"]:=⟨by decide +kernel,rfl,by decide +kernel,by decide +kernel,by decide +kernel,by decide +kernel,by decide +kernel,by decide +kernel,by decide +kernel,by decide +kernel⟩
theorem boot_sum:bootBuiltins "sum" = some (.builtin "sum"):=by decide +kernel
theorem zip_get {f:Int→Int→Int} {a b:List Int} {i:Nat} {x y:Int} (hx:a[i]? = some x) (hy:b[i]? = some y):(List.zipWith f a b)[i]? = some (f x y):=by
 rw [List.getElem?_zipWith,hx,hy]
theorem ok_dot {f:Addr} {fd:FuncData} (B:BltR mg) (F:Fun K "sum_of_products" "sum_of_products" sDot f fd):FnOk P w K mg base CX0 1 f fd ["numbers","others"] spDot:=by
 refine F.ok scDot (fun vs H Q E h=>?_) (fun cdv A outer s H vs Q E hr h=>?_)
 ·obtain ⟨a,b,ws,rs,n,rfl,_⟩:=h
  rfl
 ·obtain ⟨a,b,ws,rs,n,rfl,ha,hb,hl,hm,hn,hw,hr',q⟩:=h
  refine ⟨_,pss_one (ps_ret (pe_callB (call_sum rfl) (by rfl) B.sum boot_sum (pa_cons (pe_lcs rfl lcDot rfl (pi_zip rfl B.zip (pa_cons (pv 0) (pa_cons (pv 1) pa_nil))) (pg_two rfl lcDot) (fun _ _ _=>pts_nil) (fun _ _ _=>pe_op op_mulN (pv 2) (pv 3))) pa_nil))),?_⟩
  refine ⟨_,rfl,_,rfl,a,b,rfl,⟨_,SqL.of ha⟩,⟨_,SqL.of hb⟩,?_⟩
  refine lc_zip ((List.zipWith (fun x y=>x * y) ws rs).map V.int) rfl (SqL.of ha) (SqL.of hb) (by rw [List.length_map,List.length_map,List.length_zipWith]; omega) (by rw [List.length_map,List.length_map,List.length_zipWith]; omega) (by rw [List.length_map,List.length_zipWith]; omega) ?_ ?_ ?_
  ·intro i x y v H' hx hy hv s'
   obtain ⟨x,ex,rfl⟩:=map_get hx
   obtain ⟨y,ey,rfl⟩:=map_get hy
   obtain ⟨z,ez,rfl⟩:=map_get hv
   rw [zip_get ex ey] at ez
   cases ez
   exact ⟨_,rfl,_,rfl,_,_,rfl,rfl,⟨n,hn,hw x (List.mem_of_getElem? ex),hr' y (List.mem_of_getElem? ey)⟩,rfl,Same.refl _⟩
  ·intro D H' s' eD
   exact ⟨D,_,rfl,SqL.of eD,q H' s'⟩
  ·rintro σ H' Q1 Q2 hq ⟨v,e,v',e',i,j,a1,a2,a3,g⟩
   exact ⟨v,e,v',e',i,j,a1,a2,a3,hq _ _ g⟩
theorem dot_comm:∀ a b:List Int,TM.dot a b=TM.dot b a:=by
 intro a b
 unfold TM.dot
 rw [List.zipWith_comm]
 congr 1
 funext
 simp only [Int.mul_comm]
theorem scEach:FnScope ["numbers","rows"] ["numbers","rows"] (defScope sEach):=⟨rfl,rfl,rfl,by decide +kernel,rfl,by decide +kernel,by decide +kernel⟩
theorem lcEach:LcScopes (defScope sEach) ["numbers","rows"] (lcScope (asgVal (bodyAt sEach 0))) ["row"]:=⟨by decide +kernel,rfl,by decide +kernel,by decide +kernel,by decide +kernel,by decide +kernel,by decide +kernel,by decide +kernel,by decide +kernel,by decide +kernel⟩
open TM in
def spEachG:Sp:=fun vs H Q _=>∃ (a l:Addr) (M:List (List Int)) (r:List Int) (n:Nat),vs=[.ref l,.ref a]∧GrdAt H a (gI M)∧H l=some (.lst (r.map V.int))∧M.length≤900∧r.length≤900∧n≤1000000∧(∀ x ∈ M,x.length=r.length∧∀ z ∈ x,M11.Bn n z)∧(∀ x ∈ r,M11.Bn n x) ∧
 ∀ D H',Same H H'→H D=none→H' D=some (.lst ((M.map fun w=>dot w r).map V.int))→Q (.ref D) H'
theorem ok_eachG {f fD:Addr} {fd fdD:FuncData} (F:Fun K "sums_with_each" "sums_with_each" sEach f fd) (DD:Dn K mg "sum_of_products" sDot ["numbers","others"] fD fdD) (GD:FnOk P w K mg base CX0 1 fD fdD ["numbers","others"] spDot):FnOk P w K mg base CX0 2 f fd ["numbers","rows"] spEachG:=by
 refine F.ok scEach (fun vs H Q E h=>?_) (fun cdv A outer s H vs Q E hr h=>?_)
 ·obtain ⟨a,l,M,r,n,rfl,_⟩:=h
  rfl
 ·obtain ⟨a,l,M,r,n,rfl,⟨rs,ha,R⟩,hl,hM,hrl,hn,hw,hr',q⟩:=h
  have lr:rs.length=M.length:=by rw [R.len,gI_len]
  refine ⟨_,pss_one (ps_ret (pe_lc1 rfl lcEach rfl (pi_list (pv 1)) (fun _ _ _=>pe_fn DD GD hr rfl (pa_cons (pv 0) (pa_cons (pv 2) pa_nil))))),?_⟩
  refine ⟨_,rfl,a,rfl,⟨_,SqL.of ha⟩,fun D hD=>?_⟩
  refine lc_vals ((M.map fun w=>TM.dot w r).map V.int) (by rw [List.length_map,List.length_map,List.length_map,lr]) (by rw [List.length_map,lr]; omega) hD (SqL.of ha) ?_ ?_ ?_
  ·intro i x v H' hx hv s'
   obtain ⟨ra,hra,rfl⟩:=map_get hx
   obtain ⟨z,hz,rfl⟩:=map_get hv
   obtain ⟨row,hrow,rfl⟩:=map_get hz
   have er:=R.row i ra _ hra (gI_get hrow)
   obtain ⟨w1,w2⟩:=hw row (List.mem_of_getElem? hrow)
   rw [dot_comm row r]
   exact ⟨_,rfl,_,rfl,l,ra,r,row,n,rfl,s' _ _ hl,s' _ _ er,w1.symm,hrl,hn,hr',w2,fun H3 s3=>⟨rfl,s3⟩⟩
  ·intro H' s' eD
   exact q D H' s' hD eD
  ·rintro σ H' Q1 Q2 hq ⟨v,e,v',e',a1,a2,a3,a4,a5,a6,a7,a8,a9,a10,a11,a12,a13,g⟩
   exact ⟨v,e,v',e',a1,a2,a3,a4,a5,a6,a7,a8,a9,a10,a11,a12,a13,fun H3 s3=>hq _ _ (g H3 s3)⟩
def colsI (N:List (List Int)) (n:Nat):List (List Int):=(List.range n).map fun j=>N.map fun x=>(x[j]?).getD 0
theorem cols_gI {N:List (List Int)} {n:Nat} (h:∀ x ∈ N,x.length=n):colsV (gI N) n=gI (colsI N n):=by
 unfold colsV colsI
 show _=List.map (fun x:List Int=>x.map V.int) _
 rw [List.map_map]
 refine List.map_congr_left fun j hj=>?_
 show ((gI N).map fun x=>(x[j]?).getD .non)=(N.map fun x=>(x[j]?).getD 0).map V.int
 unfold gI
 rw [List.map_map,List.map_map]
 refine List.map_congr_left fun x hx=>?_
 show ((x.map V.int)[j]?).getD .non=V.int ((x[j]?).getD 0)
 obtain ⟨z,hz⟩:=get_lt (l:=x) (i:=j) (by rw [h x hx]; exact List.mem_range.mp hj)
 rw [List.getElem?_map,hz]
 rfl
open TM in
def prodI (M N:List (List Int)) (n:Nat):List (List Int):=M.map fun r=>(colsI N n).map fun c=>dot c r
def spProd:Sp:=fun vs H Q _=>∃ (a b:Addr) (M N:List (List Int)) (n k:Nat),vs=[.ref a,.ref b]∧GrdAt H a (gI M)∧GrdAt H b (gI N)∧M.length≤900∧N.length≤900∧n≤900∧k≤1000000∧(∀ x ∈ M,x.length=N.length∧∀ z ∈ x,M11.Bn k z)∧(∀ x ∈ N,x.length=n∧∀ z ∈ x,M11.Bn k z)∧(N=[]→n=0) ∧
 ∀ D H',Same H H'→H D=none→GrdAt H' D (gI (prodI M N n))→Q (.ref D) H'
theorem scProd:FnScope ["rows","others","columns"] ["rows","others"] (defScope sProd):=⟨rfl,rfl,rfl,by decide +kernel,rfl,by decide +kernel,by decide +kernel⟩
theorem lcProd:LcScopes (defScope sProd) ["rows","others","columns"] (lcScope (asgVal (bodyAt sProd 1))) ["row"]:=⟨by decide +kernel,rfl,by decide +kernel,by decide +kernel,by decide +kernel,by decide +kernel,by decide +kernel,by decide +kernel,by decide +kernel,by decide +kernel⟩
theorem ok_prod {f fC fE:Addr} {fd fdC fdE:FuncData} (F:Fun K "product_of_grids" "product_of_grids" sProd f fd) (DC:Dn K mg "columns_of" sCols ["rows"] fC fdC) (GC:FnOk P w K mg base CX0 2 fC fdC ["rows"] spCols)
  (DE:Dn K mg "sums_with_each" sEach ["numbers","rows"] fE fdE) (GE:FnOk P w K mg base CX0 2 fE fdE ["numbers","rows"] spEachG):FnOk P w K mg base CX0 3 f fd ["rows","others"] spProd:=by
 refine F.ok scProd (fun vs H Q E h=>?_) (fun cdv A outer s H vs Q E hr h=>?_)
 ·obtain ⟨a,b,M,N,n,k,rfl,_⟩:=h
  rfl
 ·obtain ⟨a,b,M,N,n,k,rfl,⟨rs,ha,R⟩,gb,hM,hN,hn,hk,hm,hN',h0,q⟩:=h
  have lr:rs.length=M.length:=by rw [R.len,gI_len]
  refine ⟨_,pss_cons (ps_set (i:=2) scProd.nd rfl (Or.inr rfl) (pe_fn DC GC hr rfl (pa_cons (pv 1) pa_nil)))
   (pss_one (ps_ret (pe_lc1 rfl lcProd rfl (pi_list (pv 0)) (fun _ _ _=>pe_fn DE GE hr rfl (pa_cons (pv 3) (pa_cons (pv 2) pa_nil)))))),?_⟩
  refine ⟨_,rfl,b,gI N,n,rfl,gb,by rw [gI_len]; exact hN,hn,fun x hx=>?_,fun z=>h0 ?_,fun C H1 s1 nC gC=>?_⟩
  ·obtain ⟨y,hy,rfl⟩:=List.mem_map.mp hx
   rw [List.length_map]
   exact (hN' y hy).1
  ·exact List.map_eq_nil_iff.mp z
  rw [cols_gI fun x hx=>(hN' x hx).1] at gC
  refine ⟨_,rfl,a,rfl,⟨_,SqL.of (s1 _ _ ha)⟩,fun D hD=>?_⟩
  refine lc_list (xs:=rs.map V.ref) (GrdI H1 D (gI (prodI M N n))) (GrdI.start hD) (fun i ys H' _ ⟨_,_,_,s',eD,_⟩=>⟨SqL.of (s' _ _ (s1 _ _ ha)),eD⟩) ?_ ?_ ?_
  ·rintro i x ys H' hx g
   obtain ⟨r,hr',rfl⟩:=map_get hx
   obtain ⟨row,hrow⟩:=get_lt (l:=M) (i:=i) (by rw [←lr]; exact lt_get hr')
   have s':Same H1 H':=let ⟨_,_,_,z,_⟩:=g; z
   have er:=(s1.trans s') _ _ (R.row i r _ hr' (gI_get hrow))
   obtain ⟨w1,w2⟩:=hm row (List.mem_of_getElem? hrow)
   refine ⟨_,rfl,_,rfl,C,r,colsI N n,row,k,rfl,gC.mono s',er,by unfold colsI; rw [List.length_map,List.length_range]; exact hn,by omega,hk,fun c hc=>?_,w2,fun p H3 s3 np ep=>?_⟩
   ·unfold colsI at hc
    obtain ⟨j,hj,rfl⟩:=List.mem_map.mp hc
    refine ⟨by rw [List.length_map,w1],fun z hz=>?_⟩
    obtain ⟨y,hy,rfl⟩:=List.mem_map.mp hz
    obtain ⟨u,hu⟩:=get_lt (l:=y) (i:=j) (by rw [(hN' y hy).1]; exact List.mem_range.mp hj)
    show M11.Bn k ((y[j]?).getD 0)
    rw [hu]
    exact (hN' y hy).2 u (List.mem_of_getElem? hu)
   ·refine g.step hD ?_ ⟨p,rfl,ep,np⟩ s3 (by have:=lt_get hrow; omega)
    exact gI_get (by unfold prodI; rw [List.getElem?_map,hrow]; rfl)
  ·intro ys H' g
   have ll:(rs.map V.ref).length=(gI (prodI M N n)).length:=by rw [List.length_map,gI_len,lr]; unfold prodI; rw [List.length_map]
   rw [ll] at g
   obtain ⟨s',gg⟩:=g.done
   exact q D H' (s1.trans s') (s1.free hD) gg
  ·rintro σ H' Q1 Q2 hq ⟨v,e,v',e',a1,a2,a3,a4,a5,a6,a7,a8,a9,a10,a11,a12,a13,g⟩
   exact ⟨v,e,v',e',a1,a2,a3,a4,a5,a6,a7,a8,a9,a10,a11,a12,a13,fun D H3 s3 n3 e3=>hq _ _ (g D H3 s3 n3 e3)⟩
end
section
variable {P:Program} {w:World} {K:PySem.W.Frag} {mg:Str→Option Value} {base:Heap}
def CDivL (_ j:Int):Prop:=j≠0∧j.natAbs < 2 ^ 9000
theorem op_fdivL {X:Cx}:OpR X (binaryOp .FloorDiv) (L2.rI CDivL fun i j=>.int (i.fdiv j)) :=
 opI fun _ _ _ _ _ _ _ hc q=>floordiv_int hc.1 q (.inl (PyProof.noPylong_of_log2 ((Nat.log2_lt (by have:=hc.1; omega)).mpr hc.2)))
def FrAt (H:Hp) (x:List V) (fs:List (Int × Int)):Prop:=x.length=fs.length∧∀ (i:Nat) (v:V) (f:Int × Int),x[i]? = some v→fs[i]? = some f→∃ p,v=.ref p∧H p=some (tupF f)
theorem FrAt.mono {H H':Hp} {x:List V} {fs:List (Int × Int)} (h:FrAt H x fs) (s:Same H H'):FrAt H' x fs:=⟨h.1,fun i v f h1 h2=>by
 obtain ⟨p,e,hp⟩:=h.2 i v f h1 h2
 exact ⟨p,e,s _ _ hp⟩⟩
def Bt (f:Int × Int):Prop:=0 < f.2∧f.2.natAbs < 2 ^ 20
def botStep (b q:Int):Int:=b.fdiv (M11.G b q) * q
def botL (fs:List (Int × Int)):Int:=fs.foldl (fun b f=>botStep b f.2) 1
theorem bot_step {b q:Int} (hb:0 < b) (hq:0 < q):0 < botStep b q∧b ∣ botStep b q∧q ∣ botStep b q∧(botStep b q).natAbs≤b.natAbs * q.natAbs:=by
 have hg:=M11.G_pos (b:=q) hb
 obtain ⟨b',e1⟩:M11.G b q ∣ b:=Int.gcd_dvd_left ..
 obtain ⟨q',e2⟩:M11.G b q ∣ q:=Int.gcd_dvd_right ..
 unfold botStep
 generalize M11.G b q=g at *
 have e3:b.fdiv g=b':=by
  rw [e1,Int.mul_fdiv_cancel_left _ (Int.ne_of_gt hg)]
 have hb':0 < b':=by
  rcases Int.lt_or_le 0 b' with z | z
  ·exact z
  ·have:=Int.mul_le_mul_of_nonneg_left z (Int.le_of_lt hg)
   rw [←e1,Int.mul_zero] at this
   omega
 rw [e3]
 refine ⟨Int.mul_pos hb' hq,⟨q',by rw [e1]; rw [e2]; grind⟩,⟨b',by grind⟩,?_⟩
 rw [Int.natAbs_mul,e1,Int.natAbs_mul]
 exact Nat.mul_le_mul_right _ (Nat.le_mul_of_pos_left _ (by omega))
theorem bot_fold:∀ (fs:List (Int × Int)) (b:Int),0 < b→(∀ f ∈ fs,Bt f) →
  0 < fs.foldl (fun b f=>botStep b f.2) b∧b ∣ fs.foldl (fun b f=>botStep b f.2) b∧(∀ f ∈ fs,f.2 ∣ fs.foldl (fun b f=>botStep b f.2) b)∧(fs.foldl (fun b f=>botStep b f.2) b).natAbs≤b.natAbs * 2 ^ (20 * fs.length)
 | [],b,hb,_=>⟨hb,Int.dvd_refl _,fun _ h=>(nomatch h),by simp⟩
 | f :: fs,b,hb,h=>by
  obtain ⟨h1,h2⟩:=h f List.mem_cons_self
  obtain ⟨s1,s2,s3,s4⟩:=bot_step hb h1
  obtain ⟨r1,r2,r3,r4⟩:=bot_fold fs _ s1 fun g hg=>h g (List.mem_cons_of_mem _ hg)
  refine ⟨r1,Int.dvd_trans s2 r2,fun g hg=>?_,Nat.le_trans r4 ?_⟩
  ·rcases List.mem_cons.mp hg with e | e
   ·subst e; exact Int.dvd_trans s3 r2
   ·exact r3 g e
  ·have e:(2:Nat) ^ (20 * (f :: fs).length)=2 ^ 20 * 2 ^ (20 * fs.length):=by
    rw [←Nat.pow_add]
    congr 1
    rw [List.length_cons]
    omega
   rw [e,←Nat.mul_assoc]
   exact Nat.mul_le_mul_right _ (Nat.le_trans s4 (Nat.mul_le_mul_left _ (Nat.le_of_lt h2)))
theorem bot_spec {fs:List (Int × Int)} (h:∀ f ∈ fs,Bt f):0 < botL fs∧(∀ f ∈ fs,f.2 ∣ botL fs)∧M11.Bn (20 * fs.length+1) (botL fs):=by
 obtain ⟨r1,_,r3,r4⟩:=bot_fold fs 1 (by decide) h
 refine ⟨r1,r3,?_⟩
 show (botL fs).natAbs < 2 ^ (20 * fs.length+1)
 have:=Nat.two_pow_pos (20 * fs.length)
 rw [Nat.pow_succ]
 have r4':(botL fs).natAbs≤1 * 2 ^ (20 * fs.length):=r4
 omega
theorem bot_snoc (fs:List (Int × Int)) (f:Int × Int):botL (fs++[f])=botStep (botL fs) f.2:=by
 unfold botL
 rw [List.foldl_append]
 rfl
theorem fdiv_le {b g:Int} (hg:0 < g):(b.fdiv g).natAbs≤b.natAbs:=by
 rw [Int.fdiv_eq_ediv_of_nonneg _ (Int.le_of_lt hg)]
 exact Int.natAbs_ediv_le_natAbs b g
def spBottom:Sp:=fun vs H Q _=>∃ (a:Addr) (x:List V) (fs:List (Int × Int)),vs=[.ref a]∧H a=some (.lst x)∧FrAt H x fs∧fs.length≤900∧(∀ f ∈ fs,Bt f)∧Q (.int (botL fs)) H
theorem scBot:FnScope ["fractions","bottom","f"] ["fractions"] (defScope sBottom):=⟨rfl,rfl,rfl,by decide +kernel,rfl,by decide +kernel,by decide +kernel⟩
theorem ok_bottom {f fG:Addr} {fd fdG:FuncData} (F:Fun K "common_bottom" "common_bottom" sBottom f fd) (DG:Dn K mg "greatest_divisor" sGd ["number","other"] fG fdG) (GG:FnOk P w K mg base CX0 1 fG fdG ["number","other"] spG):FnOk P w K mg base CX0 2 f fd ["fractions"] spBottom:=by
 refine F.ok scBot (fun vs H Q E h=>?_) (fun cdv A outer s H vs Q E hr h=>?_)
 ·obtain ⟨a,x,fs,rfl,_⟩:=h
  rfl
 ·obtain ⟨a,x,fs,rfl,ha,hx,hl,hb,q⟩:=h
  refine ⟨_,pss_cons (ps_set (i:=1) scBot.nd rfl (Or.inl rfl) pe_int)
   (pss_cons (ps_for PassesOwn.never rfl (pi_list (pv 0)) (pg_name (i:=2) scBot.nd rfl (Or.inl rfl))
    (pss_one (ps_set (i:=1) scBot.nd rfl (Or.inl rfl) (pe_op op_mulN (pe_op op_fdivL (pv 1) (pe_fn DG GG hr rfl (pa_cons (pv 1) (pa_cons (pe_ix (ix_tupK (K:=K)) (pv 2) pe_int (fun _ _=>rfl)) pa_nil)))) (pe_ix (ix_tupK (K:=K)) (pv 2) pe_int (fun _ _=>rfl))))))
   (pss_one (ps_ret (pv 1)))),?_⟩
  refine ⟨_,rfl,a,rfl,⟨_,SqL.of ha⟩,for_list (xs:=x) (fun i σ H'=>∃ (o2:Option V),σ=[some (.ref a),some (.int (botL (fs.take i))),o2]∧H'=H) ⟨none,rfl,rfl⟩ (fun i σ H' _ ⟨_,_,e⟩=>by rw [e]; exact SqL.of ha) ?_ ?_⟩
  ·rintro i v σ H1 hv ⟨o2,rfl,rfl⟩
   obtain ⟨g,hg⟩:=get_lt (l:=fs) (i:=i) (by rw [←hx.1]; exact lt_get hv)
   obtain ⟨p,rfl,hp⟩:=hx.2 i v g hv hg
   obtain ⟨g1,g2⟩:=hb g (List.mem_of_getElem? hg)
   obtain ⟨b1,b2,b3⟩:=bot_spec (fs:=fs.take i) fun y hy=>hb y (List.mem_of_mem_take hy)
   have hG:=M11.G_le (t:=botL (fs.take i)) (Int.ne_of_gt g1)
   have hG0:=M11.G_pos (b:=g.2) b1
   have b4:M11.Bn 20000 (botL (fs.take i)):=b3.mono (by rw [List.length_take]; omega)
   refine ⟨_,rfl,_,rfl,_,rfl,p,_,_,.int g.2,rfl,rfl,SqT.of hp,at_snd _ _ _,_,_,rfl,?_⟩
   refine ⟨_,_,rfl,rfl,⟨Int.ne_of_gt hG0,Nat.lt_trans (by omega:(M11.G (botL (fs.take i)) g.2).natAbs < 2 ^ 20) (by decide)⟩,_,rfl,p,_,_,.int g.2,rfl,rfl,SqT.of hp,at_snd _ _ _,_,_,rfl,rfl,⟨20020,by decide,?_,M11.Bn.mono (n:=20) g2 (by decide)⟩,some (.ref p),?_,rfl⟩
   ·exact (M11.Bn.le b4 (fdiv_le hG0)).mono (by decide)
   ·rw [take_snoc hg,bot_snoc]
    rfl
  ·rintro σ H1 ⟨o2,rfl,rfl⟩
   refine ⟨_,rfl,?_⟩
   rw [hx.1,List.take_length]
   exact q
def topF (f:Int × Int) (b:Int):Int:=f.1 * b.fdiv f.2
def spTopOver:Sp:=fun vs H Q _=>∃ (p:Addr) (f:Int × Int) (b:Int),vs=[.ref p,.int b]∧H p=some (tupF f)∧Bt f∧M11.Bn 20000 f.1∧M11.Bn 20000 b∧Q (.int (topF f b)) H
theorem scTopOver:FnScope ["f","bottom"] ["f","bottom"] (defScope sTopOver):=⟨rfl,rfl,rfl,by decide +kernel,rfl,by decide +kernel,by decide +kernel⟩
theorem ok_topOver {f:Addr} {fd:FuncData} (F:Fun K "top_over" "top_over" sTopOver f fd):FnOk P w K mg base CX0 1 f fd ["f","bottom"] spTopOver:=by
 refine F.ok scTopOver (fun vs H Q E h=>?_) (fun cdv A outer s H vs Q E hr h=>?_)
 ·obtain ⟨p,g,b,rfl,_⟩:=h
  rfl
 ·obtain ⟨p,g,b,rfl,hp,hg,h1,hb,q⟩:=h
  refine ⟨_,pss_one (ps_ret (pe_op op_mulN (pe_ix (ix_tupK (K:=K)) (pv 0) pe_int (fun _ _=>rfl)) (pe_op op_fdivL (pv 1) (pe_ix (ix_tupK (K:=K)) (pv 0) pe_int (fun _ _=>rfl))))),?_⟩
  refine ⟨_,rfl,p,_,_,.int g.1,rfl,rfl,SqT.of hp,at_hd _ _,_,rfl,_,rfl,p,_,_,.int g.2,rfl,rfl,SqT.of hp,at_snd _ _ _,_,_,rfl,rfl,⟨Int.ne_of_gt hg.1,Nat.lt_trans hg.2 (by decide)⟩,_,_,rfl,rfl,⟨20000,by decide,h1,M11.Bn.le hb (fdiv_le hg.1)⟩,q⟩
def isSqB (n:Nat) (X:List (List V)):Bool:=decide (X.length=n) && X.all fun x=>decide (x.length=n)
def spIsSq:Sp:=fun vs H Q _=>∃ (a:Addr) (X:List (List V)) (n:Nat),vs=[.ref a,.int (n:Int)]∧GrdAt H a X∧X.length≤900∧n≤900∧(∀ x ∈ X,x.length≤900)∧∀ H',Same H H'→Q (.bl (isSqB n X)) H'
theorem scIsSq:FnScope ["rows","size"] ["rows","size"] (defScope sIsSq):=⟨rfl,rfl,rfl,by decide +kernel,rfl,by decide +kernel,by decide +kernel⟩
end
section
variable {P:Program} {w:World} {K:PySem.W.Frag} {mg:Str→Option Value} {base:Heap}
def boolAt (e:Expr) (i:Nat):Expr:=match e with
 | .BoolOp _ es _=>es.getD i (.Constant .none 0 ⟨0,0,0,0⟩)
 | _=>.Constant .none 0 ⟨0,0,0,0⟩
theorem boot_all:bootBuiltins "all" = some (.builtin "all"):=by decide +kernel
theorem all_map {α:Type} (f:α→Bool) (xs:List α):(xs.map f).all id=xs.all f:=by rw [List.all_map]; rfl
theorem map_bl {α:Type} (f:α→Bool) (xs:List α):(xs.map fun x=>V.bl (f x))=(xs.map f).map V.bl:=by rw [List.map_map]; rfl
def rLenK (K:PySem.W.Frag):List V→Hp→VK→Prop:=fun xs H Q=>∃ p ys,xs=[.ref p]∧(SqL K H p ys ∨ SqT K H p ys)∧Q (.int ys.length) H
theorem call_lenK {X:Cx} (h:X.K=K:=by rfl):CallR X (.builtin "len") (rLenK K):=by subst h; exact call_len_seq
structure BltG (mg:Str→Option Value):Prop where
 len:mg "len" = none
 sum:mg "sum" = none
 zip:mg "zip" = none
 range:mg "range" = none
 all:mg "all" = none
theorem dec_nat (a b:Nat):decide (V.int (a:Int)=V.int (b:Int))=decide (a=b):=by
 by_cases h:a=b
 ·subst h; simp
 ·rw [decide_eq_false h,decide_eq_false]
  intro z
  exact h (Int.ofNat.inj (V.int.inj z))
theorem dec_intE (a b:Int):decide (V.int a=V.int b)=decide (a=b):=by
 by_cases h:a=b
 ·subst h; simp
 ·rw [decide_eq_false h,decide_eq_false]
  intro z
  exact h (V.int.inj z)
theorem lcIsSq:LcScopes (defScope sIsSq) ["rows","size"] (lcScope (argAt (boolAt (asgVal (bodyAt sIsSq 0)) 1) 0)) ["row"]:=⟨by decide +kernel,rfl,by decide +kernel,by decide +kernel,by decide +kernel,by decide +kernel,by decide +kernel,by decide +kernel,by decide +kernel,by decide +kernel⟩
theorem ok_isSq {f:Addr} {fd:FuncData} (B:BltG mg) (F:Fun K "is_square" "is_square" sIsSq f fd):FnOk P w K mg base CX0 1 f fd ["rows","size"] spIsSq:=by
 refine F.ok scIsSq (fun vs H Q E h=>?_) (fun cdv A outer s H vs Q E hr h=>?_)
 ·obtain ⟨a,X,n,rfl,_⟩:=h
  rfl
 ·obtain ⟨a,X,n,rfl,⟨rs,ha,R⟩,hX,hn,hw,q⟩:=h
  have lr:=R.len
  refine ⟨_,pss_one (ps_ret (pe_and (pe_cmpR op_eq (pe_callB call_len_seq (by rfl) B.len PySem.boot_len (pa_cons (pv 0) pa_nil)) (pv 1) (nomark _))
   (pe_one (pe_callB (call_all rfl) (by rfl) B.all boot_all (pa_cons (pe_lc1 rfl lcIsSq rfl (pi_list (pv 0)) (fun _ _ _=>pe_cmpR op_eq (pe_callB (call_lenK (K:=K)) (by rfl) B.len PySem.boot_len (pa_cons (pv 2) pa_nil)) (pv 1) (nomark _))) pa_nil))))),?_⟩
  refine ⟨_,rfl,a,_,rfl,.inl (SqL.of ha),?_⟩
  refine ⟨_,rfl,rfl,_,rfl,?_⟩
  rw [dec_nat,List.length_map,lr]
  by_cases hX':X.length=n
  ·refine itDP hX' ?_
   refine ⟨_,rfl,a,rfl,⟨_,SqL.of ha⟩,fun D hD=>?_⟩
   refine lc_vals (X.map fun x=>V.bl (decide (x.length=n))) (by rw [List.length_map,List.length_map,lr]) (by rw [List.length_map,lr]; exact hX) hD (SqL.of ha) ?_ ?_ ?_
   ·intro i x v H' hx hv s'
    obtain ⟨r,hr,rfl⟩:=map_get hx
    obtain ⟨y,hy,rfl⟩:=map_get hv
    refine ⟨_,rfl,r,_,rfl,.inl (SqL.of (s' _ _ (R.row i r y hr hy))),_,rfl,rfl,?_,Same.refl _⟩
    rw [dec_nat]
   ·intro H' s' eD
    refine ⟨D,X.map fun x=>decide (x.length=n),rfl,SqL.of (by rw [eD,map_bl]),?_⟩
    rw [all_map]
    have:=q H' s'
    unfold isSqB at this
    rw [decide_eq_true hX',Bool.true_and] at this
    exact this
   ·rintro σ H' Q1 Q2 hq ⟨v,e,p,ys,e1,e2,v2,e3,e4,g⟩
    exact ⟨v,e,p,ys,e1,e2,v2,e3,e4,hq _ _ g⟩
  ·refine itDN hX' ?_
   have:=q H (Same.refl _)
   unfold isSqB at this
   rw [decide_eq_false hX',Bool.false_and] at this
   exact this
def comeB (M:List (List Int)) (z:Int):Bool:=M.all fun r=>decide (r.sum=z)
def spCome:Sp:=fun vs H Q _=>∃ (a:Addr) (M:List (List Int)) (z:Int),vs=[.ref a,.int z]∧GrdAt H a (gI M)∧M.length≤900∧∀ H',Same H H'→Q (.bl (comeB M z)) H'
theorem scCome:FnScope ["rows","whole"] ["rows","whole"] (defScope sCome):=⟨rfl,rfl,rfl,by decide +kernel,rfl,by decide +kernel,by decide +kernel⟩
theorem lcCome:LcScopes (defScope sCome) ["rows","whole"] (lcScope (argAt (asgVal (bodyAt sCome 0)) 0)) ["row"]:=⟨by decide +kernel,rfl,by decide +kernel,by decide +kernel,by decide +kernel,by decide +kernel,by decide +kernel,by decide +kernel,by decide +kernel,by decide +kernel⟩
def rSumK (K:PySem.W.Frag):List V→Hp→VK→Prop:=fun xs H Q=>∃ (p:Addr) (ns:List Int),xs=[.ref p]∧SqL K H p (ns.map V.int)∧Q (.int ns.sum) H
theorem call_sumK {X:Cx} (hc:X.calm=true) (h:X.K=K:=by rfl):CallR X (.builtin "sum") (rSumK K):=by subst h; exact call_sum hc
theorem ok_come {f:Addr} {fd:FuncData} (B:BltG mg) (F:Fun K "come_to" "come_to" sCome f fd):FnOk P w K mg base CX0 1 f fd ["rows","whole"] spCome:=by
 refine F.ok scCome (fun vs H Q E h=>?_) (fun cdv A outer s H vs Q E hr h=>?_)
 ·obtain ⟨a,M,z,rfl,_⟩:=h
  rfl
 ·obtain ⟨a,M,z,rfl,⟨rs,ha,R⟩,hM,q⟩:=h
  have lr:rs.length=M.length:=by rw [R.len,gI_len]
  refine ⟨_,pss_one (ps_ret (pe_callB (call_all rfl) (by rfl) B.all boot_all (pa_cons (pe_lc1 rfl lcCome rfl (pi_list (pv 0)) (fun _ _ _=>pe_cmpR op_eq (pe_callB (call_sumK (K:=K) rfl) (by rfl) B.sum boot_sum (pa_cons (pv 2) pa_nil)) (pv 1) (nomark _))) pa_nil))),?_⟩
  refine ⟨_,rfl,a,rfl,⟨_,SqL.of ha⟩,fun D hD=>?_⟩
  refine lc_vals (M.map fun r=>V.bl (decide (r.sum=z))) (by rw [List.length_map,List.length_map,lr]) (by rw [List.length_map,lr]; exact hM) hD (SqL.of ha) ?_ ?_ ?_
  ·intro i x v H' hx hv s'
   obtain ⟨r,hr,rfl⟩:=map_get hx
   obtain ⟨y,hy,rfl⟩:=map_get hv
   refine ⟨_,rfl,r,y,rfl,SqL.of (s' _ _ (R.row i r _ hr (gI_get hy))),_,rfl,rfl,?_,Same.refl _⟩
   rw [dec_intE]
  ·intro H' s' eD
   refine ⟨D,M.map fun r=>decide (r.sum=z),rfl,SqL.of (by rw [eD,map_bl]),?_⟩
   rw [all_map]
   exact q H' s'
  ·rintro σ H' Q1 Q2 hq ⟨v,e,p,ys,e1,e2,v2,e3,e4,g⟩
   exact ⟨v,e,p,ys,e1,e2,v2,e3,e4,hq _ _ g⟩
end
section
variable {P:Program} {w:World} {K:PySem.W.Frag} {mg:Str→Option Value} {base:Heap}
theorem pe_notT {X:Cx} {a:Expr} {ta:TE} {pos:Pos} (ha:PE X a ta):PE X (.UnaryOp .Not a pos) (fun σ H Q=>ta σ H fun x H1=>∃ k,TruV X.K x H1 k∧Q (.bl (!k)) H1):=by
 intro pins s σ H Q I h
 refine UnaryOp_ (thn (ha pins s σ H _ I h) fun v s1 ⟨x,H1,I1,r1,q1⟩=>?_)
 exact not_of (thn (tru_ok pins s1 σ H1 x v (fun k H'=>Q (.bl (!k)) H') I1 r1 q1) fun d s2 ⟨H2,I2,q2⟩=>⟨.bl (!d),H2,I2,rfl,q2⟩)
theorem lc_filV {a:Addr} {xs:List V} {N:Nat} {tt:TT} {te:TE} {σ:L2.St} {H1:Hp} {Q:VK} (hN:σ.length=N) (f:V→Bool) (ha:SqL K H1 a xs) (hm:xs.length≤900)
  (ht:∀ (x:V) (H':Hp) (R:Bool→Hp→Prop),x ∈ xs→R (f x) H'→tt (σ++[some x]) H' R)
  (he:∀ (x:V) (H':Hp) (R:VK),R x H'→te (σ++[some x]) H' R)
  (hd:∀ (D:Addr) (H':Hp),Same H1 H'→H' D=some (.lst (xs.filter f))→Q (.ref D) H'):LcW 1 (Itl K a) (gName N) tt te σ H1 Q:=by
 subst hN
 intro D hD
 refine ⟨fun i m ys H'=>m=xs.length - i∧i≤xs.length∧ys=(xs.take i).filter f∧Same H1 H'∧H' D=some (.lst ys),⟨xs.length,by simp,Nat.zero_le _,rfl,Same.upd hD,upd_same⟩,?_⟩
 rintro i m ys H2 ⟨rfl,hi,rfl,s2,eD⟩
 refine ⟨eD,?_⟩
 by_cases hlt:i < xs.length
 ·obtain ⟨x,gx⟩:=get_lt hlt
  refine .inr ⟨⟨_,_,Same.sq s2 ha,gx⟩,?_⟩
  rintro z H3 ⟨rfl,hz⟩ os los
  have hz:=hz _ (Same.sq s2 ha)
  rw [gx] at hz
  cases hz
  match os,los with
  | [o],_ =>
   refine ⟨⟨[some x],set1 σ o _,rfl⟩,?_⟩
   rw [set1 σ o _]
   refine ht x _ _ (List.mem_of_getElem? gx) ?_
   have lr:((xs.take i).filter f).length≤i:=Nat.le_trans (List.length_filter_le _ _) (by rw [List.length_take]; omega)
   by_cases e:f x=true
   ·rw [if_pos e]
    refine he x _ _ ⟨eD,small1000 (by omega),xs.length - (i+1),by omega,rfl,hlt,?_,fun b o e=>?_,upd_same⟩
    ·rw [take_snoc gx,List.filter_append,List.filter_cons_of_pos e]; rfl
    ·rw [upd_ne (ne_of_none e hD)]
     exact s2 _ _ e
   ·rw [if_neg e]
    exact ⟨xs.length - (i+1),by omega,rfl,hlt,by rw [take_snoc gx,List.filter_append,List.filter_cons_of_neg e,List.filter_nil,List.append_nil],s2,eD⟩
 ·have:i=xs.length:=by omega
  subst this
  rw [List.take_length] at eD
  rw [List.take_length]
  exact .inl ⟨⟨_,Same.sq s2 ha,Nat.le_refl _⟩,hd D H2 s2 eD⟩
abbrev nShared:List Str:=["shares","whole","below"]
theorem scShared:FnScope nShared ["shares","whole"] (defScope sShared):=⟨rfl,rfl,rfl,by decide +kernel,rfl,by decide +kernel,by decide +kernel⟩
theorem lcShared:LcScopes (defScope sShared) nShared (lcScope (asgVal (bodyAt sShared 0))) ["share"]:=⟨by decide +kernel,rfl,by decide +kernel,by decide +kernel,by decide +kernel,by decide +kernel,by decide +kernel,by decide +kernel,by decide +kernel,by decide +kernel⟩
def negV (v:V):Bool:=match v with | .int i=>decide (i < 0) | _=>false
def sharedB (M:List (List Int)) (n:Nat) (z:Int):Bool:=(M.flatten.all fun x=>decide (0≤x)) && (comeB M z && comeB (colsI M n) z)
theorem gI_flat (M:List (List Int)):(gI M).flatten=M.flatten.map V.int:=by unfold gI; rw [List.map_flatten]
theorem neg_none (xs:List Int):((xs.map V.int).filter negV).isEmpty=xs.all fun x=>decide (0≤x):=by
 induction xs with
 | nil=>rfl
 | cons x xs ih =>
  rw [List.map_cons,List.all_cons,←ih]
  by_cases h:x < 0
  ·rw [List.filter_cons_of_pos (by show decide (x < 0)=true; exact decide_eq_true h),decide_eq_false (by omega)]
   rfl
  ·rw [List.filter_cons_of_neg (by show ¬ decide (x < 0)=true; rw [decide_eq_false h]; decide),decide_eq_true (by omega)]
   rfl
theorem flat_len {n:Nat}:∀ {M:List (List Int)},(∀ x ∈ M,x.length=n)→M.flatten.length=M.length * n
 | [],_=>by simp
 | x :: M,h=>by
  rw [List.flatten_cons,List.length_append,flat_len fun y hy=>h y (List.mem_cons_of_mem _ hy),h x List.mem_cons_self,List.length_cons,Nat.succ_mul]
  omega
def spShared:Sp:=fun vs H Q _=>∃ (a:Addr) (M:List (List Int)) (n:Nat) (z:Int),vs=[.ref a,.int z]∧GrdAt H a (gI M)∧M.length=n∧n≤16∧(∀ x ∈ M,x.length=n)∧∀ H',Same H H'→Q (.bl (sharedB M n z)) H'
theorem ok_shared {f fI fC fS:Addr} {fd fdI fdC fdS:FuncData} (F:Fun K "are_shared_out" "are_shared_out" sShared f fd)
  (DI:Dn K mg "in_one_list" sInOne ["rows"] fI fdI) (GI:FnOk P w K mg base CX0 1 fI fdI ["rows"] spInOne)
  (DC:Dn K mg "come_to" sCome ["rows","whole"] fC fdC) (GC:FnOk P w K mg base CX0 1 fC fdC ["rows","whole"] spCome)
  (DS:Dn K mg "columns_of" sCols ["rows"] fS fdS) (GS:FnOk P w K mg base CX0 2 fS fdS ["rows"] spCols):FnOk P w K mg base CX0 3 f fd ["shares","whole"] spShared:=by
 refine F.ok scShared (fun vs H Q E h=>?_) (fun cdv A outer s H vs Q E hr h=>?_)
 ·obtain ⟨a,M,n,z,rfl,_⟩:=h
  rfl
 ·obtain ⟨a,M,n,z,rfl,g,hM,hn,hw,q⟩:=h
  have r1:=hr.mono (j:=1) (by decide)
  have fl:=flat_len hw
  have fl2:M.length * n≤16 * 16:=Nat.mul_le_mul (by omega) hn
  refine ⟨_,pss_cons (ps_setLcs (i:=2) scShared.nd rfl (Or.inl rfl) rfl lcShared rfl (pi_list (pe_fn DI GI r1 rfl (pa_cons (pv 0) pa_nil))) (pg_one lcShared) (fun _ _ _=>pts_one (pt_cmpR op_lt (pv 3) pe_int (nomark _))) (fun _ _ _=>pv 3))
   (pss_one (ps_ret (pe_and (pe_notT (pv 2)) (pe_and (pe_fn DC GC r1 rfl (pa_cons (pv 0) (pa_cons (pv 1) pa_nil)))
    (pe_one (pe_fn DC GC r1 rfl (pa_cons (pe_fn DS GS hr rfl (pa_cons (pv 0) pa_nil)) (pa_cons (pv 1) pa_nil)))))))),?_⟩
  refine ⟨_,rfl,a,gI M,rfl,g,by rw [gI_flat,List.length_map]; omega,fun L H1 s1 nL eL=>?_⟩
  rw [gI_flat] at eL
  refine ⟨L,rfl,⟨_,SqL.of eL⟩,?_⟩
  refine lc_filV rfl negV (SqL.of eL) (by rw [List.length_map]; omega) ?_ ?_ ?_
  ·intro x H' R hx hR
   obtain ⟨i,_,rfl⟩:=List.mem_map.mp hx
   exact ⟨_,rfl,_,_,rfl,rfl,_,rfl,hR⟩
  ·intro x H' R hR
   exact ⟨_,rfl,hR⟩
  ·intro D H2 s2 eD
   refine ⟨_,rfl,_,.inl ⟨_,SqL.of eD,rfl⟩,_,rfl,?_⟩
   rw [neg_none,Bool.not_not]
   have s12:=s1.trans s2
   unfold sharedB at q
   cases h1:M.flatten.all fun x=>decide (0≤x) with
   | false =>
    refine iteF ?_
    have:=q H2 s12
    rw [h1] at this
    exact this
   | true =>
    refine iteT ?_
    refine ⟨_,rfl,_,rfl,a,M,z,rfl,g.mono s12,by omega,fun H3 s3=>⟨_,rfl,?_⟩⟩
    rw [h1] at q
    cases h2:comeB M z with
    | false =>
     refine iteF ?_
     have:=q H3 (s12.trans s3)
     rw [h2] at this
     exact this
    | true =>
     refine iteT ?_
     rw [h2] at q
     have s13:=s12.trans s3
     refine ⟨_,rfl,a,gI M,n,rfl,g.mono s13,by rw [gI_len]; omega,by omega,fun x hx=>?_,fun e=>?_,fun C H4 s4 nC gC=>?_⟩
     ·obtain ⟨y,hy,rfl⟩:=List.mem_map.mp hx
      rw [List.length_map]
      exact hw y hy
     ·have:M=[]:=List.map_eq_nil_iff.mp e
      subst this
      exact hM.symm
     rw [cols_gI hw] at gC
     exact ⟨_,rfl,C,colsI M n,z,rfl,gC,by unfold colsI; rw [List.length_map,List.length_range]; omega,fun H5 s5=>q H5 ((s13.trans s4).trans s5)⟩
def keepB (h:Int) (hs xs:List Int):Bool:=(List.zipWith (fun x g=>decide (x=0) || decide (g=h)) xs hs).all id
def spKeepsHue:Sp:=fun vs H Q _=>∃ (hA sA:Addr) (h:Int) (hs xs:List Int),vs=[.int h,.ref hA,.ref sA]∧H hA=some (.lst (hs.map V.int))∧H sA=some (.lst (xs.map V.int))∧xs.length=hs.length∧hs.length≤900∧∀ H',Same H H'→Q (.bl (keepB h hs xs)) H'
abbrev nKeepsHue:List Str:=["hue","hues_there","shares"]
theorem scKeepsHue:FnScope nKeepsHue nKeepsHue (defScope sKeepsHue):=⟨rfl,rfl,rfl,by decide +kernel,rfl,by decide +kernel,by decide +kernel⟩
theorem lcKeepsHue:LcScopes (defScope sKeepsHue) nKeepsHue (lcScope (argAt (asgVal (bodyAt sKeepsHue 0)) 0)) ["share","hue_there"]:=⟨by decide +kernel,rfl,by decide +kernel,by decide +kernel,by decide +kernel,by decide +kernel,by decide +kernel,by decide +kernel,by decide +kernel,by decide +kernel⟩
theorem ok_keepsHue {f:Addr} {fd:FuncData} (B:BltG mg) (F:Fun K "keeps_hue" "keeps_hue" sKeepsHue f fd):FnOk P w K mg base CX0 1 f fd nKeepsHue spKeepsHue:=by
 refine F.ok scKeepsHue (fun vs H Q E h=>?_) (fun cdv A outer s H vs Q E hr h=>?_)
 ·obtain ⟨hA,sA,h,hs,xs,rfl,_⟩:=h
  rfl
 ·obtain ⟨hA,sA,h,hs,xs,rfl,eh,es,hl,hm,q⟩:=h
  refine ⟨_,pss_one (ps_ret (pe_callB (call_all rfl) (by rfl) B.all boot_all (pa_cons (pe_lcs rfl lcKeepsHue rfl (pi_zip rfl B.zip (pa_cons (pv 2) (pa_cons (pv 1) pa_nil))) (pg_two rfl lcKeepsHue) (fun _ _ _=>pts_nil)
   (fun _ _ _=>pe_or (pe_cmpR op_eq (pv 3) pe_int (nomark _)) (pe_one (pe_cmpR op_eq (pv 4) (pv 0) (nomark _))))) pa_nil))),?_⟩
  refine ⟨_,rfl,_,rfl,sA,hA,rfl,⟨_,SqL.of es⟩,⟨_,SqL.of eh⟩,?_⟩
  have lz:(List.zipWith (fun x g=>decide (x=0) || decide (g=h)) xs hs).length=hs.length:=by rw [List.length_zipWith,hl,Nat.min_self]
  refine lc_zip ((List.zipWith (fun x g=>decide (x=0) || decide (g=h)) xs hs).map V.bl) rfl (SqL.of es) (SqL.of eh) (by rw [List.length_map,List.length_map,lz,hl]) (by rw [List.length_map,List.length_map,lz]) (by rw [List.length_map,lz]; omega) ?_ ?_ ?_
  ·intro i x y v H' hx hy hv s'
   obtain ⟨x,ex,rfl⟩:=map_get hx
   obtain ⟨y,ey,rfl⟩:=map_get hy
   obtain ⟨b,eb,rfl⟩:=map_get hv
   rw [List.getElem?_zipWith,ex,ey] at eb
   cases eb
   refine ⟨_,rfl,rfl,_,rfl,?_⟩
   rw [dec_intE]
   by_cases h0:x=0
   ·refine itDP h0 ⟨?_,Same.refl _⟩
    rw [decide_eq_true h0,Bool.true_or]
   ·refine itDN h0 ⟨_,rfl,_,rfl,rfl,?_,Same.refl _⟩
    rw [dec_intE,decide_eq_false h0,Bool.false_or]
  ·intro D H' s' eD
   exact ⟨D,_,rfl,SqL.of eD,q H' s'⟩
  ·rintro σ H' Q1 Q2 hq ⟨v,e,e2,c,ec,g⟩
   refine ⟨v,e,e2,c,ec,?_⟩
   cases c with
   | true=>exact hq _ _ g
   | false =>
    obtain ⟨v2,e3,v4,e4,e5,g⟩:=g
    exact ⟨v2,e3,v4,e4,e5,hq _ _ g⟩
def keepHB (hs hs':List Int) (M:List (List Int)):Bool:=(List.zipWith (fun h x=>keepB h hs' x) hs M).all id
def spKeepHues:Sp:=fun vs H Q _=>∃ (hA oA sA:Addr) (hs hs':List Int) (M:List (List Int)),vs=[.ref hA,.ref oA,.ref sA]∧H hA=some (.lst (hs.map V.int))∧H oA=some (.lst (hs'.map V.int))∧GrdAt H sA (gI M)∧M.length=hs.length∧hs.length≤900∧hs'.length≤900∧(∀ x ∈ M,x.length=hs'.length)∧∀ H',Same H H'→Q (.bl (keepHB hs hs' M)) H'
abbrev nKeepHues:List Str:=["hues","hues_there","shares"]
theorem scKeepHues:FnScope nKeepHues nKeepHues (defScope sKeepHues):=⟨rfl,rfl,rfl,by decide +kernel,rfl,by decide +kernel,by decide +kernel⟩
theorem lcKeepHues:LcScopes (defScope sKeepHues) nKeepHues (lcScope (argAt (asgVal (bodyAt sKeepHues 0)) 0)) ["hue","row"]:=⟨by decide +kernel,rfl,by decide +kernel,by decide +kernel,by decide +kernel,by decide +kernel,by decide +kernel,by decide +kernel,by decide +kernel,by decide +kernel⟩
theorem ok_keepHues {f fK:Addr} {fd fdK:FuncData} (B:BltG mg) (F:Fun K "keep_hues" "keep_hues" sKeepHues f fd) (DK:Dn K mg "keeps_hue" sKeepsHue nKeepsHue fK fdK) (GK:FnOk P w K mg base CX0 1 fK fdK nKeepsHue spKeepsHue):FnOk P w K mg base CX0 2 f fd nKeepHues spKeepHues:=by
 refine F.ok scKeepHues (fun vs H Q E h=>?_) (fun cdv A outer s H vs Q E hr h=>?_)
 ·obtain ⟨hA,oA,sA,hs,hs',M,rfl,_⟩:=h
  rfl
 ·obtain ⟨hA,oA,sA,hs,hs',M,rfl,eh,eo,⟨rs,ea,R⟩,hl,hm,hm',hw,q⟩:=h
  have r1:=hr.mono (j:=1) (by decide)
  have lr:rs.length=M.length:=by rw [R.len,gI_len]
  refine ⟨_,pss_one (ps_ret (pe_callB (call_all rfl) (by rfl) B.all boot_all (pa_cons (pe_lcs rfl lcKeepHues rfl (pi_zip rfl B.zip (pa_cons (pv 0) (pa_cons (pv 2) pa_nil))) (pg_two rfl lcKeepHues) (fun _ _ _=>pts_nil)
   (fun _ _ _=>pe_fn DK GK r1 rfl (pa_cons (pv 3) (pa_cons (pv 1) (pa_cons (pv 4) pa_nil))))) pa_nil))),?_⟩
  refine ⟨_,rfl,_,rfl,hA,sA,rfl,⟨_,SqL.of eh⟩,⟨_,SqL.of ea⟩,?_⟩
  have lz:(List.zipWith (fun h x=>keepB h hs' x) hs M).length=hs.length:=by rw [List.length_zipWith,hl,Nat.min_self]
  refine lc_zip ((List.zipWith (fun h x=>keepB h hs' x) hs M).map V.bl) rfl (SqL.of eh) (SqL.of ea) (by rw [List.length_map,List.length_map,lz]) (by rw [List.length_map,List.length_map,lz,lr,hl]) (by rw [List.length_map,lz]; omega) ?_ ?_ ?_
  ·intro i x y v H' hx hy hv s'
   obtain ⟨x,ex,rfl⟩:=map_get hx
   obtain ⟨r,er,rfl⟩:=map_get hy
   obtain ⟨b,eb,rfl⟩:=map_get hv
   obtain ⟨row,erow⟩:=get_lt (l:=M) (i:=i) (by rw [←lr]; exact lt_get er)
   rw [List.getElem?_zipWith,ex,erow] at eb
   cases eb
   exact ⟨_,rfl,_,rfl,_,rfl,oA,r,x,hs',row,rfl,s' _ _ eo,s' _ _ (R.row i r _ er (gI_get erow)),hw row (List.mem_of_getElem? erow),hm',fun H3 s3=>⟨rfl,s3⟩⟩
  ·intro D H' s' eD
   exact ⟨D,_,rfl,SqL.of eD,q H' s'⟩
  ·rintro σ H' Q1 Q2 hq ⟨v,e,v',e',v'',e'',a1,a2,a3,a4,a5,a6,a7,a8,a9,a10,g⟩
   exact ⟨v,e,v',e',v'',e'',a1,a2,a3,a4,a5,a6,a7,a8,a9,a10,fun H3 s3=>hq _ _ (g H3 s3)⟩
end
section
structure SqN (n:Nat) (M:List (List Int)):Prop where
 len:M.length=n
 row:∀ (i:Nat) (x:List Int),M[i]? = some x→x.length=n∧∀ z ∈ x,z.natAbs≤2 * wMax
theorem Sq.n {n:Nat} {M:List (List Int)} (S:Sq n M):SqN n M:=⟨S.len,fun i x h=>⟨(S.row i x h).1,fun z hz=>Nat.le_trans ((S.row i x h).2 z hz) (by omega)⟩⟩
end
section
open M11
def over (W:Int) (f:Int × Int):Int:=f.1 * W.fdiv f.2
end
section
variable {P:Program} {w:World} {K:PySem.W.Frag} {mg:Str→Option Value} {base:Heap}
def FGrd (H:Hp) (a:Addr) (F:List (List (Int × Int))):Prop:=∃ X:List (List V),GrdAt H a X∧X.length=F.length∧∀ (i:Nat) (x:List V) (fs:List (Int × Int)),X[i]? = some x→F[i]? = some fs→FrAt H x fs
theorem FGrd.mono {H H':Hp} {a:Addr} {F:List (List (Int × Int))} (g:FGrd H a F) (s:Same H H'):FGrd H' a F:=by
 obtain ⟨X,g,l,r⟩:=g
 exact ⟨X,g.mono s,l,fun i x fs h1 h2=>(r i x fs h1 h2).mono s⟩
theorem FrAt.app {H:Hp} {x y:List V} {fs gs:List (Int × Int)} (a:FrAt H x fs) (b:FrAt H y gs):FrAt H (x++y) (fs++gs):=by
 refine ⟨by rw [List.length_append,List.length_append,a.1,b.1],fun i v f h1 h2=>?_⟩
 by_cases hi:i < x.length
 ·rw [List.getElem?_append_left hi] at h1
  rw [List.getElem?_append_left (by rw [←a.1]; exact hi)] at h2
  exact a.2 i v f h1 h2
 ·rw [List.getElem?_append_right (by omega)] at h1
  rw [List.getElem?_append_right (by rw [←a.1]; omega),←a.1] at h2
  exact b.2 _ v f h1 h2
theorem frat_flat {H:Hp}:∀ {X:List (List V)} {F:List (List (Int × Int))},X.length=F.length→(∀ (i:Nat) (x:List V) (fs:List (Int × Int)),X[i]? = some x→F[i]? = some fs→FrAt H x fs)→FrAt H X.flatten F.flatten
 | [],[],_,_=>⟨rfl,fun i v f h _=>by simp at h⟩
 | x :: X,r :: F,l,h=>(h 0 x r rfl rfl).app (frat_flat (by simpa using l) fun i y fs h1 h2=>h (i+1) y fs h1 h2)
theorem flat_lenF {α:Type} {n:Nat}:∀ {M:List (List α)},(∀ x ∈ M,x.length=n)→M.flatten.length=M.length * n
 | [],_=>by simp
 | x :: M,h=>by
  rw [List.flatten_cons,List.length_append,flat_lenF fun y hy=>h y (List.mem_cons_of_mem _ hy),h x List.mem_cons_self,List.length_cons,Nat.succ_mul]
  omega
theorem row_flat {n:Nat}:∀ {M:List (List V)} {i:Nat} {x:List V},(∀ x ∈ M,x.length=n)→M[i]? = some x→(M.flatten.drop (n * i)).take n=x
 | y :: M,0,x,h,e=>by
  cases e
  rw [List.flatten_cons,Nat.mul_zero,List.drop_zero,List.take_append_of_le_length (by rw [h _ List.mem_cons_self]; exact Nat.le_refl _),List.take_of_length_le (by rw [h _ List.mem_cons_self]; exact Nat.le_refl _)]
 | y :: M,i+1,x,h,e=>by
  rw [List.flatten_cons,Nat.mul_succ,List.drop_append,List.drop_of_length_le (by rw [h _ List.mem_cons_self]; omega),List.nil_append,h _ List.mem_cons_self,Nat.add_sub_cancel]
  exact row_flat (fun x hx=>h x (List.mem_cons_of_mem _ hx)) (by simpa using e)
theorem sq_flat {n:Nat} {M:List (List V)} (hl:M.length=n) (h:∀ x ∈ M,x.length=n):squareV M.flatten n=M:=by
 refine List.ext_getElem? fun i=>?_
 unfold squareV
 rw [List.getElem?_map]
 by_cases hi:i < n
 ·obtain ⟨x,hx⟩:=get_lt (l:=M) (i:=i) (by omega)
  rw [List.getElem?_range hi,hx,Option.map_some,row_flat h hx]
 ·rw [List.getElem?_eq_none (by rw [List.length_range]; omega),List.getElem?_eq_none (by omega)]
  rfl
theorem eqv_gI:∀ A B:List (List Int),PyData.eqvAll (A.map dI) (B.map dI)=decide (A=B)
 | [],[]=>rfl
 | [],_ :: _=>rfl
 | _ :: _,[]=>rfl
 | a :: A,b :: B=>by
  rw [List.map_cons,List.map_cons]
  simp only [PyData.eqvAll,eqv_dI,eqv_gI A B]
  by_cases h:a=b
  ·subst h
   by_cases h2:A=B
   ·subst h2; simp
   ·simp [h2]
  ·simp [h]
theorem GrdAt.da {H:Hp} {a:Addr} {M:List (List Int)} (g:GrdAt H a (gI M)):DA K any H (.ref a) (.list (M.map dI)):=by
 obtain ⟨rs,h,R⟩:=g
 exact .lst trivial (SqL.of h) (das_rows (by rw [R.len,gI_len]) fun i r x h1 h2=>R.row i r _ h1 (gI_get h2))
theorem lay_gI (M:List (List Int)):(PyData.list (M.map dI)).canLay0=true∧(PyData.list (M.map dI)).depth≤64:=by
 obtain ⟨h1,h2⟩:=lay_rows M
 refine ⟨by simp only [PyData.canLay0,h1],?_⟩
 simp only [PyData.depth]
 omega
theorem grd_rows {H:Hp} {a:Addr} {rs:List Addr} {M:List (List Int)} (h:H a=some (.lst (rs.map V.ref))) (R:RowsAt H rs M):GrdAt H a (gI M) :=
 ⟨rs,h,by rw [R.len,gI_len],fun i r x h1 h2=>by
  obtain ⟨y,hy,rfl⟩:=map_get (show (M.map fun x=>x.map V.int)[i]? = some x from h2)
  exact R.row i r y h1 hy⟩
def isSqF (n:Nat) (F:List (List (Int × Int))):Bool:=decide (F.length=n) && F.all fun r=>decide (r.length=n)
theorem isSq_F {H:Hp} {n:Nat} {X:List (List V)} {F:List (List (Int × Int))} (l:X.length=F.length) (h:∀ (i:Nat) (x:List V) (fs:List (Int × Int)),X[i]? = some x→F[i]? = some fs→FrAt H x fs):isSqB n X=isSqF n F:=by
 unfold isSqB isSqF
 rw [l]
 congr 1
 induction X generalizing F with
 | nil =>
  cases F with
  | nil=>rfl
  | cons=>cases l
 | cons x X ih =>
  cases F with
  | nil=>cases l
  | cons r F =>
   rw [List.all_cons,List.all_cons,ih (F:=F) (by simpa using l) fun i y fs h1 h2=>h (i+1) y fs h1 h2,(h 0 x r rfl rfl).1]
def topsI (F:List (List (Int × Int))) (W:Int):List (List Int):=F.map fun r=>r.map fun f=>topF f W
def goesB (n:Nat) (hs hs':List Int) (M M':List (List Int)) (F:List (List (Int × Int))):Bool :=
 decide (hs'.length=n) && (isSqF n F && (sharedB (topsI F (botL F.flatten)) n (botL F.flatten) && (keepHB hs hs' (topsI F (botL F.flatten)) && decide (prodI M (topsI F (botL F.flatten)) n=prodI (topsI F (botL F.flatten)) M' n))))
def FrB (f:Int × Int):Prop:=Bt f∧M11.Bn 100 f.1
def spGoes:Sp:=fun vs H Q _=>∃ (wA oA tA:Addr) (n m:Nat) (hs hs':List Int) (M M':List (List Int)) (F:List (List (Int × Int))),vs=[.ref wA,.ref oA,.ref tA]∧WR H wA hs M∧WR H oA hs' M'∧hs.length=n∧hs'.length=m∧SqN n M∧SqN m M'∧n≤8∧m≤8 ∧
 FGrd H tA F∧F.length≤16∧(∀ r ∈ F,r.length≤16∧∀ f ∈ r,FrB f)∧∀ b H',b=goesB n hs hs' M M' F→Same H H'→Q (.bl b) H'
abbrev nGoes:List Str:=["web","other","table","size","fractions","whole","shares"]
abbrev aGoes:List Str:=["web","other","table"]
theorem scGoes:FnScope nGoes aGoes (defScope sGoes):=⟨rfl,rfl,rfl,by decide +kernel,rfl,by decide +kernel,by decide +kernel⟩
theorem lcGoes:LcScopes (defScope sGoes) nGoes (lcScope (argAt (asgVal (bodyAt sGoes 4)) 0)) ["f"]:=⟨by decide +kernel,rfl,by decide +kernel,by decide +kernel,by decide +kernel,by decide +kernel,by decide +kernel,by decide +kernel,by decide +kernel,by decide +kernel⟩
theorem sqF_spec {n:Nat} {F:List (List (Int × Int))} (h:isSqF n F=true):F.length=n∧∀ r ∈ F,r.length=n:=by
 unfold isSqF at h
 rw [Bool.and_eq_true] at h
 exact ⟨of_decide_eq_true h.1,fun r hr=>of_decide_eq_true (List.all_eq_true.mp h.2 r hr)⟩
theorem tops_row {F:List (List (Int × Int))} {W:Int} {x:List Int} (h:x ∈ topsI F W):∃ r ∈ F,x=r.map fun f=>topF f W:=by
 obtain ⟨r,hr,e⟩:=List.mem_map.mp h
 exact ⟨r,hr,e.symm⟩
theorem tops_flat (F:List (List (Int × Int))) (W:Int):(F.flatten.map fun f=>topF f W)=(topsI F W).flatten:=by unfold topsI; rw [List.map_flatten]
theorem mem_flat {α:Type} {F:List (List α)} {f:α} (h:f ∈ F.flatten):∃ r ∈ F,f ∈ r:=by simpa using List.mem_flatten.mp h
theorem ok_goes {f fIs fIn fBo fTo fSq fSh fKe fPr:Addr} {fd fdIs fdIn fdBo fdTo fdSq fdSh fdKe fdPr:FuncData} (B:BltG mg) (F:Fun K "goes_through" "goes_through" sGoes f fd)
  (DIs:Dn K mg "is_square" sIsSq ["rows","size"] fIs fdIs) (GIs:FnOk P w K mg base CX0 1 fIs fdIs ["rows","size"] spIsSq)
  (DIn:Dn K mg "in_one_list" sInOne ["rows"] fIn fdIn) (GIn:FnOk P w K mg base CX0 1 fIn fdIn ["rows"] spInOne)
  (DBo:Dn K mg "common_bottom" sBottom ["fractions"] fBo fdBo) (GBo:FnOk P w K mg base CX0 2 fBo fdBo ["fractions"] spBottom)
  (DTo:Dn K mg "top_over" sTopOver ["f","bottom"] fTo fdTo) (GTo:FnOk P w K mg base CX0 1 fTo fdTo ["f","bottom"] spTopOver)
  (DSq:Dn K mg "in_square" sInSq ["things","size"] fSq fdSq) (GSq:FnOk P w K mg base CX0 1 fSq fdSq ["things","size"] (spInSq K))
  (DSh:Dn K mg "are_shared_out" sShared ["shares","whole"] fSh fdSh) (GSh:FnOk P w K mg base CX0 3 fSh fdSh ["shares","whole"] spShared)
  (DKe:Dn K mg "keep_hues" sKeepHues nKeepHues fKe fdKe) (GKe:FnOk P w K mg base CX0 2 fKe fdKe nKeepHues spKeepHues)
  (DPr:Dn K mg "product_of_grids" sProd ["rows","others"] fPr fdPr) (GPr:FnOk P w K mg base CX0 3 fPr fdPr ["rows","others"] spProd):FnOk P w K mg base CX0 4 f fd aGoes spGoes:=by
 refine F.ok scGoes (fun vs H Q E h=>?_) (fun cdv A outer s H vs Q E hr h=>?_)
 ·obtain ⟨wA,oA,tA,n,m,hs,hs',M,M',F,rfl,_⟩:=h
  rfl
 ·obtain ⟨wA,oA,tA,n,m,hs,hs',M,M',F,rfl,W,W',hl,hl',S,S',hn,hm,g,hF,hFr,q⟩:=h
  have r1:=hr.mono (j:=1) (by decide)
  have r2:=hr.mono (j:=2) (by decide)
  obtain ⟨hA,rA,rs,w1,w2,w3,R⟩:=W.ex
  obtain ⟨hA',rA',rs',v1,v2,v3,R'⟩:=W'.ex
  obtain ⟨X,gX,lX,fX⟩:=g
  refine ⟨_,pss_cons (ps_set (i:=3) scGoes.nd rfl (Or.inl rfl) (pe_callB call_len_seq (by rfl) B.len PySem.boot_len (pa_cons (pe_ix ix_tup (pv 0) pe_int (fun _ _=>rfl)) pa_nil)))
   (pss_cons (ps_if (PW.pt (pw_or (pt_cmpR op_ne (pe_callB call_len_seq (by rfl) B.len PySem.boot_len (pa_cons (pe_ix ix_tup (pv 1) pe_int (fun _ _=>rfl)) pa_nil)) (pv 3) (nomark _)) (pw_or1 (pt_not (pt_val (pe_fn DIs GIs r1 rfl (pa_cons (pv 2) (pa_cons (pv 3) pa_nil)))))))) (pss_one (ps_ret pe_bl)) pss_nil)
   (pss_cons (ps_set (i:=4) scGoes.nd rfl (Or.inl rfl) (pe_fn DIn GIn r1 rfl (pa_cons (pv 2) pa_nil)))
   (pss_cons (ps_set (i:=5) scGoes.nd rfl (Or.inr rfl) (pe_fn DBo GBo r2 rfl (pa_cons (pv 4) pa_nil)))
   (pss_cons (ps_set (i:=6) scGoes.nd rfl (Or.inl rfl) (pe_fn DSq GSq r1 rfl (pa_cons (pe_lc1 rfl lcGoes rfl (pi_list (pv 4)) (fun _ _ _=>pe_fn DTo GTo r1 rfl (pa_cons (pv 7) (pa_cons (pv 5) pa_nil)))) (pa_cons (pv 3) pa_nil))))
   (pss_cons (ps_if (PW.pt (pw_or (pt_not (pt_val (pe_fn DSh GSh hr rfl (pa_cons (pv 6) (pa_cons (pv 5) pa_nil))))) (pw_or1 (pt_not (pt_val (pe_fn DKe GKe r2 rfl (pa_cons (pe_ix ix_tup (pv 0) pe_int (fun _ _=>rfl)) (pa_cons (pe_ix ix_tup (pv 1) pe_int (fun _ _=>rfl)) (pa_cons (pv 6) pa_nil))))))))) (pss_one (ps_ret pe_bl)) pss_nil)
   (pss_one (ps_ret (pe_cmpR (op_eqD hr.units) (pe_fn DPr GPr hr rfl (pa_cons (pe_ix ix_tup (pv 0) pe_int (fun _ _=>rfl)) (pa_cons (pv 6) pa_nil))) (pe_fn DPr GPr hr rfl (pa_cons (pv 6) (pa_cons (pe_ix ix_tup (pv 1) pe_int (fun _ _=>rfl)) pa_nil))) (nomark _))))))))),?_⟩
  refine ⟨_,rfl,wA,_,_,_,rfl,rfl,SqT.of w1,at_hd _ _,hA,_,rfl,.inl (SqL.of w2),?_⟩
  rw [List.length_map,hl]
  refine ⟨_,rfl,oA,_,_,_,rfl,rfl,SqT.of v1,at_hd _ _,hA',_,rfl,.inl (SqL.of v2),?_⟩
  rw [List.length_map]
  refine ⟨_,rfl,rfl,_,rfl,?_⟩
  unfold goesB at q
  by_cases hmn:hs'.length=n
  case neg =>
   refine iteNP (fun z=>hmn (by have:=V.int.inj z; omega)) (iteT (q false H ?_ (Same.refl _)))
   rw [decide_eq_false hmn,Bool.false_and]
  rw [decide_eq_true hmn,Bool.true_and] at q
  refine iteNS (by rw [hmn]) ?_
  refine ⟨_,rfl,_,rfl,tA,X,n,rfl,gX,by omega,by omega,fun x hx=>?_,fun H1 s1=>⟨_,rfl,?_⟩⟩
  ·obtain ⟨i,hi⟩:=List.mem_iff_getElem?.mp hx
   obtain ⟨fs,hfs⟩:=get_lt (l:=F) (i:=i) (by rw [←lX]; exact lt_get hi)
   rw [(fX i x fs hi hfs).1]
   have:=(hFr fs (List.mem_of_getElem? hfs)).1
   omega
  rw [isSq_F lX fX]
  cases hsq:isSqF n F with
  | false =>
   refine iteT (q false H1 ?_ s1)
   rw [hsq,Bool.false_and]
  | true =>
   refine iteF ?_
   rw [hsq,Bool.true_and] at q
   obtain ⟨sq1,sq2⟩:=sqF_spec hsq
   have flF:F.flatten.length=n * n:=by rw [flat_lenF sq2,sq1]
   have nn:n * n≤64:=Nat.mul_le_mul hn hn
   have ff:=frat_flat lX fX
   have hB:∀ f ∈ F.flatten,FrB f:=fun f hf=>by
    obtain ⟨r,hr,hf⟩:=mem_flat hf
    exact (hFr r hr).2 f hf
   refine ⟨_,rfl,tA,X,rfl,gX.mono s1,by rw [ff.1,flF]; omega,fun fA H2 s2 nf ef=>?_⟩
   have s12:=s1.trans s2
   refine ⟨_,rfl,fA,X.flatten,F.flatten,rfl,ef,ff.mono s12,by omega,fun f hf=>(hB f hf).1,?_⟩
   obtain ⟨b1,b2,b3⟩:=bot_spec (fs:=F.flatten) fun f hf=>(hB f hf).1
   generalize botL F.flatten=Wh at b1 b2 b3 q ⊢
   have b4:M11.Bn 1300 Wh:=b3.mono (by rw [flF]; omega)
   refine ⟨_,rfl,fA,rfl,⟨_,SqL.of ef⟩,fun D hD=>?_⟩
   refine lc_vals ((F.flatten.map fun f=>topF f Wh).map V.int) (by rw [List.length_map,List.length_map,ff.1]) (by rw [ff.1,flF]; omega) hD (SqL.of ef) ?_ ?_ ?_
   ·intro i x v H' hx hv s'
    obtain ⟨z,hz,rfl⟩:=map_get hv
    obtain ⟨g,hg,rfl⟩:=map_get hz
    obtain ⟨p,rfl,hp⟩:=ff.2 i x g hx hg
    obtain ⟨g1,g2⟩:=hB g (List.mem_of_getElem? hg)
    exact ⟨_,rfl,_,rfl,p,g,Wh,rfl,s' _ _ (s12 _ _ hp),g1,g2.mono (by decide),b4.mono (by decide),rfl,Same.refl _⟩
   ·intro H3 s3 eD
    rw [tops_flat] at eD
    have s13:=s12.trans s3
    have tw:∀ x ∈ topsI F Wh,x.length=n:=fun x hx=>by
     obtain ⟨r,hr,rfl⟩:=tops_row hx
     rw [List.length_map,sq2 r hr]
    have tl:(topsI F Wh).length=n:=by unfold topsI; rw [List.length_map,sq1]
    have tb:∀ x ∈ topsI F Wh,∀ z ∈ x,M11.Bn 2000 z:=fun x hx z hz=>by
     obtain ⟨r,hr,rfl⟩:=tops_row hx
     obtain ⟨g,hg,rfl⟩:=List.mem_map.mp hz
     obtain ⟨g1,g2⟩:=(hFr r hr).2 g hg
     exact (g2.mul (M11.Bn.le b4 (fdiv_le g1.1))).mono (by decide)
    generalize topsI F Wh=T at eD tw tl tb q
    refine ⟨_,rfl,D,_,n,rfl,SqL.of eD,by rw [List.length_map,flat_len tw,tl],by omega,fun sA H4 s4 nS gS=>?_⟩
    rw [←gI_flat,sq_flat (by rw [gI_len]; exact tl) (fun x hx=>by
     obtain ⟨y,hy,rfl⟩:=List.mem_map.mp hx
     rw [List.length_map]; exact tw y hy)] at gS
    have s14:=s13.trans s4
    refine ⟨_,rfl,_,rfl,sA,T,n,Wh,rfl,gS,tl,by omega,tw,fun H5 s5=>⟨_,rfl,?_⟩⟩
    have s15:=s14.trans s5
    cases hsh:sharedB T n Wh with
    | false =>
     refine iteT (q false H5 ?_ s15)
     rw [hsh,Bool.false_and]
    | true =>
     refine iteF ?_
     rw [hsh,Bool.true_and] at q
     refine ⟨_,rfl,wA,_,_,_,rfl,rfl,SqT.of (s15 _ _ w1),at_hd _ _,_,rfl,oA,_,_,_,rfl,rfl,SqT.of (s15 _ _ v1),at_hd _ _,_,rfl,?_⟩
     refine ⟨hA,hA',sA,hs,hs',T,rfl,s15 _ _ w2,s15 _ _ v2,gS.mono s5,by omega,by omega,by omega,fun x hx=>by rw [hmn]; exact tw x hx,fun H6 s6=>⟨_,rfl,?_⟩⟩
     have s16:=s15.trans s6
     cases hk:keepHB hs hs' T with
     | false =>
      refine iteT (q false H6 ?_ s16)
      rw [hk,Bool.false_and]
     | true =>
      refine iteF ?_
      rw [hk,Bool.true_and] at q
      have hwx:(2 * wMax:Nat) < 2 ^ 2000:=by
       have:wMax=1000000000000000000000000000000000000000000000000000000000000:=by decide
       rw [this]
       exact Nat.lt_of_lt_of_le (show (2 * 1000000000000000000000000000000000000000000000000000000000000:Nat) < 2 ^ 250 by decide) (Nat.pow_le_pow_right (by decide) (by decide))
      have mr:∀ {k:Nat} {N:List (List Int)},SqN k N→∀ x ∈ N,x.length=k∧∀ z ∈ x,M11.Bn 2000 z:=fun Sq x hx=>by
       obtain ⟨i,hi⟩:=List.mem_iff_getElem?.mp hx
       exact ⟨(Sq.row i x hi).1,fun z hz=>Nat.lt_of_le_of_lt ((Sq.row i x hi).2 z hz) hwx⟩
      have nil0:∀ {N:List (List Int)},N.length=n→N=[]→n=0:=fun e z=>by rw [z] at e; exact e.symm
      have em:m=n:=by omega
      refine ⟨_,rfl,wA,_,_,_,rfl,rfl,SqT.of (s16 _ _ w1),at_snd _ _ _,_,rfl,?_⟩
      refine ⟨rA,sA,M,T,n,2000,rfl,(grd_rows w3 R).mono s16,gS.mono (s5.trans s6),by rw [S.len]; omega,by omega,by omega,by decide,fun x hx=>?_,fun x hx=>⟨tw x hx,tb x hx⟩,nil0 tl,fun pA H7 s7 n7 g7=>?_⟩
      ·obtain ⟨h1,h2⟩:=mr S x hx
       exact ⟨by rw [h1,tl],h2⟩
      have s17:=s16.trans s7
      refine ⟨_,rfl,_,rfl,oA,_,_,_,rfl,rfl,SqT.of (s17 _ _ v1),at_snd _ _ _,?_⟩
      refine ⟨sA,rA',T,M',n,2000,rfl,gS.mono ((s5.trans s6).trans s7),(grd_rows v3 R').mono s17,by omega,by rw [S'.len]; omega,by omega,by decide,fun x hx=>⟨by rw [tw x hx,S'.len,em],tb x hx⟩,fun x hx=>?_,nil0 (by rw [S'.len,em]),fun pB H8 s8 n8 g8=>?_⟩
      ·obtain ⟨h1,h2⟩:=mr S' x hx
       exact ⟨by rw [h1,em],h2⟩
      refine ⟨_,_,(g7.mono s8).da,g8.da,⟨(lay_gI _).1,(lay_gI _).1,(lay_gI _).2⟩,q _ H8 ?_ (s17.trans s8)⟩
      simp only [PyData.eqv]
      exact eqv_gI _ _
   ·rintro σ H' Q1 Q2 hq ⟨v,e,v',e',a1,a2,a3,a4,a5,a6,a7,a8,g⟩
    exact ⟨v,e,v',e',a1,a2,a3,a4,a5,a6,a7,a8,hq _ _ g⟩
end
section
variable {P:Program} {w:World} {K:PySem.W.Frag} {mg:Str→Option Value} {base:Heap}
structure BltP (mg:Str→Option Value):Prop where
 len:mg "len" = none
 zip:mg "zip" = none
 list:mg "list" = none
 tuple:mg "tuple" = none
section
variable {κ:Type} [DecidableEq κ]
def seenAdd (s:List κ) (k:κ):List κ:=if k ∈ s then s else s++[k]
def numsFrom (s:List κ):List κ→List Nat
 | []=>[]
 | k :: ks=>s.idxOf k :: numsFrom (seenAdd s k) ks
def numb (ks:List κ):List Nat:=numsFrom [] ks
theorem numsFrom_snoc (k:κ):∀ (ks s:List κ),numsFrom s (ks++[k])=numsFrom s ks++[(ks.foldl seenAdd s).idxOf k]
 | [],s=>rfl
 | x :: ks,s=>by
  show s.idxOf x :: numsFrom (seenAdd s x) (ks++[k])=_
  rw [numsFrom_snoc k ks]
  rfl
theorem numsFrom_len:∀ (ks s:List κ),(numsFrom s ks).length=ks.length
 | [],_=>rfl
 | _ :: ks,s=>by simp [numsFrom,numsFrom_len ks]
theorem seen_le:∀ (ks s:List κ),(ks.foldl seenAdd s).length≤s.length+ks.length
 | [],s=>Nat.le_refl _
 | k :: ks,s=>by
  have:=seen_le ks (seenAdd s k)
  have e:(seenAdd s k).length≤s.length+1:=by
   unfold seenAdd
   split
   ·omega
   ·rw [List.length_append,List.length_singleton]; omega
  rw [List.foldl_cons,List.length_cons]
  omega
theorem KL_num (k:κ):∀ (l:List (κ × V × V)) (o:Nat),(∀ (j:Nat) (x:κ × V × V),l[j]? = some x→x.2.2=.int ((o+j:Nat):Int)) →
  KL l k=if k ∈ l.map (·.1) then some (.int ((o+(l.map (·.1)).idxOf k:Nat):Int)) else none
 | [],_,_=>rfl
 | x :: l,o,h=>by
  have ih:=KL_num k l (o+1) fun j y e=>by rw [h (j+1) y (by simpa using e)]; congr 2; omega
  by_cases e:x.1=k
  ·have h0:=h 0 x rfl
   rw [show KL (x :: l) k=some x.2.2 by simp [KL,e],h0]
   simp [List.idxOf_cons,e]
  ·rw [show KL (x :: l) k=KL l k by simp [KL,e],ih]
   by_cases m:k ∈ l.map (·.1)
   ·rw [List.map_cons,if_pos m,if_pos (List.mem_cons_of_mem _ m),List.idxOf_cons,(by simpa using e:(x.1 == k)=false),cond_false]
    congr 3
    omega
   ·rw [List.map_cons,if_neg m,if_neg (by rw [List.mem_cons]; rintro (q | q); exact e q.symm; exact m q)]
end
def spNum (K:PySem.W.Frag) {κ:Type} [DecidableEq κ] (key:Hp→V→κ→Prop):Sp:=fun vs H Q _=>∃ (a:Addr) (ys:List V) (ks:List κ),vs=[.ref a]∧SqL K H a ys∧ys.length=ks.length∧ks.length≤1000 ∧
 (∀ (j:Nat) (y:V) (k:κ),ys[j]? = some y→ks[j]? = some k→key H y k)∧∀ p H',Same H H'→H p=none→H' p=some (.lst ((numb ks).map fun (n:Nat)=>V.int (n:Int)))→Q (.ref p) H'
abbrev nNum:List Str:=["marks","numbers","lots","mark"]
theorem scNum:FnScope nNum ["marks"] (defScope sNumbered):=⟨rfl,rfl,rfl,by decide +kernel,rfl,by decide +kernel,by decide +kernel⟩
theorem ok_num {κ:Type} [DecidableEq κ] {obj:Addr→List (κ × V × V)→HO} {key:Hp→V→κ→Prop} (kd:∀ X:Cx,X.prog=P→X.w=w→X.A.units+64 < cLine→Kd X κ obj key) (ks':∀ {H H':Hp} {y:V} {k:κ},Same H H'→key H y k→key H' y k)
  {f:Addr} {fd:FuncData} (B:BltP mg) (F:Fun K "numbered" "numbered" sNumbered f fd):FnOk P w K mg base CX0 1 f fd ["marks"] (spNum K key):=by
 refine F.ok scNum (fun vs H Q E h=>?_) (fun cdv A outer s H vs Q E hr h=>?_)
 ·obtain ⟨a,ys,ks,rfl,_⟩:=h
  rfl
 ·obtain ⟨a,ys,ks,rfl,hy,hl,hz,hk,q⟩:=h
  have KD:=fun X e1 e2 e3=>kd X e1 e2 e3
  refine ⟨_,pss_cons (ps_set (i:=1) scNum.nd rfl (Or.inl rfl) ((kd _ rfl rfl hr.units).new _))
   (pss_cons (ps_set (i:=2) scNum.nd rfl (Or.inl rfl) (pe_lst pa_nil))
   (pss_cons (ps_for PassesOwn.never rfl (pi_list (pv 0)) (pg_name (i:=3) scNum.nd rfl (Or.inl rfl))
    (pss_one (ps_expr (pe_bm PySem.F.plainAttrs_list PySem.F.slot_list_append PySem.F.type_list_append mt_append (pv 2)
     (pa_cons (pe_setd (kd _ rfl rfl hr.units) (pv 1) (pv 3) (pe_callB (kd _ rfl rfl hr.units).len (by rfl) B.len PySem.boot_len (pa_cons (pv 1) pa_nil)) ⟨rfl,rfl,rfl,rfl⟩) pa_nil)))))
   (pss_one (ps_ret (pv 2))))),?_⟩
  intro N hN
  refine ⟨Nat.zero_le _,fun R hR=>?_⟩
  have nNR:N≠R:=ne_of_none upd_same hR
  have hR0:H R=none:=by rw [upd_ne nNR.symm] at hR; exact hR
  have sH:Same H (upd (upd H N (obj N [])) R (.lst [])):=(Same.upd hN).trans (Same.upd hR)
  refine ⟨_,rfl,a,rfl,⟨_,sH.seq hy⟩,for_list (K:=K) (a:=a) (xs:=ys) (fun i σ H'=>∃ (o:Option V) (l:List (κ × V × V)),σ=[some (.ref a),some (.ref N),some (.ref R),o]∧Same H H'∧H' N=some (obj N l)∧H' R=some (.lst ((numsFrom [] (ks.take i)).map fun (n:Nat)=>V.int (n:Int))) ∧
   l.map (·.1)=(ks.take i).foldl seenAdd []∧(∀ (j:Nat) (x:κ × V × V),l[j]? = some x→x.2.2=.int (j:Int))∧∀ z ∈ l,key H z.2.1 z.1) ?_ ?_ ?_ ?_⟩
  ·exact ⟨none,[],rfl,sH,by rw [upd_ne nNR]; exact upd_same,upd_same,rfl,fun j x e=>by simp at e,fun z hz=>by cases hz⟩
  ·rintro i σ H' _ ⟨o,l,rfl,s1,_⟩
   exact s1.seq hy
  ·rintro i v σ H' hi ⟨o,l,rfl,s1,eN,eR,el,ev,ek⟩
   have li:i < ks.length:=by rw [←hl]; exact (List.getElem?_eq_some_iff.mp hi).1
   have hki:ks[i]? = some (ks[i]'li):=List.getElem?_eq_getElem li
   have kv:key H' v (ks[i]'li):=ks' s1 (hk i v _ hi hki)
   have kl:∀ z ∈ l,key H' z.2.1 z.1:=fun z hz=>ks' s1 (ek z hz)
   have tk:ks.take (i+1)=ks.take i++[ks[i]'li]:=by rw [List.take_succ,hki]; rfl
   have ll:l.length≤1000:=by
    have:=seen_le (ks.take i) []
    rw [←el,List.length_map,List.length_take] at this
    simp at this
    omega
   have lr:((numsFrom [] (ks.take i)).map fun (n:Nat)=>V.int (n:Int)).length≤1000:=by
    rw [List.length_map,numsFrom_len,List.length_take]
    omega
   have num:=KL_num (ks[i]'li) l 0 fun j x e=>by rw [Nat.zero_add]; exact ev j x e
   rw [Nat.zero_add,el] at num
   refine ⟨_,rfl,.inl ⟨rfl,_,SqL.of eR⟩,_,rfl,N,l,rfl,eN,_,rfl,_,rfl,N,l,rfl,eN,kl,N,l,ks[i]'li,v,_,rfl,rfl,eN,kl,kv,small1000 ll,?_⟩
   by_cases m:(ks[i]'li) ∈ (ks.take i).foldl seenAdd []
   ·rw [if_pos m] at num
    refine .inl ⟨_,num,?_⟩
    refine ⟨R,_,_,rfl,rfl,eR,small1000 lr,?_⟩
    refine ⟨_,l,rfl,fun b ob e=>?_,?_,?_,?_,ev,ek⟩
    ·rw [upd_ne (ne_of_none e hR0)]
     exact s1 _ _ e
    ·rw [upd_ne nNR]
     exact eN
    ·rw [upd_same,tk,numsFrom_snoc,List.map_append]
     rfl
    ·rw [el,tk,List.foldl_append]
     show _=seenAdd _ _
     rw [seenAdd,if_pos m]
   ·rw [if_neg m] at num
    refine .inr ⟨num,?_⟩
    have eR2:upd H' N (obj N (l++[(ks[i]'li,v,.int (l.length:Int))])) R=some (.lst ((numsFrom [] (ks.take i)).map fun (n:Nat)=>V.int (n:Int))):=by rw [upd_ne nNR.symm]; exact eR
    refine ⟨R,_,_,rfl,rfl,eR2,small1000 lr,?_⟩
    refine ⟨_,_,rfl,fun b ob e=>?_,by rw [upd_ne nNR]; exact upd_same,?_,?_,?_,?_⟩
    ·rw [upd_ne (ne_of_none e hR0),upd_ne (ne_of_none e hN)]
     exact s1 _ _ e
    ·have ll':((ks.take i).foldl seenAdd []).length=l.length:=by rw [←el,List.length_map]
     rw [upd_same,tk,numsFrom_snoc,List.map_append,List.idxOf_eq_length m,ll']
     rfl
    ·rw [List.map_append,el,tk,List.foldl_append]
     show _=seenAdd _ _
     rw [seenAdd,if_neg m]
     rfl
    ·intro j x e
     rcases Nat.lt_or_ge j l.length with lj | lj
     ·rw [List.getElem?_append_left lj] at e
      exact ev j x e
     ·rw [List.getElem?_append_right lj] at e
      obtain rfl:j=l.length:=by
       have:=(List.getElem?_eq_some_iff.mp e).1
       rw [List.length_singleton] at this
       omega
      rw [Nat.sub_self] at e
      cases e
      rfl
    ·intro z hz
     rcases List.mem_append.mp hz with q' | q'
     ·exact ek z q'
     ·cases List.mem_singleton.mp q'
      exact hk i v _ hi hki
  ·rintro σ H' ⟨o,l,rfl,s1,eN,eR,_⟩
   refine ⟨_,rfl,q R H' s1 hR0 ?_⟩
   rw [eR,hl,List.take_length]
   rfl
end
section
variable {κ ι:Type} [DecidableEq κ] [DecidableEq ι]
theorem idx_same {k:κ} {l:ι}:∀ (s:List κ) (t:List ι),s.length=t.length→(∀ p ∈ s.zip t,p.1=k↔p.2=l)→s.idxOf k=t.idxOf l∧(k ∈ s↔l ∈ t)
 | [],[],_,_=>⟨rfl,by simp⟩
 | [],_ :: _,h,_=>by simp at h
 | _ :: _,[],h,_=>by simp at h
 | x :: s,y :: t,h,hp=>by
  have h0:=hp (x,y) (by simp)
  obtain ⟨h1,h2⟩:=idx_same s t (by simpa using h) fun p hm=>hp p (by rw [List.zip_cons_cons]; exact List.mem_cons_of_mem _ hm)
  by_cases e:x=k
  ·have e':y=l:=h0.mp e
   subst e e'
   simp [List.idxOf_cons]
  ·have e':¬ y=l:=fun q=>e (h0.mpr q)
   refine ⟨?_,?_⟩
   ·rw [List.idxOf_cons,List.idxOf_cons,(by simpa using e:(x == k)=false),(by simpa using e':(y == l)=false),cond_false,cond_false,h1]
   ·rw [List.mem_cons,List.mem_cons,h2]
    constructor
    ·rintro (q | q)
     ·exact absurd q.symm e
     ·exact .inr q
    ·rintro (q | q)
     ·exact absurd q.symm e'
     ·exact .inr q
theorem nums_same:∀ (ks:List κ) (ls:List ι) (s:List κ) (t:List ι),ks.length=ls.length→s.length=t.length→(∀ p ∈ s.zip t++ks.zip ls,∀ q ∈ s.zip t++ks.zip ls,p.1=q.1↔p.2=q.2)→numsFrom s ks=numsFrom t ls
 | [],[],_,_,_,_,_=>rfl
 | [],_ :: _,_,_,h,_,_=>by simp at h
 | _ :: _,[],_,_,h,_,_=>by simp at h
 | k :: ks,l :: ls,s,t,h,hs,hp=>by
  have hkl:(k,l) ∈ s.zip t++(k :: ks).zip (l :: ls):=by simp
  obtain ⟨h1,h2⟩:=idx_same (k:=k) (l:=l) s t hs fun p hm=>hp p (List.mem_append_left _ hm) (k,l) hkl
  show s.idxOf k :: numsFrom (seenAdd s k) ks=t.idxOf l :: numsFrom (seenAdd t l) ls
  rw [h1]
  congr 1
  have hz:∀ p ∈ (seenAdd s k).zip (seenAdd t l)++ks.zip ls,p ∈ s.zip t++(k :: ks).zip (l :: ls):=by
   intro p hm
   rcases List.mem_append.mp hm with q | q
   ·unfold seenAdd at q
    by_cases m:k ∈ s
    ·rw [if_pos m,if_pos (h2.mp m)] at q
     exact List.mem_append_left _ q
    ·rw [if_neg m,if_neg (fun z=>m (h2.mpr z)),List.zip_append hs] at q
     rcases List.mem_append.mp q with q | q
     ·exact List.mem_append_left _ q
     ·rw [List.zip_cons_cons,List.zip_nil_left,List.mem_singleton] at q
      rw [q]
      exact hkl
   ·refine List.mem_append_right _ ?_
    rw [List.zip_cons_cons]
    exact List.mem_cons_of_mem _ q
  refine nums_same ks ls _ _ (by simpa using h) ?_ fun p hm q hq=>hp p (hz p hm) q (hz q hq)
  unfold seenAdd
  by_cases m:k ∈ s
  ·rw [if_pos m,if_pos (h2.mp m)]
   exact hs
  ·rw [if_neg m,if_neg (fun z=>m (h2.mpr z)),List.length_append,List.length_append,hs]
   rfl
theorem seen_keep {k:κ}:∀ (ks s:List κ),k ∈ s→k ∈ ks.foldl seenAdd s∧(ks.foldl seenAdd s).idxOf k=s.idxOf k
 | [],_,h=>⟨h,rfl⟩
 | x :: ks,s,h=>by
  have m:k ∈ seenAdd s x:=by
   unfold seenAdd
   split
   ·exact h
   ·exact List.mem_append_left _ h
  obtain ⟨h1,h2⟩:=seen_keep ks (seenAdd s x) m
  refine ⟨h1,h2.trans ?_⟩
  unfold seenAdd
  split
  ·rfl
  ·rw [List.idxOf_append,if_pos h]
theorem nums_idx {k:κ}:∀ (ks s:List κ) (i:Nat),ks[i]? = some k→(numsFrom s ks)[i]? = some ((ks.foldl seenAdd s).idxOf k)∧k ∈ ks.foldl seenAdd s
 | [],_,_,h=>by simp at h
 | x :: ks,s,i+1,h=>by
  have:=nums_idx ks (seenAdd s x) i (by simpa using h)
  simpa [numsFrom] using this
 | x :: ks,s,0,h=>by
  cases h
  have m:k ∈ seenAdd s k:=by
   unfold seenAdd
   split
   ·assumption
   ·simp
  obtain ⟨h1,h2⟩:=seen_keep ks _ m
  refine ⟨?_,h1⟩
  show some (s.idxOf k)=some ((ks.foldl seenAdd (seenAdd s k)).idxOf k)
  rw [h2]
  congr 1
  unfold seenAdd
  split
  ·rfl
  ·rename_i m'
   rw [List.idxOf_append,if_neg m',List.idxOf_eq_length m']
   simp
theorem numb_iff {ks:List κ} {ls:List ι} (h:ks.length=ls.length):numb ks=numb ls↔∀ (i j:Nat) (k k':κ) (l l':ι),ks[i]? = some k→ks[j]? = some k'→ls[i]? = some l→ls[j]? = some l'→(k=k'↔l=l'):=by
 constructor
 ·intro e i j k k' l l' h1 h2 h3 h4
  obtain ⟨a1,b1⟩:=nums_idx ks [] i h1
  obtain ⟨a2,b2⟩:=nums_idx ks [] j h2
  obtain ⟨a3,b3⟩:=nums_idx ls [] i h3
  obtain ⟨a4,b4⟩:=nums_idx ls [] j h4
  have e':numsFrom [] ks=numsFrom [] ls:=e
  rw [e',a3] at a1
  rw [e',a4] at a2
  have c1:=Option.some.inj a1
  have c2:=Option.some.inj a2
  have inj:∀ {α:Type} [DecidableEq α] {s:List α} {x y:α},x ∈ s→s.idxOf x=s.idxOf y→x=y:=by
   intro α _ s x y hx q
   have l1:=List.idxOf_lt_length_iff.mpr hx
   have g1:s[s.idxOf x]=x:=List.getElem_idxOf l1
   have g2:s[s.idxOf y]'(q ▸ l1)=y:=List.getElem_idxOf (q ▸ l1)
   rw [←g1,←g2]
   congr 1
  constructor
  ·rintro rfl
   exact inj b3 (c1.trans c2.symm)
  ·rintro rfl
   exact inj b1 (c1.symm.trans c2)
 ·intro hp
  refine nums_same ks ls [] [] h rfl ?_
  intro p hm q hq
  rw [List.zip_nil_left,List.nil_append] at hm hq
  obtain ⟨i,hi⟩:=List.mem_iff_getElem?.mp hm
  obtain ⟨j,hj⟩:=List.mem_iff_getElem?.mp hq
  obtain ⟨i1,i2⟩:=List.getElem?_zip_eq_some.mp hi
  obtain ⟨j1,j2⟩:=List.getElem?_zip_eq_some.mp hj
  exact hp i j _ _ _ _ i1 j1 i2 j2
end
section
variable {P:Program} {w:World} {K:PySem.W.Frag} {mg:Str→Option Value} {base:Heap}
def nI (l:List Nat):List Int:=l.map fun (n:Nat)=>(n:Int)
theorem nI_get {l:List Nat} {i:Nat}:(nI l)[i]? = (l[i]?).map fun (n:Nat)=>(n:Int):=List.getElem?_map
theorem numb_len {κ:Type} [DecidableEq κ] (ks:List κ):(numb ks).length=ks.length:=numsFrom_len ks []
theorem numb_get {κ:Type} [DecidableEq κ] {ks:List κ} {i j:Nat} {k k':κ} {a b:Nat} (h1:ks[i]? = some k) (h2:ks[j]? = some k') (h3:(numb ks)[i]? = some a) (h4:(numb ks)[j]? = some b):a=b↔k=k':=by
 obtain ⟨a1,b1⟩:=nums_idx ks [] i h1
 obtain ⟨a2,b2⟩:=nums_idx ks [] j h2
 have c1:some ((ks.foldl seenAdd []).idxOf k)=some a:=a1.symm.trans h3
 have c2:some ((ks.foldl seenAdd []).idxOf k')=some b:=a2.symm.trans h4
 cases c1
 cases c2
 constructor
 ·intro q
  have l1:=List.idxOf_lt_length_iff.mpr b1
  have g1:(ks.foldl seenAdd [])[(ks.foldl seenAdd []).idxOf k]=k:=List.getElem_idxOf l1
  have g2:(ks.foldl seenAdd [])[(ks.foldl seenAdd []).idxOf k']'(q ▸ l1)=k':=List.getElem_idxOf (q ▸ l1)
  rw [←g1,←g2]
  congr 1
 ·rintro rfl
  rfl
theorem numb_numb {κ:Type} [DecidableEq κ] (ks:List κ):numb (nI (numb ks))=numb ks:=by
 have ln:(nI (numb ks)).length=ks.length:=by rw [nI,List.length_map,numb_len]
 rw [numb_iff ln]
 intro i j a b k k' h1 h2 h3 h4
 rw [nI_get] at h1 h2
 obtain ⟨x,hx,rfl⟩:=Option.map_eq_some_iff.mp h1
 obtain ⟨y,hy,rfl⟩:=Option.map_eq_some_iff.mp h2
 rw [←numb_get h3 h4 hx hy]
 exact Int.ofNat_inj
def Finer (a b:List Int):Prop:=∀ (i j:Nat) (l x y:Int),a[i]? = some l→a[j]? = some l→b[i]? = some x→b[j]? = some y→x=y
def Norm (ls:List Int):Prop:=ls=nI (numb ls)
theorem norm_numb {κ:Type} [DecidableEq κ] (ks:List κ):Norm (nI (numb ks)):=by unfold Norm; rw [numb_numb]
theorem nI_V (l:List Nat):(l.map fun (n:Nat)=>V.int (n:Int))=(nI l).map V.int:=by rw [nI,List.map_map]; rfl
theorem iKey_same {H H':Hp} {y:V} {k:Int} (_:Same H H') (h:iKey H y k):iKey H' y k:=h
theorem ok_numI {f:Addr} {fd:FuncData} (B:BltP mg) (F:Fun K "numbered" "numbered" sNumbered f fd):FnOk P w K mg base CX0 1 f fd ["marks"] (spNum K iKey):=ok_num (obj:=iObj) (fun _ _ _ _=>kd_int) iKey_same B F
end
section
def hueF (us:List Int) (u:Nat):Int:=us[u]?.getD 0
end
section
def SmF (n:Nat) (f:Nat→Int):Int:=((List.range n).map f).sum
theorem smF_succ (n:Nat) (f:Nat→Int):SmF (n+1) f=SmF n f+f n:=by
 unfold SmF
 rw [List.range_succ,List.map_append,List.sum_append]
 simp
theorem smF_zero (f:Nat→Int):SmF 0 f=0:=rfl
theorem smF_congr {n:Nat} {f g:Nat→Int} (h:∀ i < n,f i=g i):SmF n f=SmF n g:=by
 unfold SmF
 rw [List.map_congr_left fun i hi=>h i (List.mem_range.mp hi)]
theorem smF_add (n:Nat) (f g:Nat→Int):SmF n (fun i=>f i+g i)=SmF n f+SmF n g:=by
 induction n with
 | zero=>rfl
 | succ n ih=>rw [smF_succ,smF_succ,smF_succ,ih]; omega
theorem smF_mul (c:Int) (n:Nat) (f:Nat→Int):SmF n (fun i=>c * f i)=c * SmF n f:=by
 induction n with
 | zero=>rw [smF_zero,smF_zero,Int.mul_zero]
 | succ n ih=>rw [smF_succ,smF_succ,ih,Int.mul_add]
theorem smF_nil (n:Nat):SmF n (fun _=>0)=0:=by
 induction n with
 | zero=>rfl
 | succ n ih=>rw [smF_succ,ih]; rfl
theorem smF_nonneg {n:Nat} {f:Nat→Int} (h:∀ i < n,0≤f i):0≤SmF n f:=by
 induction n with
 | zero=>exact Int.le_refl _
 | succ n ih =>
  rw [smF_succ]
  have:=ih fun i hi=>h i (by omega)
  have:=h n (by omega)
  omega
section
variable {n m:Nat} {h h':Nat→Int} {M M':Nat→Nat→Int} {a b:Nat→Int} {k:Int→Int} {W:Int}
end
end
section
open M11
def mat {α:Type} (n:Nat) (g:Nat→Nat→α):List (List α):=(List.range n).map fun u=>(List.range n).map fun w=>g u w
theorem mat_eq {α:Type} {n:Nat} {a b:Nat→Nat→α}:mat n a=mat n b↔∀ u < n,∀ w < n,a u w=b u w:=by
 unfold mat
 rw [List.map_inj_left]
 constructor
 ·intro h u hu w hw
  have:=h u (List.mem_range.mpr hu)
  rw [List.map_inj_left] at this
  exact this w (List.mem_range.mpr hw)
 ·intro h u hu
  rw [List.map_inj_left]
  exact fun w hw=>h u (List.mem_range.mp hu) w (List.mem_range.mp hw)
theorem lst_of {α:Type} {n:Nat} {xs:List α} {d:α} (h:xs.length=n):xs=(List.range n).map fun u=>(xs[u]?).getD d:=by
 refine List.ext_getElem? fun i=>?_
 rw [List.getElem?_map]
 by_cases hi:i < n
 ·obtain ⟨x,hx⟩:=get_lt (l:=xs) (i:=i) (by omega)
  rw [List.getElem?_range hi,hx,Option.map_some]
  show _=some ((xs[i]?).getD d)
  rw [hx]
  rfl
 ·rw [List.getElem?_eq_none (by omega:xs.length≤i),List.getElem?_eq_none (by rw [List.length_range]; omega)]
  rfl
theorem mat_of {α:Type} {n:Nat} {M:List (List α)} {d:α} (h:M.length=n) (hr:∀ x ∈ M,x.length=n):M=mat n fun u w=>(((M[u]?).getD [])[w]?).getD d:=by
 unfold mat
 conv=>lhs; rw [lst_of (d:=[]) h]
 rw [List.map_inj_left]
 intro u hu
 obtain ⟨x,hx⟩:=get_lt (l:=M) (i:=u) (by rw [h]; exact List.mem_range.mp hu)
 have e:=lst_of (d:=d) (hr x (List.mem_of_getElem? hx))
 show (M[u]?).getD []=(List.range n).map fun w=>(((M[u]?).getD [])[w]?).getD d
 rw [hx]
 exact e
theorem zip_self {α β:Type} (k:α→α→β):∀ l:List α,List.zipWith k l l=l.map fun a=>k a a
 | []=>rfl
 | a :: l=>by rw [List.zipWith_cons_cons,zip_self k l]; rfl
theorem zip_rng {α β γ:Type} {n:Nat} (k:α→β→γ) (f:Nat→α) (g:Nat→β):List.zipWith k ((List.range n).map f) ((List.range n).map g)=(List.range n).map fun v=>k (f v) (g v):=by
 rw [List.zipWith_map,zip_self]
theorem rng_get {α:Type} {n i:Nat} {f:Nat→α} {d:α} (h:i < n):(((List.range n).map f)[i]?).getD d=f i:=by
 rw [List.getElem?_map,List.getElem?_range h]
 rfl
theorem cols_mat (n:Nat) (g:Nat→Nat→Int):colsI (mat n g) n=mat n fun w u=>g u w:=by
 unfold colsI mat
 rw [List.map_inj_left]
 intro w hw
 rw [List.map_map,List.map_inj_left]
 intro u _
 exact rng_get (List.mem_range.mp hw)
theorem prod_mat (n:Nat) (a b:Nat→Nat→Int):prodI (mat n a) (mat n b) n=mat n fun u w=>((List.range n).map fun v=>b v w * a u v).sum:=by
 unfold prodI
 rw [cols_mat]
 unfold mat
 rw [List.map_map,List.map_inj_left]
 intro u _
 show List.map _ (List.map _ _)=_
 rw [List.map_map,List.map_inj_left]
 intro w _
 show TM.dot _ _=_
 unfold TM.dot
 rw [zip_rng]
theorem mem_mat {α:Type} {n:Nat} {g:Nat→Nat→α} {r:List α}:r ∈ mat n g↔∃ u < n,r=(List.range n).map fun w=>g u w:=by
 unfold mat
 rw [List.mem_map]
 exact ⟨fun ⟨u,h1,h2⟩=>⟨u,List.mem_range.mp h1,h2.symm⟩,fun ⟨u,h1,h2⟩=>⟨u,List.mem_range.mpr h1,h2.symm⟩⟩
theorem come_mat {n:Nat} {g:Nat→Nat→Int} {z:Int}:comeB (mat n g) z=true↔∀ u < n,((List.range n).map fun w=>g u w).sum=z:=by
 unfold comeB
 rw [List.all_eq_true]
 constructor
 ·exact fun h u hu=>of_decide_eq_true (h _ (mem_mat.mpr ⟨u,hu,rfl⟩))
 ·intro h r hr
  obtain ⟨u,hu,rfl⟩:=mem_mat.mp hr
  exact decide_eq_true (h u hu)
theorem shared_mat {n:Nat} {g:Nat→Nat→Int} {z:Int}:sharedB (mat n g) n z=true↔(∀ u < n,∀ w < n,0≤g u w)∧(∀ u < n,((List.range n).map fun w=>g u w).sum=z)∧∀ w < n,((List.range n).map fun u=>g u w).sum=z:=by
 unfold sharedB
 rw [Bool.and_eq_true,Bool.and_eq_true,cols_mat,come_mat,come_mat,List.all_eq_true]
 refine and_congr ⟨fun h u hu w hw=>of_decide_eq_true (h (g u w) ?_),fun h x hx=>decide_eq_true ?_⟩ Iff.rfl
 ·exact List.mem_flatten.mpr ⟨_,mem_mat.mpr ⟨u,hu,rfl⟩,List.mem_map.mpr ⟨w,List.mem_range.mpr hw,rfl⟩⟩
 ·obtain ⟨r,hr,hx⟩:=List.mem_flatten.mp hx
  obtain ⟨u,hu,rfl⟩:=mem_mat.mp hr
  obtain ⟨w,hw,rfl⟩:=List.mem_map.mp hx
  exact h u hu w (List.mem_range.mp hw)
theorem keep_mat {n:Nat} {g:Nat→Nat→Int} {hs hs':List Int} (h1:hs.length=n) (h2:hs'.length=n):keepHB hs hs' (mat n g)=true↔∀ u < n,∀ w < n,g u w=0 ∨ hs'.getD w 0=hs.getD u 0:=by
 have e1:=lst_of (d:=(0:Int)) h1
 have e2:=lst_of (d:=(0:Int)) h2
 unfold keepHB mat
 conv=>lhs; rw [e1]
 rw [zip_rng,List.all_eq_true]
 have k:∀ u,keepB (hs[u]?.getD 0) hs' ((List.range n).map fun w=>g u w)=true↔∀ w < n,g u w=0 ∨ hs'.getD w 0=hs.getD u 0:=fun u=>by
  unfold keepB
  conv=>lhs; rw [e2]
  rw [zip_rng,List.all_eq_true]
  constructor
  ·intro h w hw
   have:=h _ (List.mem_map.mpr ⟨w,List.mem_range.mpr hw,rfl⟩)
   rw [id,Bool.or_eq_true,decide_eq_true_iff,decide_eq_true_iff] at this
   rw [List.getD_eq_getElem?_getD,List.getD_eq_getElem?_getD]
   exact this
  ·intro h b hb
   obtain ⟨w,hw,rfl⟩:=List.mem_map.mp hb
   rw [id,Bool.or_eq_true,decide_eq_true_iff,decide_eq_true_iff]
   have:=h w (List.mem_range.mp hw)
   rw [List.getD_eq_getElem?_getD,List.getD_eq_getElem?_getD] at this
   exact this
 constructor
 ·intro h u hu
  exact (k u).mp (h _ (List.mem_map.mpr ⟨u,List.mem_range.mpr hu,rfl⟩))
 ·intro h b hb
  obtain ⟨u,hu,rfl⟩:=List.mem_map.mp hb
  exact (k u).mpr (h u (List.mem_range.mp hu))
end
section
def lotL (n m:Nat) (a b:Nat→Int):List Int:=(List.range n).map a++(List.range m).map b
section
variable {n m:Nat} {a b:Nat→Int}
theorem lotL_len:(lotL n m a b).length=n+m:=by unfold lotL; rw [List.length_append,List.length_map,List.length_map,List.length_range,List.length_range]
theorem lotL_here {u:Nat} (hu:u < n):(lotL n m a b)[u]? = some (a u):=by
 unfold lotL
 rw [List.getElem?_append_left (by rw [List.length_map,List.length_range]; exact hu),List.getElem?_map,List.getElem?_range hu]
 rfl
theorem lotL_there {w:Nat} (hw:w < m):(lotL n m a b)[n+w]? = some (b w):=by
 unfold lotL
 rw [List.getElem?_append_right (by rw [List.length_map,List.length_range]; omega),List.length_map,List.length_range,Nat.add_sub_cancel_left,List.getElem?_map,List.getElem?_range hw]
 rfl
end
theorem lots_two {ls:List Int} (hl:ls.length=n+m):ls=lotL n m (fun u=>ls.getD u 0) fun w=>ls.getD (n+w) 0:=by
 apply List.ext_getElem?
 intro i
 by_cases hi:i < n
 ·rw [lotL_here hi]
  obtain ⟨z,hz⟩:=get_lt (l:=ls) (i:=i) (by omega)
  rw [List.getD_eq_getElem?_getD,hz]
  rfl
 ·by_cases hi':i < n+m
  ·obtain ⟨w,rfl⟩:=Nat.exists_eq_add_of_le (Nat.le_of_not_lt hi)
   rw [lotL_there (by omega)]
   obtain ⟨z,hz⟩:=get_lt (l:=ls) (i:=n+w) (by omega)
   rw [List.getD_eq_getElem?_getD,hz]
   rfl
  ·rw [List.getElem?_eq_none (by omega),List.getElem?_eq_none (by rw [lotL_len]; omega)]
def aF (ls:List Int) (u:Nat):Int:=ls.getD u 0
def bF (n:Nat) (ls:List Int) (w:Nat):Int:=ls.getD (n+w) 0
theorem lot_two {n m:Nat} {ls:List Int} (h:ls.length=n+m):ls=lotL n m (aF ls) (bF n ls):=lots_two h
end
section
def mgI (ms:List Int) (x y:Int):List Int:=ms.map fun z=>if z=y then x else z
structure LotI (n m:Nat) (a b:Nat→Int) (dn:Nat→Nat→Prop) (ms:List Int):Prop where
 len:ms.length=n+m
 sound:Finer ms (lotL n m a b)
 done:∀ u w,dn u w→∀ x y,ms[u]? = some x→ms[n+w]? = some y→x=y
section
variable {n m:Nat} {a b:Nat→Int} {dn dn':Nat→Nat→Prop} {ms:List Int}
theorem LotI.start:LotI n m a b (fun _ _=>False) ((List.range (n+m)).map fun (i:Nat)=>(i:Int)):=by
 refine ⟨by rw [List.length_map,List.length_range],fun i j l x y e1 e2 e3 e4=>?_,fun _ _ z=>z.elim⟩
 have hi:i < n+m:=by have:=lt_get e3; rw [lotL_len] at this; exact this
 have hj:j < n+m:=by have:=lt_get e4; rw [lotL_len] at this; exact this
 rw [List.getElem?_map,List.getElem?_range hi] at e1
 rw [List.getElem?_map,List.getElem?_range hj] at e2
 have q1:(i:Int)=l:=Option.some.inj e1
 have q2:(j:Int)=l:=Option.some.inj e2
 obtain rfl:i=j:=by omega
 exact Option.some.inj (e3.symm.trans e4)
theorem LotI.mono (I:LotI n m a b dn ms) (h:∀ u w,dn' u w→dn u w):LotI n m a b dn' ms:=⟨I.len,I.sound,fun u w z=>I.done u w (h u w z)⟩
theorem mgI_get {x y z:Int} {i:Nat} (h:(mgI ms x y)[i]? = some z):∃ o,ms[i]? = some o∧z=if o=y then x else o:=by
 unfold mgI at h
 rw [List.getElem?_map] at h
 cases e:ms[i]? with
 | none=>rw [e] at h; cases h
 | some o=>rw [e] at h; exact ⟨o,rfl,(Option.some.inj h).symm⟩
theorem LotI.step (I:LotI n m a b dn ms) {u w:Nat} (hu:u < n) (hw:w < m) (e:a u=b w) {x y:Int} (hx:ms[u]? = some x) (hy:ms[n+w]? = some y):LotI n m a b (fun u' w'=>dn u' w' ∨ (u'=u∧w'=w)) (mgI ms x y):=by
 refine ⟨by unfold mgI; rw [List.length_map,I.len],fun i j l p q e1 e2 e3 e4=>?_,fun u' w' z p q e1 e2=>?_⟩
 ·obtain ⟨o1,g1,k1⟩:=mgI_get e1
  obtain ⟨o2,g2,k2⟩:=mgI_get e2
  have ou:=lotL_here (m:=m) (a:=a) (b:=b) hu
  have ow:=lotL_there (n:=n) (a:=a) (b:=b) hw
  by_cases c1:o1=y
  ·rw [if_pos c1] at k1
   by_cases c2:o2=y
   ·exact I.sound i j y p q (by rw [g1,c1]) (by rw [g2,c2]) e3 e4
   ·rw [if_neg c2] at k2
    have t1:=I.sound i (n+w) y _ _ (by rw [g1,c1]) hy e3 ow
    have t2:=I.sound j u x _ _ (by rw [g2,←k2,k1]) hx e4 ou
    rw [t1,t2,e]
  ·rw [if_neg c1] at k1
   by_cases c2:o2=y
   ·rw [if_pos c2] at k2
    have t1:=I.sound j (n+w) y _ _ (by rw [g2,c2]) hy e4 ow
    have t2:=I.sound i u x _ _ (by rw [g1,←k1,k2]) hx e3 ou
    rw [t1,t2,e]
   ·rw [if_neg c2] at k2
    exact I.sound i j l p q (by rw [g1,k1]) (by rw [g2,k2]) e3 e4
 ·obtain ⟨o1,g1,k1⟩:=mgI_get e1
  obtain ⟨o2,g2,k2⟩:=mgI_get e2
  rcases z with z | ⟨rfl,rfl⟩
  ·have:=I.done u' w' z o1 o2 g1 g2
   rw [k1,k2,this]
  ·rw [hx] at g1
   rw [hy] at g2
   cases g1
   cases g2
   rw [k1,k2,if_pos rfl]
   split <;> rfl
end
end
section
variable {P:Program} {w:World} {K:PySem.W.Frag} {mg:Str→Option Value} {base:Heap}
abbrev nMerged:List Str:=["marks","mark","other"]
theorem scMerged:FnScope nMerged nMerged (defScope sMerged):=⟨rfl,rfl,rfl,by decide +kernel,rfl,by decide +kernel,by decide +kernel⟩
theorem lcMerged:LcScopes (defScope sMerged) nMerged (lcScope (asgVal (bodyAt sMerged 0))) ["one"]:=⟨by decide +kernel,rfl,by decide +kernel,by decide +kernel,by decide +kernel,by decide +kernel,by decide +kernel,by decide +kernel,by decide +kernel,by decide +kernel⟩
def spMerged:Sp:=fun vs H Q _=>∃ (a:Addr) (ms:List Int) (x y:Int),vs=[.ref a,.int x,.int y]∧H a=some (.lst (ms.map V.int))∧ms.length≤900∧∀ D H',Same H H'→H D=none→H' D=some (.lst ((mgI ms x y).map V.int))→Q (.ref D) H'
theorem ok_merged {f:Addr} {fd:FuncData} (F:Fun K "merged" "merged" sMerged f fd):FnOk P w K mg base CX0 1 f fd nMerged spMerged:=by
 refine F.ok scMerged (fun vs H Q E h=>?_) (fun cdv A outer s H vs Q E hr h=>?_)
 ·obtain ⟨a,ms,x,y,rfl,_⟩:=h
  rfl
 ·obtain ⟨a,ms,x,y,rfl,ha,hl,q⟩:=h
  refine ⟨_,pss_one (ps_ret (pe_lc1 rfl lcMerged rfl (pi_list (pv 0)) (fun _ _ _=>pe_ifExp (pt_cmpR op_eq (pv 3) (pv 2) (nomark _)) (pv 1) (pv 3)))),?_⟩
  refine ⟨_,rfl,a,rfl,⟨_,SqL.of ha⟩,fun D hD=>?_⟩
  refine lc_vals ((mgI ms x y).map V.int) (by unfold mgI; rw [List.length_map,List.length_map,List.length_map]) (by rw [List.length_map]; exact hl) hD (SqL.of ha) ?_ ?_ ?_
  ·intro i v u H' hv hu s'
   obtain ⟨z,hz,rfl⟩:=map_get hv
   obtain ⟨z',hz',rfl⟩:=map_get hu
   obtain ⟨o,ho,rfl⟩:=mgI_get hz'
   rw [hz] at ho
   cases ho
   refine ⟨_,rfl,_,rfl,rfl,_,rfl,?_⟩
   by_cases e:z=y
   ·refine itDP (by rw [e]) ⟨_,rfl,?_,Same.refl _⟩
    rw [if_pos e]
   ·refine itDN (fun t=>e (V.int.inj t)) ⟨_,rfl,?_,Same.refl _⟩
    rw [if_neg e]
  ·intro H' s' eD
   exact q D H' s' hD eD
  ·rintro σ H' Q1 Q2 hq ⟨v,e,v',e',sc,c,ec,g⟩
   refine ⟨v,e,v',e',sc,c,ec,?_⟩
   cases c with
   | true=>obtain ⟨u,eu,g⟩:=(show ∃ u,_∧_ from g); exact ⟨u,eu,hq _ _ g⟩
   | false=>obtain ⟨u,eu,g⟩:=(show ∃ u,_∧_ from g); exact ⟨u,eu,hq _ _ g⟩
end
section
variable {P:Program} {w:World} {K:PySem.W.Frag} {mg:Str→Option Value} {base:Heap}
def FGrN (H0 H':Hp) (D:Addr) (F:List (List (Int × Int))):Prop:=∃ rs:List Addr,H' D=some (.lst (rs.map V.ref))∧rs.length=F.length∧H0 D=none∧(∀ r ∈ rs,r≠D∧H0 r=none) ∧
 ∀ (i:Nat) (r:Addr) (fs:List (Int × Int)),rs[i]? = some r→F[i]? = some fs→∃ x,H' r=some (.lst x)∧FrAt H' x fs
def FGrI (H1:Hp) (D:Addr) (F:List (List (Int × Int))) (i:Nat) (ys:List V) (H':Hp):Prop:=∃ rs:List Addr,ys=rs.map V.ref∧rs.length=i∧Same H1 H'∧H' D=some (.lst ys)∧(∀ r ∈ rs,r≠D∧H1 r=none) ∧
 ∀ (j:Nat) (r:Addr) (fs:List (Int × Int)),rs[j]? = some r→F[j]? = some fs→∃ x,H' r=some (.lst x)∧FrAt H' x fs
theorem FrAt.upd {H:Hp} {x:List V} {fs:List (Int × Int)} {D:Addr} {ys zs:List V} (h:FrAt H x fs) (eD:H D=some (.lst ys)):FrAt (L2.upd H D (.lst zs)) x fs:=⟨h.1,fun i v f h1 h2=>by
 obtain ⟨p,e,hp⟩:=h.2 i v f h1 h2
 refine ⟨p,e,?_⟩
 rw [upd_ne fun z=>by rw [z,eD] at hp; cases hp]
 exact hp⟩
theorem FGrI.start {H1:Hp} {D:Addr} {F:List (List (Int × Int))} (hD:H1 D=none):FGrI H1 D F 0 [] (upd H1 D (.lst [])):=⟨[],rfl,rfl,Same.upd hD,upd_same,(fun r h=>by cases h),(fun j r x h _=>by cases h)⟩
theorem FGrI.same {H1 H':Hp} {D:Addr} {F:List (List (Int × Int))} {i:Nat} {ys:List V} (g:FGrI H1 D F i ys H'):Same H1 H':=let ⟨_,_,_,z,_⟩:=g; z
theorem FGrI.at {H1 H':Hp} {D:Addr} {F:List (List (Int × Int))} {i:Nat} {ys:List V} (g:FGrI H1 D F i ys H'):H' D=some (.lst ys):=let ⟨_,_,_,_,z,_⟩:=g; z
theorem FGrI.step {H1 H4 H5:Hp} {D r:Addr} {F:List (List (Int × Int))} {i:Nat} {ys x:List V} {fs:List (Int × Int)} (hD:H1 D=none) (g:FGrI H1 D F i ys H4) (hf:F[i]? = some fs) (hn:H4 r=none) (hr:H5 r=some (.lst x)) (hx:FrAt H5 x fs) (s5:Same H4 H5) (hm:i < 900) :
  H5 D=some (.lst ys)∧ys.length < sizeLine∧FGrI H1 D F (i+1) (ys++[.ref r]) (upd H5 D (.lst (ys++[.ref r]))):=by
 obtain ⟨rs,rfl,lr,s4,eD,nD,hR⟩:=g
 have nrD:r≠D:=fun z=>by rw [z,eD] at hn; cases hn
 have nr1:H1 r=none:=by
  cases e:H1 r with
  | none=>rfl
  | some o=>rw [s4 _ _ e] at hn; cases hn
 have eD5:=s5 _ _ eD
 refine ⟨eD5,small1000 (by rw [List.length_map]; omega),rs++[r],by rw [List.map_append]; rfl,by rw [List.length_append,lr]; rfl,fun b o e=>?_,upd_same,fun c h=>?_,fun j c gs h1 h2=>?_⟩
 ·rw [upd_ne (ne_of_none e hD)]
  exact s5 _ _ (s4 _ _ e)
 ·rcases List.mem_append.mp h with z | z
  ·exact nD c z
  ·rw [List.mem_singleton.mp z]; exact ⟨nrD,nr1⟩
 ·rcases snoc_get h1 with z | ⟨e,z⟩
  ·obtain ⟨y,hy,fy⟩:=hR j c gs z h2
   refine ⟨y,?_,((fy.mono s5).upd eD5)⟩
   rw [upd_ne (nD c (List.mem_of_getElem? z)).1]
   exact s5 _ _ hy
  ·subst z
   rw [e,lr,hf] at h2
   cases h2
   exact ⟨x,by rw [upd_ne nrD]; exact hr,hx.upd eD5⟩
theorem FGrI.done {H1 H':Hp} {D:Addr} {F:List (List (Int × Int))} {ys:List V} {n:Nat} (hD:H1 D=none) (g:FGrI H1 D F n ys H') (e:F.length=n):FGrN H1 H' D F:=by
 obtain ⟨rs,rfl,lr,s,eD,nD,hR⟩:=g
 exact ⟨rs,eD,by rw [lr,e],hD,nD,hR⟩
theorem FGrN.back {H0 H1 H':Hp} {D:Addr} {F:List (List (Int × Int))} (g:FGrN H1 H' D F) (s:Same H0 H1):FGrN H0 H' D F:=by
 have b:∀ {c:Addr},H1 c=none→H0 c=none:=fun {c} h=>by
  cases e:H0 c with
  | none=>rfl
  | some o=>rw [s _ _ e] at h; cases h
 obtain ⟨rs,eD,lr,nD,nR,hR⟩:=g
 exact ⟨rs,eD,lr,b nD,fun r hr=>⟨(nR r hr).1,b (nR r hr).2⟩,hR⟩
theorem FGrN.mono {H0 H1 H':Hp} {D:Addr} {F:List (List (Int × Int))} (g:FGrN H0 H1 D F) (s:Same H1 H'):FGrN H0 H' D F:=by
 obtain ⟨rs,eD,lr,nD,nR,hR⟩:=g
 refine ⟨rs,s _ _ eD,lr,nD,nR,fun i r fs h1 h2=>?_⟩
 obtain ⟨x,hx,fx⟩:=hR i r fs h1 h2
 exact ⟨x,s _ _ hx,fx.mono s⟩
theorem FGrd.rows {H:Hp} {a:Addr} {F:List (List (Int × Int))} (g:FGrd H a F):∃ rs:List Addr,H a=some (.lst (rs.map V.ref))∧rs.length=F.length∧∀ (i:Nat) (r:Addr) (fs:List (Int × Int)),rs[i]? = some r→F[i]? = some fs→∃ x,H r=some (.lst x)∧FrAt H x fs:=by
 obtain ⟨X,⟨rs,ha,R⟩,l,h⟩:=g
 refine ⟨rs,ha,R.len.trans l,fun i r fs h1 h2=>?_⟩
 obtain ⟨x,hx⟩:=get_lt (l:=X) (i:=i) (by rw [←R.len]; exact lt_get h1)
 exact ⟨x,R.row i r x h1 hx,h i x fs hx h2⟩
theorem FGrN.grd {H0 H:Hp} {a:Addr} {F:List (List (Int × Int))} (g:FGrN H0 H a F):FGrd H a F:=by
 obtain ⟨rs,eD,lr,nD,nR,hR⟩:=g
 have pick:∀ i,∃ x,i < F.length→∀ r fs,rs[i]? = some r→F[i]? = some fs→H r=some (.lst x)∧FrAt H x fs:=fun i=>by
  by_cases hi:i < F.length
  ·obtain ⟨r,h1⟩:=get_lt (l:=rs) (i:=i) (by omega)
   obtain ⟨fs,h2⟩:=get_lt (l:=F) (i:=i) hi
   obtain ⟨x,hx⟩:=hR i r fs h1 h2
   refine ⟨x,fun _ r' fs' e1 e2=>?_⟩
   rw [h1] at e1
   rw [h2] at e2
   cases e1
   cases e2
   exact hx
  ·exact ⟨[],fun z=>absurd z hi⟩
 obtain ⟨g,hg⟩:=Classical.axiomOfChoice pick
 have lX:((List.range F.length).map g).length=F.length:=by rw [List.length_map,List.length_range]
 refine ⟨(List.range F.length).map g,⟨rs,eD,⟨lr.trans lX.symm,fun i r x h1 h2=>?_⟩⟩,lX,fun i x fs h1 h2=>?_⟩
 ·have hi:i < F.length:=by rw [←lr]; exact lt_get h1
  rw [List.getElem?_map,List.getElem?_range hi] at h2
  cases h2
  obtain ⟨fs,h3⟩:=get_lt (l:=F) (i:=i) hi
  exact (hg i hi r fs h1 h3).1
 ·have hi:i < F.length:=lt_get h2
  rw [List.getElem?_map,List.getElem?_range hi] at h1
  cases h1
  obtain ⟨r,h3⟩:=get_lt (l:=rs) (i:=i) (by omega)
  exact (hg i hi r fs h3 h2).2
end
section
variable {P:Program} {w:World} {K:PySem.W.Frag} {mg:Str→Option Value} {base:Heap}
theorem frat_rows {H:Hp} {X:List (List V)} {G:List (List (Int × Int))} {n:Nat} (lX:X.length=G.length) (h:∀ (i:Nat) (x:List V) (fs:List (Int × Int)),X[i]? = some x→G[i]? = some fs→FrAt H x fs) (hn:∀ g ∈ G,g.length=n):∀ x ∈ X,x.length=n:=by
 intro x hx
 obtain ⟨i,hi⟩:=List.mem_iff_getElem?.mp hx
 obtain ⟨g,hg⟩:=get_lt (l:=G) (i:=i) (by rw [←lX]; exact lt_get hi)
 rw [(h i x g hi hg).1]
 exact hn g (List.mem_of_getElem? hg)
theorem cut_take (ns:List Int) (n:Nat) (h:n≤ns.length):cutV (ns.map V.int) none (some (n:Int))=(ns.take n).map V.int:=by
 unfold cutV
 rw [HT.sIx_none,HT.sIx_nat,List.drop_zero,List.length_map,Nat.min_eq_left h,Nat.sub_zero,List.map_take]
theorem cut_drop (ns:List Int) (n:Nat) (h:n≤ns.length):cutV (ns.map V.int) (some (n:Int)) none=(ns.drop n).map V.int:=by
 unfold cutV
 rw [HT.sIx_none,HT.sIx_nat,List.length_map,Nat.min_eq_left h,←List.map_drop,List.take_of_length_le (by rw [List.length_map,List.length_drop]; exact Nat.le_refl _)]
def posF (F:List (List (Int × Int))) (u w:Nat):Prop:=∃ fs f,F[u]? = some fs∧fs[w]? = some f∧0 < f.1
def LotG (n m:Nat) (F:List (List (Int × Int))) (dn:Nat→Nat→Prop) (ms:List Int):Prop:=∀ a b:Nat→Int,(∀ u w,u < n→w < m→posF F u w→a u=b w)→LotI n m a b dn ms
theorem LotG.len {n m:Nat} {F:List (List (Int × Int))} {dn:Nat→Nat→Prop} {ms:List Int} (g:LotG n m F dn ms):ms.length=n+m:=(g (fun _=>0) (fun _=>0) fun _ _ _ _ _=>rfl).len
abbrev nLotsOf:List Str:=["table","ahead","marks","place","row","place_there","share","lots"]
theorem scLotsOf:FnScope nLotsOf ["table"] (defScope sLotsOf):=⟨rfl,rfl,rfl,by decide +kernel,rfl,by decide +kernel,by decide +kernel⟩
def spLotsOf:Sp:=fun vs H Q _=>∃ (a:Addr) (F:List (List (Int × Int))) (n m:Nat),vs=[.ref a]∧FGrd H a F∧F.length=n∧n≤16∧m≤16∧(∀ g ∈ F,g.length=m)∧(F=[]→m=0) ∧
 ∀ (p x y:Addr) (ms:List Int) (H':Hp),Same H H'→LotG n m F (posF F) ms→H' p=some (.tup [.ref x,.ref y])→H' x=some (.lst (((nI (numb ms)).take n).map V.int))→H' y=some (.lst (((nI (numb ms)).drop n).map V.int))→Q (.ref p) H'
theorem ok_lotsOf {f fC fM fN:Addr} {fd fdC fdM fdN:FuncData} (B:BltR mg) (F:Fun K "lots_of" "lots_of" sLotsOf f fd) (DC:Dn K mg "columns_of" sCols ["rows"] fC fdC) (GC:FnOk P w K mg base CX0 2 fC fdC ["rows"] spCols)
  (DM:Dn K mg "merged" sMerged nMerged fM fdM) (GM:FnOk P w K mg base CX0 1 fM fdM nMerged spMerged) (DN:Dn K mg "numbered" sNumbered ["marks"] fN fdN) (GN:FnOk P w K mg base CX0 1 fN fdN ["marks"] (spNum K iKey)):FnOk P w K mg base CX0 3 f fd ["table"] spLotsOf:=by
 refine F.ok scLotsOf (fun vs H Q E h=>?_) (fun cdv A outer s H vs Q E hr h=>?_)
 ·obtain ⟨a,F,n,m,rfl,_⟩:=h
  rfl
 ·obtain ⟨a,F,n,m,rfl,gF,lF,hn,hm,hw,h0,q⟩:=h
  obtain ⟨rs,ha,lr,hR⟩:=gF.rows
  obtain ⟨X,gX,lX,hX⟩:=gF
  have r1:=hr.mono (j:=1) (by decide)
  refine ⟨_,pss_cons (ps_set (i:=1) scLotsOf.nd rfl (Or.inl rfl) (pe_callB call_len_seq (by rfl) B.len PySem.boot_len (pa_cons (pv 0) pa_nil)))
   (pss_cons (ps_set (i:=2) scLotsOf.nd rfl (Or.inl rfl) (pe_callTy (call_list_rng rfl) (by rfl) B.list boot_list (pa_cons (pe_callTy call_range1v (by rfl) B.range boot_range (pa_cons (pe_op op_add (pv 1) (pe_callB call_len_seq (by rfl) B.len PySem.boot_len (pa_cons (pe_fn DC GC hr rfl (pa_cons (pv 0) pa_nil)) pa_nil))) pa_nil)) pa_nil)))
   (pss_cons (ps_for PassesOwn.never rfl (pi_enum rfl B.enum (pa_cons (pv 0) pa_nil)) (pg_tup rfl (pgs_cons (pg_name (i:=3) scLotsOf.nd rfl (Or.inl rfl)) (pgs_cons (pg_name (i:=4) scLotsOf.nd rfl (Or.inl rfl)) pgs_nil)))
    (pss_one (ps_for PassesOwn.never rfl (pi_enum rfl B.enum (pa_cons (pv 4) pa_nil)) (pg_tup rfl (pgs_cons (pg_name (i:=5) scLotsOf.nd rfl (Or.inl rfl)) (pgs_cons (pg_name (i:=6) scLotsOf.nd rfl (Or.inl rfl)) pgs_nil)))
     (pss_one (ps_if (pt_cmpR op_gt (pe_ix ix_tup (pv 6) pe_int (fun _ _=>rfl)) pe_int (nomark _))
      (pss_one (ps_set (i:=2) scLotsOf.nd rfl (Or.inl rfl) (pe_fn DM GM r1 rfl (pa_cons (pv 2) (pa_cons (pe_ix ix_list (pv 2) (pv 3) (fun _ _=>rfl)) (pa_cons (pe_ix ix_list (pv 2) (pe_op op_add (pv 1) (pv 5)) (fun _ _=>rfl)) pa_nil)))))) pss_nil)))))
   (pss_cons (ps_set (i:=7) scLotsOf.nd rfl (Or.inl rfl) (pe_fn DN GN r1 rfl (pa_cons (pv 2) pa_nil)))
   (pss_one (ps_ret (pe_tup (pa_cons (pe_slice sl_list (pv 7) po_none (po_some (pv 1))) (pa_cons (pe_slice sl_list (pv 7) (po_some (pv 1)) po_none) pa_nil)))))))),?_⟩
  refine ⟨_,rfl,a,_,rfl,.inl (SqL.of ha),?_⟩
  rw [List.length_map,lr,lF]
  refine ⟨_,rfl,_,rfl,a,X,m,rfl,gX,by omega,by omega,frat_rows lX hX hw,fun z=>h0 (List.eq_nil_of_length_eq_zero (by rw [←lX,z]; rfl)),fun C H1 s1 nC gC=>?_⟩
  obtain ⟨cs,eC,RC⟩:=gC
  have lcs:cs.length=m:=by rw [RC.len]; unfold colsV; rw [List.length_map,List.length_range]
  refine ⟨C,_,rfl,.inl (SqL.of eC),_,_,rfl,rfl,?_⟩
  rw [List.length_map,lcs]
  refine ⟨_,rfl,fun pr hpr=>?_⟩
  have e0:((n:Int)+(m:Int))=((n+m:Nat):Int):=by omega
  rw [e0]
  have sr:Same H1 (L2.upd H1 pr (.rng 0 ((n+m:Nat):Int))):=Same.upd hpr
  refine ⟨pr,n+m,rfl,upd_same,by omega,fun L hL=>?_⟩
  have s2:Same H (L2.upd (L2.upd H1 pr (.rng 0 ((n+m:Nat):Int))) L (.lst ((List.range (n+m)).map fun (i:Nat)=>V.int (i:Int)))):=(s1.trans sr).trans (Same.upd hL)
  have e2:L2.upd (L2.upd H1 pr (.rng 0 ((n+m:Nat):Int))) L (.lst ((List.range (n+m)).map fun (i:Nat)=>V.int (i:Int))) L=some (.lst (((List.range (n+m)).map fun (i:Nat)=>(i:Int)).map V.int)):=by rw [upd_same,List.map_map]; rfl
  generalize L2.upd (L2.upd H1 pr (.rng 0 ((n+m:Nat):Int))) L (.lst ((List.range (n+m)).map fun (i:Nat)=>V.int (i:Int)))=H2 at s2 e2 ⊢
  refine ⟨_,rfl,a,rfl,⟨_,SqL.of (s2 _ _ ha)⟩,for_enum (K:=K) (xs:=rs.map V.ref) (fun i σ H'=>∃ (o3 o4 o5 o6:Option V) (T:Addr) (ms:List Int),σ=[some (.ref a),some (.int (n:Int)),some (.ref T),o3,o4,o5,o6,none]∧Same H H'∧H' T=some (.lst (ms.map V.int))∧LotG n m F (fun u w=>u < i∧posF F u w) ms) ?_ ?_ ?_ ?_⟩
  ·exact ⟨none,none,none,none,L,_,rfl,s2,e2,fun a b _=>LotI.start.mono fun u w z=>absurd z.1 (Nat.not_lt_zero _)⟩
  ·rintro i σ H' _ ⟨o3,o4,o5,o6,T,ms,rfl,s3,_⟩
   exact SqL.of (s3 _ _ ha)
  ·rintro u x t σ H3 hx ⟨o3,o4,o5,o6,T,ms,rfl,s3,eT,G⟩ ht
   obtain ⟨r,hr',rfl⟩:=map_get hx
   have hu:u < n:=by have:=lt_get hr'; omega
   obtain ⟨fs,hf⟩:=get_lt (l:=F) (i:=u) (by omega)
   obtain ⟨xs,er,fx⟩:=hR u r fs hr' hf
   have lx:xs.length=m:=by rw [fx.1]; exact hw fs (List.mem_of_getElem? hf)
   refine ⟨t,_,rfl,SqT.of upd_same,rfl,_,_,rfl,_,_,rfl,rfl,?_⟩
   have s4:Same H3 (L2.upd H3 t (.tup [.int (u:Int),.ref r])):=Same.upd ht
   generalize L2.upd H3 t (.tup [.int (u:Int),.ref r])=H4 at s4 ⊢
   have t4:=s3.trans s4
   refine ⟨_,rfl,r,rfl,⟨_,SqL.of (t4 _ _ er)⟩,for_enum (K:=K) (xs:=xs) (fun j σ H'=>∃ (o5 o6:Option V) (T:Addr) (ms:List Int),σ=[some (.ref a),some (.int (n:Int)),some (.ref T),some (.int (u:Int)),some (.ref r),o5,o6,none]∧Same H H'∧H' T=some (.lst (ms.map V.int))∧LotG n m F (fun u' w=>(u' < u ∨ (u'=u∧w < j))∧posF F u' w) ms) ?_ ?_ ?_ ?_⟩
   ·exact ⟨_,_,T,ms,rfl,t4,s4 _ _ eT,fun a b h=>(G a b h).mono fun u' w z=>⟨by omega,z.2⟩⟩
   ·rintro j σ H' _ ⟨o5,o6,T,ms,rfl,s5,_⟩
    exact SqL.of (s5 _ _ er)
   ·rintro j v t2 σ H5 hv ⟨o5,o6,T,ms,rfl,s5,eT5,G5⟩ ht2
    have hj:j < m:=by have:=lt_get hv; omega
    obtain ⟨g,hg⟩:=get_lt (l:=fs) (i:=j) (by rw [←fx.1]; exact lt_get hv)
    obtain ⟨p,rfl,hp⟩:=fx.2 j v g hv hg
    refine ⟨t2,_,rfl,SqT.of upd_same,rfl,_,_,rfl,_,_,rfl,rfl,?_⟩
    have s6:Same H5 (L2.upd H5 t2 (.tup [.int (j:Int),.ref p])):=Same.upd ht2
    generalize L2.upd H5 t2 (.tup [.int (j:Int),.ref p])=H6 at s6 ⊢
    have t6:=s5.trans s6
    refine ⟨_,rfl,p,_,_,.int g.1,rfl,rfl,SqT.of (t6 _ _ hp),at_hd _ _,_,_,rfl,rfl,_,rfl,?_⟩
    have lm:=G5.len
    by_cases e:(0:Int) < g.1
    ·refine itDP e ?_
     obtain ⟨x,hx1⟩:=get_lt (l:=ms) (i:=u) (by omega)
     obtain ⟨y,hy1⟩:=get_lt (l:=ms) (i:=n+j) (by omega)
     refine ⟨_,rfl,_,rfl,_,rfl,T,_,_,.int x,rfl,rfl,SqL.of (s6 _ _ eT5),atI_nat (by rw [List.getElem?_map,hx1]; rfl),?_⟩
     refine ⟨_,rfl,_,rfl,_,rfl,_,_,rfl,rfl,T,_,_,.int y,rfl,rfl,SqL.of (s6 _ _ eT5),?_,?_⟩
     ·rw [show (n:Int)+(j:Int)=((n+j:Nat):Int) by omega]
      exact atI_nat (by rw [List.getElem?_map,hy1]; rfl)
     refine ⟨T,ms,x,y,rfl,s6 _ _ eT5,by omega,fun D H7 s7 nD eD=>?_⟩
     refine ⟨_,_,D,_,rfl,t6.trans s7,eD,fun a b h=>((G5 a b h).step hu hj (h u j hu hj ⟨fs,g,hf,hg,e⟩) hx1 hy1).mono fun u' w z=>?_⟩
     by_cases c:u'=u∧w=j
     ·exact .inr c
     ·exact .inl ⟨by omega,z.2⟩
    ·refine itDN e ?_
     refine ⟨_,_,T,ms,rfl,t6,s6 _ _ eT5,fun a b h=>(G5 a b h).mono fun u' w z=>⟨?_,z.2⟩⟩
     by_cases c:u'=u∧w=j
     ·obtain ⟨rfl,rfl⟩:=c
      obtain ⟨_,fs',f',e1,e2,e3⟩:=z
      rw [hf] at e1
      cases e1
      rw [hg] at e2
      cases e2
      exact absurd e3 e
     ·omega
   ·rintro σ H5 ⟨o5,o6,T,ms,rfl,s5,eT5,G5⟩
    refine ⟨_,_,_,_,T,ms,rfl,s5,eT5,fun a b h=>(G5 a b h).mono fun u' w z=>⟨?_,z.2⟩⟩
    obtain ⟨z1,fs',f',e1,e2,_⟩:=z
    by_cases c:u'=u
    ·subst c
     rw [hf] at e1
     cases e1
     exact .inr ⟨rfl,by rw [fx.1]; exact lt_get e2⟩
    ·omega
  ·rintro σ H3 ⟨o3,o4,o5,o6,T,ms,rfl,s3,eT,G⟩
   have lm:=G.len
   refine ⟨_,rfl,T,ms.map V.int,ms,rfl,SqL.of eT,by rw [List.length_map],by omega,fun j y k h1 h2=>?_,fun D H4 s4 nD eD=>?_⟩
   ·rw [List.getElem?_map,h2] at h1
    exact (Option.some.inj h1).symm
   rw [nI_V] at eD
   have ll:(nI (numb ms)).length=n+m:=by unfold nI; rw [List.length_map,numb_len,lm]
   refine ⟨_,rfl,_,rfl,(n:Int),rfl,D,_,rfl,SqL.of eD,fun x hx=>?_⟩
   rw [cut_take _ n (by omega)]
   have s5:Same H4 (L2.upd H4 x (.lst (((nI (numb ms)).take n).map V.int))):=Same.upd hx
   have e5:L2.upd H4 x (.lst (((nI (numb ms)).take n).map V.int)) x=some (.lst (((nI (numb ms)).take n).map V.int)):=upd_same
   generalize L2.upd H4 x (.lst (((nI (numb ms)).take n).map V.int))=H5 at s5 e5 ⊢
   refine ⟨_,rfl,_,rfl,(n:Int),rfl,D,_,rfl,SqL.of (s5 _ _ eD),fun y hy=>?_⟩
   rw [cut_drop _ n (by omega)]
   have s6:Same H5 (L2.upd H5 y (.lst (((nI (numb ms)).drop n).map V.int))):=Same.upd hy
   have e6:L2.upd H5 y (.lst (((nI (numb ms)).drop n).map V.int)) y=some (.lst (((nI (numb ms)).drop n).map V.int)):=upd_same
   generalize L2.upd H5 y (.lst (((nI (numb ms)).drop n).map V.int))=H6 at s6 e6 ⊢
   refine ⟨(by show 2≤sizeLine; decide),fun p hp=>?_⟩
   have s7:Same H6 (L2.upd H6 p (.tup [.ref x,.ref y])):=Same.upd hp
   refine q p x y ms _ ((((s3.trans s4).trans s5).trans s6).trans s7) (fun a b h=>(G a b h).mono fun u' w z=>⟨?_,z⟩) upd_same (s7 _ _ (s6 _ _ e5)) (s7 _ _ e6)
   obtain ⟨fs',f',e1,_⟩:=z
   have:=lt_get e1
   rw [List.length_map,lr]
   exact this
end
section
variable {P:Program} {w:World} {K:PySem.W.Frag} {mg:Str→Option Value} {base:Heap}
def dF (f:Int × Int):PyData:=.tuple [.int f.1,.int f.2]
theorem eqv_dF (f g:Int × Int):PyData.eqv (dF f) (dF g)=decide (f=g):=by
 obtain ⟨a,b⟩:=f
 obtain ⟨c,d⟩:=g
 unfold dF
 simp only [PyData.eqv,PyData.eqvAll]
 by_cases h1:a=c
 ·subst h1
  by_cases h2:b=d
  ·subst h2; simp
  ·simp [h2]
 ·simp [h1]
theorem lay_dF (f:Int × Int):(dF f).canLay0=true∧(dF f).depth≤1:=by
 unfold dF
 refine ⟨by simp only [PyData.canLay0,PyData.canLayAll0,Bool.and_self],?_⟩
 simp only [PyData.depth,PyData.depthAll]
 omega
theorem daF {H:Hp} {p:Addr} {f:Int × Int} (h:H p=some (tupF f)):DA K any H (.ref p) (dF f):=.tup trivial (SqT.of h) (.cons (.int _) (.cons (.int _) .nil))
theorem FrAt.get {H:Hp} {x:List V} {fs:List (Int × Int)} {i:Nat} {f:Int × Int} (h:FrAt H x fs) (hf:fs[i]? = some f):∃ p,x[i]? = some (.ref p)∧H p=some (tupF f):=by
 obtain ⟨v,hv⟩:=get_lt (l:=x) (i:=i) (by rw [h.1]; exact lt_get hf)
 obtain ⟨p,rfl,hp⟩:=h.2 i v f hv hf
 exact ⟨p,hv,hp⟩
def dT (F:List (List (Int × Int))):PyData:=.list (F.map fun r=>.list (r.map dF))
theorem lay_dFs:∀ r:List (Int × Int),PyData.canLayAll0 (r.map dF)=true∧PyData.depthAll (r.map dF)≤1
 | []=>⟨rfl,Nat.zero_le _⟩
 | f :: r=>by
  obtain ⟨h1,h2⟩:=lay_dFs r
  obtain ⟨a1,a2⟩:=lay_dF f
  rw [List.map_cons]
  simp only [PyData.canLayAll0,PyData.depthAll,h1,a1,Bool.and_self,true_and]
  omega
theorem lay_dTs:∀ F:List (List (Int × Int)),PyData.canLayAll0 (F.map fun r=>PyData.list (r.map dF))=true∧PyData.depthAll (F.map fun r=>PyData.list (r.map dF))≤2
 | []=>⟨rfl,Nat.zero_le _⟩
 | r :: F=>by
  obtain ⟨h1,h2⟩:=lay_dTs F
  obtain ⟨a1,a2⟩:=lay_dFs r
  rw [List.map_cons]
  simp only [PyData.canLayAll0,PyData.canLay0,PyData.depthAll,PyData.depth,h1,a1,Bool.and_self,true_and]
  omega
theorem lay_dT (F:List (List (Int × Int))):(dT F).canLay0=true∧(dT F).depth≤64:=by
 obtain ⟨h1,h2⟩:=lay_dTs F
 unfold dT
 simp only [PyData.canLay0,PyData.depth,h1,true_and]
 omega
theorem FrAt.das {H:Hp}:∀ {x:List V} {fs:List (Int × Int)},FrAt H x fs→DAs K any H x (fs.map dF)
 | [],[],_=>.nil
 | [],_ :: _,h=>by cases h.1
 | _ :: _,[],h=>by cases h.1
 | v :: x,f :: fs,h=>by
  obtain ⟨p,rfl,hp⟩:=h.2 0 v f rfl rfl
  exact .cons (daF hp) (FrAt.das ⟨by simpa using h.1,fun i v f h1 h2=>h.2 (i+1) v f h1 h2⟩)
theorem FGrd.das {H:Hp}:∀ {rs:List Addr} {X:List (List V)} {F:List (List (Int × Int))},rs.length=X.length→X.length=F.length→(∀ (i:Nat) (r:Addr) (x:List V),rs[i]? = some r→X[i]? = some x→H r=some (.lst x))→(∀ (i:Nat) (x:List V) (fs:List (Int × Int)),X[i]? = some x→F[i]? = some fs→FrAt H x fs)→DAs K any H (rs.map V.ref) (F.map fun r=>.list (r.map dF))
 | [],[],[],_,_,_,_=>.nil
 | r :: rs,x :: X,f :: F,l1,l2,h1,h2=>.cons (.lst trivial (SqL.of (h1 0 r x rfl rfl)) (h2 0 x f rfl rfl).das) (FGrd.das (by simpa using l1) (by simpa using l2) (fun i r x g1 g2=>h1 (i+1) r x g1 g2) fun i x fs g1 g2=>h2 (i+1) x fs g1 g2)
theorem FGrd.da {H:Hp} {a:Addr} {F:List (List (Int × Int))} (g:FGrd H a F):DA K any H (.ref a) (dT F):=by
 obtain ⟨X,⟨rs,h,R⟩,lX,fX⟩:=g
 exact .lst trivial (SqL.of h) (FGrd.das R.len lX R.row fX)
theorem eqv_dFs:∀ r:List (Int × Int),PyData.eqvAll (r.map dF) (r.map dF)=true
 | []=>rfl
 | f :: r=>by
  rw [List.map_cons]
  simp only [PyData.eqvAll,eqv_dF,eqv_dFs r,decide_true,Bool.and_self]
theorem eqv_dT (F:List (List (Int × Int))):PyData.eqv (dT F) (dT F)=true:=by
 unfold dT
 simp only [PyData.eqv]
 induction F with
 | nil=>rfl
 | cons r F ih =>
  rw [List.map_cons]
  simp only [PyData.eqvAll,PyData.eqv,eqv_dFs r,ih,Bool.and_self]
end
section
theorem smF_perm {s:Nat→Nat} (hs:((List.range n).map s).Perm (List.range n)) (f:Nat→Int):SmF n (fun u=>f (s u))=SmF n f:=by
 unfold SmF
 have:=hs.map f
 rw [List.map_map] at this
 have key:∀ {x y:List Int},x.Perm y→x.sum=y.sum:=by
  intro x y p
  induction p with
  | nil=>rfl
  | cons x _ ih=>rw [List.sum_cons,List.sum_cons,ih]
  | swap x y l=>rw [List.sum_cons,List.sum_cons,List.sum_cons,List.sum_cons]; omega
  | trans _ _ ih1 ih2=>rw [ih1,ih2]
 exact key this
structure GoI (n:Nat) (h h':Nat→Int) (M M':Nat→Nat→Int) (P:Nat→Nat→Int) (N:Int):Prop where
 pos:∀ u < n,∀ w < n,0≤P u w
 row:∀ u < n,SmF n (fun w=>P u w)=N
 col:∀ w < n,SmF n (fun u=>P u w)=N
 hue:∀ u < n,∀ w < n,P u w≠0→h' w=h u
 go:∀ u < n,∀ w < n,SmF n (fun v=>P v w * M u v)=SmF n fun x=>M' x w * P u x
def lowM (n:Nat) (P:Nat→Nat→Int) (N:Int):List (List (Int × Int)):=mat n fun u w=>M11.low (P u w) N
section
variable {n:Nat} {h h' h2:Nat→Int} {M M' M2:Nat→Nat→Int} {P R:Nat→Nat→Int} {N N':Int} {a b:Nat→Int}
theorem GoI.add (g:GoI n h h' M M' P N) (g':GoI n h h' M M' R N'):GoI n h h' M M' (fun u w=>P u w+R u w) (N+N'):=by
 refine ⟨fun u hu w hw=>Int.add_nonneg (g.pos u hu w hw) (g'.pos u hu w hw),fun u hu=>?_,fun w hw=>?_,fun u hu w hw e=>?_,fun u hu w hw=>?_⟩
 ·rw [smF_add,g.row u hu,g'.row u hu]
 ·rw [smF_add n (fun u=>P u w) fun u=>R u w,g.col w hw,g'.col w hw]
 ·by_cases c:P u w=0
  ·exact g'.hue u hu w hw fun z=>e (by show P u w+R u w=0; rw [c,z]; rfl)
  ·exact g.hue u hu w hw c
 ·have e1:SmF n (fun v=>(P v w+R v w) * M u v)=SmF n (fun v=>P v w * M u v)+SmF n fun v=>R v w * M u v:=by
   rw [←smF_add]
   exact smF_congr fun v _=>Int.add_mul _ _ _
  have e2:SmF n (fun x=>M' x w * (P u x+R u x))=SmF n (fun x=>M' x w * P u x)+SmF n fun x=>M' x w * R u x:=by
   rw [←smF_add]
   exact smF_congr fun v _=>Int.mul_add _ _ _
  rw [e1,e2,g.go u hu w hw,g'.go u hu w hw]
theorem smF_one {f:Nat→Int} {u:Nat} (hu:u < n):SmF n (fun w=>if u=w then f w else 0)=f u:=by
 have:∀ m,SmF m (fun w=>if u=w then f w else 0)=if u < m then f u else 0:=by
  intro m
  induction m with
  | zero=>rfl
  | succ m ih =>
   rw [smF_succ,ih]
   by_cases c:u=m
   ·subst c
    rw [if_neg (Nat.lt_irrefl _),if_pos rfl,if_pos (Nat.lt_succ_self _),Int.zero_add]
   ·rw [if_neg c,Int.add_zero]
    by_cases c2:u < m
    ·rw [if_pos c2,if_pos (by omega)]
    ·rw [if_neg c2,if_neg (by omega)]
 rw [this,if_pos hu]
theorem go_turn {s:Nat→Nat} (hs:((List.range n).map s).Perm (List.range n)) (hh:∀ u < n,h' (s u)=h u) (hM:∀ u < n,∀ v < n,M' (s u) (s v)=M u v):GoI n h h' M M' (fun u w=>if s u=w then 1 else 0) 1:=by
 have sl:∀ u < n,s u < n:=fun u hu=>List.mem_range.mp (hs.mem_iff.mp (List.mem_map.mpr ⟨u,List.mem_range.mpr hu,rfl⟩))
 refine ⟨fun u hu w hw=>by show 0≤if s u=w then (1:Int) else 0; split <;> decide,fun u hu=>smF_one (f:=fun _=>1) (sl u hu),fun w hw=>?_,fun u hu w hw e=>?_,fun u hu w hw=>?_⟩
 ·rw [smF_perm hs fun x=>if x=w then 1 else 0]
  have:SmF n (fun x=>if x=w then (1:Int) else 0)=SmF n fun x=>if w=x then 1 else 0:=smF_congr fun x _=>by
   by_cases c:x=w
   ·rw [if_pos c,if_pos c.symm]
   ·rw [if_neg c,if_neg (Ne.symm c)]
  rw [this]
  exact smF_one (f:=fun _=>1) hw
 ·have:s u=w:=by
   by_cases c:s u=w
   ·exact c
   ·exact absurd (if_neg c) e
  rw [←this]
  exact hh u hu
 ·have e1:SmF n (fun v=>(if s v=w then 1 else 0) * M u v)=SmF n fun v=>(fun x=>if w=x then M' (s u) x else 0) (s v):=smF_congr fun v hv=>by
   show _=if w=s v then M' (s u) (s v) else 0
   by_cases c:s v=w
   ·rw [if_pos c,if_pos c.symm,Int.one_mul,hM u hu v hv]
   ·rw [if_neg c,if_neg (Ne.symm c),Int.zero_mul]
  have e2:SmF n (fun x=>M' x w * (if s u=x then 1 else 0))=SmF n fun x=>if s u=x then M' x w else 0:=smF_congr fun x _=>by
   by_cases c:s u=x
   ·rw [if_pos c,if_pos c,Int.mul_one]
   ·rw [if_neg c,if_neg c,Int.mul_zero]
  rw [e1,smF_perm hs fun x=>if w=x then M' (s u) x else 0,e2,smF_one (sl u hu)]
  exact smF_one hw
theorem low_above {t b:Int} (hb:0 < b):0 < (M11.low t b).1↔0 < t:=by
 have c:=M11.low_cross (t:=t) (Int.ne_of_gt hb)
 have p:=M11.low_pos (t:=t) (Int.ne_of_gt hb)
 generalize M11.low t b=z at c p
 constructor
 ·intro h
  have:=Int.mul_pos h hb
  rw [c] at this
  exact Int.pos_of_mul_pos_left this p
 ·intro h
  have:=Int.mul_pos h p
  rw [←c] at this
  exact Int.pos_of_mul_pos_left this hb
theorem pos_low (hN:0 < N) {u w:Nat} (hu:u < n) (hw:w < n):posF (lowM n P N) u w↔0 < P u w:=by
 have e1:(lowM n P N)[u]? = some ((List.range n).map fun w=>M11.low (P u w) N):=by unfold lowM mat; rw [List.getElem?_map,List.getElem?_range hu]; rfl
 have e2:((List.range n).map fun w=>M11.low (P u w) N)[w]? = some (M11.low (P u w) N):=by rw [List.getElem?_map,List.getElem?_range hw]; rfl
 constructor
 ·rintro ⟨fs,f,h1,h2,h3⟩
  rw [e1] at h1
  cases h1
  rw [e2] at h2
  cases h2
  exact (low_above hN).mp h3
 ·exact fun h=>⟨_,_,e1,e2,(low_above hN).mpr h⟩
end
end
section
section
variable {n:Nat} {h h':Nat→Int} {M M':Nat→Nat→Int} {P:Nat→Nat→Int} {N:Int} {a b:Nat→Int}
structure CmpF (n:Nat) (P:Nat→Nat→Int) (a b:Nat→Int):Prop where
 pos:∀ u < n,∀ w < n,0 < P u w→a u=b w
 here:∀ {a' b':Nat→Int},(∀ u < n,∀ w < n,0 < P u w→a' u=b' w)→∀ u < n,∀ v < n,a u=a v→a' u=a' v
 there:∀ {a' b':Nat→Int},(∀ u < n,∀ w < n,0 < P u w→a' u=b' w)→∀ u < n,∀ v < n,b u=b v→b' u=b' v
 cross:∀ {a' b':Nat→Int},(∀ u < n,∀ w < n,0 < P u w→a' u=b' w)→∀ u < n,∀ w < n,a u=b w→a' u=b' w
theorem goes_of {hs hs':List Int} {M M':List (List Int)} (h1:hs.length=n) (h2:hs'.length=n) (S:SqN n M) (S':SqN n M') (g:GoI n (hueF hs) (hueF hs') (ent M) (ent M') P N) (hN:0 < N) (hb:N.natAbs < 2 ^ 20):goesB n hs hs' M M' (lowM n P N)=true:=by
 have hB:∀ f ∈ (lowM n P N).flatten,Bt f:=fun f hf=>by
  obtain ⟨r,hr,hf⟩:=mem_flat hf
  obtain ⟨u,hu,rfl⟩:=mem_mat.mp hr
  obtain ⟨w,_,rfl⟩:=List.mem_map.mp hf
  exact ⟨M11.low_pos (Int.ne_of_gt hN),Nat.lt_of_le_of_lt (M11.low_le (Int.ne_of_gt hN)).2 hb⟩
 obtain ⟨b1,b2,_⟩:=bot_spec hB
 unfold goesB
 generalize botL (lowM n P N).flatten=W at b1 b2
 obtain ⟨T,eT⟩:∃ T:Nat→Nat→Int,T=fun u w=>topF (M11.low (P u w) N) W:=⟨_,rfl⟩
 have key:∀ u < n,∀ w < n,T u w * N=P u w * W:=fun u hu w hw=>by
  have dv:(M11.low (P u w) N).2 ∣ W:=b2 _ (List.mem_flatten.mpr ⟨_,mem_mat.mpr ⟨u,hu,rfl⟩,List.mem_map.mpr ⟨w,List.mem_range.mpr hw,rfl⟩⟩)
  have c:=M11.low_cross (t:=P u w) (Int.ne_of_gt hN)
  have p:=M11.low_pos (t:=P u w) (Int.ne_of_gt hN)
  rw [eT]
  show topF (M11.low (P u w) N) W * N=_
  unfold topF
  generalize M11.low (P u w) N=f at dv c p
  obtain ⟨q,e,e2⟩:=M11.fdiv_of_dvd p dv
  rw [e2]
  have:f.1 * q * N=(f.1 * N) * q:=by grind
  rw [this,c,e]
  grind
 have eT2:topsI (lowM n P N) W=mat n T:=by
  unfold topsI lowM mat
  rw [List.map_map]
  refine List.map_congr_left fun u _=>?_
  show List.map _ (List.map _ _)=_
  rw [List.map_map,eT]
  rfl
 have eM:M=mat n (ent M):=mat_of S.len fun x hx=>by
  obtain ⟨i,hi⟩:=List.mem_iff_getElem?.mp hx
  exact (S.row i x hi).1
 have eM':M'=mat n (ent M'):=mat_of S'.len fun x hx=>by
  obtain ⟨i,hi⟩:=List.mem_iff_getElem?.mp hx
  exact (S'.row i x hi).1
 have sq:isSqF n (lowM n P N)=true:=by
  unfold isSqF
  rw [Bool.and_eq_true,decide_eq_true_iff,List.all_eq_true]
  refine ⟨by unfold lowM mat; rw [List.length_map,List.length_range],fun r hr=>?_⟩
  obtain ⟨u,hu,rfl⟩:=mem_mat.mp hr
  exact decide_eq_true (by rw [List.length_map,List.length_range])
 have nN:=Int.ne_of_gt hN
 rw [eT2,sq,decide_eq_true h2,Bool.true_and,Bool.true_and,Bool.and_eq_true,Bool.and_eq_true,decide_eq_true_iff]
 refine ⟨shared_mat.mpr ⟨fun u hu w hw=>?_,fun u hu=>?_,fun w hw=>?_⟩,(keep_mat h1 h2).mpr fun u hu w hw=>?_,?_⟩
 ·have:=Int.mul_nonneg (g.pos u hu w hw) (Int.le_of_lt b1)
  rw [←key u hu w hw] at this
  exact Int.nonneg_of_mul_nonneg_left this hN
 ·show SmF n (fun w=>T u w)=W
  refine Int.eq_of_mul_eq_mul_left nN ?_
  rw [←smF_mul]
  have:SmF n (fun w=>N * T u w)=SmF n fun w=>W * P u w:=smF_congr fun w hw=>by rw [Int.mul_comm,key u hu w hw,Int.mul_comm]
  rw [this,smF_mul,g.row u hu,Int.mul_comm]
 ·show SmF n (fun u=>T u w)=W
  refine Int.eq_of_mul_eq_mul_left nN ?_
  rw [←smF_mul]
  have:SmF n (fun u=>N * T u w)=SmF n fun u=>W * P u w:=smF_congr fun u hu=>by rw [Int.mul_comm,key u hu w hw,Int.mul_comm]
  rw [this,smF_mul,g.col w hw,Int.mul_comm]
 ·by_cases z:P u w=0
  ·left
   have:=key u hu w hw
   rw [z,Int.zero_mul] at this
   exact (Int.mul_eq_zero.mp this).resolve_right nN
  ·right
   have:=g.hue u hu w hw z
   unfold hueF at this
   rw [List.getD_eq_getElem?_getD,List.getD_eq_getElem?_getD]
   exact this
 ·conv=>lhs; rw [eM]
  conv=>rhs; rw [eM']
  rw [prod_mat,prod_mat]
  refine mat_eq.mpr fun u hu w hw=>?_
  show SmF n (fun v=>T v w * ent M u v)=SmF n fun x=>ent M' x w * T u x
  refine Int.eq_of_mul_eq_mul_left nN ?_
  rw [←smF_mul,←smF_mul]
  have q1:SmF n (fun v=>N * (T v w * ent M u v))=SmF n fun v=>W * (P v w * ent M u v):=smF_congr fun v hv=>by
   have:=key v hv w hw
   grind
  have q2:SmF n (fun x=>N * (ent M' x w * T u x))=SmF n fun x=>W * (ent M' x w * P u x):=smF_congr fun x hx=>by
   have:=key u hu x hx
   grind
  rw [q1,q2,smF_mul,smF_mul,g.go u hu w hw]
end
theorem cmp_of {n:Nat} {P:Nat→Nat→Int} {N:Int} {ms:List Int} (hN:0 < N) (G:LotG n n (lowM n P N) (posF (lowM n P N)) ms):CmpF n P (aF (nI (numb ms))) (bF n (nI (numb ms)))∧(nI (numb ms)).length=n+n:=by
 have lm:=G.len
 have ll:(nI (numb ms)).length=n+n:=by unfold nI; rw [List.length_map,numb_len,lm]
 have e:=lot_two ll
 have at_:∀ i < n+n,∃ x k,ms[i]? = some x∧(numb ms)[i]? = some k∧(nI (numb ms))[i]? = some ((k:Nat):Int):=fun i hi=>by
  obtain ⟨x,hx⟩:=get_lt (l:=ms) (i:=i) (by omega)
  obtain ⟨k,hk⟩:=get_lt (l:=numb ms) (i:=i) (by rw [numb_len]; omega)
  exact ⟨x,k,hx,hk,by rw [nI_get,hk]; rfl⟩
 have same:∀ i < n+n,∀ j < n+n,(nI (numb ms)).getD i 0=(nI (numb ms)).getD j 0↔ms[i]? = ms[j]?:=fun i hi j hj=>by
  obtain ⟨x,k,h1,h2,h3⟩:=at_ i hi
  obtain ⟨y,l,g1,g2,g3⟩:=at_ j hj
  rw [List.getD_eq_getElem?_getD,List.getD_eq_getElem?_getD,h3,g3,h1,g1]
  show ((k:Int)=(l:Int))↔_
  rw [Int.ofNat_inj,numb_get h1 g1 h2 g2]
  exact ⟨fun z=>by rw [z],fun z=>Option.some.inj z⟩
 have fin:∀ {a' b':Nat→Int},(∀ u < n,∀ w < n,0 < P u w→a' u=b' w)→Finer ms (lotL n n a' b'):=fun h=>(G _ _ fun u w hu hw p=>h u hu w hw ((pos_low hN hu hw).mp p)).sound
 refine ⟨⟨fun u hu w hw p=>?_,fun h u hu v hv z=>?_,fun h u hu v hv z=>?_,fun h u hu w hw z=>?_⟩,ll⟩
 ·show (nI (numb ms)).getD u 0=(nI (numb ms)).getD (n+w) 0
  rw [same u (by omega) (n+w) (by omega)]
  obtain ⟨x,k,h1,_,_⟩:=at_ u (by omega)
  obtain ⟨y,l,g1,_,_⟩:=at_ (n+w) (by omega)
  rw [h1,g1,(G (fun _=>0) (fun _=>0) fun _ _ _ _ _=>rfl).done u w ((pos_low hN hu hw).mpr p) x y h1 g1]
 ·have z':=(same u (by omega) v (by omega)).mp z
  obtain ⟨x,k,h1,_,_⟩:=at_ u (by omega)
  exact fin h u v x _ _ h1 (by rw [←z',h1]) (lotL_here hu) (lotL_here hv)
 ·have z':=(same (n+u) (by omega) (n+v) (by omega)).mp z
  obtain ⟨x,k,h1,_,_⟩:=at_ (n+u) (by omega)
  exact fin h (n+u) (n+v) x _ _ h1 (by rw [←z',h1]) (lotL_there hu) (lotL_there hv)
 ·have z':=(same u (by omega) (n+w) (by omega)).mp z
  obtain ⟨x,k,h1,_,_⟩:=at_ u (by omega)
  exact fin h u (n+w) x _ _ h1 (by rw [←z',h1]) (lotL_here hu) (lotL_there hw)
end
section
variable {P:Program} {w:World} {K:PySem.W.Frag} {mg:Str→Option Value} {base:Heap}
structure BltF (mg:Str→Option Value):Prop where
 abs:mg "abs" = none
 len:mg "len" = none
 isi:mg "isinstance" = none
 int:mg "int" = none
 bool:mg "bool" = none
 tuple:mg "tuple" = none
 list:mg "list" = none
 range:mg "range" = none
def spWhole:Sp:=fun vs H Q _=>∃ i:Int,vs=[.int i]∧Q (.bl true) H
def spIsF:Sp:=fun vs H Q _=>∃ (p:Addr) (x y:Int),vs=[.ref p]∧H p=some (tupF (x,y))∧0 < y∧Int.gcd x y=1∧Q (.bl true) H
theorem at0 (x y:V):atI [x,y] 0=some x:=rfl
theorem at1 (x y:V):atI [x,y] 1=some y:=rfl
theorem kitII:PySem.W.kitOne K (.type "int") (.type "int")=some true:=rfl
theorem kitTT:PySem.W.kitOne K (.type "tuple") (.type "tuple")=some true:=rfl
theorem kitIB:PySem.W.kitOne K (.type "int") (.type "bool")=some false:=by
 with_unfolding_all rfl
theorem scWhole:FnScope ["_law_found"] ["_law_found"] (defScope sWhole):=⟨rfl,rfl,rfl,by decide +kernel,rfl,by decide +kernel,by decide +kernel⟩
theorem ok_whole {f:Addr} {fd:FuncData} (B:BltF mg) (F:Fun K "_law_whole" "_law_whole" sWhole f fd):FnOk P w K mg base CX0 1 f fd ["_law_found"] spWhole:=by
 refine F.ok scWhole (fun vs H Q E h=>?_) (fun cdv A outer s H vs Q E hr h=>?_)
 ·obtain ⟨i,rfl,_⟩:=h
  rfl
 ·obtain ⟨i,rfl,k⟩:=h
  refine ⟨_,pss_one (ps_ret (pe_and (pe_callB call_isinst (by rfl) B.isi boot_isinstance (pa_cons (pv 0) (pa_cons (pe_bltn (v:=.ty "int") rfl B.int boot_int rfl) pa_nil)))
   (pe_one (pe_not (pe_callB call_isinst (by rfl) B.isi boot_isinstance (pa_cons (pv 0) (pa_cons (pe_bltn (v:=.ty "bool") rfl B.bool boot_bool rfl) pa_nil))))))),?_⟩
  refine ⟨_,rfl,_,_,_,_,rfl,.int i,kitII,_,rfl,iteT ?_⟩
  exact ⟨_,rfl,_,_,_,_,rfl,.int i,kitIB,_,rfl,k⟩
theorem scDiv:FnScope ["_law_one","_law_other","_law_left","_law_right"] ["_law_one","_law_other"] (defScope sDiv):=⟨rfl,rfl,rfl,by decide +kernel,rfl,by decide +kernel,by decide +kernel⟩
theorem ok_div {f:Addr} {fd:FuncData} (B:BltF mg) (F:Fun K "_law_divisor" "_law_divisor" sDiv f fd):FnOk P w K mg base CX0 1 f fd ["_law_one","_law_other"] spG:=by
 refine F.ok scDiv (fun vs H Q E h=>?_) (fun cdv A outer s H vs Q E hr h=>?_)
 ·obtain ⟨a,b,rfl,_⟩:=h
  rfl
 ·obtain ⟨a,b,rfl,k⟩:=h
  refine ⟨_,pss_cons (ps_set (i:=2) scDiv.nd rfl (Or.inl rfl) (pe_callB call_abs (by rfl) B.abs boot_abs (pa_cons (pv 0) pa_nil)))
   (pss_cons (ps_set (i:=3) scDiv.nd rfl (Or.inl rfl) (pe_callB call_abs (by rfl) B.abs boot_abs (pa_cons (pv 1) pa_nil)))
   (pss_cons (ps_while PassesOwn.never (pt_cmpR op_gt (pv 2) pe_int (nomark _))
    (pss_one (ps_par (i:=2) (j:=3) rfl scDiv.nd rfl rfl (by decide) rfl rfl (pa_cons (pe_op op_mod (pv 3) (pv 2)) (pa_cons (pv 2) pa_nil)) (by rfl))))
   (pss_one (ps_ret (pv 3))))),?_⟩
  refine ⟨_,rfl,a,rfl,_,rfl,b,rfl,?_⟩
  refine while_by (fun σ H'=>∃ (x y:Int),σ=[some (.int a),some (.int b),some (.int x),some (.int y)]∧H'=H∧0≤x∧0≤y∧Int.gcd x y=Int.gcd a b)
   (fun σ _=>match σ with | [_,_,some (.int x),_]=>x.natAbs | _=>0) ⟨_,_,rfl,rfl,(by split <;> omega),(by split <;> omega),M11.gcd_abs a b⟩ ?_ ?_
  ·rintro σ H' ⟨x,y,rfl,rfl,hx,hy,hg⟩
   refine ⟨_,rfl,_,_,rfl,rfl,_,rfl,?_⟩
   by_cases h0:0 < x
   ·refine itDP h0 ?_
    refine ⟨_,rfl,_,rfl,_,_,rfl,rfl,h0,_,rfl,_,_,rfl,?_⟩
    have e1:=Int.emod_nonneg y (b:=x) (by omega)
    have e2:=Int.emod_lt_of_pos y h0
    refine ⟨⟨y % x,x,rfl,rfl,e1,hx,by rw [M11.gcd_stepN]; exact hg⟩,?_⟩
    show (y % x).natAbs < x.natAbs
    omega
   ·refine itDN h0 ?_
    have hx0:x=0:=by omega
    subst hx0
    refine ⟨_,rfl,?_⟩
    have e:y=M11.G a b:=by
     show y=((Int.gcd a b:Nat):Int)
     rw [←hg,Int.gcd_comm,Int.gcd_zero_right]
     omega
    rw [e]
    exact k
  ·rintro σ H' Q1 Q2 hq ⟨v,e,i,j,e1,e2,c,ec,q⟩
   exact ⟨v,e,i,j,e1,e2,c,ec,hq _ _ q⟩
theorem scIsF:FnScope ["_law_found"] ["_law_found"] (defScope sIsFr):=⟨rfl,rfl,rfl,by decide +kernel,rfl,by decide +kernel,by decide +kernel⟩
theorem ok_isf {f fW fD:Addr} {fd fdW fdD:FuncData} (B:BltF mg) (F:Fun K "_law_is_fraction" "_law_is_fraction" sIsFr f fd) (DW:Dn K mg "_law_whole" sWhole ["_law_found"] fW fdW) (DD:Dn K mg "_law_divisor" sDiv ["_law_one","_law_other"] fD fdD) :
  FnOk P w K mg base CX0 2 f fd ["_law_found"] spIsF:=by
 have GW:FnOk P w K mg base CX0 1 fW fdW ["_law_found"] spWhole:=ok_whole B DW.fn
 have GD:FnOk P w K mg base CX0 1 fD fdD ["_law_one","_law_other"] spG:=ok_div B DD.fn
 refine F.ok scIsF (fun vs H Q E h=>?_) (fun cdv A outer s H vs Q E hr h=>?_)
 ·obtain ⟨p,x,y,rfl,_⟩:=h
  rfl
 ·obtain ⟨p,x,y,rfl,hp,hy,hg,k⟩:=h
  refine ⟨_,pss_cons (ps_if (PW.pt (pw_or (pt_not (pt_val (pe_callB call_isinst (by rfl) B.isi boot_isinstance (pa_cons (pv 0) (pa_cons (pe_bltn (v:=.ty "tuple") rfl B.tuple boot_tuple rfl) pa_nil)))))
    (pw_or (pt_cmpR op_ne (pe_callB call_len_seq (by rfl) B.len PySem.boot_len (pa_cons (pv 0) pa_nil)) pe_int (nomark _))
    (pw_or (pt_not (pt_val (pe_fn DW GW hr rfl (pa_cons (pe_ix ix_tup (pv 0) pe_int (fun _ _=>rfl)) pa_nil))))
    (pw_or1 (pt_not (pt_val (pe_fn DW GW hr rfl (pa_cons (pe_ix ix_tup (pv 0) pe_int (fun _ _=>rfl)) pa_nil))))))))) (pss_one (ps_ret pe_bl)) pss_nil)
   (pss_one (ps_ret (pe_and (pe_cmpR op_gt (pe_ix ix_tup (pv 0) pe_int (fun _ _=>rfl)) pe_int (nomark _))
    (pe_one (pe_cmpR op_eq (pe_fn DD GD hr rfl (pa_cons (pe_ix ix_tup (pv 0) pe_int (fun _ _=>rfl)) (pa_cons (pe_ix ix_tup (pv 0) pe_int (fun _ _=>rfl)) pa_nil))) pe_int (nomark _)))))),?_⟩
  refine ⟨_,rfl,_,_,_,_,rfl,.tup hp,kitTT,_,rfl,iteF ?_⟩
  refine ⟨_,rfl,p,_,rfl,.inr (SqT.of hp),rfl,_,rfl,?_⟩
  refine iteNS rfl ?_
  refine ⟨_,rfl,p,_,_,_,rfl,rfl,SqT.of hp,at0 _ _,x,rfl,_,rfl,iteF ?_⟩
  refine ⟨_,rfl,p,_,_,_,rfl,rfl,SqT.of hp,at1 _ _,y,rfl,_,rfl,iteF ?_⟩
  refine ⟨_,rfl,p,_,_,_,rfl,rfl,SqT.of hp,at1 _ _,_,_,rfl,rfl,_,rfl,itDP hy ?_⟩
  refine ⟨_,rfl,p,_,_,_,rfl,rfl,SqT.of hp,at0 _ _,_,rfl,p,_,_,_,rfl,rfl,SqT.of hp,at1 _ _,x,y,rfl,rfl,?_⟩
  have e:decide (V.int (M11.G x y)=V.int 1)=true:=by
   have:M11.G x y=1:=by show ((Int.gcd x y:Nat):Int)=1; rw [hg]; rfl
   rw [this]
   exact decide_eq_true rfl
  rw [e]
  exact k
theorem scLow:FnScope ["_law_top","_law_bottom","_law_by"] ["_law_top","_law_bottom"] (defScope sLow):=⟨rfl,rfl,rfl,by decide +kernel,rfl,by decide +kernel,by decide +kernel⟩
theorem ok_low {f fG:Addr} {fd fdG:FuncData} (B:BltF mg) (F:Fun K "_law_lowest" "_law_lowest" sLow f fd) (DG:Dn K mg "_law_divisor" sDiv ["_law_one","_law_other"] fG fdG):FnOk P w K mg base CX0 2 f fd ["_law_top","_law_bottom"] spF:=by
 have GG:FnOk P w K mg base CX0 1 fG fdG ["_law_one","_law_other"] spG:=ok_div B DG.fn
 refine F.ok scLow (fun vs H Q E h=>?_) (fun cdv A outer s H vs Q E hr h=>?_)
 ·obtain ⟨a,b,rfl,_⟩:=h
  rfl
 ·obtain ⟨t,b,rfl,hb,hz,k⟩:=h
  refine ⟨_,pss_cons (ps_set (i:=2) scLow.nd rfl (Or.inl rfl) (pe_fn DG GG hr rfl (pa_cons (pv 0) (pa_cons (pv 1) pa_nil))))
   (pss_cons (ps_if (pt_cmpR op_lt (pv 1) pe_int (nomark _)) (pss_one (ps_set (i:=2) scLow.nd rfl (Or.inl rfl) (pe_un un_neg (pv 2)))) pss_nil)
   (pss_one (ps_ret (pe_tup (pa_cons (pe_op op_fdivL (pv 0) (pv 2)) (pa_cons (pe_op op_fdivL (pv 1) (pv 2)) pa_nil)))))),?_⟩
  refine ⟨_,rfl,_,rfl,t,b,rfl,?_⟩
  refine ⟨_,rfl,_,_,rfl,rfl,_,rfl,?_⟩
  by_cases hn:b < 0
  ·refine itDP hn ?_
   have e:-(M11.G t b)=M11.sgn t b:=(if_pos hn).symm
   refine ⟨_,rfl,_,rfl,?_⟩
   refine ⟨_,rfl,_,rfl,_,_,rfl,rfl,cdivB hb hz t _ e,_,rfl,_,rfl,_,_,rfl,rfl,cdivB hb hz b _ e,(by show 2≤sizeLine; decide),fun p hp=>?_⟩
   have q:=k p hp
   unfold M11.low at q
   rw [←e] at q
   exact q
  ·refine itDN hn ?_
   have e:M11.G t b=M11.sgn t b:=(if_neg hn).symm
   refine ⟨_,rfl,_,rfl,_,_,rfl,rfl,cdivB hb hz t _ e,_,rfl,_,rfl,_,_,rfl,rfl,cdivB hb hz b _ e,(by show 2≤sizeLine; decide),fun p hp=>?_⟩
   have q:=k p hp
   unfold M11.low at q
   rw [←e] at q
   exact q
end
section
def FrI (H1:Hp) (D:Addr) (fs:List (Int × Int)) (i:Nat) (ys:List V) (H':Hp):Prop:=∃ ps:List Addr,ys=ps.map V.ref∧ps.length=i∧Same H1 H'∧H' D=some (.lst ys)∧(∀ r ∈ ps,r≠D)∧∀ (j:Nat) (r:Addr) (f:Int × Int),ps[j]? = some r→fs[j]? = some f→H' r=some (tupF f)
theorem FrI.start {H1:Hp} {D:Addr} {fs:List (Int × Int)} (hD:H1 D=none):FrI H1 D fs 0 [] (upd H1 D (.lst [])):=⟨[],rfl,rfl,Same.upd hD,upd_same,(fun r h=>by cases h),(fun j r x h _=>by cases h)⟩
theorem FrI.same {H1 H':Hp} {D:Addr} {fs:List (Int × Int)} {i:Nat} {ys:List V} (g:FrI H1 D fs i ys H'):Same H1 H':=let ⟨_,_,_,z,_⟩:=g; z
theorem FrI.at {H1 H':Hp} {D:Addr} {fs:List (Int × Int)} {i:Nat} {ys:List V} (g:FrI H1 D fs i ys H'):H' D=some (.lst ys):=let ⟨_,_,_,_,z,_⟩:=g; z
theorem FrI.step {H1 H4 H5:Hp} {D p:Addr} {fs:List (Int × Int)} {i:Nat} {ys:List V} {f:Int × Int} (hD:H1 D=none) (g:FrI H1 D fs i ys H4) (hf:fs[i]? = some f) (hp:H5 p=some (tupF f)) (hn:H4 p=none) (s5:Same H4 H5) (hm:i < 900) :
  H5 D=some (.lst ys)∧ys.length < sizeLine∧FrI H1 D fs (i+1) (ys++[.ref p]) (upd H5 D (.lst (ys++[.ref p]))):=by
 obtain ⟨rs,rfl,lr,s4,eD,nD,hr⟩:=g
 have npD:p≠D:=fun z=>by rw [z,eD] at hn; cases hn
 refine ⟨s5 _ _ eD,small1000 (by rw [List.length_map]; omega),rs++[p],by rw [List.map_append]; rfl,by rw [List.length_append,lr]; rfl,fun b o e=>?_,upd_same,fun r h=>?_,fun j r y h1 h2=>?_⟩
 ·rw [upd_ne (ne_of_none e hD)]
  exact s5 _ _ (s4 _ _ e)
 ·rcases List.mem_append.mp h with z | z
  ·exact nD r z
  ·rw [List.mem_singleton.mp z]; exact npD
 ·rcases snoc_get h1 with z | ⟨e,z⟩
  ·rw [upd_ne (nD r (List.mem_of_getElem? z))]
   exact s5 _ _ (hr j r y z h2)
  ·subst z
   rw [e,lr,hf] at h2
   cases h2
   rw [upd_ne npD]
   exact hp
theorem FrI.done {H1 H':Hp} {D:Addr} {fs:List (Int × Int)} {ys:List V} {n:Nat} (g:FrI H1 D fs n ys H') (e:fs.length=n):H' D=some (.lst ys)∧FrAt H' ys fs:=by
 obtain ⟨rs,rfl,lr,s4,eD,nD,hr⟩:=g
 refine ⟨eD,by rw [List.length_map,lr,e],fun i v f h1 h2=>?_⟩
 obtain ⟨r,hr',rfl⟩:=map_get h1
 exact ⟨r,rfl,hr i r f hr' h2⟩
def sg (os:List Int) (u:Nat):Nat:=(os[u]?.getD 0).toNat
theorem sg_perm {n:Nat} {os:List Int} (h:os.Perm (My.rI n)):((List.range n).map (sg os)).Perm (List.range n):=by
 have lo:os.length=n:=by rw [h.length_eq,rI_len]
 have e:(List.range n).map (sg os)=os.map Int.toNat:=by
  apply List.ext_getElem?
  intro i
  rw [List.getElem?_map,List.getElem?_map]
  by_cases hi:i < n
  ·rw [List.getElem?_range hi]
   obtain ⟨o,ho⟩:=get_lt (l:=os) (i:=i) (by omega)
   unfold sg
   rw [ho]
   show some ((os[i]?.getD 0).toNat)=some o.toNat
   rw [ho]
   rfl
  ·rw [List.getElem?_eq_none (by rw [List.length_range]; omega),List.getElem?_eq_none (by omega)]
   rfl
 rw [e]
 have:=h.map Int.toNat
 have e2:(My.rI n).map Int.toNat=List.range n:=by
  unfold My.rI
  rw [List.map_map]
  have:(List.range n).map (Int.toNat ∘ fun (i:Nat)=>(i:Int))=(List.range n).map id:=List.map_congr_left fun x _=>rfl
  rw [this,List.map_id]
 rw [e2] at this
 exact this
theorem sg_at {n:Nat} {os:List Int} (h:os.Perm (My.rI n)) {u:Nat} (hu:u < n):os[u]? = some ((sg os u:Nat):Int)∧sg os u < n:=by
 have lo:os.length=n:=by rw [h.length_eq,rI_len]
 obtain ⟨o,ho⟩:=get_lt (l:=os) (i:=u) (by omega)
 have:=rI_mem.mp (h.mem_iff.mp (List.mem_of_getElem? ho))
 unfold sg
 rw [ho]
 show some o=some ((o.toNat:Nat):Int)∧o.toNat < n
 rw [Int.toNat_of_nonneg this.1]
 exact ⟨rfl,by omega⟩
def ordM (n:Nat) (os:List Int) (u w:Nat):Int:=if sg os u=w then 1 else 0
theorem low_ord {x:Int}:M11.low x 1=(x,1):=M11.low_one x
end
section
variable {P:Program} {w:World} {K:PySem.W.Frag} {mg:Str→Option Value} {base:Heap}
def oneR (n k:Nat):List (Int × Int):=(List.range n).map fun w=>M11.low (if k=w then 1 else 0) 1
theorem scShP:FnScope ["place_there","size"] ["place_there","size"] (defScope sShP):=⟨rfl,rfl,rfl,by decide +kernel,rfl,by decide +kernel,by decide +kernel⟩
theorem lcShP:LcScopes (defScope sShP) ["place_there","size"] (lcScope (asgVal (bodyAt sShP 0))) ["place"]:=⟨by decide +kernel,rfl,by decide +kernel,by decide +kernel,by decide +kernel,by decide +kernel,by decide +kernel,by decide +kernel,by decide +kernel,by decide +kernel⟩
def spShP:Sp:=fun vs H Q _=>∃ (n k:Nat),vs=[.int (k:Int),.int (n:Int)]∧n≤16∧∀ D H' x,Same H H'→H D=none→H' D=some (.lst x)→FrAt H' x (oneR n k)→Q (.ref D) H'
theorem ok_shP {f:Addr} {fd:FuncData} (B:BltR mg) (F:Fun K "shares_of_place" "shares_of_place" sShP f fd):FnOk P w K mg base CX0 1 f fd ["place_there","size"] spShP:=by
 refine F.ok scShP (fun vs H Q E h=>?_) (fun cdv A outer s H vs Q E hr h=>?_)
 ·obtain ⟨n,k,rfl,_⟩:=h
  rfl
 ·obtain ⟨n,k,rfl,hn,q⟩:=h
  refine ⟨_,pss_one (ps_ret (pe_lc1 rfl lcShP rfl (pi_range1 rfl B.range (pa_cons (pv 1) pa_nil)) (fun _ _ _=>pe_ifExp (pt_cmpR op_eq (pv 2) (pv 0) (nomark _)) (pe_tup (pa_cons pe_int (pa_cons pe_int pa_nil))) (pe_tup (pa_cons pe_int (pa_cons pe_int pa_nil)))))),?_⟩
  refine ⟨_,rfl,(n:Int),rfl,by omega,by omega,fun D hD=>?_⟩
  rw [Int.toNat_natCast]
  have lX:(oneR n k).length=n:=by unfold oneR; rw [List.length_map,List.length_range]
  refine lc_range (n:=n) (FrI H D (oneR n k)) (FrI.start hD) (fun j zs H' _ g=>g.at) ?_ ?_ ?_
  ·rintro j zs H2 hj g
   have ej:((0:Int)+(j:Nat))=(j:Int):=by omega
   rw [ej]
   have hf:(oneR n k)[j]? = some (M11.low (if k=j then 1 else 0) 1):=by unfold oneR; rw [List.getElem?_map,List.getElem?_range hj]; rfl
   rw [low_ord] at hf
   refine ⟨_,rfl,_,rfl,rfl,_,rfl,?_⟩
   by_cases e:k=j
   ·rw [if_pos e] at hf
    refine itDP (by rw [e]) ⟨(by show 2≤sizeLine; decide),fun p hp=>?_⟩
    exact g.step hD hf upd_same hp (Same.upd hp) (by omega)
   ·rw [if_neg e] at hf
    refine itDN (fun t=>e (by have:=V.int.inj t; omega)) ⟨(by show 2≤sizeLine; decide),fun p hp=>?_⟩
    exact g.step hD hf upd_same hp (Same.upd hp) (by omega)
  ·intro zs H2 g
   obtain ⟨eD,fr⟩:=g.done lX
   exact q D H2 zs g.same hD eD fr
  ·rintro σ H' Q1 Q2 hq ⟨v,e,v',e',sc,c,ec,g⟩
   refine ⟨v,e,v',e',sc,c,ec,?_⟩
   cases c with
   | true =>
    obtain ⟨u,g⟩:=(show _∧_ from g)
    exact ⟨u,fun p hp=>hq _ _ (g p hp)⟩
   | false =>
    obtain ⟨u,g⟩:=(show _∧_ from g)
    exact ⟨u,fun p hp=>hq _ _ (g p hp)⟩
theorem scTabT:FnScope ["turning"] ["turning"] (defScope sTabT):=⟨rfl,rfl,rfl,by decide +kernel,rfl,by decide +kernel,by decide +kernel⟩
theorem lcTabT:LcScopes (defScope sTabT) ["turning"] (lcScope (asgVal (bodyAt sTabT 0))) ["place_there"]:=⟨by decide +kernel,rfl,by decide +kernel,by decide +kernel,by decide +kernel,by decide +kernel,by decide +kernel,by decide +kernel,by decide +kernel,by decide +kernel⟩
def spTabT:Sp:=fun vs H Q _=>∃ (oA:Addr) (n:Nat) (os:List Int),vs=[.ref oA]∧H oA=some (.lst (os.map V.int))∧os.Perm (rI n)∧n≤8∧∀ (D:Addr) (H':Hp),Same H H'→FGrN H H' D (lowM n (ordM n os) 1)→Q (.ref D) H'
theorem ok_tabT {f fS:Addr} {fd fdS:FuncData} (B:BltR mg) (F:Fun K "table_of_turning" "table_of_turning" sTabT f fd) (DS:Dn K mg "shares_of_place" sShP ["place_there","size"] fS fdS) (GS:FnOk P w K mg base CX0 1 fS fdS ["place_there","size"] spShP):FnOk P w K mg base CX0 2 f fd ["turning"] spTabT:=by
 refine F.ok scTabT (fun vs H Q E h=>?_) (fun cdv A outer s H vs Q E hr h=>?_)
 ·obtain ⟨oA,n,os,rfl,_⟩:=h
  rfl
 ·obtain ⟨oA,n,os,rfl,ho,po,hn,q⟩:=h
  have lo:os.length=n:=by rw [po.length_eq,rI_len]
  refine ⟨_,pss_one (ps_ret (pe_lc1 rfl lcTabT rfl (pi_list (pv 0)) (fun _ _ _=>pe_fn DS GS hr rfl (pa_cons (pv 1) (pa_cons (pe_callB call_lenK (by rfl) B.len PySem.boot_len (pa_cons (pv 0) pa_nil)) pa_nil))))),?_⟩
  refine ⟨_,rfl,oA,rfl,⟨_,SqL.of ho⟩,fun D hD=>?_⟩
  refine lc_list (K:=K) (xs:=os.map V.int) (FGrI H D (lowM n (ordM n os) 1)) (FGrI.start hD) (fun i ys H' _ g=>⟨SqL.of (g.same _ _ ho),g.at⟩) ?_ ?_ ?_
  ·rintro i v ys H2 hv g
   obtain ⟨o,ho',rfl⟩:=map_get hv
   have hi:i < n:=by rw [←lo]; exact lt_get ho'
   have eo:o=((sg os i:Nat):Int):=by
    have:=(sg_at po hi).1
    rw [ho'] at this
    exact Option.some.inj this
   have s2:=g.same
   have hf:(lowM n (ordM n os) 1)[i]? = some (oneR n (sg os i)):=by unfold lowM mat; rw [List.getElem?_map,List.getElem?_range hi]; rfl
   refine ⟨_,rfl,_,rfl,oA,_,rfl,.inl (SqL.of (s2 _ _ ho)),n,sg os i,?_,by omega,fun r H3 x s3 nr er fr=>?_⟩
   ·rw [eo,List.length_map,lo]; rfl
   ·exact g.step hD hf nr er fr s3 (by omega)
  ·intro ys H2 g
   exact q D H2 g.same (g.done hD (by unfold lowM mat; rw [List.length_map,List.length_range,List.length_map,lo]))
  ·rintro σ H' Q1 Q2 hq ⟨v,e,v',e',oA',xs,e1,h1,n',k',e2,h2,k⟩
   exact ⟨v,e,v',e',oA',xs,e1,h1,n',k',e2,h2,fun D H3 x s3 n3 e3 f3=>hq _ _ (k D H3 x s3 n3 e3 f3)⟩
end
section
variable {P:Program} {w:World} {K:PySem.W.Frag} {mg:Str→Option Value} {base:Heap}
theorem pe_countK {X:Cx} {o e:Expr} {to:TE} {t:TA} {apos cpos:Pos} (ho:PE X o to) (ha:PA X [e] t) (h:X.K=K:=by rfl) (hbase:attributeBase o "count" X.env (eval o X.env)=eval o X.env:=by rfl)
  (hfew:((backTo cpos (starEach [e] X.env)).all (fun x=>!x.1) && (backToKw cpos (keywordEach [] X.env)).all (fun x=>x.1.isSome) && decide ([e].length+([]:List Keyword).length+(if ([]:List Keyword).isEmpty then 0 else 1) < 30))=true:=by rfl)
  (hline:(apos.endLine == cpos.line)=true:=by rfl) (hs:starEach [e] X.env=(false,eval e X.env) :: starEach [] X.env:=by rfl) (hplain:(backTo cpos (starEach [] X.env)).any (·.1)=false:=by rfl) :
  PE X (.Call (.Attribute o "count" apos) [e] [] cpos) (tBM K "list" rCountI to t):=by
 subst h
 exact pe_bm PySem.F.plainAttrs_list PySem.F.slot_list_count PySem.F.type_list_count mt_countI ho ha hbase hfew hline hs hplain
def PS (n:Nat) (T:List (List Int)) (u w:Nat):Int:=(T.map fun o=>ordM n o u w).sum
theorem ps_count {n:Nat} {u w:Nat} (hu:u < n):∀ T:List (List Int),(∀ o ∈ T,o.Perm (rI n))→(((T.map fun o=>o.getD u 0).count (w:Int):Nat):Int)=PS n T u w
 | [],_=>rfl
 | o :: T,hT=>by
  have ih:=ps_count (w:=w) hu T fun o h=>hT o (List.mem_cons_of_mem _ h)
  unfold PS at ih ⊢
  rw [List.map_cons,List.map_cons,List.sum_cons,List.count_cons,←ih]
  have e:o.getD u 0=((sg o u:Nat):Int):=by rw [List.getD_eq_getElem?_getD,(sg_at (hT o List.mem_cons_self) hu).1]; rfl
  rw [e]
  unfold ordM
  by_cases c:sg o u=w
  ·rw [if_pos c,if_pos (by rw [c]; exact beq_self_eq_true _)]; omega
  ·rw [if_neg c,if_neg (by rw [beq_iff_eq]; omega)]; omega
def cntR (n:Nat) (xs:List Int):List (Int × Int):=(List.range n).map fun (w:Nat)=>M11.low ((xs.count (w:Int):Nat):Int) (xs.length:Int)
theorem scMeanS:FnScope ["places_there","size"] ["places_there","size"] (defScope sMeanS):=⟨rfl,rfl,rfl,by decide +kernel,rfl,by decide +kernel,by decide +kernel⟩
theorem lcMeanS:LcScopes (defScope sMeanS) ["places_there","size"] (lcScope (asgVal (bodyAt sMeanS 0))) ["place"]:=⟨by decide +kernel,rfl,by decide +kernel,by decide +kernel,by decide +kernel,by decide +kernel,by decide +kernel,by decide +kernel,by decide +kernel,by decide +kernel⟩
def spMeanS:Sp:=fun vs H Q _=>∃ (a:Addr) (xs:List Int) (n:Nat),vs=[.ref a,.int (n:Int)]∧H a=some (.lst (xs.map V.int))∧xs≠[]∧xs.length≤900∧n≤16∧∀ D H' x,Same H H'→H D=none→H' D=some (.lst x)→FrAt H' x (cntR n xs)→Q (.ref D) H'
theorem few_bits {k:Nat} (h:k≤900):((k:Nat):Int).natAbs < 2 ^ 9000 :=
 M11.Bn.mono (n:=10) (m:=9000) (show ((k:Nat):Int).natAbs < 2 ^ 10 by have:(2:Nat) ^ 10=1024:=rfl; omega) (by decide)
theorem ok_meanS {f fF:Addr} {fd fdF:FuncData} (B:BltR mg) (F:Fun K "mean_shares" "mean_shares" sMeanS f fd) (DF:Dn K mg "fraction_of" sFr ["top","bottom"] fF fdF) (GF:FnOk P w K mg base CX0 2 fF fdF ["top","bottom"] spF):FnOk P w K mg base CX0 3 f fd ["places_there","size"] spMeanS:=by
 refine F.ok scMeanS (fun vs H Q E h=>?_) (fun cdv A outer s H vs Q E hr h=>?_)
 ·obtain ⟨a,xs,n,rfl,_⟩:=h
  rfl
 ·obtain ⟨a,xs,n,rfl,ha,ne,lx,hn,q⟩:=h
  have l0:0 < xs.length:=List.length_pos_iff.mpr ne
  refine ⟨_,pss_one (ps_ret (pe_lc1 rfl lcMeanS rfl (pi_range1 rfl B.range (pa_cons (pv 1) pa_nil)) (fun _ _ _=>pe_fn DF GF hr rfl (pa_cons (pe_countK (K:=K) (pv 0) (pa_cons (pv 2) pa_nil)) (pa_cons (pe_callB (call_lenK (K:=K)) (by rfl) B.len PySem.boot_len (pa_cons (pv 0) pa_nil)) pa_nil))))),?_⟩
  refine ⟨_,rfl,(n:Int),rfl,by omega,by omega,fun D hD=>?_⟩
  rw [Int.toNat_natCast]
  have lX:(cntR n xs).length=n:=by unfold cntR; rw [List.length_map,List.length_range]
  refine lc_range (n:=n) (FrI H D (cntR n xs)) (FrI.start hD) (fun j zs H' _ g=>g.at) ?_ ?_ ?_
  ·rintro j zs H2 hj g
   have ej:((0:Int)+(j:Nat))=(j:Int):=by omega
   rw [ej]
   have s2:=g.same
   have hf:(cntR n xs)[j]? = some (M11.low ((xs.count (j:Int):Nat):Int) (xs.length:Int)):=by unfold cntR; rw [List.getElem?_map,List.getElem?_range hj]; rfl
   refine ⟨_,rfl,.inl ⟨rfl,_,SqL.of (s2 _ _ ha)⟩,_,rfl,a,xs,(j:Int),rfl,rfl,s2 _ _ ha,?_⟩
   refine ⟨_,rfl,a,_,rfl,.inl (SqL.of (s2 _ _ ha)),((xs.count (j:Int):Nat):Int),(xs.length:Int),?_,by omega,few_bits lx,fun p hp=>?_⟩
   ·rw [List.length_map]; rfl
   ·exact g.step hD hf upd_same hp (Same.upd hp) (by omega)
  ·intro zs H2 g
   obtain ⟨eD,fr⟩:=g.done lX
   exact q D H2 zs g.same hD eD fr
  ·rintro σ H' Q1 Q2 hq ⟨v,e,z1,v',e',l,ns,k,f1,f2,f3,v2,g2,p,ys,f4,f5,t,b,f6,f7,f8,g⟩
   exact ⟨v,e,z1,v',e',l,ns,k,f1,f2,f3,v2,g2,p,ys,f4,f5,t,b,f6,f7,f8,fun p hp=>hq _ _ (g p hp)⟩
theorem RowsAt.grdV {H:Hp} {a:Addr} {rs:List Addr} {M:List (List Int)} (ea:H a=some (.lst (rs.map V.ref))) (R:RowsAt H rs M):GrdAt H a (M.map fun x=>x.map V.int):=by
 refine ⟨rs,ea,by rw [List.length_map]; exact R.len,fun i r x h1 h2=>?_⟩
 obtain ⟨y,hy,rfl⟩:=map_get h2
 exact R.row i r y h1 hy
theorem scMeanT:FnScope ["web","turnings","size"] ["web"] (defScope sMeanT):=⟨rfl,rfl,rfl,by decide +kernel,rfl,by decide +kernel,by decide +kernel⟩
theorem lcMeanT:LcScopes (defScope sMeanT) ["web","turnings","size"] (lcScope (asgVal (bodyAt sMeanT 2))) ["place"]:=⟨by decide +kernel,rfl,by decide +kernel,by decide +kernel,by decide +kernel,by decide +kernel,by decide +kernel,by decide +kernel,by decide +kernel,by decide +kernel⟩
def spMeanT:Sp:=fun vs H Q _=>∃ (wA:Addr) (n:Nat) (hs:List Int) (M:List (List Int)),vs=[.ref wA]∧WR H wA hs M∧hs.length=n∧Sq n M∧n≤6 ∧
 (turnAll hs hs M M≠[]∧(turnAll hs hs M M).length≤720∧∀ o ∈ turnAll hs hs M M,o.Perm (rI n))∧∀ (D:Addr) (H':Hp),Same H H'→FGrN H H' D (lowM n (PS n (turnAll hs hs M M)) ((turnAll hs hs M M).length:Int))→Q (.ref D) H'
theorem ok_meanT {f fA fC fS:Addr} {fd fdA fdC fdS:FuncData} (B:BltR mg) (F:Fun K "mean_table" "mean_table" sMeanT f fd) (DA:Dn K mg "all_turnings" sAllT ["web","other"] fA fdA) (GA:FnOk P w K mg base CX0 4 fA fdA ["web","other"] spAllT)
  (DC:Dn K mg "column_of" sCol ["rows","place"] fC fdC) (GC:FnOk P w K mg base CX0 1 fC fdC ["rows","place"] spCol) (DS:Dn K mg "mean_shares" sMeanS ["places_there","size"] fS fdS) (GS:FnOk P w K mg base CX0 3 fS fdS ["places_there","size"] spMeanS):FnOk P w K mg base CX0 5 f fd ["web"] spMeanT:=by
 refine F.ok scMeanT (fun vs H Q E h=>?_) (fun cdv A outer s H vs Q E hr h=>?_)
 ·obtain ⟨a,n,hs,M,rfl,_⟩:=h
  rfl
 ·obtain ⟨wA,n,hs,M,rfl,W,hl,S,hn,⟨ne,lT,pT⟩,q⟩:=h
  have r1:=hr.mono (j:=1) (by decide)
  have r3:=hr.mono (j:=3) (by decide)
  refine ⟨_,pss_cons (ps_set (i:=1) scMeanT.nd rfl (Or.inr rfl) (pe_fn DA GA hr rfl (pa_cons (pv 0) (pa_cons (pv 0) pa_nil))))
   (pss_cons (ps_set (i:=2) scMeanT.nd rfl (Or.inr rfl) (pe_callB call_len_seq (by rfl) B.len PySem.boot_len (pa_cons (pe_ix ix_tup (pv 0) pe_int (fun _ _=>rfl)) pa_nil)))
   (pss_one (ps_ret (pe_lc1 rfl lcMeanT rfl (pi_range1 rfl B.range (pa_cons (pv 2) pa_nil)) (fun _ _ _=>pe_fn DS GS r3 rfl (pa_cons (pe_fn DC GC r1 rfl (pa_cons (pv 1) (pa_cons (pv 3) pa_nil))) (pa_cons (pv 2) pa_nil))))))),?_⟩
  refine ⟨_,rfl,_,rfl,wA,wA,n,n,hs,hs,M,M,rfl,⟨W,W,hl,hl,S,S,by omega⟩,fun tA rs H1 s1 nt et R nr=>?_⟩
  generalize turnAll hs hs M M=T at *
  obtain ⟨hA,rA,rs',w1,w2,w3,R'⟩:=(W.mono s1).ex
  refine ⟨_,rfl,wA,_,_,.ref hA,rfl,rfl,SqT.of w1,at_hd _ _,hA,_,rfl,.inl (SqL.of w2),?_⟩
  rw [List.length_map,hl]
  refine ⟨_,rfl,(n:Int),rfl,by omega,by omega,fun D hD=>?_⟩
  rw [Int.toNat_natCast]
  refine lc_range (n:=n) (FGrI H1 D (lowM n (PS n T) (T.length:Int))) (FGrI.start hD) (fun j zs H' _ g=>g.at) ?_ ?_ ?_
  ·rintro j zs H2 hj g
   have ej:((0:Int)+(j:Nat))=(j:Int):=by omega
   rw [ej]
   have s2:=g.same
   have gT:GrdAt H2 tA (T.map fun x=>x.map V.int):=(RowsAt.grdV et R).mono s2
   refine ⟨_,rfl,_,rfl,tA,_,j,rfl,gT,by rw [List.length_map]; omega,fun x hx=>?_,fun cA H3 s3 nc ec=>?_⟩
   ·obtain ⟨o,ho,rfl⟩:=List.mem_map.mp hx
    rw [List.length_map,(pT o ho).length_eq,rI_len]
    exact hj
   have ecol:(T.map fun x=>x.map V.int).map (fun x=>(x[j]?).getD V.non)=(T.map fun o=>o.getD j 0).map V.int:=by
    rw [List.map_map,List.map_map]
    refine List.map_congr_left fun o ho=>?_
    have lo:o.length=n:=by rw [(pT o ho).length_eq,rI_len]
    obtain ⟨z,hz⟩:=get_lt (l:=o) (i:=j) (by omega)
    show ((o.map V.int)[j]?).getD V.non=V.int (o.getD j 0)
    rw [List.getElem?_map,List.getD_eq_getElem?_getD,hz]
    rfl
   rw [ecol] at ec
   refine ⟨_,rfl,cA,_,n,rfl,ec,fun z=>ne (List.map_eq_nil_iff.mp z),by rw [List.length_map]; omega,by omega,fun r H4 x s4 n4 e4 f4=>?_⟩
   have hf:(lowM n (PS n T) (T.length:Int))[j]? = some (cntR n (T.map fun o=>o.getD j 0)):=by
    unfold lowM mat cntR
    rw [List.getElem?_map,List.getElem?_range hj]
    refine congrArg some (List.map_congr_left fun w hw=>?_)
    rw [ps_count hj T pT,List.length_map]
   have nr2:H2 r=none:=by
    cases e:H2 r with
    | none=>rfl
    | some o=>rw [s3 _ _ e] at n4; cases n4
   exact g.step hD hf nr2 e4 f4 (s3.trans s4) (by omega)
  ·intro zs H2 g
   exact q D H2 (s1.trans g.same) ((g.done hD (by unfold lowM mat; rw [List.length_map,List.length_range])).back s1)
  ·rintro σ H' Q1 Q2 hq ⟨v,e,v',e',a,X,j,f1,f2,f3,f4,g⟩
   refine ⟨v,e,v',e',a,X,j,f1,f2,f3,f4,fun D H3 s3 n3 e3=>?_⟩
   obtain ⟨v2,g2,a',xs,n',f5,f6,f7,f8,f9,k⟩:=g D H3 s3 n3 e3
   exact ⟨v2,g2,a',xs,n',f5,f6,f7,f8,f9,fun D H4 x s4 n4 e4 k4=>hq _ _ (k D H4 x s4 n4 e4 k4)⟩
end
section
variable {P:Program} {w:World} {K:PySem.W.Frag} {mg:Str→Option Value} {base:Heap}
theorem mat_row {α:Type} {n i:Nat} {g:Nat→Nat→α} (hi:i < n):(mat n g)[i]? = some ((List.range n).map (g i)):=by unfold mat; rw [List.getElem?_map,List.getElem?_range hi]; rfl
theorem put_mat {n i j:Nat} {g:Nat→Nat→Int} {z:Int} (hi:i < n):put (mat n g) i j z=mat n fun a b=>if a=i∧b=j then z else g a b:=by
 unfold put
 rw [mat_row hi]
 refine List.ext_getElem? fun a=>?_
 have lm:(mat n g).length=n:=by unfold mat; rw [List.length_map,List.length_range]
 rw [List.getElem?_set,lm]
 by_cases ha:i=a
 ·subst ha
  rw [if_pos rfl,if_pos hi,mat_row hi]
  refine congrArg some (List.ext_getElem? fun b=>?_)
  show (((List.range n).map (g i)).set j z)[b]? = _
  rw [List.getElem?_set,List.length_map,List.length_range,List.getElem?_map,List.getElem?_map]
  by_cases hb:j=b
  ·subst hb
   rw [if_pos rfl]
   by_cases hj:j < n
   ·rw [if_pos hj,List.getElem?_range hj]
    show some z=some (if i=i∧j=j then z else g i j)
    rw [if_pos ⟨rfl,rfl⟩]
   ·rw [if_neg hj,List.getElem?_eq_none (by rw [List.length_range]; omega)]
    rfl
  ·rw [if_neg hb]
   by_cases hj:b < n
   ·rw [List.getElem?_range hj]
    show some (g i b)=some (if i=i∧b=j then z else g i b)
    rw [if_neg fun t=>hb t.2.symm]
   ·rw [List.getElem?_eq_none (by rw [List.length_range]; omega)]
    rfl
 ·rw [if_neg ha]
  by_cases hj:a < n
  ·rw [mat_row hj,mat_row hj]
   refine congrArg some (List.map_congr_left fun b _=>?_)
   rw [if_neg fun t=>ha t.1.symm]
  ·rw [List.getElem?_eq_none (by unfold mat; rw [List.length_map,List.length_range]; omega),List.getElem?_eq_none (by unfold mat; rw [List.length_map,List.length_range]; omega)]
structure CS (H:Hp) (D:Addr) (rs:List Addr) (n:Nat) (H':Hp) (g:Nat→Nat→Int):Prop where
 sm:Same H H'
 dd:H' D=some (.lst (rs.map V.ref))
 rows:RowsAt H' rs (mat n g)
 fr:∀ r ∈ rs,H r=none∧r≠D
theorem CS.put {H:Hp} {D:Addr} {rs:List Addr} {n:Nat} {H':Hp} {g:Nat→Nat→Int} (L:CS H D rs n H' g) {i:Nat} (j:Nat) (z:Int) (hi:i < n) :
  ∃ r,rs[i]? = some r∧H' r=some (.lst (((List.range n).map (g i)).map V.int))∧CS H D rs n (upd H' r (.lst ((((List.range n).map (g i)).set j z).map V.int))) fun a b=>if a=i∧b=j then z else g a b:=by
 have ln:rs.length=n:=by rw [L.rows.len]; unfold mat; rw [List.length_map,List.length_range]
 obtain ⟨r,hr⟩:=get_lt (l:=rs) (i:=i) (by omega)
 have fr:=L.fr r (List.mem_of_getElem? hr)
 refine ⟨r,hr,L.rows.row i r _ hr (mat_row hi),L.sm.over fr.1,by rw [upd_ne fr.2.symm]; exact L.dd,?_,L.fr⟩
 rw [←put_mat hi]
 exact L.rows.put hr (mat_row hi)
theorem CS.to {H:Hp} {D:Addr} {rs:List Addr} {n:Nat} {H':Hp} {g g':Nat→Nat→Int} (L:CS H D rs n H' g) (h:∀ u < n,∀ w < n,g u w=g' u w):CS H D rs n H' g':=⟨L.sm,L.dd,by rw [←mat_eq.mpr h]; exact L.rows,L.fr⟩
theorem ps_snoc (n:Nat) (T:List (List Int)) (o:List Int) (u w:Nat):PS n (T++[o]) u w=PS n T u w+ordM n o u w:=by
 unfold PS
 rw [List.map_append,List.sum_append,List.map_singleton,List.sum_singleton]
abbrev nCounts:List Str:=["_law_web_here","_law_many","_law_orders_here","_law_counts_here","_law_order_here","_law_u"]
theorem scCounts:FnScope nCounts ["_law_web_here"] (defScope sCounts):=⟨rfl,rfl,rfl,by decide +kernel,rfl,by decide +kernel,by decide +kernel⟩
theorem lcCounts1:LcScopes (defScope sCounts) nCounts (lcScope (asgVal (bodyAt sCounts 1))) ["_law_order_here"]:=⟨by decide +kernel,rfl,by decide +kernel,by decide +kernel,by decide +kernel,by decide +kernel,by decide +kernel,by decide +kernel,by decide +kernel,by decide +kernel⟩
theorem lcCounts2:LcScopes (defScope sCounts) nCounts (lcScope (asgVal (bodyAt sCounts 2))) ["_law_u"]:=⟨by decide +kernel,rfl,by decide +kernel,by decide +kernel,by decide +kernel,by decide +kernel,by decide +kernel,by decide +kernel,by decide +kernel,by decide +kernel⟩
theorem lcCounts3:LcScope (defScope sCounts) nCounts (lcScope (asgVal (bodyAt sCounts 4))) "_law_row":=⟨by decide +kernel,rfl,by decide +kernel,by decide +kernel,by decide +kernel,by decide +kernel,by decide +kernel,by decide +kernel,by decide +kernel,by decide +kernel⟩
def blkCounts:Scope:=relabel (lcScope (asgVal (bodyAt sCounts 4))) (envOfC "" (defScope sCounts) 0 0 .none)
theorem lcCounts4:LcScopes blkCounts (blkN nCounts "_law_row") (lcScope (lcElt (asgVal (bodyAt sCounts 4)))) ["_law_count"]:=⟨by decide +kernel,rfl,by decide +kernel,by decide +kernel,by decide +kernel,by decide +kernel,by decide +kernel,by decide +kernel,by decide +kernel,by decide +kernel⟩
def spCounts:Sp:=fun vs H Q _=>∃ (wA:Addr) (n:Nat) (hs:List Int) (M:List (List Int)),vs=[.ref wA]∧WR H wA hs M∧hs.length=n∧Sq n M∧n≤6 ∧
 (turnAll hs hs M M≠[]∧(turnAll hs hs M M).length≤720∧∀ o ∈ turnAll hs hs M M,o.Perm (rI n))∧∀ (D:Addr) (H':Hp),Same H H'→FGrN H H' D (lowM n (PS n (turnAll hs hs M M)) ((turnAll hs hs M M).length:Int))→Q (.ref D) H'
theorem ok_counts {f fO fU fL:Addr} {fd fdO fdU fdL:FuncData} (B:BltT mg) (F:Fun K "_law_counts" "_law_counts" sCounts f fd) (DO:Dn K mg "_law_orders" sOrders ["_law_many"] fO fdO) (GO:FnOk P w K mg base CX0 1 fO fdO ["_law_many"] spOrders)
  (DU:Dn K mg "_law_turns" sTurns ["_law_web_here","_law_other","_law_order_here"] fU fdU) (GU:FnOk P w K mg base CX0 1 fU fdU ["_law_web_here","_law_other","_law_order_here"] spTurns)
  (DL:Dn K mg "_law_lowest" sLow ["_law_top","_law_bottom"] fL fdL) (GL:FnOk P w K mg base CX0 2 fL fdL ["_law_top","_law_bottom"] spF):FnOk P w K mg base CX0 3 f fd ["_law_web_here"] spCounts:=by
 refine F.ok scCounts (fun vs H Q E h=>?_) (fun cdv A outer s H vs Q E hr h=>?_)
 ·obtain ⟨a,n,hs,M,rfl,_⟩:=h
  rfl
 ·obtain ⟨wA,n,hs,M,rfl,W,hl,S,hn,⟨ne,lT,pT⟩,q⟩:=h
  have r1:=hr.mono (j:=1) (by decide)
  have r2:=hr.mono (j:=2) (by decide)
  obtain ⟨hA,rA,rs',w1,w2,w3,R'⟩:=W.ex
  refine ⟨_,pss_cons (ps_set (i:=1) scCounts.nd rfl (Or.inr rfl) (pe_callB call_len_seq (by rfl) B.len PySem.boot_len (pa_cons (pe_ix ix_tup (pv 0) pe_int (fun _ _=>rfl)) pa_nil)))
   (pss_cons (ps_set (i:=2) scCounts.nd rfl (Or.inr rfl) (pe_lcs rfl lcCounts1 rfl (pi_list (pe_fn DO GO r1 rfl (pa_cons (pv 1) pa_nil))) (pg_one lcCounts1)
    (fun _ _ _=>pts_one (pt_val (pe_fn DU GU r1 rfl (pa_cons (pv 0) (pa_cons (pv 0) (pa_cons (pv 6) pa_nil)))))) (fun _ _ _=>pv 6)))
   (pss_cons (ps_setLc1 (i:=3) scCounts.nd rfl (Or.inl rfl) rfl lcCounts2 rfl (pi_range1 rfl B.range (pa_cons (pv 1) pa_nil)) (fun _ _ _=>pe_op op_rep (pe_lst (pa_cons pe_int pa_nil)) (pv 1)))
   (pss_cons (ps_for PassesOwn.never rfl (pi_list (pv 2)) (pg_name (i:=4) scCounts.nd rfl (Or.inl rfl))
    (pss_one (ps_for PassesOwn.never rfl (pi_range1 rfl B.range (pa_cons (pv 1) pa_nil)) (pg_name (i:=5) scCounts.nd rfl (Or.inl rfl))
     (pss_one (ps_asg (pe_op op_add (pe_ix ix_list (pe_ix ix_list (pv 3) (pv 5) (fun _ _=>rfl)) (pe_ix ix_list (pv 4) (pv 5) (fun _ _=>rfl)) (fun _ _=>rfl)) pe_int) (pg_sub (pe_ix ix_list (pv 3) (pv 5) (fun _ _=>rfl)) (pe_ix ix_list (pv 4) (pv 5) (fun _ _=>rfl)) set_list))))))
   (pss_one (ps_ret (pe_lc rfl lcCounts3 rfl (pi_list (pv 3)) (fun _ _ _=>pe_lc1 rfl lcCounts4 rfl (pi_listK (K:=K) (pv 6)) (fun _ _ _=>pe_fn DL GL r2 rfl (pa_cons (pv 7) (pa_cons (pe_callB (call_lenK (K:=K)) (by rfl) B.len PySem.boot_len (pa_cons (pv 2) pa_nil)) pa_nil)))))))))),?_⟩
  refine ⟨_,rfl,wA,_,_,_,rfl,rfl,SqT.of w1,rfl,hA,_,rfl,.inl (SqL.of w2),?_⟩
  rw [List.length_map,hl]
  refine ⟨_,rfl,n,rfl,hn,fun fA as H1 s1 e1 R1=>?_⟩
  have lev:=lev_len6 hn (Nat.le_refl n)
  refine ⟨fA,rfl,⟨_,SqL.of e1⟩,?_⟩
  refine lc_filL rfl (turnsB hs hs M M) e1 R1 (by rw [R1.len]; omega) ?_ ?_ ?_
  ·intro r x H' Rr hx hr' s' hR
   obtain ⟨pt,lx⟩:=lev_pt n n x hx
   exact ⟨_,rfl,_,rfl,_,rfl,wA,wA,r,n,hs,hs,x,M,M,rfl,W.mono (s1.trans s'),W.mono (s1.trans s'),hl,hl,S,S,by omega,s' _ _ hr',lx,fun z hz=>pt.mem hz,_,rfl,hR⟩
  ·intro r H' Rr hR
   exact ⟨_,rfl,hR⟩
  intro tA rs2 H2 s2 eT R2
  have eTA:(My.lev n n).filter (turnsB hs hs M M)=turnAll hs hs M M:=by
   unfold turnAll
   rw [if_pos rfl,hl]
   rfl
  rw [eTA] at R2
  generalize turnAll hs hs M M=T at *
  have s02:=s1.trans s2
  refine ⟨_,rfl,(n:Int),rfl,by omega,by omega,fun D hD=>?_⟩
  rw [Int.toNat_natCast]
  refine lc_rowsR (List.replicate n (List.replicate n 0)) List.length_replicate (by omega) hD ?_ ?_ ?_
  ·intro i row H3 hrow s3
   rw [List.getElem?_replicate] at hrow
   have er:row=List.replicate n 0:=by
    split at hrow
    ·exact (Option.some.inj hrow).symm
    ·cases hrow
   refine ⟨(by show 1≤sizeLine; decide),fun l1 hl1=>⟨_,rfl,l1,_,_,rfl,rfl,upd_same,by omega,by omega,Nat.le_of_lt (small1000 (by rw [Int.toNat_natCast]; show 1 * n≤1000; omega)),fun l2 hl2=>⟨l2,rfl,(Same.upd hl1).trans (Same.upd hl2),(Same.upd hl1).free hl2,?_⟩⟩⟩
   rw [upd_same,Int.toNat_natCast,zeros_map,er]
  ·intro rs H3 s3 eD R3 f3
   have zm:List.replicate n (List.replicate n (0:Int))=mat n fun _ _=>0:=by
    unfold mat
    rw [List.map_const',List.map_const',List.length_range]
   rw [zm] at R3
   have L0:CS H2 D rs n H3 (PS n (T.take 0)):=⟨s3,eD,R3,f3⟩
   have lR:rs2.length=T.length:=R2.len
   refine ⟨_,rfl,tA,rfl,⟨_,SqL.of (s3 _ _ eT)⟩,for_list (xs:=rs2.map V.ref) (fun i σ H'=>∃ (o4 o5:Option V),σ=[some (.ref wA),some (.int (n:Int)),some (.ref tA),some (.ref D),o4,o5]∧CS H2 D rs n H' (PS n (T.take i))) ⟨none,none,rfl,L0⟩ (fun i σ H' _ ⟨_,_,_,L⟩=>SqL.of (L.sm _ _ eT)) ?_ ?_⟩
   ·rintro i v σ H4 hv ⟨o4,o5,rfl,L4⟩
    obtain ⟨r,hr',rfl⟩:=map_get hv
    have hi:i < T.length:=by rw [←lR]; exact lt_get hr'
    obtain ⟨o,ho⟩:=get_lt (l:=T) hi
    have po:=pT o (List.mem_of_getElem? ho)
    have lo:o.length=n:=by rw [po.length_eq,rI_len]
    have eo:=R2.row i r o hr' ho
    refine ⟨_,rfl,(n:Int),rfl,by omega,by omega,for_range (n:=n) (fun u σ H'=>∃ (o5:Option V),σ=[some (.ref wA),some (.int (n:Int)),some (.ref tA),some (.ref D),some (.ref r),o5]∧CS H2 D rs n H' fun a b=>PS n (T.take i) a b+if a < u then ordM n o a b else 0) ⟨_,rfl,L4.to fun a _ b _=>by rw [if_neg (Nat.not_lt_zero _),Int.add_zero]⟩ ?_ ?_⟩
    ·rintro u σ H5 hu ⟨o5,rfl,L5⟩
     rw [Int.zero_add]
     obtain ⟨e1',hk⟩:=sg_at po hu
     have eu:atI (o.map V.int) (u:Int)=some (.int ((sg o u:Nat):Int)):=atI_nat (by rw [List.getElem?_map,e1']; rfl)
     obtain ⟨ru,hru,eru,L6⟩:=L5.put (sg o u) (PS n (T.take i) u (sg o u)+(if u < u then ordM n o u (sg o u) else 0)+1) hu
     refine ⟨_,rfl,_,rfl,D,_,_,_,rfl,rfl,SqL.of L5.dd,at_ref hru,_,rfl,_,rfl,r,_,_,_,rfl,rfl,SqL.of (L5.sm _ _ eo),eu,ru,_,_,_,rfl,rfl,SqL.of eru,atI_nat (by rw [List.getElem?_map,List.getElem?_map,List.getElem?_range hk]; rfl),_,_,rfl,rfl,?_⟩
     refine ⟨_,rfl,_,rfl,D,_,_,_,rfl,rfl,SqL.of L5.dd,at_ref hru,_,rfl,_,rfl,r,_,_,_,rfl,rfl,SqL.of (L5.sm _ _ eo),eu,ru,_,_,sg o u,rfl,rfl,eru,by rw [List.length_map,List.length_map,List.length_range]; exact ixN_nat hk,?_⟩
     rw [←List.map_set]
     refine ⟨_,rfl,L6.to fun a ha b hb=>?_⟩
     unfold ordM
     by_cases c:a=u
     ·subst c
      by_cases c2:b=sg o a
      ·subst c2
       rw [if_pos ⟨rfl,rfl⟩,if_neg (Nat.lt_irrefl _),if_pos (Nat.lt_succ_self _),if_pos rfl]; omega
      ·rw [if_neg fun t=>c2 t.2,if_neg (Nat.lt_irrefl _),if_pos (Nat.lt_succ_self _),if_neg fun t=>c2 t.symm]
     ·rw [if_neg fun t=>c t.1]
      by_cases c3:a < u
      ·rw [if_pos c3,if_pos (show a < u+1 by omega)]
      ·rw [if_neg c3,if_neg (show ¬a < u+1 by omega)]
    ·rintro σ H5 ⟨o5,rfl,L5⟩
     refine ⟨_,_,rfl,L5.to fun a ha b _=>?_⟩
     rw [if_pos ha,take_snoc ho,ps_snoc]
   ·rintro σ H4 ⟨o4,o5,rfl,L4⟩
    rw [List.length_map,lR,List.take_length] at L4
    have s4:=L4.sm
    have lr:rs.length=n:=by rw [L4.rows.len]; unfold mat; rw [List.length_map,List.length_range]
    refine ⟨_,rfl,D,rfl,⟨_,SqL.of L4.dd⟩,fun E hE=>?_⟩
    refine lc_list (K:=K) (xs:=rs.map V.ref) (FGrI H4 E (lowM n (PS n T) (T.length:Int))) (FGrI.start hE) (fun i ys H' _ g=>⟨SqL.of (g.same _ _ L4.dd),g.at⟩) ?_ ?_ ?_
    ·rintro i v ys H5 hv g
     obtain ⟨r,hr',rfl⟩:=map_get hv
     have hi:i < n:=by rw [←lr]; exact lt_get hr'
     have er:=L4.rows.row i r _ hr' (mat_row hi)
     have s5:=g.same
     have hf:(lowM n (PS n T) (T.length:Int))[i]? = some ((List.range n).map fun w=>M11.low (PS n T i w) (T.length:Int)):=mat_row hi
     refine ⟨_,rfl,r,rfl,⟨_,SqL.of (s5 _ _ er)⟩,fun R hR=>?_⟩
     refine lc_list (K:=K) (xs:=((List.range n).map (PS n T i)).map V.int) (FrI H5 R ((List.range n).map fun w=>M11.low (PS n T i w) (T.length:Int))) (FrI.start hR) (fun i ys H' _ g=>⟨SqL.of (g.same _ _ (s5 _ _ er)),g.at⟩) ?_ ?_ ?_
     ·rintro j v zs H6 hv g2
      obtain ⟨z,hz,rfl⟩:=map_get hv
      have hj:j < n:=by have:=lt_get hz; rwa [List.length_map,List.length_range] at this
      rw [List.getElem?_map,List.getElem?_range hj] at hz
      cases hz
      have hT:0 < T.length:=List.length_pos_iff.mpr ne
      refine ⟨_,rfl,_,rfl,tA,_,rfl,.inl (SqL.of (g2.same _ _ (s5 _ _ (s4 _ _ eT)))),PS n T i j,(T.length:Int),?_,by omega,few_bits (by omega),fun p hp=>?_⟩
      ·rw [List.length_map,lR]; rfl
      ·exact g2.step hR (by rw [List.getElem?_map,List.getElem?_range hj]; rfl) upd_same hp (Same.upd hp) (by omega)
     ·intro zs H6 g2
      obtain ⟨eR,fr⟩:=g2.done (by rw [List.length_map,List.length_map,List.length_map])
      exact g.step hE hf hR eR fr g2.same (by omega)
     ·rintro σ H' Q1 Q2 hq ⟨v,e,v',e',l,ys,f1,f2,t,b,f3,f4,f5,k⟩
      exact ⟨v,e,v',e',l,ys,f1,f2,t,b,f3,f4,f5,fun p hp=>hq _ _ (k p hp)⟩
    ·intro ys H5 g
     exact q E H5 ((s02.trans s4).trans g.same) ((g.done hE (by unfold lowM mat; rw [List.length_map,List.length_range,List.length_map,lr])).back (s02.trans s4))
    ·rintro σ H' Q1 Q2 hq ⟨v,e,a,e2,e3,g⟩
     exact ⟨v,e,a,e2,e3,fun D hD=>let ⟨W,m0,st⟩:=g D hD; ⟨W,m0,fun i m ys H' hw=>let ⟨a1,a2⟩:=st i m ys H' hw; ⟨a1,a2.imp (fun ⟨b1,b2⟩=>⟨b1,hq _ _ b2⟩) id⟩⟩⟩
  ·rintro σ H' Q1 Q2 hq ⟨sz,fn⟩
   exact ⟨sz,fun l1 h1=>let ⟨v,e,l,k',xs,b1,b2,b3,b4,b5,b6,g⟩:=fn l1 h1; ⟨v,e,l,k',xs,b1,b2,b3,b4,b5,b6,fun p hp=>hq _ _ (g p hp)⟩⟩
end
section
section
variable {n:Nat} {h h':Nat→Int} {M M':Nat→Nat→Int}
theorem go_nil (hn:True):GoI n h h' M M' (fun _ _=>0) 0:=by
 refine ⟨fun _ _ _ _=>Int.le_refl _,fun _ _=>smF_nil n,fun _ _=>smF_nil n,fun _ _ _ _ e=>absurd rfl e,fun u _ w _=>?_⟩
 have e1:SmF n (fun v=>0 * M u v)=SmF n fun _=>0:=smF_congr fun v _=>Int.zero_mul _
 have e2:SmF n (fun x=>M' x w * 0)=SmF n fun _=>0:=smF_congr fun v _=>Int.mul_zero _
 rw [e1,e2]
end
def bakO (n:Nat) (os:List Int):List Int:=(rI n).map fun u=>((os.idxOf u:Nat):Int)
theorem bakO_perm {n:Nat} {os:List Int} (po:os.Perm (rI n)):(bakO n os).Perm (rI n):=by
 have nd:os.Nodup:=po.nodup_iff.mpr (rI_nd n)
 have lo:=(show os.length=n by rw [po.length_eq,rI_len])
 have e:os.map (fun u=>((os.idxOf u:Nat):Int))=rI n:=by
  apply List.ext_getElem?
  intro i
  by_cases hi:i < n
  ·rw [List.getElem?_map,List.getElem?_eq_getElem (by omega),rI_get hi]
   show some ((os.idxOf _:Nat):Int)=_
   rw [List.Nodup.idxOf_getElem nd]
  ·rw [List.getElem?_eq_none (by rw [List.length_map]; omega),List.getElem?_eq_none (by rw [rI_len]; omega)]
 have:=po.map fun u=>((os.idxOf u:Nat):Int)
 rw [e] at this
 exact this.symm
theorem sg_bak {n:Nat} {os:List Int} (po:os.Perm (rI n)) {u:Nat} (hu:u < n):sg os (sg (bakO n os) u)=u:=by
 have m:(u:Int) ∈ os:=po.mem_iff.mpr (List.mem_of_getElem? (rI_get hu))
 have lt:=List.idxOf_lt_length_iff.mpr m
 have e1:sg (bakO n os) u=os.idxOf (u:Int):=by
  unfold sg bakO
  rw [List.getElem?_map,rI_get hu]
  rfl
 rw [e1]
 unfold sg
 rw [List.getElem?_eq_getElem lt]
 show (os[os.idxOf (u:Int)]).toNat=u
 rw [List.getElem_idxOf lt]
 rfl
end
section
theorem sg_inj {n:Nat} {os:List Int} (po:os.Perm (rI n)) {u v:Nat} (hu:u < n) (hv:v < n) (e:sg os u=sg os v):u=v:=by
 have nd:os.Nodup:=po.nodup_iff.mpr (rI_nd n)
 have lo:os.length=n:=by rw [po.length_eq,rI_len]
 have e1:=(sg_at po hu).1
 have e2:=(sg_at po hv).1
 rw [e] at e1
 rw [List.getElem?_eq_getElem (by omega)] at e1 e2
 exact (List.getElem_inj nd).mp ((Option.some.inj e1).trans (Option.some.inj e2).symm)
def TurnF (n:Nat) (hs hs':List Int) (M M':List (List Int)) (o:List Int):Prop:=∀ u < n,hueF hs' (sg o u)=hueF hs u∧∀ v < n,ent M' (sg o u) (sg o v)=ent M u v
section
variable {n:Nat} {hs hs':List Int} {M M':List (List Int)}
theorem turn_iff {o:List Int} (hl:o.length=n):turnsB hs hs' M M' o=true↔TurnF n hs hs' M M' o:=by
 rw [turns_iff hs hs' M M' n hl]
 have g:∀ u,(o.getD u 0).toNat=sg o u:=fun u=>by rw [List.getD_eq_getElem?_getD]; rfl
 have k:∀ (xs:List Int) (u:Nat),xs.getD u 0=hueF xs u:=fun xs u=>by rw [List.getD_eq_getElem?_getD]; rfl
 unfold TurnF
 simp only [g,k]
 exact ⟨fun h u hu=>⟨(h u hu).1.symm,fun v hv=>((h u hu).2 v hv).symm⟩,fun h u hu=>⟨(h u hu).1.symm,fun v hv=>((h u hu).2 v hv).symm⟩⟩
theorem due_iff {o:List Int}:o ∈ dueT hs hs' M M' n↔o.Perm (rI n)∧TurnF n hs hs' M M' o:=by
 unfold dueT
 rw [List.mem_filter]
 constructor
 ·rintro ⟨h1,h2⟩
  obtain ⟨p,l⟩:=lev_pt n n o h1
  exact ⟨p.full l,(turn_iff l).mp h2⟩
 ·rintro ⟨p,t⟩
  have l:o.length=n:=by rw [p.length_eq,rI_len]
  refine ⟨?_,(turn_iff l).mpr t⟩
  have:=lev_mem n (p.nodup_iff.mpr (rI_nd n)) (fun x hx=>p.mem_iff.mp hx) n (by omega)
  rwa [List.take_of_length_le (by omega)] at this
theorem sg_rI {u:Nat} (hu:u < n):sg (rI n) u=u:=by
 unfold sg
 rw [rI_get hu]
 rfl
theorem turn_self:rI n ∈ dueT hs hs M M n:=due_iff.mpr ⟨List.Perm.refl _,fun u hu=>by rw [sg_rI hu]; exact ⟨rfl,fun v hv=>by rw [sg_rI hv]⟩⟩
theorem turn_back {o:List Int} (h:o ∈ dueT hs hs M M n) {u w:Nat} (hu:u < n) (hw:w < n) (e:sg o u=w):∃ o' ∈ dueT hs hs M M n,sg o' w=u:=by
 obtain ⟨p,t⟩:=due_iff.mp h
 have pb:=bakO_perm p
 have lt:∀ x < n,sg (bakO n o) x < n:=fun x hx=>(sg_at pb hx).2
 refine ⟨bakO n o,due_iff.mpr ⟨pb,fun x hx=>?_⟩,sg_inj p (lt w hw) hu (by rw [sg_bak p hw,e])⟩
 have:=t _ (lt x hx)
 rw [sg_bak p hx] at this
 refine ⟨this.1.symm,fun v hv=>?_⟩
 have:=this.2 _ (lt v hv)
 rw [sg_bak p hv] at this
 exact this.symm
theorem turn_on {o o':List Int} (h:o ∈ dueT hs hs M M n) (h':o' ∈ dueT hs hs M M n):∃ c ∈ dueT hs hs M M n,∀ u < n,sg c u=sg o' (sg o u):=by
 obtain ⟨p,t⟩:=due_iff.mp h
 obtain ⟨p',t'⟩:=due_iff.mp h'
 have lt:∀ x < n,sg o x < n:=fun x hx=>(sg_at p hx).2
 have lt':∀ x < n,sg o' x < n:=fun x hx=>(sg_at p' hx).2
 have e:∀ u < n,sg ((List.range n).map fun u=>((sg o' (sg o u):Nat):Int)) u=sg o' (sg o u):=fun u hu=>by
  unfold sg
  rw [List.getElem?_map,List.getElem?_range hu]
  rfl
 refine ⟨(List.range n).map fun u=>((sg o' (sg o u):Nat):Int),?_,e⟩
 have l:((List.range n).map fun u=>((sg o' (sg o u):Nat):Int)).length=n:=by rw [List.length_map,List.length_range]
 have nd:((List.range n).map fun u=>((sg o' (sg o u):Nat):Int)).Nodup:=by
  unfold List.Nodup
  rw [List.pairwise_map]
  refine List.Pairwise.imp_of_mem (fun {a b} ha hb ne z=>?_) (List.nodup_range (n:=n))
  have ha:=List.mem_range.mp ha
  have hb:=List.mem_range.mp hb
  exact ne (sg_inj p ha hb (sg_inj p' (lt a ha) (lt b hb) (by omega)))
 have hm:∀ x ∈ (List.range n).map fun u=>((sg o' (sg o u):Nat):Int),x ∈ rI n:=fun x hx=>by
  obtain ⟨u,hu,rfl⟩:=List.mem_map.mp hx
  have:=lt' _ (lt u (List.mem_range.mp hu))
  exact rI_mem.mpr ⟨by omega,by omega⟩
 unfold dueT
 refine List.mem_filter.mpr ⟨?_,(turn_iff l).mpr fun u hu=>?_⟩
 ·have:=lev_mem n nd hm n (by omega)
  rwa [List.take_of_length_le (by omega)] at this
 ·rw [e u hu,(t' _ (lt u hu)).1,(t u hu).1]
  refine ⟨rfl,fun v hv=>?_⟩
  rw [e v hv,(t' _ (lt u hu)).2 _ (lt v hv),(t u hu).2 v hv]
theorem ps_pos {T:List (List Int)} {u w:Nat}:0 < PS n T u w↔∃ o ∈ T,sg o u=w:=by
 unfold PS
 induction T with
 | nil=>exact ⟨fun h=>absurd h (Int.lt_irrefl _),fun ⟨o,h,_⟩=>by cases h⟩
 | cons o T ih =>
  rw [List.map_cons,List.sum_cons]
  have nn:0≤(T.map fun o=>ordM n o u w).sum:=by
   clear ih
   induction T with
   | nil=>exact Int.le_refl _
   | cons o T ih =>
    rw [List.map_cons,List.sum_cons]
    have:0≤ordM n o u w:=by unfold ordM; split <;> decide
    omega
  by_cases c:sg o u=w
  ·have e1:ordM n o u w=1:=if_pos c
   exact ⟨fun _=>⟨o,List.mem_cons_self,c⟩,fun _=>by omega⟩
  ·have e1:ordM n o u w=0:=if_neg c
   rw [e1,Int.zero_add,ih]
   exact ⟨fun ⟨o',h,e⟩=>⟨o',List.mem_cons_of_mem _ h,e⟩,fun ⟨o',h,e⟩=>by
    rcases List.mem_cons.mp h with rfl | h
    ·exact absurd e c
    ·exact ⟨o',h,e⟩⟩
theorem go_ord {o:List Int} (h:o ∈ dueT hs hs' M M' n):GoI n (hueF hs) (hueF hs') (ent M) (ent M') (ordM n o) 1:=by
 obtain ⟨p,t⟩:=due_iff.mp h
 exact go_turn (sg_perm p) (fun u hu=>(t u hu).1) fun u hu v hv=>(t u hu).2 v hv
theorem go_mean:∀ T:List (List Int),(∀ o ∈ T,o ∈ dueT hs hs' M M' n)→GoI n (hueF hs) (hueF hs') (ent M) (ent M') (PS n T) (T.length:Int)
 | [],_=>go_nil trivial
 | o :: T,h=>by
  have:=(go_ord (h o List.mem_cons_self)).add (go_mean T fun o h'=>h o (List.mem_cons_of_mem _ h'))
  rw [show ((o :: T).length:Int)=1+(T.length:Int) by rw [List.length_cons]; omega]
  exact this
end
theorem seen_mem {x:Int}:∀ (ks s:List Int),x ∈ ks.foldl seenAdd s↔x ∈ s ∨ x ∈ ks
 | [],s=>by simp
 | k :: ks,s=>by
  show x ∈ ks.foldl seenAdd (seenAdd s k)↔_
  rw [seen_mem ks]
  unfold seenAdd
  by_cases m:k ∈ s
  ·rw [if_pos m,List.mem_cons]
   constructor
   ·rintro (h | h)
    ·exact .inl h
    ·exact .inr (.inr h)
   ·rintro (h | h | h)
    ·exact .inl h
    ·exact .inl (h ▸ m)
    ·exact .inr h
  ·rw [if_neg m,List.mem_cons,List.mem_append,List.mem_singleton,or_assoc]
theorem seen_nd:∀ (ks s:List Int),s.Nodup→(ks.foldl seenAdd s).Nodup
 | [],s,h=>h
 | k :: ks,s,h=>by
  show (ks.foldl seenAdd (seenAdd s k)).Nodup
  refine seen_nd ks _ ?_
  unfold seenAdd
  by_cases m:k ∈ s
  ·rw [if_pos m]; exact h
  ·rw [if_neg m,List.nodup_append]
   exact ⟨h,List.nodup_cons.mpr ⟨List.not_mem_nil,List.nodup_nil⟩,fun a ha b hb z=>m (by rw [List.mem_singleton.mp hb] at z; exact z ▸ ha)⟩
theorem norm_snoc {xs:List Int} {l:Int} (h:Norm (xs++[l])):Norm xs∧l=(((xs.foldl seenAdd []).idxOf l:Nat):Int):=by
 unfold Norm numb at h
 rw [numsFrom_snoc] at h
 unfold nI at h
 rw [List.map_append] at h
 obtain ⟨h1,h2⟩:=List.append_inj h (by rw [List.length_map,numsFrom_len])
 exact ⟨h1,(List.cons.inj h2).1⟩
theorem norm_take {L:List Int} (h:Norm L):∀ (d k:Nat),k+d=L.length→Norm (L.take k)
 | 0,k,e=>by rw [List.take_of_length_le (by omega)]; exact h
 | d+1,k,e=>by
  have:=norm_take h d (k+1) (by omega)
  obtain ⟨x,hx⟩:=get_lt (l:=L) (i:=k) (by omega)
  rw [take_snoc hx] at this
  exact (norm_snoc this).1
theorem new_next {xs:List Int} {l:Int} (h:Norm (xs++[l])) (hl:l ∉ xs) (m:Int) (h0:xs=[]→m=-1) (h1:xs≠[]→m ∈ xs∧∀ a ∈ xs,a≤m):l=m+1:=by
 obtain ⟨nx,el⟩:=norm_snoc h
 have sm:=fun x:Int=>seen_mem (x:=x) xs []
 have nd:=seen_nd xs [] List.nodup_nil
 have nidx:=fun (i:Nat) (k:Int) (hk:xs[i]? = some k)=>nums_idx xs [] i hk
 generalize xs.foldl seenAdd []=s at sm nd nidx el
 have ls:l ∉ s:=fun z=>by
  rcases (sm l).mp z with c | c
  ·cases c
  ·exact hl c
 rw [List.idxOf_eq_length ls] at el
 have val:∀ (i:Nat) (k:Int),xs[i]? = some k→k=((s.idxOf k:Nat):Int)∧s.idxOf k < s.length:=fun i k hk=>by
  obtain ⟨q1,q2⟩:=nidx i k hk
  refine ⟨?_,List.idxOf_lt_length_iff.mpr q2⟩
  have:xs[i]? = ((numb xs)[i]?).map fun (n:Nat)=>(n:Int):=by
   conv=>lhs; rw [nx]
   exact nI_get
  rw [hk,show (numb xs)[i]? = some (s.idxOf k) from q1] at this
  exact Option.some.inj this
 by_cases e:xs=[]
 ·have:s=[]:=by
   cases s with
   | nil=>rfl
   | cons y s =>
    rcases (sm y).mp List.mem_cons_self with c | c
    ·cases c
    ·rw [e] at c; cases c
  rw [h0 e,el,this]
  rfl
 ·obtain ⟨mm,mx⟩:=h1 e
  obtain ⟨i,hi⟩:=List.mem_iff_getElem?.mp mm
  obtain ⟨v1,v2⟩:=val i m hi
  have sl:0 < s.length:=by omega
  have ym:s[s.length - 1] ∈ xs:=((sm _).mp (List.getElem_mem (by omega))).resolve_left (fun c=>by cases c)
  obtain ⟨j,hj⟩:=List.mem_iff_getElem?.mp ym
  obtain ⟨w1,_⟩:=val j _ hj
  rw [List.Nodup.idxOf_getElem nd] at w1
  have:=mx _ ym
  rw [w1] at this
  omega
def LotN (n:Nat) (pos:Nat→Nat→Prop) (ls:List Int):Prop:=ls.length=n∧∀ u < n,(∀ v < u,pos u v→ls.getD v 0=ls.getD u 0) ∧
 ((∀ v < u,¬pos u v)→∀ m,(ls.take u=[]→m=-1)→(ls.take u≠[]→m ∈ ls.take u∧∀ a ∈ ls.take u,a≤m)→ls.getD u 0=m+1)
theorem lot_mean {n:Nat} {hs:List Int} {M:List (List Int)} {L:List Int} (C:CmpF n (PS n (dueT hs hs M M n)) (aF L) (bF n L)) (ll:L.length=n+n) (nm:Norm L) :
  LotN n (fun u v=>0 < PS n (dueT hs hs M M n) u v) (L.take n)∧L.drop n=L.take n:=by
 have self:∀ u < n,0 < PS n (dueT hs hs M M n) u u:=fun u hu=>ps_pos.mpr ⟨_,turn_self,sg_rI hu⟩
 have ab:∀ u < n,aF L u=bF n L u:=fun u hu=>C.pos u hu u hu (self u hu)
 have sym:∀ u < n,∀ v < n,0 < PS n (dueT hs hs M M n) u v→0 < PS n (dueT hs hs M M n) v u:=fun u hu v hv h=>by
  obtain ⟨o,ho,e⟩:=ps_pos.mp h
  exact ps_pos.mpr (turn_back ho hu hv e)
 have tr:∀ u < n,∀ v < n,∀ x < n,0 < PS n (dueT hs hs M M n) u v→0 < PS n (dueT hs hs M M n) v x→0 < PS n (dueT hs hs M M n) u x:=fun u hu v hv x hx h h'=>by
  obtain ⟨o,ho,e⟩:=ps_pos.mp h
  obtain ⟨o',ho',e'⟩:=ps_pos.mp h'
  obtain ⟨c,hc,k⟩:=turn_on ho ho'
  exact ps_pos.mpr ⟨c,hc,by rw [k u hu,e,e']⟩
 have one:∀ u < n,∀ v < n,aF L u=aF L v→0 < PS n (dueT hs hs M M n) u v:=fun u hu v hv e=>by
  have:=C.here (a':=fun x=>if 0 < PS n (dueT hs hs M M n) u x then 1 else 0) (b':=fun x=>if 0 < PS n (dueT hs hs M M n) u x then 1 else 0) (fun x hx y hy p=>by
   by_cases c:0 < PS n (dueT hs hs M M n) u x
   ·rw [if_pos c,if_pos (tr u hu x hx y hy c p)]
   ·rw [if_neg c,if_neg fun d=>c (tr u hu y hy x hx d (sym x hx y hy p))]) u hu v hv e
  rw [if_pos (self u hu)] at this
  by_cases c:0 < PS n (dueT hs hs M M n) u v
  ·exact c
  ·rw [if_neg c] at this
   exact absurd this (by decide)
 have lt:(L.take n).length=n:=by rw [List.length_take]; omega
 have gt:∀ u < n,(L.take n).getD u 0=aF L u:=fun u hu=>by
  unfold aF
  rw [List.getD_eq_getElem?_getD,List.getD_eq_getElem?_getD,List.getElem?_take_of_lt hu]
 refine ⟨⟨lt,fun u hu=>⟨fun v hv p=>?_,fun no m m0 m1=>?_⟩⟩,?_⟩
 ·rw [gt v (by omega),gt u hu,C.pos u hu v (by omega) p]
  exact ab v (by omega)
 ·rw [gt u hu]
  have tt:(L.take n).take u=L.take u:=by rw [List.take_take,Nat.min_eq_left (by omega)]
  rw [tt] at m0 m1
  obtain ⟨x,hx⟩:=get_lt (l:=L) (i:=u) (by omega)
  have ex:aF L u=x:=by unfold aF; rw [List.getD_eq_getElem?_getD,hx]; rfl
  rw [ex]
  refine new_next (xs:=L.take u) ?_ (fun z=>?_) m m0 m1
  ·rw [←take_snoc hx]
   exact norm_take nm (L.length - (u+1)) (u+1) (by omega)
  ·obtain ⟨v,hv⟩:=List.mem_iff_getElem?.mp z
   have vu:v < u:=by have:=lt_get hv; rw [List.length_take] at this; omega
   rw [List.getElem?_take_of_lt vu] at hv
   have:aF L v=x:=by unfold aF; rw [List.getD_eq_getElem?_getD,hv]; rfl
   exact no v vu (one u hu v (by omega) (by rw [ex,this]))
 ·refine List.ext_getElem? fun i=>?_
  rw [List.getElem?_drop]
  by_cases hi:i < n
  ·rw [List.getElem?_take_of_lt hi]
   have:=ab i hi
   unfold aF bF at this
   obtain ⟨x,hx⟩:=get_lt (l:=L) (i:=i) (by omega)
   obtain ⟨y,hy⟩:=get_lt (l:=L) (i:=n+i) (by omega)
   rw [List.getD_eq_getElem?_getD,List.getD_eq_getElem?_getD,hx,hy] at this
   rw [hx,hy]
   exact congrArg some (show y=x from this.symm)
  ·rw [List.getElem?_eq_none (by omega),List.getElem?_eq_none (by omega)]
end
section
variable {P:Program} {w:World} {K:PySem.W.Frag} {mg:Str→Option Value} {base:Heap}
theorem boot_max:bootBuiltins "max" = some (.builtin "max"):=by decide +kernel
abbrev nLL:List Str:=["_law_table","_law_lots_here","_law_u","_law_lot","_law_v"]
theorem scLL:FnScope nLL ["_law_table"] (defScope sLLots):=⟨rfl,rfl,rfl,by decide +kernel,rfl,by decide +kernel,by decide +kernel⟩
def spLL:Sp:=fun vs H Q _=>∃ (t:Addr) (n:Nat) (P:Nat→Nat→Int) (N:Int) (ls:List Int),vs=[.ref t]∧FGrd H t (lowM n P N)∧0 < N∧n≤8∧LotN n (fun u v=>0 < P u v) ls∧∀ (D:Addr) (H':Hp),Same H H'→H' D=some (.lst (ls.map V.int))→Q (.ref D) H'
theorem ok_ll {f:Addr} {fd:FuncData} (B:BltR mg) (bM:mg "max" = none) (F:Fun K "_law_lots" "_law_lots" sLLots f fd):FnOk P w K mg base CX0 1 f fd ["_law_table"] spLL:=by
 refine F.ok scLL (fun vs H Q E h=>?_) (fun cdv A outer s H vs Q E hr h=>?_)
 ·obtain ⟨t,n,P,N,ls,rfl,_⟩:=h
  rfl
 ·obtain ⟨t,n,P,N,ls,rfl,gT,hN,hn,⟨ll,LN⟩,q⟩:=h
  obtain ⟨rs,ht,lr,hR⟩:=gT.rows
  have lr':rs.length=n:=by rw [lr]; unfold lowM mat; rw [List.length_map,List.length_range]
  refine ⟨_,pss_cons (ps_set (i:=1) scLL.nd rfl (Or.inl rfl) (pe_lst pa_nil))
   (pss_cons (ps_for PassesOwn.never rfl (pi_range1 rfl B.range (pa_cons (pe_callB call_len_seq (by rfl) B.len PySem.boot_len (pa_cons (pv 0) pa_nil)) pa_nil)) (pg_name (i:=2) scLL.nd rfl (Or.inl rfl))
    (pss_cons (ps_set (i:=3) scLL.nd rfl (Or.inl rfl) (pe_op op_add (pe_maxD rfl (by rfl) bM boot_max (pa_cons (pv 1) pa_nil) (pk_cons (pe_un un_neg pe_int) pk_nil)) pe_int))
    (pss_cons (ps_for PassesOwn.never rfl (pi_range1 rfl B.range (pa_cons (pv 2) pa_nil)) (pg_name (i:=4) scLL.nd rfl (Or.inl rfl))
     (pss_one (ps_if (pt_cmpR op_gt (pe_ix ix_tup (pe_ix ix_list (pe_ix ix_list (pv 0) (pv 2) (fun _ _=>rfl)) (pv 4) (fun _ _=>rfl)) pe_int (fun _ _=>rfl)) pe_int (nomark _)) (pss_one (ps_set (i:=3) scLL.nd rfl (Or.inl rfl) (pe_ix ix_list (pv 1) (pv 4) (fun _ _=>rfl)))) pss_nil)))
    (pss_one (ps_expr (pe_bm PySem.F.plainAttrs_list PySem.F.slot_list_append PySem.F.type_list_append mt_append (pv 1) (pa_cons (pv 3) pa_nil)))))))
   (pss_one (ps_ret (pv 1)))),?_⟩
  refine ⟨Nat.zero_le _,fun D hD=>?_⟩
  have s0:Same H (L2.upd H D (.lst [])):=Same.upd hD
  refine ⟨_,rfl,t,_,rfl,.inl (SqL.of (s0 _ _ ht)),?_⟩
  rw [List.length_map,lr']
  refine ⟨(n:Int),rfl,by omega,by omega,?_⟩
  rw [Int.toNat_natCast]
  refine for_range (n:=n) (fun u σ H'=>∃ (o2 o3 o4:Option V),σ=[some (.ref t),some (.ref D),o2,o3,o4]∧Same H H'∧H' D=some (.lst ((ls.take u).map V.int))) ⟨none,none,none,rfl,s0,upd_same⟩ ?_ ?_
  ·rintro u σ H1 hu ⟨o2,o3,o4,rfl,s1,e1⟩
   rw [Int.zero_add]
   obtain ⟨lb,ln⟩:=LN u hu
   obtain ⟨lu,hlu⟩:=get_lt (l:=ls) (i:=u) (by omega)
   have eu:ls.getD u 0=lu:=getD_some hlu
   refine ⟨_,rfl,_,rfl,D,ls.take u,-1,rfl,rfl,SqL.of e1,fun m m0 m1=>?_⟩
   refine ⟨_,_,rfl,rfl,?_⟩
   refine ⟨_,rfl,(u:Int),rfl,by omega,by omega,?_⟩
   rw [Int.toNat_natCast]
   refine for_range (n:=u) (fun v σ H'=>∃ (o4:Option V) (lot:Int),σ=[some (.ref t),some (.ref D),some (.int (u:Int)),some (.int lot),o4]∧H'=H1∧((∃ v' < v,0 < P u v')→lot=lu)∧((∀ v' < v,¬0 < P u v')→lot=m+1)) ⟨_,_,rfl,rfl,fun ⟨_,z,_⟩=>absurd z (Nat.not_lt_zero _),fun _=>rfl⟩ ?_ ?_
   ·rintro v σ H2 hv ⟨o4,lot,rfl,rfl,i1,i2⟩
    rw [Int.zero_add]
    obtain ⟨r,hr'⟩:=get_lt (l:=rs) (i:=u) (by omega)
    obtain ⟨x,ex,fx⟩:=hR u r ((List.range n).map fun w=>M11.low (P u w) N) hr' (mat_row hu)
    obtain ⟨p,hp,ep⟩:=fx.get (i:=v) (f:=M11.low (P u v) N) (by rw [List.getElem?_map,List.getElem?_range (by omega)]; rfl)
    refine ⟨_,rfl,_,rfl,t,_,_,.ref r,rfl,rfl,SqL.of (s1 _ _ ht),at_ref hr',_,rfl,r,_,_,.ref p,rfl,rfl,SqL.of (s1 _ _ ex),atI_nat hp,p,_,_,.int (M11.low (P u v) N).1,rfl,rfl,SqT.of (s1 _ _ ep),at_hd _ _,_,_,rfl,rfl,_,rfl,?_⟩
    by_cases pz:0 < P u v
    ·refine itDP ((low_above hN).mpr pz) ?_
     obtain ⟨lv,hlv⟩:=get_lt (l:=ls) (i:=v) (by omega)
     have ev:=lb v hv pz
     rw [getD_some hlv,eu] at ev
     refine ⟨_,rfl,_,rfl,D,_,_,.int lv,rfl,rfl,SqL.of e1,atI_nat (by rw [List.getElem?_map,List.getElem?_take_of_lt hv,hlv]; rfl),?_⟩
     exact ⟨_,lv,rfl,rfl,fun _=>ev,fun z=>absurd pz (z v (by omega))⟩
    ·refine itDN (fun z=>pz ((low_above hN).mp z)) ?_
     refine ⟨_,lot,rfl,rfl,fun ⟨v',h1,h2⟩=>i1 ⟨v',?_,h2⟩,fun z=>i2 fun v' h=>z v' (by omega)⟩
     rcases Nat.lt_or_ge v' v with h | h
     ·exact h
     ·exact absurd (by rw [←show v'=v by omega]; exact h2) pz
   ·rintro σ H2 ⟨o4,lot,rfl,rfl,i1,i2⟩
    have el:lot=lu:=by
     by_cases c:∃ v' < u,0 < P u v'
     ·exact i1 c
     ·have no:∀ v' < u,¬0 < P u v':=fun v' h z=>c ⟨v',h,z⟩
      rw [i2 no,←eu]
      exact (ln no m m0 m1).symm
    subst el
    refine ⟨_,rfl,.inl ⟨rfl,_,SqL.of e1⟩,_,rfl,D,_,_,rfl,rfl,e1,small1000 (by rw [List.length_map,List.length_take]; omega),_,_,_,rfl,fun b o h=>?_,?_⟩
    ·rw [upd_ne (ne_of_none h hD)]
     exact s1 _ _ h
    ·rw [upd_same,take_snoc hlu,List.map_append]
     rfl
  ·rintro σ H1 ⟨o2,o3,o4,rfl,s1,e1⟩
   rw [←ll,List.take_length] at e1
   exact ⟨_,rfl,q D H1 s1 e1⟩
end
section
variable {P:Program} {w:World} {K:PySem.W.Frag} {mg:Str→Option Value} {base:Heap}
theorem smF_le {n:Nat} {f:Nat→Int} (h:∀ i < n,0≤f i) {k:Nat} (hk:k < n):f k≤SmF n f:=by
 induction n with
 | zero=>omega
 | succ n ih =>
  rw [smF_succ]
  have hn:=h n (by omega)
  by_cases e:k=n
  ·subst e
   have:=smF_nonneg (n:=k) fun i hi=>h i (by omega)
   omega
  ·have:=ih (fun i hi=>h i (by omega)) (by omega)
   omega
theorem GoI.le {n:Nat} {h h':Nat→Int} {M M' P:Nat→Nat→Int} {N:Int} (g:GoI n h h' M M' P N) {u w:Nat} (hu:u < n) (hw:w < n):(P u w).natAbs≤N.natAbs:=by
 have h1:=smF_le (f:=fun w=>P u w) (fun i hi=>g.pos u hu i hi) hw
 rw [g.row u hu] at h1
 have h2:=g.pos u hu w hw
 have h1':P u w≤N:=h1
 omega
theorem lowM_rows {n:Nat} {h h':Nat→Int} {M M' P:Nat→Nat→Int} {N:Int} (g:GoI n h h' M M' P N) (hN:0 < N) (hb:N.natAbs < 2 ^ 20):(lowM n P N).length=n∧∀ r ∈ lowM n P N,r.length=n∧∀ f ∈ r,FrB f:=by
 refine ⟨by unfold lowM mat; rw [List.length_map,List.length_range],fun r hr=>?_⟩
 obtain ⟨u,hu,rfl⟩:=mem_mat.mp hr
 refine ⟨by rw [List.length_map,List.length_range],fun f hf=>?_⟩
 obtain ⟨w,hw,rfl⟩:=List.mem_map.mp hf
 obtain ⟨l1,l2⟩:=M11.low_le (t:=P u w) (Int.ne_of_gt hN)
 have lp:=M11.low_pos (t:=P u w) (Int.ne_of_gt hN)
 have b1:(M11.low (P u w) N).1.natAbs < 2 ^ 20:=Nat.lt_of_le_of_lt (Nat.le_trans l1 (g.le hu (List.mem_range.mp hw))) hb
 have b2:(M11.low (P u w) N).2.natAbs < 2 ^ 20:=Nat.lt_of_le_of_lt l2 hb
 exact ⟨⟨lp,b2⟩,M11.Bn.mono (n:=20) b1 (by decide)⟩
def dP (x y:List Int):PyData:=.tuple [dI x,dI y]
theorem eqv_dP (x y:List Int):PyData.eqv (dP x y) (dP x y)=true:=by
 unfold dP
 simp only [PyData.eqv,PyData.eqvAll,eqv_dI,decide_true,Bool.and_self]
theorem lay_dP (x y:List Int):(dP x y).canLay0=true∧(dP x y).depth≤64:=by
 obtain ⟨a1,a2⟩:=lay_dI x
 obtain ⟨b1,b2⟩:=lay_dI y
 unfold dP
 simp only [PyData.canLay0,PyData.canLayAll0,PyData.depth,PyData.depthAll,a1,b1,Bool.and_self,true_and]
 omega
theorem daP {H:Hp} {p a b:Addr} {x y:List Int} (h:H p=some (.tup [.ref a,.ref b])) (ha:H a=some (.lst (x.map V.int))) (hb:H b=some (.lst (y.map V.int))):DA K any H (.ref p) (dP x y) :=
 .tup trivial (SqT.of h) (.cons (daI trivial (SqL.of ha)) (.cons (daI trivial (SqL.of hb)) .nil))
theorem kitLL:PySem.W.kitOne K (.type "list") (.type "list")=some true:=rfl
theorem op_neDK {X:Cx} (hu:X.A.units+64 < cLine) (h:X.K=K:=by rfl):OpR X (compareOp .NotEq) (rNeD K):=by subst h; exact op_neD hu
theorem lc_none {a:Addr} {xs:List V} {N:Nat} {tt:TT} {te:TE} {σ:L2.St} {H1:Hp} {Q:VK} (hN:σ.length=N) (ha:H1 a=some (.lst xs))
  (ht:∀ (i:Nat) (v:V) (H':Hp) (R:Bool→Hp→Prop),xs[i]? = some v→Same H1 H'→(∀ H'',Same H' H''→R false H'')→tt (σ++[some v]) H' R)
  (hd:∀ (D:Addr) (H':Hp),Same H1 H'→H' D=some (.lst [])→Q (.ref D) H'):LcW 1 (Itl K a) (gName N) tt te σ H1 Q:=by
 subst hN
 intro D hD
 refine ⟨fun i m ys H'=>m=xs.length - i∧i≤xs.length∧ys=[]∧Same H1 H'∧H' D=some (.lst []),⟨xs.length,by simp,Nat.zero_le _,rfl,Same.upd hD,upd_same⟩,?_⟩
 rintro i m ys H2 ⟨rfl,hi,rfl,s2,eD⟩
 refine ⟨eD,?_⟩
 by_cases hlt:i < xs.length
 ·obtain ⟨v,hv⟩:=get_lt hlt
  refine .inr ⟨⟨_,_,SqL.of (s2 _ _ ha),hv⟩,?_⟩
  rintro z H3 ⟨rfl,hz⟩ os los
  have hz:=hz _ (SqL.of (s2 _ _ ha))
  rw [hv] at hz
  cases hz
  match os,los with
  | [o],_ =>
   refine ⟨⟨[some v],set1 σ o _,rfl⟩,?_⟩
   rw [set1 σ o _]
   refine ht i v _ _ hv s2 fun H'' s''=>?_
   exact iteF ⟨xs.length - (i+1),by omega,rfl,hlt,rfl,s2.trans s'',s'' _ _ eD⟩
 ·exact .inl ⟨⟨_,SqL.of (s2 _ _ ha),by omega⟩,hd D H2 s2 eD⟩
end
section
variable {P:Program} {w:World} {K:PySem.W.Frag} {mg:Str→Option Value} {base:Heap}
theorem pg_oneK {X:Cx} {S:Scope} {sc:Scope} {x:Str} {px:Pos} (k:Nat) (L:LcScopes S X.N sc [x]) (hk:X.N.length=k:=by rfl):∀ (s₀:Shared) (H₀:Hp) (fp:List Addr),PG (X.blks (blkNs X.N [x]) sc s₀ H₀ fp) (.Name x px) (gName k):=by
 subst hk
 exact pg_one L
def cmpL (s:Stmt):Expr:=match s with
 | .If (.Compare a _ _ _) _ _ _=>a
 | _=>.Constant .none 0 ⟨0,0,0,0⟩
def lcIfL (e:Expr):Expr:=match e with
 | .ListComp _ [⟨_,_,[.Compare a _ _ _],_⟩] _ _=>a
 | _=>.Constant .none 0 ⟨0,0,0,0⟩
abbrev nMean:List Str:=["_law_web_here","_law_due","_law_time","_law_found","_law_row"]
theorem scMean:FnScope nMean ["_law_web_here"] (defScope sMean):=⟨rfl,rfl,rfl,by decide +kernel,rfl,by decide +kernel,by decide +kernel⟩
abbrev eMean:Expr:=cmpL (forBody (bodyAt sMean 1) 2)
theorem lcMean1:LcScopes (defScope sMean) nMean (lcScope eMean) ["_law_row"]:=⟨by decide +kernel,rfl,by decide +kernel,by decide +kernel,by decide +kernel,by decide +kernel,by decide +kernel,by decide +kernel,by decide +kernel,by decide +kernel⟩
def blkMean:Scope:=relabel (lcScope eMean) (envOfC "" (defScope sMean) 0 0 .none)
theorem lcMean2:LcScopes blkMean (blkNs nMean ["_law_row"]) (lcScope (lcIfL eMean)) ["_law_one"]:=⟨by decide +kernel,rfl,by decide +kernel,by decide +kernel,by decide +kernel,by decide +kernel,by decide +kernel,by decide +kernel,by decide +kernel,by decide +kernel⟩
def spMean:Sp:=fun vs H Q _=>∃ (wA:Addr) (n:Nat) (hs:List Int) (M:List (List Int)),vs=[.ref wA]∧WR H wA hs M∧hs.length=n∧Sq n M∧n≤6∧∀ H',Same H H'→Q (.bl true) H'
theorem low_frac {n:Nat} {P:Nat→Nat→Int} {N:Int} (hN:0 < N) {r:List (Int × Int)} (hr:r ∈ lowM n P N) {f:Int × Int} (hf:f ∈ r):0 < f.2∧Int.gcd f.1 f.2=1:=by
 obtain ⟨u,hu,rfl⟩:=mem_mat.mp hr
 obtain ⟨w,hw,rfl⟩:=List.mem_map.mp hf
 exact ⟨M11.low_pos (Int.ne_of_gt hN),M11.low_cop (Int.ne_of_gt hN)⟩
theorem ok_mean {f fC fM fG fI fL fK:Addr} {fd fdC fdM fdG fdI fdL fdK:FuncData} (B:BltR mg) (F0:Fun K "_law_mean" "_law_mean" sMean f fd) (DC:Dn K mg "_law_counts" sCounts ["_law_web_here"] fC fdC) (GC:FnOk P w K mg base CX0 3 fC fdC ["_law_web_here"] spCounts)
  (DM:Dn K mg "mean_table" sMeanT ["web"] fM fdM) (GM:FnOk P w K mg base CX0 5 fM fdM ["web"] spMeanT) (DG:Dn K mg "goes_through" sGoes aGoes fG fdG) (GG:FnOk P w K mg base CX0 4 fG fdG aGoes spGoes)
  (DI:Dn K mg "_law_is_fraction" sIsFr ["_law_found"] fI fdI) (GI:FnOk P w K mg base CX0 2 fI fdI ["_law_found"] spIsF) (DL:Dn K mg "lots_of" sLotsOf ["table"] fL fdL) (GL:FnOk P w K mg base CX0 3 fL fdL ["table"] spLotsOf)
  (DK:Dn K mg "_law_lots" sLLots ["_law_table"] fK fdK) (GK:FnOk P w K mg base CX0 1 fK fdK ["_law_table"] spLL):FnOk P w K mg base CX0 6 f fd ["_law_web_here"] spMean:=by
 refine F0.ok scMean (fun vs H Q E h=>?_) (fun cdv A outer s H vs Q E hr h=>?_)
 ·obtain ⟨a,n,hs,M,rfl,_⟩:=h
  rfl
 ·obtain ⟨wA,n,hs,M,rfl,W,hl,S,hn,q⟩:=h
  have r1:=hr.mono (j:=1) (by decide)
  have r2:=hr.mono (j:=2) (by decide)
  have r3:=hr.mono (j:=3) (by decide)
  have r4:=hr.mono (j:=4) (by decide)
  refine ⟨_,pss_cons (ps_set (i:=1) scMean.nd rfl (Or.inl rfl) (pe_fn DC GC r3 rfl (pa_cons (pv 0) pa_nil)))
   (pss_cons (ps_for PassesOwn.never rfl (pi_range1 rfl B.range (pa_cons pe_int pa_nil)) (pg_name (i:=2) scMean.nd rfl (Or.inl rfl))
    (pss_cons (ps_set (i:=3) scMean.nd rfl (Or.inl rfl) (pe_fn DM GM hr rfl (pa_cons (pv 0) pa_nil)))
    (pss_cons (ps_if (PW.pt (pw_or (pt_not (pt_val (pe_callB call_isinst (by rfl) B.isi boot_isinstance (pa_cons (pv 3) (pa_cons (pe_bltn (v:=.ty "list") rfl B.list boot_list rfl) pa_nil)))))
     (pw_or (pt_cmpR (op_neD hr.units) (pv 3) (pv 1) (nomark _)) (pw_or1 (pt_not (pt_val (pe_fn DG GG r4 rfl (pa_cons (pv 0) (pa_cons (pv 0) (pa_cons (pv 3) pa_nil)))))))))) (pss_one (ps_ret pe_bl)) pss_nil)
    (pss_cons (ps_if (pt_cmpR (op_neD hr.units) (pe_lcs rfl lcMean1 rfl (pi_list (pv 3)) (pg_one lcMean1) (fun _ _ _=>pts_one (pt_cmpR (op_neDK (K:=K) hr.units) (pe_lcs rfl lcMean2 rfl (pi_listK (K:=K) (pv 5)) (pg_oneK 6 lcMean2)
     (fun _ _ _=>pts_one (pt_not (pt_val (pe_fn DI GI r2 rfl (pa_cons (pv 6) pa_nil))))) (fun _ _ _=>pv 6)) (pe_lst pa_nil) (nomark _))) (fun _ _ _=>pv 5)) (pe_lst pa_nil) (nomark _)) (pss_one (ps_ret pe_bl)) pss_nil)
    (pss_cons (ps_if (pt_cmpR (op_neD hr.units) (pe_fn DL GL r3 rfl (pa_cons (pv 3) pa_nil)) (pe_tup (pa_cons (pe_fn DK GK r1 rfl (pa_cons (pv 1) pa_nil)) (pa_cons (pe_fn DK GK r1 rfl (pa_cons (pv 1) pa_nil)) pa_nil))) (nomark _)) (pss_one (ps_ret pe_bl)) pss_nil)
    (pss_one (ps_for PassesOwn.never rfl (pi_list (pv 3)) (pg_name (i:=4) scMean.nd rfl (Or.inl rfl))
     (pss_one (ps_expr (pe_bm0 PySem.F.plainAttrs_list PySem.F.slot_list_clear PySem.F.type_list_clear mt_clear (pv 4)))))))))))
   (pss_one (ps_ret pe_bl))),?_⟩
  have eT:turnAll hs hs M M=dueT hs hs M M n:=by
   unfold turnAll
   rw [if_pos rfl,hl]
  have ne:dueT hs hs M M n≠[]:=fun z=>by have:=turn_self (n:=n) (hs:=hs) (M:=M); rw [z] at this; cases this
  have lT:(dueT hs hs M M n).length≤720:=Nat.le_trans (List.length_filter_le _ _) (lev_len6 hn (Nat.le_refl n))
  have pT:∀ o ∈ dueT hs hs M M n,o.Perm (rI n):=fun o ho=>(due_iff.mp ho).1
  have g:=go_mean (n:=n) (hs:=hs) (hs':=hs) (M:=M) (M':=M) (dueT hs hs M M n) fun o ho=>ho
  have hN:(0:Int) < ((dueT hs hs M M n).length:Int):=by have:=List.length_pos_iff.mpr ne; omega
  have hb:((dueT hs hs M M n).length:Int).natAbs < 2 ^ 20:=by have:(2:Nat) ^ 20=1048576:=rfl; omega
  have lotm:=fun (L:List Int) C ll nm=>lot_mean (n:=n) (hs:=hs) (M:=M) (L:=L) C ll nm
  obtain ⟨lE,rE⟩:=lowM_rows g hN hb
  have S':=S.n
  have go:=goes_of hl hl S' S' g hN hb
  refine ⟨_,rfl,wA,n,hs,M,rfl,W,hl,S,hn,by rw [eT]; exact ⟨ne,lT,pT⟩,fun D H1 s1 gD=>?_⟩
  rw [eT] at gD
  refine ⟨2,rfl,by decide,by decide,for_range (n:=2) (fun i σ H'=>∃ (o2 o3 o4:Option V),σ=[some (.ref wA),some (.ref D),o2,o3,o4]∧Same H1 H') ⟨none,none,none,rfl,Same.refl _⟩ ?_ ?_⟩
  ·rintro i σ H2 hi ⟨o2,o3,o4,rfl,s2⟩
   have s02:=s1.trans s2
   refine ⟨_,rfl,wA,n,hs,M,rfl,W.mono s02,hl,S,hn,by rw [eT]; exact ⟨ne,lT,pT⟩,fun E H3 s3 gE=>?_⟩
   rw [eT] at gE
   generalize dueT hs hs M M n=T at *
   have gE':=gE.grd
   obtain ⟨rs,ea,lr,nE,nr,hR⟩:=id gE
   have s03:=s02.trans s3
   have gD3:=(gD.mono (s2.trans s3)).grd
   refine ⟨_,rfl,_,_,_,true,rfl,.lst ea,kitLL,_,rfl,iteF ?_⟩
   refine ⟨_,rfl,_,rfl,dT _,dT _,gE'.da,gD3.da,⟨(lay_dT _).1,(lay_dT _).1,(lay_dT _).2⟩,_,rfl,?_⟩
   rw [eqv_dT]
   refine iteF ?_
   refine ⟨_,rfl,_,rfl,_,rfl,wA,wA,E,n,n,hs,hs,M,M,_,rfl,W.mono s03,W.mono s03,hl,hl,S',S',by omega,by omega,gE',by rw [lE]; omega,fun r hr'=>⟨by rw [(rE r hr').1]; omega,fun f hf=>(rE r hr').2 f hf⟩,fun b H4 eb s4=>⟨_,rfl,?_⟩⟩
   rw [eb,go]
   refine iteF ?_
   refine ⟨_,rfl,E,rfl,⟨_,SqL.of (s4 _ _ ea)⟩,?_⟩
   refine lc_none rfl (s4 _ _ ea) ?_ ?_
   ·intro j v H5 R hv s5 hR5
    obtain ⟨r,hr',rfl⟩:=map_get hv
    obtain ⟨fs,hfs⟩:=get_lt (l:=lowM n (PS n T) (T.length:Int)) (i:=j) (by rw [←lr]; exact lt_get hr')
    obtain ⟨x,ex,fx⟩:=hR j r fs hr' hfs
    have s35:=s4.trans s5
    refine ⟨_,rfl,r,rfl,⟨_,SqL.of (s35 _ _ ex)⟩,?_⟩
    refine lc_none rfl (s35 _ _ ex) ?_ ?_
    ·intro k v H6 R6 hv s6 hR6
     obtain ⟨f,hf⟩:=get_lt (l:=fs) (i:=k) (by rw [←fx.1]; exact lt_get hv)
     obtain ⟨p,rfl,hp⟩:=fx.2 k v f hv hf
     obtain ⟨f1,f2⟩:=low_frac hN (List.mem_of_getElem? hfs) (List.mem_of_getElem? hf)
     exact ⟨_,rfl,p,f.1,f.2,rfl,s35.trans s6 _ _ hp,f1,f2,_,rfl,hR6 _ (Same.refl _)⟩
    ·intro G H6 s6 eG
     refine ⟨Nat.zero_le _,fun l0 hl0=>?_⟩
     have s7:Same H6 (L2.upd H6 l0 (.lst [])):=Same.upd hl0
     refine ⟨.list [],.list [],.lst trivial (SqL.of (s7 _ _ eG)) .nil,.lst trivial (SqL.of upd_same) .nil,⟨rfl,rfl,by show (1:Nat)≤64; decide⟩,_,rfl,?_⟩
     exact hR5 _ (s6.trans s7)
   ·intro G H5 s5 eG
    refine ⟨Nat.zero_le _,fun l0 hl0=>?_⟩
    have s6:Same H5 (L2.upd H5 l0 (.lst [])):=Same.upd hl0
    have e0:L2.upd H5 l0 (.lst []) l0=some (.lst []):=upd_same
    generalize L2.upd H5 l0 (.lst [])=H6 at s6 e0 ⊢
    refine ⟨.list [],.list [],.lst trivial (SqL.of (s6 _ _ eG)) .nil,.lst trivial (SqL.of e0) .nil,⟨rfl,rfl,by show (1:Nat)≤64; decide⟩,_,rfl,?_⟩
    refine iteF ?_
    have s36:=(s4.trans s5).trans s6
    refine ⟨_,rfl,E,_,n,n,rfl,gE'.mono s36,lE,by omega,by omega,fun g hg=>(rE g hg).1,(fun z=>by rw [←lE,z]; rfl),fun p x y ms H7 s7 LG f1 f2 f3=>?_⟩
    obtain ⟨C,ll⟩:=cmp_of hN LG
    have nm:Norm (nI (numb ms)):=norm_numb ms
    generalize nI (numb ms)=L at C ll nm f2 f3
    obtain ⟨ln,eq⟩:=lotm L C ll nm
    rw [eq] at f3
    have s37:=s36.trans s7
    have gD7:FGrd H7 D _:=gD3.mono s37
    refine ⟨_,rfl,D,n,_,_,L.take n,rfl,gD7,hN,by omega,ln,fun a H8 s8 ea8=>?_⟩
    refine ⟨_,rfl,D,n,_,_,L.take n,rfl,gD7.mono s8,hN,by omega,ln,fun b H9 s9 eb9=>?_⟩
    refine ⟨(by show 2≤sizeLine; decide),fun t ht=>?_⟩
    have s10:Same H9 (L2.upd H9 t (.tup [.ref a,.ref b])):=Same.upd ht
    have e10:L2.upd H9 t (.tup [.ref a,.ref b]) t=some (.tup [.ref a,.ref b]):=upd_same
    generalize L2.upd H9 t (.tup [.ref a,.ref b])=H10 at s10 e10 ⊢
    have s710:=(s8.trans s9).trans s10
    refine ⟨dP _ _,dP _ _,daP (s710 _ _ f1) (s710 _ _ f2) (s710 _ _ f3),daP e10 (s10 _ _ (s9 _ _ ea8)) (s10 _ _ eb9),⟨(lay_dP _ _).1,(lay_dP _ _).1,(lay_dP _ _).2⟩,_,rfl,?_⟩
    rw [eqv_dP]
    refine iteF ?_
    have s310:=s37.trans s710
    refine ⟨_,rfl,E,rfl,⟨_,SqL.of (s310 _ _ ea)⟩,for_list (xs:=rs.map V.ref) (fun j σ H'=>∃ (o4:Option V),σ=[some (.ref wA),some (.ref D),some (.int (0+(i:Nat):Int)),some (.ref E),o4]∧Same H2 H'∧H' E=some (.lst (rs.map V.ref))∧∀ r ∈ rs,∃ x,H' r=some (.lst x)) ⟨_,rfl,s3.trans s310,s310 _ _ ea,fun r hr'=>?_⟩ (fun j σ H' _ ⟨_,_,_,e,_⟩=>SqL.of e) ?_ ?_⟩
    ·obtain ⟨j,hj⟩:=List.mem_iff_getElem?.mp hr'
     obtain ⟨fs,hfs⟩:=get_lt (l:=lowM n (PS n T) (T.length:Int)) (i:=j) (by rw [←lr]; exact lt_get hj)
     obtain ⟨x,ex,fx⟩:=hR j r fs hj hfs
     exact ⟨x,s310 _ _ ex⟩
    ·rintro j v σ H' hv ⟨o4,rfl,s',e',ex⟩
     obtain ⟨r,hr',rfl⟩:=map_get hv
     have hm:=List.mem_of_getElem? hr'
     obtain ⟨x,hx⟩:=ex r hm
     refine ⟨_,rfl,.inl ⟨rfl,_,SqL.of hx⟩,r,x,rfl,rfl,hx,_,rfl,s'.over (nr r hm).2,by rw [upd_ne (nr r hm).1.symm]; exact e',fun r2 h2=>?_⟩
     by_cases c:r2=r
     ·subst c
      exact ⟨[],upd_same⟩
     ·obtain ⟨y,hy⟩:=ex r2 h2
      exact ⟨y,by rw [upd_ne c]; exact hy⟩
    ·rintro σ H' ⟨o4,rfl,s',_,_⟩
     exact ⟨_,_,_,rfl,s2.trans s'⟩
  ·rintro σ H2 ⟨o2,o3,o4,rfl,s2⟩
   exact q H2 (s1.trans s2)
end
section
variable {P:Program} {w:World} {K:PySem.W.Frag} {mg:Str→Option Value} {base:Heap}
abbrev nTables:List Str:=["_law_web_here","_law_other","_law_turning","_law_due","_law_handed","_law_found"]
theorem scTables:FnScope nTables ["_law_web_here","_law_other"] (defScope sTables):=⟨rfl,rfl,rfl,by decide +kernel,rfl,by decide +kernel,by decide +kernel⟩
abbrev eTables:Expr:=asgVal (forBody (bodyAt sTables 0) 0)
theorem lcTables1:LcScope (defScope sTables) nTables (lcScope eTables) "_law_x":=⟨by decide +kernel,rfl,by decide +kernel,by decide +kernel,by decide +kernel,by decide +kernel,by decide +kernel,by decide +kernel,by decide +kernel,by decide +kernel⟩
def blkTables:Scope:=relabel (lcScope eTables) (envOfC "" (defScope sTables) 0 0 .none)
theorem lcTables2:LcScopes blkTables (blkN nTables "_law_x") (lcScope (lcElt eTables)) ["_law_y"]:=⟨by decide +kernel,rfl,by decide +kernel,by decide +kernel,by decide +kernel,by decide +kernel,by decide +kernel,by decide +kernel,by decide +kernel,by decide +kernel⟩
def spTables:Sp:=fun vs H Q _=>∃ (wA oA:Addr) (n n':Nat) (hs hs':List Int) (M M':List (List Int)),vs=[.ref wA,.ref oA]∧TwoW H wA oA n n' hs hs' M M'∧∀ H',Same H H'→Q (.bl true) H'
theorem ok_tables {f fA fT fG:Addr} {fd fdA fdT fdG:FuncData} (B:BltR mg) (F0:Fun K "_law_tables" "_law_tables" sTables f fd) (DA:Dn K mg "all_turnings" sAllT ["web","other"] fA fdA) (GA:FnOk P w K mg base CX0 4 fA fdA ["web","other"] spAllT)
  (DT:Dn K mg "table_of_turning" sTabT ["turning"] fT fdT) (GT:FnOk P w K mg base CX0 2 fT fdT ["turning"] spTabT) (DG:Dn K mg "goes_through" sGoes aGoes fG fdG) (GG:FnOk P w K mg base CX0 4 fG fdG aGoes spGoes):FnOk P w K mg base CX0 5 f fd ["_law_web_here","_law_other"] spTables:=by
 refine F0.ok scTables (fun vs H Q E h=>?_) (fun cdv A outer s H vs Q E hr h=>?_)
 ·obtain ⟨a,b,n,n',hs,hs',M,M',rfl,_⟩:=h
  rfl
 ·obtain ⟨wA,oA,n,n',hs,hs',M,M',rfl,⟨W,W',hl,hl',S,S',hn⟩,q⟩:=h
  have r2:=hr.mono (j:=2) (by decide)
  refine ⟨_,pss_cons (ps_for PassesOwn.never rfl (pi_list (pe_fn DA GA hr rfl (pa_cons (pv 0) (pa_cons (pv 1) pa_nil)))) (pg_name (i:=2) scTables.nd rfl (Or.inr rfl))
    (pss_cons (ps_setLc (i:=3) scTables.nd rfl (Or.inl rfl) rfl lcTables1 rfl (pi_list (pv 2)) (fun _ _ _=>pe_lc1 rfl lcTables2 rfl (pi_range1 rfl B.range (pa_cons (pe_callB (call_lenK (K:=K)) (by rfl) B.len PySem.boot_len (pa_cons (pv 2) pa_nil)) pa_nil))
     (fun _ _ _=>pe_tup (pa_cons (pe_callTy call_int1 (by rfl) B.int boot_int (pa_cons (pe_cmpR op_eq (pv 6) (pv 7) (nomark _)) pa_nil)) (pa_cons pe_int pa_nil)))))
    (pss_cons (ps_set (i:=4) scTables.nd rfl (Or.inl rfl) (pe_callTy call_list_of (by rfl) B.list boot_list (pa_cons (pv 2) pa_nil)))
    (pss_cons (ps_set (i:=5) scTables.nd rfl (Or.inl rfl) (pe_fn DT GT r2 rfl (pa_cons (pv 4) pa_nil)))
    (pss_cons (ps_if (PW.pt (pw_or (pt_cmpR (op_neD hr.units) (pv 5) (pv 3) (nomark _)) (pw_or1 (pt_not (pt_val (pe_fn DG GG hr rfl (pa_cons (pv 0) (pa_cons (pv 1) (pa_cons (pv 5) pa_nil))))))))) (pss_one (ps_ret pe_bl)) pss_nil)
    (pss_cons (ps_expr (pe_bm0 PySem.F.plainAttrs_list PySem.F.slot_list_clear PySem.F.type_list_clear mt_clear (pv 5)))
    (pss_one (ps_if (PW.pt (pw_or (pt_cmpR (op_neD hr.units) (pe_fn DT GT r2 rfl (pa_cons (pv 4) pa_nil)) (pv 3) (nomark _)) (pw_or1 (pt_cmpR (op_neD hr.units) (pv 4) (pv 2) (nomark _))))) (pss_one (ps_ret pe_bl)) pss_nil))))))))
   (pss_one (ps_ret pe_bl)),?_⟩
  refine ⟨_,rfl,_,rfl,wA,oA,n,n',hs,hs',M,M',rfl,⟨W,W',hl,hl',S,S',hn⟩,fun tA rs H1 s1 nt et R nr=>?_⟩
  refine ⟨tA,rfl,⟨_,SqL.of et⟩,for_list (xs:=rs.map V.ref) (fun i σ H'=>∃ (o2 o3 o4 o5:Option V),σ=[some (.ref wA),some (.ref oA),o2,o3,o4,o5]∧Same H1 H') ⟨none,none,none,none,rfl,Same.refl _⟩ (fun i σ H' _ ⟨_,_,_,_,_,s'⟩=>SqL.of (s' _ _ et)) ?_ ?_⟩
  ·rintro i v σ H2 hv ⟨o2,o3,o4,o5,rfl,s2⟩
   obtain ⟨r,hr',rfl⟩:=map_get hv
   obtain ⟨o,ho⟩:=get_lt (l:=turnAll hs hs' M M') (i:=i) (by rw [←R.len]; exact lt_get hr')
   have er:=R.row i r o hr' ho
   have hm:=List.mem_of_getElem? ho
   have en:n'=n∧o ∈ dueT hs hs' M M' n:=by
    unfold turnAll at hm
    by_cases e:hs.length=hs'.length
    ·rw [if_pos e,hl] at hm
     exact ⟨by omega,hm⟩
    ·rw [if_neg e] at hm
     cases hm
   obtain ⟨en,hd⟩:=en
   subst en
   have po:=(due_iff.mp hd).1
   have lo:o.length=n':=by rw [po.length_eq,rI_len]
   have g:=go_ord hd
   obtain ⟨lE,rE⟩:=lowM_rows g (by decide) (by decide)
   have go:=goes_of hl hl' S.n S'.n g (by decide) (by decide)
   have er2:=s2 _ _ er
   refine ⟨_,rfl,r,rfl,⟨_,SqL.of er2⟩,fun D hD=>?_⟩
   refine lc_list (K:=K) (xs:=o.map V.int) (FGrI H2 D (lowM n' (ordM n' o) 1)) (FGrI.start hD) (fun i ys H' _ g=>⟨SqL.of (g.same _ _ er2),g.at⟩) ?_ ?_ ?_
   ·rintro j v ys H3 hv g3
    obtain ⟨z,hz,rfl⟩:=map_get hv
    have hj:j < n':=by rw [←lo]; exact lt_get hz
    have ez:z=((sg o j:Nat):Int):=by
     have:=(sg_at po hj).1
     rw [hz] at this
     exact Option.some.inj this
    have s3:=g3.same
    have hf:(lowM n' (ordM n' o) 1)[j]? = some ((List.range n').map fun w=>M11.low (ordM n' o j w) 1):=mat_row hj
    refine ⟨_,rfl,r,_,rfl,.inl (SqL.of (s3 _ _ er2)),?_⟩
    rw [List.length_map,lo]
    refine ⟨(n':Int),rfl,by omega,by omega,fun G hG=>?_⟩
    rw [Int.toNat_natCast]
    refine lc_range (n:=n') (FrI H3 G ((List.range n').map fun w=>M11.low (ordM n' o j w) 1)) (FrI.start hG) (fun j zs H' _ g2=>g2.at) ?_ ?_ ?_
    ·rintro k zs H4 hk g4
     have ek:((0:Int)+(k:Nat))=(k:Int):=by omega
     rw [ek]
     refine ⟨_,rfl,_,rfl,rfl,.inr ⟨_,rfl,(by show 2≤sizeLine; decide),fun p hp=>?_⟩⟩
     have ev:(HO.tup [V.int (if decide (V.int z=V.int (k:Int))=true then 1 else 0),V.int 1])=tupF (M11.low (ordM n' o j k) 1):=by
      rw [low_ord,dec_intE]
      unfold tupF ordM
      by_cases c:sg o j=k
      ·rw [if_pos c,decide_eq_true (by rw [ez,c])]; rfl
      ·rw [if_neg c,decide_eq_false (by rw [ez]; omega)]; rfl
     exact g4.step hG (by rw [List.getElem?_map,List.getElem?_range hk]; rfl) (by rw [ev]; exact upd_same) hp (Same.upd hp) (by omega)
    ·intro zs H4 g4
     obtain ⟨eG,fr⟩:=g4.done (by rw [List.length_map,List.length_range])
     exact g3.step hD hf hG eG fr g4.same (by omega)
    ·rintro σ H' Q1 Q2 hq ⟨v1,e1,v2,e2,e3,g⟩
     refine ⟨v1,e1,v2,e2,e3,?_⟩
     rcases g with ⟨i,f1,z,g⟩ | ⟨b,f1,z,g⟩
     ·exact .inl ⟨i,f1,z,fun p hp=>hq _ _ (g p hp)⟩
     ·exact .inr ⟨b,f1,z,fun p hp=>hq _ _ (g p hp)⟩
   ·intro ys H3 g3
    have s3:=g3.same
    have gD:=(g3.done hD (by rw [lE,List.length_map,lo])).grd
    refine ⟨_,rfl,r,_,rfl,.inl (SqL.of (s3 _ _ er2)),fun L hL=>?_⟩
    have s4:Same H3 (L2.upd H3 L (.lst (o.map V.int))):=Same.upd hL
    have eL:L2.upd H3 L (.lst (o.map V.int)) L=some (.lst (o.map V.int)):=upd_same
    generalize L2.upd H3 L (.lst (o.map V.int))=H4 at s4 eL ⊢
    refine ⟨_,rfl,L,n',o,rfl,eL,po,by omega,fun E H5 s5 gE=>?_⟩
    obtain ⟨rsE,eE,lr,nE,nrE,hR⟩:=id gE
    have gE':=gE.grd
    have s14:=(s2.trans s3).trans s4
    have s05:=(s1.trans s14).trans s5
    refine ⟨_,rfl,_,rfl,dT _,dT _,gE'.da,((gD.mono s4).mono s5).da,⟨(lay_dT _).1,(lay_dT _).1,(lay_dT _).2⟩,_,rfl,?_⟩
    rw [eqv_dT]
    refine iteF ?_
    refine ⟨_,rfl,_,rfl,_,rfl,wA,oA,E,n',n',hs,hs',M,M',_,rfl,W.mono s05,W'.mono s05,hl,hl',S.n,S'.n,by omega,by omega,gE',by rw [lE]; omega,fun r hr'=>⟨by rw [(rE r hr').1]; omega,fun f hf=>(rE r hr').2 f hf⟩,fun b H6 eb s6=>⟨_,rfl,?_⟩⟩
    rw [eb,go]
    refine iteF ?_
    refine ⟨_,rfl,.inl ⟨rfl,_,SqL.of (s6 _ _ eE)⟩,E,_,rfl,rfl,s6 _ _ eE,?_⟩
    have s7:Same H4 (L2.upd H6 E (.lst [])):=(s5.trans s6).over nE
    generalize L2.upd H6 E (.lst [])=H7 at s7 ⊢
    refine ⟨_,rfl,L,n',o,rfl,s7 _ _ eL,po,by omega,fun E2 H8 s8 gE2=>?_⟩
    have s48:=s7.trans s8
    refine ⟨_,rfl,dT _,dT _,gE2.grd.da,((gD.mono s4).mono s48).da,⟨(lay_dT _).1,(lay_dT _).1,(lay_dT _).2⟩,_,rfl,?_⟩
    rw [eqv_dT]
    refine iteF ?_
    refine ⟨_,rfl,_,rfl,dI o,dI o,daI trivial (SqL.of (s48 _ _ eL)),daI trivial (SqL.of (s48 _ _ (s4 _ _ (s3 _ _ er2)))),⟨(lay_dI _).1,(lay_dI _).1,Nat.le_trans (lay_dI _).2 (by decide)⟩,_,rfl,?_⟩
    rw [eqv_dI,decide_eq_true rfl]
    refine iteF ?_
    exact ⟨_,_,_,_,rfl,s14.trans s48⟩
   ·rintro σ H' Q1 Q2 hq h
    obtain ⟨v,e,a,ys,e2,e3,i,e4,e5,e6,g⟩:=h
    exact ⟨v,e,a,ys,e2,e3,i,e4,e5,e6,fun D hD=>let ⟨W,m0,st⟩:=g D hD; ⟨W,m0,fun i m ys H' hw=>let ⟨a1,a2⟩:=st i m ys H' hw; ⟨a1,a2.imp (fun ⟨b1,b2⟩=>⟨b1,hq _ _ b2⟩) id⟩⟩⟩
  ·rintro σ H2 ⟨o2,o3,o4,o5,rfl,s2⟩
   exact q H2 (s1.trans s2)
end
section
variable {P:Program} {w:World} {K:PySem.W.Frag} {mg:Str→Option Value} {base:Heap}
abbrev nSix:List Str:=["_law_draw","_law_way","_law_hues","_law_rows","_law_u","_law_v","_law_web_here"]
theorem scSix:FnScope nSix ["_law_draw"] (defScope sSix):=⟨rfl,rfl,rfl,by decide +kernel,rfl,by decide +kernel,by decide +kernel⟩
theorem lcSix:LcScopes (defScope sSix) nSix (lcScope (asgVal (bodyAt sSix 2))) ["_law_u"]:=⟨by decide +kernel,rfl,by decide +kernel,by decide +kernel,by decide +kernel,by decide +kernel,by decide +kernel,by decide +kernel,by decide +kernel,by decide +kernel⟩
def spSix:Sp:=fun vs H Q _=>∃ (d:Addr) (n:Nat),vs=[.ref d]∧Drw H d n∧n≤500000 ∧
 ∀ (t p p':Addr) (H':Hp) (hs hs':List Int) (M M':List (List Int)),But d H H'→H' t=some (.tup [.ref p,.ref p'])→WR (Off d H') p hs M→WR (Off d H') p' hs' M'→hs.length=6→hs'.length=6→Sq 6 M→Sq 6 M'→Q (.ref t) H'
theorem Drw.sm {H H':Hp} {d:Addr} {n:Nat} (h:Drw H d n) (s:Same H H'):Drw H' d n:=by
 obtain ⟨a,b,c,e,r⟩:=h
 exact ⟨a,b,c,s _ _ e,r⟩
theorem WN.wrOff {H H':Hp} {p d:Addr} {n:Nat} {hs:List Int} {M:List (List Int)} (W:WN H H' p hs M) (hd:Drw H d n):WR (Off d H') p hs M:=by
 obtain ⟨hA,rA,rs,v1,v2,v3,R,fr,np,nh,nr⟩:=W.ex
 exact ⟨hA,rA,rs,Off.mk (hd.ne (fr p (by simp))) v1,Off.mk (hd.ne (fr hA (by simp))) v2,Off.mk (hd.ne (fr rA (by simp))) v3,R.keep fun r hr o z=>Off.mk (hd.ne (fr r (by simp [hr]))) z⟩
theorem six_at {y:Int} (y0:0≤y) (y1:y < 3) {u:Nat} (hu:u < 6):∃ v:Nat,v < 6∧atI [V.int (((u:Int)+1) % 6),V.int (u:Int),V.int ((u:Int) - (u:Int) % 3+((u:Int)+1) % 3)] y=some (.int (v:Int)):=by
 obtain ⟨k,rfl⟩:=Int.eq_ofNat_of_zero_le y0
 match k,y1 with
 | 0,_=>exact ⟨(((u:Int)+1) % 6).toNat,by omega,by rw [show ((((u:Int)+1) % 6).toNat:Int)=((u:Int)+1) % 6 by omega]; rfl⟩
 | 1,_=>exact ⟨u,hu,rfl⟩
 | 2,_=>exact ⟨((u:Int) - (u:Int) % 3+((u:Int)+1) % 3).toNat,by omega,by rw [show ((((u:Int) - (u:Int) % 3+((u:Int)+1) % 3).toNat:Nat):Int)=(u:Int) - (u:Int) % 3+((u:Int)+1) % 3 by omega]; rfl⟩
 | k+3,h=>omega
theorem ok_six {f fT fO fR:Addr} {fd fdT fdO fdR:FuncData} (B:BltT mg) (F:Fun K "_law_six" "_law_six" sSix f fd) (DT:Dn K mg "_law_take" sTake ["_law_draw","_law_most"] fT fdT) (GT:FnOk P w K mg base CX0 2 fT fdT ["_law_draw","_law_most"] spTake)
  (DO:Dn K mg "_law_order" sOrder ["_law_draw","_law_many"] fO fdO) (GO:FnOk P w K mg base CX0 3 fO fdO ["_law_draw","_law_many"] spOrder)
  (DR:Dn K mg "_law_renamed" sRenamed ["_law_web_here","_law_order_here"] fR fdR) (GR:FnOk P w K mg base CX0 1 fR fdR ["_law_web_here","_law_order_here"] spLRen):FnOk P w K mg base CX0 4 f fd ["_law_draw"] spSix:=by
 refine F.ok scSix (fun vs H Q E h=>?_) (fun cdv A outer s H vs Q E hr h=>?_)
 ·obtain ⟨d,n,rfl,_⟩:=h
  rfl
 ·obtain ⟨d,n,rfl,hd,hn,q⟩:=h
  have r1:=hr.mono (j:=1) (by decide)
  have r2:=hr.mono (j:=2) (by decide)
  refine ⟨_,pss_cons (ps_set (i:=1) scSix.nd rfl (Or.inl rfl) (pe_fn DT GT r2 rfl (pa_cons (pv 0) (pa_cons pe_int pa_nil))))
   (pss_cons (ps_set (i:=2) scSix.nd rfl (Or.inl rfl) (pe_ix ix_list (pe_lst (pa_cons (pe_op op_rep (pe_lst (pa_cons pe_int pa_nil)) pe_int) (pa_cons (pe_lst (pa_cons pe_int (pa_cons pe_int (pa_cons pe_int (pa_cons pe_int (pa_cons pe_int (pa_cons pe_int pa_nil)))))))
    (pa_cons (pe_lst (pa_cons pe_int (pa_cons pe_int (pa_cons pe_int (pa_cons pe_int (pa_cons pe_int (pa_cons pe_int pa_nil))))))) pa_nil)))) (pv 1) (fun _ _=>rfl)))
   (pss_cons (ps_setLc1 (i:=3) scSix.nd rfl (Or.inl rfl) rfl lcSix rfl (pi_range1 rfl B.range (pa_cons pe_int pa_nil)) (fun _ _ _=>pe_op op_rep (pe_lst (pa_cons pe_int pa_nil)) pe_int))
   (pss_cons (ps_for PassesOwn.never rfl (pi_range1 rfl B.range (pa_cons pe_int pa_nil)) (pg_name (i:=4) scSix.nd rfl (Or.inl rfl))
    (pss_cons (ps_set (i:=5) scSix.nd rfl (Or.inl rfl) (pe_ix ix_list (pe_lst (pa_cons (pe_op op_mod (pe_op op_add (pv 4) pe_int) pe_int) (pa_cons (pv 4) (pa_cons (pe_op op_add (pe_op op_sub (pv 4) (pe_op op_mod (pv 4) pe_int)) (pe_op op_mod (pe_op op_add (pv 4) pe_int) pe_int)) pa_nil)))) (pv 1) (fun _ _=>rfl)))
    (pss_cons (ps_asg pe_int (pg_sub (pe_ix ix_list (pv 3) (pv 4) (fun _ _=>rfl)) (pv 5) set_list))
    (pss_one (ps_asg pe_int (pg_sub (pe_ix ix_list (pv 3) (pv 5) (fun _ _=>rfl)) (pv 4) set_list))))))
   (pss_cons (ps_set (i:=6) scSix.nd rfl (Or.inl rfl) (pe_fn DR GR r1 rfl (pa_cons (pe_tup (pa_cons (pv 2) (pa_cons (pv 3) pa_nil))) (pa_cons (pe_fn DO GO hr rfl (pa_cons (pv 0) (pa_cons pe_int pa_nil))) pa_nil))))
   (pss_one (ps_ret (pe_tup (pa_cons (pv 6) (pa_cons (pe_fn DR GR r1 rfl (pa_cons (pv 6) (pa_cons (pe_fn DO GO hr rfl (pa_cons (pv 0) (pa_cons pe_int pa_nil))) pa_nil))) pa_nil))))))))),?_⟩
  refine ⟨_,rfl,d,3,n,rfl,by decide,by decide,hd,by omega,fun y H1 y0 y1 b1 d1=>?_⟩
  refine ⟨(by show 1≤sizeLine; decide),fun l1 hl1=>⟨l1,_,_,rfl,rfl,upd_same,by decide,by decide,Nat.le_of_lt (small1000 (by decide)),fun l2 hl2=>?_⟩⟩
  have t1:Same H1 (L2.upd H1 l1 (.lst [.int 0])):=Same.upd hl1
  generalize L2.upd H1 l1 (.lst [.int 0])=G1 at t1 hl2 ⊢
  have t2:Same G1 (L2.upd G1 l2 (.lst (([0,0,0,0,0,0]:List Int).map V.int))):=Same.upd hl2
  have e2:L2.upd G1 l2 (.lst (([0,0,0,0,0,0]:List Int).map V.int)) l2=some (.lst (([0,0,0,0,0,0]:List Int).map V.int)):=upd_same
  change (tCons _ _) _ (L2.upd G1 l2 (.lst (([0,0,0,0,0,0]:List Int).map V.int))) _
  generalize L2.upd G1 l2 (.lst (([0,0,0,0,0,0]:List Int).map V.int))=G2 at t2 e2 ⊢
  refine ⟨(by show 6≤sizeLine; decide),fun l3 hl3=>?_⟩
  have t3:Same G2 (L2.upd G2 l3 (.lst (([0,1,2,3,4,4]:List Int).map V.int))):=Same.upd hl3
  have e3:L2.upd G2 l3 (.lst (([0,1,2,3,4,4]:List Int).map V.int)) l3=some (.lst (([0,1,2,3,4,4]:List Int).map V.int)):=upd_same
  change (tCons _ _) _ (L2.upd G2 l3 (.lst (([0,1,2,3,4,4]:List Int).map V.int))) _
  generalize L2.upd G2 l3 (.lst (([0,1,2,3,4,4]:List Int).map V.int))=G3 at t3 e3 ⊢
  refine ⟨(by show 6≤sizeLine; decide),fun l4 hl4=>?_⟩
  have t4:Same G3 (L2.upd G3 l4 (.lst (([0,0,0,1,1,1]:List Int).map V.int))):=Same.upd hl4
  have e4:L2.upd G3 l4 (.lst (([0,0,0,1,1,1]:List Int).map V.int)) l4=some (.lst (([0,0,0,1,1,1]:List Int).map V.int)):=upd_same
  change tNil _ (L2.upd G3 l4 (.lst (([0,0,0,1,1,1]:List Int).map V.int))) _
  generalize L2.upd G3 l4 (.lst (([0,0,0,1,1,1]:List Int).map V.int))=G4 at t4 e4 ⊢
  refine ⟨(by show 3≤sizeLine; decide),fun l5 hl5=>?_⟩
  have t5:Same G4 (L2.upd G4 l5 (.lst [.ref l2,.ref l3,.ref l4])):=Same.upd hl5
  have e5:L2.upd G4 l5 (.lst [.ref l2,.ref l3,.ref l4]) l5=some (.lst [.ref l2,.ref l3,.ref l4]):=upd_same
  change (tVar _) _ (L2.upd G4 l5 (.lst [.ref l2,.ref l3,.ref l4])) _
  generalize L2.upd G4 l5 (.lst [.ref l2,.ref l3,.ref l4])=G5 at t5 e5 ⊢
  have t15:=(((t1.trans t2).trans t3).trans t4).trans t5
  obtain ⟨hA,hs,ah,eh,lh,hAd⟩:∃ (hA:Addr) (hs:List Int),atI [V.ref l2,V.ref l3,V.ref l4] y=some (.ref hA)∧G5 hA=some (.lst (hs.map V.int))∧hs.length=6∧hA≠d:=by
   obtain ⟨k,rfl⟩:=Int.eq_ofNat_of_zero_le y0
   match k,y1 with
   | 0,_=>exact ⟨l2,_,rfl,t5 _ _ (t4 _ _ (t3 _ _ e2)),rfl,(d1.sm t1).ne hl2⟩
   | 1,_=>exact ⟨l3,_,rfl,t5 _ _ (t4 _ _ e3),rfl,(d1.sm (t1.trans t2)).ne hl3⟩
   | 2,_=>exact ⟨l4,_,rfl,t5 _ _ e4,rfl,(d1.sm ((t1.trans t2).trans t3)).ne hl4⟩
   | k+3,h=>omega
  refine ⟨_,rfl,l5,_,_,_,rfl,rfl,SqL.of e5,ah,?_⟩
  have d5:=d1.sm t15
  have b5:But d H G5:=b1.trans fun c o _ z=>t15 c o z
  refine ⟨6,rfl,by decide,by decide,fun D hD=>?_⟩
  refine lc_rowsR (List.replicate 6 (List.replicate 6 0)) List.length_replicate (by decide) hD ?_ ?_ ?_
  ·intro i row H2 hrow s2
   rw [List.getElem?_replicate] at hrow
   have er:row=List.replicate 6 0:=by
    split at hrow
    ·exact (Option.some.inj hrow).symm
    ·cases hrow
   refine ⟨(by show 1≤sizeLine; decide),fun l1 hl1=>⟨l1,_,_,rfl,rfl,upd_same,by decide,by decide,Nat.le_of_lt (small1000 (by decide)),fun l2 hl2=>⟨l2,rfl,(Same.upd hl1).trans (Same.upd hl2),(Same.upd hl1).free hl2,?_⟩⟩⟩
   rw [upd_same,er]
   rfl
  ·intro rs H2 s2 eD R2 f2
   have nDd:D≠d:=d5.ne hD
   have L0:LS G5 d D rs 6 (n+2) H2 (List.replicate 6 (List.replicate 6 0)) :=
    ⟨fun c o _ z=>s2 c o z,d5.sm s2,eD,R2,(sq_zero 6).len,(sq_zero 6).row,fun r hr=>⟨(f2 r hr).1,d5.ne (f2 r hr).1,(f2 r hr).2⟩⟩
   have one:(1:Int).natAbs≤wMax:=by unfold wMax; decide
   refine ⟨6,rfl,by decide,by decide,for_range (n:=6) (fun u σ H'=>∃ (o4 o5:Option V) (N:List (List Int)),σ=[some (.ref d),some (.int y),some (.ref hA),some (.ref D),o4,o5,none]∧LS G5 d D rs 6 (n+2) H' N∧Sq 6 N) ⟨none,none,_,rfl,L0,sq_zero _⟩ ?_ ?_⟩
   ·rintro u σ H3 hu ⟨o4,o5,N,rfl,L3,S3⟩
    rw [Int.zero_add]
    obtain ⟨v,hv,ev⟩:=six_at y0 y1 hu
    refine ⟨_,rfl,_,_,rfl,rfl,_,_,rfl,rfl,(by show (0:Int) < 6; decide),_,rfl,_,rfl,_,rfl,_,_,rfl,rfl,(by show (0:Int) < 3; decide),_,_,rfl,rfl,_,rfl,_,_,rfl,rfl,_,_,rfl,rfl,(by show (0:Int) < 3; decide),_,_,rfl,rfl,(by show 3≤sizeLine; decide),fun l hl=>?_⟩
    refine ⟨_,rfl,l,_,_,_,rfl,rfl,SqL.of upd_same,ev,?_⟩
    have L4:LS G5 d D rs 6 (n+2) (L2.upd H3 l (.lst [.int (((u:Int)+1) % 6),.int (u:Int),.int ((u:Int) - (u:Int) % 3+((u:Int)+1) % 3)])) N:=L3.take nDd (But.new hl) (L3.drw.sm (Same.upd hl))
    show gName 5 (.int (v:Int)) _ (L2.upd H3 l (.lst [.int (((u:Int)+1) % 6),.int (u:Int),.int ((u:Int) - (u:Int) % 3+((u:Int)+1) % 3)])) _
    generalize L2.upd H3 l (.lst [.int (((u:Int)+1) % 6),.int (u:Int),.int ((u:Int) - (u:Int) % 3+((u:Int)+1) % 3)])=H4 at L4 ⊢
    obtain ⟨r1,x1,p1,p2,p3,L5⟩:=L4.put v hu one
    refine ⟨_,rfl,_,rfl,D,_,_,_,rfl,rfl,SqL.of L4.dd,at_ref p1,_,rfl,r1,_,_,v,rfl,rfl,p2,by rw [List.length_map]; exact ixN_nat (by omega),?_⟩
    rw [←List.map_set]
    generalize upd H4 r1 (.lst ((x1.set v 1).map V.int))=H5 at L5 ⊢
    obtain ⟨r2,x2,q1,q2,q3,L6⟩:=L5.put u hv one
    refine ⟨_,rfl,_,rfl,D,_,_,_,rfl,rfl,SqL.of L5.dd,at_ref q1,_,rfl,r2,_,_,u,rfl,rfl,q2,by rw [List.length_map]; exact ixN_nat (by omega),?_⟩
    rw [←List.map_set]
    exact ⟨_,_,_,rfl,L6,S3.put hu hv one⟩
   ·rintro σ H3 ⟨o4,o5,N,rfl,L3,S3⟩
    refine ⟨_,rfl,_,rfl,(by show 2≤sizeLine; decide),fun tp htp=>?_⟩
    have b4:But d H3 (L2.upd H3 tp (.tup [.ref hA,.ref D])):=But.new htp
    have d4:Drw (L2.upd H3 tp (.tup [.ref hA,.ref D])) d (n+2):=L3.drw.new htp
    have e4:L2.upd H3 tp (.tup [.ref hA,.ref D]) tp=some (.tup [.ref hA,.ref D]):=upd_same
    have tpd:tp≠d:=L3.drw.ne htp
    have R4:=L3.rows.keep (H':=L2.upd H3 tp (.tup [.ref hA,.ref D])) fun r _ o z=>Same.upd htp r o z
    have eD4:=Same.upd (o:=.tup [.ref hA,.ref D]) htp _ _ L3.dd
    have eh4:=b4 _ _ hAd (L3.but _ _ hAd eh)
    generalize L2.upd H3 tp (.tup [.ref hA,.ref D])=H4 at b4 d4 e4 R4 eD4 eh4 ⊢
    refine ⟨_,rfl,d,6,n+2,rfl,by decide,d4,by omega,fun oA H5 os b5' d6 oA1 oAd eo pm=>?_⟩
    have W5:WR H5 tp hs N:=⟨hA,D,rs,b5' _ _ tpd e4,b5' _ _ hAd eh4,b5' _ _ nDd eD4,R4.keep fun r hr o z=>b5' r o (L3.fr r hr).2.1 z⟩
    refine ⟨tp,oA,6,hs,N,os,rfl,W5,lh,S3,by decide,eo,pm,fun p H6 s6 WN6=>?_⟩
    have d7:=d6.sm s6
    have W6:=WN6.wrOff d6
    have S6:Sq 6 (renM N os):=S3.ren pm
    have l6:(renH hs os).length=6:=by unfold renH; rw [List.length_map,pm.length_eq,rI_len]
    refine ⟨_,rfl,_,rfl,_,rfl,d,6,n+2+20,rfl,by decide,d7,by omega,fun oA2 H7 os2 b7 d8 oA3 oAd2 eo2 pm2=>?_⟩
    have W7:WR (Off d H7) p (renH hs os) (renM N os):=W6.mono b7.off
    refine ⟨p,oA2,6,_,_,os2,rfl,W7.mono (Off.same d H7),l6,S6,by decide,eo2,pm2,fun p2 H8 s8 WN8=>?_⟩
    refine ⟨(by show 2≤sizeLine; decide),fun t ht=>?_⟩
    have b9:But d H8 (L2.upd H8 t (.tup [.ref p,.ref p2])):=But.new ht
    have b8:But d H7 H8:=fun c o _ z=>s8 c o z
    have b6:But d H5 H6:=fun c o _ z=>s6 c o z
    refine q t p p2 _ _ _ _ _ ((((((b5.trans L3.but).trans b4).trans b5').trans b6).trans b7).trans (b8.trans b9)) upd_same (W7.mono (b8.trans b9).off) ((WN8.wrOff d8).mono b9.off) l6 ?_ S6 (S6.ren pm2)
    unfold renH
    rw [List.length_map,pm2.length_eq,rI_len]
  ·rintro σ H' Q1 Q2 hq ⟨sz,fn⟩
   exact ⟨sz,fun l1 h1=>let ⟨l,k',xs,b1,b2,b3,b4,b5,b6,g⟩:=fn l1 h1; ⟨l,k',xs,b1,b2,b3,b4,b5,b6,fun p hp=>hq _ _ (g p hp)⟩⟩
end
section
variable {P:Program} {w:World} {K:PySem.W.Frag} {mg:Str→Option Value} {base:Heap}
def spCell (K:PySem.W.Frag):Sp:=fun vs H Q _=>∃ (a:Addr) (ns:List Int) (z:Int),vs=[.ref a,.int z]∧SqL K H a (ns.map V.int)∧0≤z∧∀ x,Q (.int x) H
theorem scCell:FnScope ["_law_script","_law_k"] ["_law_script","_law_k"] (defScope sCellAt):=⟨rfl,rfl,rfl,by decide +kernel,rfl,by decide +kernel,by decide +kernel⟩
theorem ok_cell {f:Addr} {fd:FuncData} (B:BltT mg) (F:Fun K "_law_cell_at" "_law_cell_at" sCellAt f fd):FnOk P w K mg base CX0 1 f fd ["_law_script","_law_k"] (spCell K):=by
 refine F.ok scCell (fun vs H Q E h=>?_) (fun cdv A outer s H vs Q E hr h=>?_)
 ·obtain ⟨a,ns,k,rfl,_⟩:=h
  rfl
 ·obtain ⟨a,ns,z,rfl,hS,h0,k⟩:=h
  refine ⟨_,pss_cons (ps_if (pt_cmpR op_lt (pv 1) (pe_callB call_len_seq (by rfl) B.len PySem.boot_len (pa_cons (pv 0) pa_nil)) (nomark _)) (pss_one (ps_ret (pe_ix ix_list (pv 0) (pv 1) (fun _ _=>rfl)))) pss_nil)
   (pss_one (ps_ret pe_int)),?_⟩
  refine ⟨_,rfl,_,rfl,a,_,rfl,.inl hS,_,_,rfl,rfl,_,rfl,?_⟩
  by_cases hz:z < ((ns.map V.int).length:Int)
  ·refine itDP hz ?_
   obtain ⟨j,rfl⟩:=Int.eq_ofNat_of_zero_le h0
   have hj:j < ns.length:=by rw [List.length_map] at hz; omega
   refine ⟨_,rfl,_,rfl,a,_,_,.int ns[j],rfl,rfl,hS,atI_nat (by simp [hj]),k _⟩
  ·exact itDN hz (k _)
theorem But.same {d:Addr} {H0 H H':Hp} (s:Same H0 H) (hd:H0 d=none) (b:But d H H'):Same H0 H':=fun c o e=>b c o (ne_of_none e (by exact hd)) (s c o e)
end
section
variable {P:Program} {w:World} {K:PySem.W.Frag} {mg:Str→Option Value} {base:Heap}
def spLaw (K:PySem.W.Frag):Sp:=fun vs H Q _=>∃ (a:Addr) (ns:List Int),vs=[.ref a]∧SqL K H a (ns.map V.int)∧ns.length≤63∧∀ H',Q (.bl true) H'
abbrev nLaw:List Str:=["_law_script","_law_cell","_law_draw","_law_web_here","_law_other"]
theorem scLaw:FnScope nLaw ["_law_script"] (defScope sLaw):=⟨rfl,rfl,rfl,by decide +kernel,rfl,by decide +kernel,by decide +kernel⟩
theorem turn_ok {hs:List Int} {M:List (List Int)} {n:Nat} (hl:hs.length=n) (hn:n≤6):turnAll hs hs M M≠[]∧(turnAll hs hs M M).length≤720∧∀ o ∈ turnAll hs hs M M,o.Perm (rI n):=by
 have eT:turnAll hs hs M M=dueT hs hs M M n:=by
  unfold turnAll
  rw [if_pos rfl,hl]
 rw [eT]
 exact ⟨fun z=>(by have:=turn_self (n:=n) (hs:=hs) (M:=M); rw [z] at this; cases this),Nat.le_trans (List.length_filter_le _ _) (lev_len6 hn (Nat.le_refl n)),fun o ho=>(due_iff.mp ho).1⟩
theorem ok_law {f fC fB fBo fM fT fS fMT fTT:Addr} {fd fdC fdB fdBo fdM fdT fdS fdMT fdTT:FuncData} (F:Fun K "law" "law" sLaw f fd)
  (DC:Dn K mg "_law_cell_at" sCellAt ["_law_script","_law_k"] fC fdC) (GC:FnOk P w K mg base CX0 1 fC fdC ["_law_script","_law_k"] (spCell K))
  (DB:Dn K mg "_law_begun" sBegun ["_law_cell"] fB fdB) (GB:FnOk P w K mg base CX0 1 fB fdB ["_law_cell"] spBegun)
  (DBo:Dn K mg "_law_both" sBoth ["_law_draw","_law_most"] fBo fdBo) (GBo:FnOk P w K mg base CX0 6 fBo fdBo ["_law_draw","_law_most"] spBoth)
  (DM:Dn K mg "_law_mean" sMean ["_law_web_here"] fM fdM) (GM:FnOk P w K mg base CX0 6 fM fdM ["_law_web_here"] spMean)
  (DT:Dn K mg "_law_tables" sTables ["_law_web_here","_law_other"] fT fdT) (GT:FnOk P w K mg base CX0 5 fT fdT ["_law_web_here","_law_other"] spTables)
  (DS:Dn K mg "_law_six" sSix ["_law_draw"] fS fdS) (GS:FnOk P w K mg base CX0 4 fS fdS ["_law_draw"] spSix)
  (DMT:Dn K mg "mean_table" sMeanT ["web"] fMT fdMT) (GMT:FnOk P w K mg base CX0 5 fMT fdMT ["web"] spMeanT)
  (DTT:Dn K mg "table_of_turning" sTabT ["turning"] fTT fdTT) (GTT:FnOk P w K mg base CX0 2 fTT fdTT ["turning"] spTabT):FnOk P w K mg base CX0 7 f fd ["_law_script"] (spLaw K):=by
 refine F.ok scLaw (fun vs H Q E h=>?_) (fun cdv A outer s H vs Q E hr h=>?_)
 ·obtain ⟨a,ns,rfl,_⟩:=h
  rfl
 ·obtain ⟨a,ns,rfl,hS,hlen,q⟩:=h
  have r1:=hr.mono (j:=1) (by decide)
  have r2:=hr.mono (j:=2) (by decide)
  have r4:=hr.mono (j:=4) (by decide)
  have r5:=hr.mono (j:=5) (by decide)
  refine ⟨_,pss_cons (ps_for PassesOwn.never rfl (pi_list (pe_op op_cat (pe_slice sl_list (pv 0) po_none (po_some pe_int)) (pe_lst (pa_cons pe_int pa_nil)))) (pg_name (i:=1) scLaw.nd rfl (Or.inl rfl))
    (pss_cons (ps_set (i:=2) scLaw.nd rfl (Or.inl rfl) (pe_fn DB GB r1 rfl (pa_cons (pv 1) pa_nil)))
    (pss_cons (ps_asg (pe_fn DBo GBo hr rfl (pa_cons (pv 2) (pa_cons pe_int pa_nil))) (pg_tup rfl (pgs_cons (pg_name (i:=3) scLaw.nd rfl (Or.inl rfl)) (pgs_cons (pg_name (i:=4) scLaw.nd rfl (Or.inl rfl)) pgs_nil))))
    (pss_one (ps_if (PW.pt (pw_or (pt_not (pt_val (pe_fn DM GM hr rfl (pa_cons (pv 3) pa_nil)))) (pw_or1 (pt_not (pt_val (pe_fn DT GT r5 rfl (pa_cons (pv 3) (pa_cons (pv 4) pa_nil)))))))) (pss_one (ps_ret pe_bl)) pss_nil)))))
   (pss_cons (ps_asg (pe_fn DS GS r4 rfl (pa_cons (pe_fn DB GB r1 rfl (pa_cons (pe_fn DC GC r1 rfl (pa_cons (pv 0) (pa_cons pe_int pa_nil))) pa_nil)) pa_nil)) (pg_tup rfl (pgs_cons (pg_name (i:=3) scLaw.nd rfl (Or.inl rfl)) (pgs_cons (pg_name (i:=4) scLaw.nd rfl (Or.inl rfl)) pgs_nil))))
   (pss_cons (ps_if (PW.pt (pw_or (pt_not (pt_val (pe_fn DM GM hr rfl (pa_cons (pv 3) pa_nil)))) (pw_or1 (pt_not (pt_val (pe_fn DT GT r5 rfl (pa_cons (pv 3) (pa_cons (pv 4) pa_nil)))))))) (pss_one (ps_ret pe_bl)) pss_nil)
   (pss_one (ps_ret (pe_and (pe_cmpR (op_eqD hr.units) (pe_fn DMT GMT r5 rfl (pa_cons (pe_tup (pa_cons (pe_lst pa_nil) (pa_cons (pe_lst pa_nil) pa_nil))) pa_nil)) (pe_lst pa_nil) (nomark _))
    (pe_one (pe_cmpR (op_eqD hr.units) (pe_fn DTT GTT r2 rfl (pa_cons (pe_lst pa_nil) pa_nil)) (pe_lst pa_nil) (nomark _)))))))),?_⟩
  obtain ⟨ms,em,lm⟩:=cut_ints ns none (some 4)
  refine ⟨_,rfl,4,rfl,a,_,rfl,hS,fun p0 hp0=>?_⟩
  rw [em]
  have s0:Same H (L2.upd H p0 (.lst (ms.map V.int))):=Same.upd hp0
  have e0:L2.upd H p0 (.lst (ms.map V.int)) p0=some (.lst (ms.map V.int)):=upd_same
  generalize L2.upd H p0 (.lst (ms.map V.int))=Ha at s0 e0 ⊢
  refine ⟨(by show 1≤sizeLine; decide),fun p1 hp1=>?_⟩
  have sb:Same Ha (L2.upd Ha p1 (.lst [.int 0])):=Same.upd hp1
  have e1:L2.upd Ha p1 (.lst [.int 0]) p1=some (.lst [.int 0]):=upd_same
  generalize L2.upd Ha p1 (.lst [.int 0])=Hb at sb e1 ⊢
  refine ⟨p0,p1,_,_,rfl,rfl,sb _ _ e0,e1,Nat.le_of_lt (small1000 (by rw [List.length_map]; show ms.length+1≤1000; omega)),fun L hL=>?_⟩
  have ec:ms.map V.int++[V.int 0]=(ms++[0]).map V.int:=by rw [List.map_append]; rfl
  rw [ec]
  have sc:Same Hb (L2.upd Hb L (.lst ((ms++[0]).map V.int))):=Same.upd hL
  have e2:L2.upd Hb L (.lst ((ms++[0]).map V.int)) L=some (.lst ((ms++[0]).map V.int)):=upd_same
  generalize L2.upd Hb L (.lst ((ms++[0]).map V.int))=Hc at sc e2 ⊢
  have s0c:=(s0.trans sb).trans sc
  refine ⟨L,rfl,⟨_,SqL.of e2⟩,for_list (xs:=(ms++[0]).map V.int) (fun i σ H'=>∃ (o1 o2 o3 o4:Option V),σ=[some (.ref a),o1,o2,o3,o4]∧Same Hc H') ⟨none,none,none,none,rfl,Same.refl _⟩ (fun i σ H' _ ⟨_,_,_,_,_,sH⟩=>SqL.of (sH _ _ e2)) ?_ ?_⟩
  ·rintro i x σ G1 hx ⟨o1,o2,o3,o4,rfl,sH⟩
   obtain ⟨c,hc,rfl⟩:=map_get hx
   refine ⟨_,rfl,c,rfl,fun d G2 hd t2 dd=>?_⟩
   refine ⟨_,rfl,d,1,rfl,dd,by decide,fun t p p' G3 k k' hs hs' M M' b3 d3 e3 W3 W3' l3 l3' S3 S3' k5 k5'=>?_⟩
   have t3:Same G1 G3:=But.same t2 hd b3
   have o3:=Off.same d G3
   refine ⟨t,_,rfl,SqT.of e3,rfl,_,_,rfl,_,_,rfl,rfl,?_⟩
   refine ⟨_,rfl,p,k,hs,M,rfl,W3.mono o3,l3,S3,by omega,fun G4 s4=>⟨_,rfl,iteF ?_⟩⟩
   refine ⟨_,rfl,_,rfl,p,p',k,k',hs,hs',M,M',rfl,⟨(W3.mono o3).mono s4,(W3'.mono o3).mono s4,l3,l3',S3,S3',by omega⟩,fun G5 s5=>⟨_,rfl,iteF ?_⟩⟩
   exact ⟨_,_,_,_,rfl,(sH.trans t3).trans (s4.trans s5)⟩
  ·rintro σ G1 ⟨o1,o2,o3,o4,rfl,sH⟩
   refine ⟨_,rfl,a,ns,4,rfl,(s0c.trans sH).seq hS,by decide,fun c0=>⟨c0,rfl,fun d G2 hd t2 dd=>?_⟩⟩
   refine ⟨d,1,rfl,dd,by decide,fun t p p' G3 hs hs' M M' b3 e3 W3 W3' l3 l3' S3 S3'=>?_⟩
   have o3:=Off.same d G3
   refine ⟨t,_,rfl,SqT.of e3,rfl,_,_,rfl,_,_,rfl,rfl,?_⟩
   refine ⟨_,rfl,p,6,hs,M,rfl,W3.mono o3,l3,S3,by decide,fun G4 s4=>⟨_,rfl,iteF ?_⟩⟩
   refine ⟨_,rfl,_,rfl,p,p',6,6,hs,hs',M,M',rfl,⟨(W3.mono o3).mono s4,(W3'.mono o3).mono s4,l3,l3',S3,S3',by decide⟩,fun G5 s5=>⟨_,rfl,iteF ?_⟩⟩
   refine ⟨Nat.zero_le _,fun l1 hl1=>?_⟩
   have f1:L2.upd G5 l1 (.lst []) l1=some (.lst []):=upd_same
   generalize L2.upd G5 l1 (.lst [])=G6 at f1 ⊢
   refine ⟨Nat.zero_le _,fun l2 hl2=>?_⟩
   have s7:Same G6 (L2.upd G6 l2 (.lst [])):=Same.upd hl2
   have f2:L2.upd G6 l2 (.lst []) l2=some (.lst []):=upd_same
   generalize L2.upd G6 l2 (.lst [])=G7 at s7 f2 ⊢
   refine ⟨(by show 2≤sizeLine; decide),fun tp htp=>?_⟩
   have s8:Same G7 (L2.upd G7 tp (.tup [.ref l1,.ref l2])):=Same.upd htp
   have f3:L2.upd G7 tp (.tup [.ref l1,.ref l2]) tp=some (.tup [.ref l1,.ref l2]):=upd_same
   generalize L2.upd G7 tp (.tup [.ref l1,.ref l2])=G8 at s8 f3 ⊢
   have W8:WR G8 tp [] []:=⟨l1,l2,[],f3,s8 _ _ (s7 _ _ f1),s8 _ _ f2,rfl,(fun i r x h _=>by cases h),List.nodup_nil⟩
   refine ⟨tp,0,[],[],rfl,W8,rfl,sq_zero 0,by decide,turn_ok rfl (by decide),fun D G9 s9 gD=>?_⟩
   refine ⟨Nat.zero_le _,fun l3 hl3=>?_⟩
   have s10:Same G9 (L2.upd G9 l3 (.lst [])):=Same.upd hl3
   have gD':DA K any (L2.upd G9 l3 (.lst [])) (.ref D) (.list []):=(gD.grd.mono s10).da
   refine ⟨.list [],.list [],gD',.lst trivial (SqL.of upd_same) .nil,⟨rfl,rfl,by show (1:Nat)≤64; decide⟩,_,rfl,iteT ?_⟩
   refine ⟨Nat.zero_le _,fun l4 hl4=>?_⟩
   refine ⟨l4,0,[],rfl,upd_same,List.Perm.refl _,by decide,fun D2 G11 s11 gD2=>?_⟩
   refine ⟨Nat.zero_le _,fun l5 hl5=>?_⟩
   have s12:Same G11 (L2.upd G11 l5 (.lst [])):=Same.upd hl5
   have gE:DA K any (L2.upd G11 l5 (.lst [])) (.ref D2) (.list []):=(gD2.grd.mono s12).da
   exact ⟨.list [],.list [],gE,.lst trivial (SqL.of upd_same) .nil,⟨rfl,rfl,by show (1:Nat)≤64; decide⟩,q _⟩
end
structure At (K:PySem.W.Frag) (x:Str) (st:Stmt) (f:Addr) (fd:FuncData):Prop where
 fn:Fun K x x st f fd
 ns:PySem.W.nsIn K mainGlobals x=some (some (.ref f))
theorem at_mk {K:PySem.W.Frag} {x:Str} {st:Stmt} {f:Addr} {oc:Value} {od an:Option Addr} {osl:Array (Option Value)} {kV doc pm cdv ct:Value} (a:PySem.W.nsIn K mainGlobals x=some (some (.ref f))) (l:K.lookup f=some ⟨oc,od,.func (PySem.W.fnOf x x (defArgs st) (defBody st) (defScope st) .none kV doc pm an cdv ct),osl⟩)
  (c:PySem.W.codeIn K cdv x=true) (k:PySem.W.keepIn K (.ref f)=true):∃ f fd,At K x st f fd:=⟨f,_,fun_mk l c k,a⟩
theorem kit_ref {K:PySem.W.Frag} {CN C:Addr} {cd:ClassData} {b:Bool} (h0:(Value.ref CN == Value.ref C)=false) (h1:PySem.W.clsIn K C=some cd) (h2:PySem.W.typeIn K (.ref C)=some (.type "type")) (h3:PySem.W.subIn K (.ref CN) (.ref C)=some b):PySem.W.kitOne K (.ref CN) (.ref C)=some b:=by
 unfold PySem.W.kitOne PySem.W.kitCls
 rw [if_neg (by rw [h0]; decide)]
 show (if ((PySem.W.clsIn K C).isSome && PySem.W.typeIn K (.ref C) == some (.type "type"))=true then PySem.W.subIn K (.ref CN) (.ref C) else none)=some b
 rw [h1,h2,h3]
 rfl
theorem kit_ty {K:PySem.W.Frag} {CN:Addr} {T:String} {b:Bool} (h0:(Value.ref CN == Value.type T)=false) (h1:PySem.W.kitMeta T=true) (h3:PySem.W.subIn K (.ref CN) (.type T)=some b):PySem.W.kitOne K (.ref CN) (.type T)=some b:=by
 unfold PySem.W.kitOne PySem.W.kitCls
 rw [if_neg (by rw [h0]; decide)]
 show (if PySem.W.kitMeta T=true then PySem.W.subIn K (.ref CN) (.type T) else none)=some b
 rw [if_pos h1,h3]
theorem all_mk {l:PySem.W.OpenLaw} {w:World} {K:PySem.W.Frag} {h:Heap} {mg:Str→Option Value} {fa fL:Addr} (X:K.In h) (G:h.Ns mainGlobals mg) (hfa:mg "law" = some (.ref fa)) (A0:∃ f fd,At K "greatest_divisor" sGd f fd) (A1:∃ f fd,At K "fraction_of" sFr f fd) (A2:∃ f fd,At K "common_bottom" sBottom f fd) (A3:∃ f fd,At K "top_over" sTopOver f fd) (A4:∃ f fd,At K "column_of" sCol f fd) (A5:∃ f fd,At K "columns_of" sCols f fd) (A6:∃ f fd,At K "sum_of_products" sDot f fd) (A7:∃ f fd,At K "sums_with_each" sEach f fd) (A8:∃ f fd,At K "product_of_grids" sProd f fd) (A9:∃ f fd,At K "in_one_list" sInOne f fd) (A10:∃ f fd,At K "in_square" sInSq f fd) (A11:∃ f fd,At K "is_square" sIsSq f fd) (A12:∃ f fd,At K "picked" sPicked f fd) (A13:∃ f fd,At K "led_on" sLed f fd) (A14:∃ f fd,At K "begun_turnings" sBegunT f fd) (A15:∃ f fd,At K "next_turning" sNext f fd) (A16:∃ f fd,At K "all_turnings" sAllT f fd) (A17:∃ f fd,At K "shares_of_place" sShP f fd) (A18:∃ f fd,At K "table_of_turning" sTabT f fd) (A19:∃ f fd,At K "mean_shares" sMeanS f fd) (A20:∃ f fd,At K "mean_table" sMeanT f fd) (A21:∃ f fd,At K "numbered" sNumbered f fd) (A22:∃ f fd,At K "come_to" sCome f fd) (A23:∃ f fd,At K "are_shared_out" sShared f fd) (A24:∃ f fd,At K "keeps_hue" sKeepsHue f fd) (A25:∃ f fd,At K "keep_hues" sKeepHues f fd) (A26:∃ f fd,At K "goes_through" sGoes f fd) (A27:∃ f fd,At K "merged" sMerged f fd) (A28:∃ f fd,At K "lots_of" sLotsOf f fd) (A29:∃ f fd,At K "_law_cell_at" sCellAt f fd) (A30:∃ f fd,At K "_law_whole" sWhole f fd) (A31:∃ f fd,At K "_law_mix" sMix f fd) (A32:∃ f fd,At K "_law_begun" sBegun f fd) (A33:∃ f fd,At K "_law_take" sTake f fd) (A34:∃ f fd,At K "_law_weight" sWeight f fd) (A35:∃ f fd,At K "_law_web" sWeb f fd) (A36:∃ f fd,At K "_law_divisor" sDiv f fd) (A37:∃ f fd,At K "_law_is_fraction" sIsFr f fd) (A38:∃ f fd,At K "_law_lowest" sLow f fd) (A39:∃ f fd,At K "_law_order" sOrder f fd) (A40:∃ f fd,At K "_law_renamed" sRenamed f fd) (A41:∃ f fd,At K "_law_lift" sLift f fd) (A42:∃ f fd,At K "_law_second" sSecond f fd) (A43:∃ f fd,At K "_law_both" sBoth f fd) (A44:∃ f fd,At K "_law_orders" sOrders f fd) (A45:∃ f fd,At K "_law_turns" sTurns f fd) (A46:∃ f fd,At K "_law_counts" sCounts f fd) (A47:∃ f fd,At K "_law_lots" sLLots f fd) (A48:∃ f fd,At K "_law_mean" sMean f fd) (A49:∃ f fd,At K "_law_tables" sTables f fd) (A50:∃ f fd,At K "_law_six" sSix f fd)
  {oc kV doc pm cdv ct:Value} {od an:Option Addr} {osl:Array (Option Value)} (aL:PySem.W.nsIn K mainGlobals "law" = some (some (.ref fL))) (lL:K.lookup fL=some ⟨oc,od,.func (PySem.W.fnOf "law" "law" (defArgs sLaw) (defBody sLaw) (defScope sLaw) .none kV doc pm an cdv ct),osl⟩) (cL:PySem.W.codeIn K cdv "law" = true) (kL:PySem.W.keepIn K (.ref fL)=true)
  (z_len:PySem.W.nsIn K mainGlobals "len" = some none) (z_range:PySem.W.nsIn K mainGlobals "range" = some none) (z_int:PySem.W.nsIn K mainGlobals "int" = some none) (z_sorted:PySem.W.nsIn K mainGlobals "sorted" = some none) (z_enumerate:PySem.W.nsIn K mainGlobals "enumerate" = some none) (z_sum:PySem.W.nsIn K mainGlobals "sum" = some none) (z_zip:PySem.W.nsIn K mainGlobals "zip" = some none) (z_list:PySem.W.nsIn K mainGlobals "list" = some none) (z_isinstance:PySem.W.nsIn K mainGlobals "isinstance" = some none) (z_bool:PySem.W.nsIn K mainGlobals "bool" = some none) (z_max:PySem.W.nsIn K mainGlobals "max" = some none) (z_abs:PySem.W.nsIn K mainGlobals "abs" = some none) (z_all:PySem.W.nsIn K mainGlobals "all" = some none) (z_ValueError:PySem.W.nsIn K mainGlobals "ValueError" = some none) (z_tuple:PySem.W.nsIn K mainGlobals "tuple" = some none) :
  ∃ fd:FuncData,(∀ (s:Shared) (v:Value),BindsTo s fd ⟨[v],[]⟩ [("_law_script",v)])∧∀ base:Heap,K.In base→base.Ns mainGlobals mg→FnOk l.prog w K mg base CX0 7 fa fd ["_law_script"] (spLaw K):=by
 have e:=hfa.symm.trans (PySem.W.mg_of X G aL)
 cases e
 obtain ⟨f0,fd0,T0⟩:=A0
 have D0:Dn K mg "greatest_divisor" sGd ["number","other"] f0 fd0:=⟨T0.fn,PySem.W.mg_of X G T0.ns,T0.fn.binds fun _ _ _ _ _ _ us hl=>match us,hl with | [_,_],_=>rfl⟩
 obtain ⟨f1,fd1,T1⟩:=A1
 have D1:Dn K mg "fraction_of" sFr ["top","bottom"] f1 fd1:=⟨T1.fn,PySem.W.mg_of X G T1.ns,T1.fn.binds fun _ _ _ _ _ _ us hl=>match us,hl with | [_,_],_=>rfl⟩
 obtain ⟨f2,fd2,T2⟩:=A2
 have D2:Dn K mg "common_bottom" sBottom ["fractions"] f2 fd2:=⟨T2.fn,PySem.W.mg_of X G T2.ns,T2.fn.binds fun _ _ _ _ _ _ us hl=>match us,hl with | [_],_=>rfl⟩
 obtain ⟨f3,fd3,T3⟩:=A3
 have D3:Dn K mg "top_over" sTopOver ["f","bottom"] f3 fd3:=⟨T3.fn,PySem.W.mg_of X G T3.ns,T3.fn.binds fun _ _ _ _ _ _ us hl=>match us,hl with | [_,_],_=>rfl⟩
 obtain ⟨f4,fd4,T4⟩:=A4
 have D4:Dn K mg "column_of" sCol ["rows","place"] f4 fd4:=⟨T4.fn,PySem.W.mg_of X G T4.ns,T4.fn.binds fun _ _ _ _ _ _ us hl=>match us,hl with | [_,_],_=>rfl⟩
 obtain ⟨f5,fd5,T5⟩:=A5
 have D5:Dn K mg "columns_of" sCols ["rows"] f5 fd5:=⟨T5.fn,PySem.W.mg_of X G T5.ns,T5.fn.binds fun _ _ _ _ _ _ us hl=>match us,hl with | [_],_=>rfl⟩
 obtain ⟨f6,fd6,T6⟩:=A6
 have D6:Dn K mg "sum_of_products" sDot ["numbers","others"] f6 fd6:=⟨T6.fn,PySem.W.mg_of X G T6.ns,T6.fn.binds fun _ _ _ _ _ _ us hl=>match us,hl with | [_,_],_=>rfl⟩
 obtain ⟨f7,fd7,T7⟩:=A7
 have D7:Dn K mg "sums_with_each" sEach ["numbers","rows"] f7 fd7:=⟨T7.fn,PySem.W.mg_of X G T7.ns,T7.fn.binds fun _ _ _ _ _ _ us hl=>match us,hl with | [_,_],_=>rfl⟩
 obtain ⟨f8,fd8,T8⟩:=A8
 have D8:Dn K mg "product_of_grids" sProd ["rows","others"] f8 fd8:=⟨T8.fn,PySem.W.mg_of X G T8.ns,T8.fn.binds fun _ _ _ _ _ _ us hl=>match us,hl with | [_,_],_=>rfl⟩
 obtain ⟨f9,fd9,T9⟩:=A9
 have D9:Dn K mg "in_one_list" sInOne ["rows"] f9 fd9:=⟨T9.fn,PySem.W.mg_of X G T9.ns,T9.fn.binds fun _ _ _ _ _ _ us hl=>match us,hl with | [_],_=>rfl⟩
 obtain ⟨f10,fd10,T10⟩:=A10
 have D10:Dn K mg "in_square" sInSq ["things","size"] f10 fd10:=⟨T10.fn,PySem.W.mg_of X G T10.ns,T10.fn.binds fun _ _ _ _ _ _ us hl=>match us,hl with | [_,_],_=>rfl⟩
 obtain ⟨f11,fd11,T11⟩:=A11
 have D11:Dn K mg "is_square" sIsSq ["rows","size"] f11 fd11:=⟨T11.fn,PySem.W.mg_of X G T11.ns,T11.fn.binds fun _ _ _ _ _ _ us hl=>match us,hl with | [_,_],_=>rfl⟩
 obtain ⟨f12,fd12,T12⟩:=A12
 have D12:Dn K mg "picked" sPicked ["things","order"] f12 fd12:=⟨T12.fn,PySem.W.mg_of X G T12.ns,T12.fn.binds fun _ _ _ _ _ _ us hl=>match us,hl with | [_,_],_=>rfl⟩
 obtain ⟨f13,fd13,T13⟩:=A13
 have D13:Dn K mg "led_on" sLed ["web","other","begun"] f13 fd13:=⟨T13.fn,PySem.W.mg_of X G T13.ns,T13.fn.binds fun _ _ _ _ _ _ us hl=>match us,hl with | [_,_,_],_=>rfl⟩
 obtain ⟨f14,fd14,T14⟩:=A14
 have D14:Dn K mg "begun_turnings" sBegunT ["web","other"] f14 fd14:=⟨T14.fn,PySem.W.mg_of X G T14.ns,T14.fn.binds fun _ _ _ _ _ _ us hl=>match us,hl with | [_,_],_=>rfl⟩
 obtain ⟨f15,fd15,T15⟩:=A15
 have D15:Dn K mg "next_turning" sNext ["web","other","waiting"] f15 fd15:=⟨T15.fn,PySem.W.mg_of X G T15.ns,T15.fn.binds fun _ _ _ _ _ _ us hl=>match us,hl with | [_,_,_],_=>rfl⟩
 obtain ⟨f16,fd16,T16⟩:=A16
 have D16:Dn K mg "all_turnings" sAllT ["web","other"] f16 fd16:=⟨T16.fn,PySem.W.mg_of X G T16.ns,T16.fn.binds fun _ _ _ _ _ _ us hl=>match us,hl with | [_,_],_=>rfl⟩
 obtain ⟨f17,fd17,T17⟩:=A17
 have D17:Dn K mg "shares_of_place" sShP ["place_there","size"] f17 fd17:=⟨T17.fn,PySem.W.mg_of X G T17.ns,T17.fn.binds fun _ _ _ _ _ _ us hl=>match us,hl with | [_,_],_=>rfl⟩
 obtain ⟨f18,fd18,T18⟩:=A18
 have D18:Dn K mg "table_of_turning" sTabT ["turning"] f18 fd18:=⟨T18.fn,PySem.W.mg_of X G T18.ns,T18.fn.binds fun _ _ _ _ _ _ us hl=>match us,hl with | [_],_=>rfl⟩
 obtain ⟨f19,fd19,T19⟩:=A19
 have D19:Dn K mg "mean_shares" sMeanS ["places_there","size"] f19 fd19:=⟨T19.fn,PySem.W.mg_of X G T19.ns,T19.fn.binds fun _ _ _ _ _ _ us hl=>match us,hl with | [_,_],_=>rfl⟩
 obtain ⟨f20,fd20,T20⟩:=A20
 have D20:Dn K mg "mean_table" sMeanT ["web"] f20 fd20:=⟨T20.fn,PySem.W.mg_of X G T20.ns,T20.fn.binds fun _ _ _ _ _ _ us hl=>match us,hl with | [_],_=>rfl⟩
 obtain ⟨f21,fd21,T21⟩:=A21
 have D21:Dn K mg "numbered" sNumbered ["marks"] f21 fd21:=⟨T21.fn,PySem.W.mg_of X G T21.ns,T21.fn.binds fun _ _ _ _ _ _ us hl=>match us,hl with | [_],_=>rfl⟩
 obtain ⟨f22,fd22,T22⟩:=A22
 have D22:Dn K mg "come_to" sCome ["rows","whole"] f22 fd22:=⟨T22.fn,PySem.W.mg_of X G T22.ns,T22.fn.binds fun _ _ _ _ _ _ us hl=>match us,hl with | [_,_],_=>rfl⟩
 obtain ⟨f23,fd23,T23⟩:=A23
 have D23:Dn K mg "are_shared_out" sShared ["shares","whole"] f23 fd23:=⟨T23.fn,PySem.W.mg_of X G T23.ns,T23.fn.binds fun _ _ _ _ _ _ us hl=>match us,hl with | [_,_],_=>rfl⟩
 obtain ⟨f24,fd24,T24⟩:=A24
 have D24:Dn K mg "keeps_hue" sKeepsHue ["hue","hues_there","shares"] f24 fd24:=⟨T24.fn,PySem.W.mg_of X G T24.ns,T24.fn.binds fun _ _ _ _ _ _ us hl=>match us,hl with | [_,_,_],_=>rfl⟩
 obtain ⟨f25,fd25,T25⟩:=A25
 have D25:Dn K mg "keep_hues" sKeepHues ["hues","hues_there","shares"] f25 fd25:=⟨T25.fn,PySem.W.mg_of X G T25.ns,T25.fn.binds fun _ _ _ _ _ _ us hl=>match us,hl with | [_,_,_],_=>rfl⟩
 obtain ⟨f26,fd26,T26⟩:=A26
 have D26:Dn K mg "goes_through" sGoes ["web","other","table"] f26 fd26:=⟨T26.fn,PySem.W.mg_of X G T26.ns,T26.fn.binds fun _ _ _ _ _ _ us hl=>match us,hl with | [_,_,_],_=>rfl⟩
 obtain ⟨f27,fd27,T27⟩:=A27
 have D27:Dn K mg "merged" sMerged ["marks","mark","other"] f27 fd27:=⟨T27.fn,PySem.W.mg_of X G T27.ns,T27.fn.binds fun _ _ _ _ _ _ us hl=>match us,hl with | [_,_,_],_=>rfl⟩
 obtain ⟨f28,fd28,T28⟩:=A28
 have D28:Dn K mg "lots_of" sLotsOf ["table"] f28 fd28:=⟨T28.fn,PySem.W.mg_of X G T28.ns,T28.fn.binds fun _ _ _ _ _ _ us hl=>match us,hl with | [_],_=>rfl⟩
 obtain ⟨f29,fd29,T29⟩:=A29
 have D29:Dn K mg "_law_cell_at" sCellAt ["_law_script","_law_k"] f29 fd29:=⟨T29.fn,PySem.W.mg_of X G T29.ns,T29.fn.binds fun _ _ _ _ _ _ us hl=>match us,hl with | [_,_],_=>rfl⟩
 obtain ⟨f30,fd30,T30⟩:=A30
 have D30:Dn K mg "_law_whole" sWhole ["_law_found"] f30 fd30:=⟨T30.fn,PySem.W.mg_of X G T30.ns,T30.fn.binds fun _ _ _ _ _ _ us hl=>match us,hl with | [_],_=>rfl⟩
 obtain ⟨f31,fd31,T31⟩:=A31
 have D31:Dn K mg "_law_mix" sMix ["_law_cell","_law_k"] f31 fd31:=⟨T31.fn,PySem.W.mg_of X G T31.ns,T31.fn.binds fun _ _ _ _ _ _ us hl=>match us,hl with | [_,_],_=>rfl⟩
 obtain ⟨f32,fd32,T32⟩:=A32
 have D32:Dn K mg "_law_begun" sBegun ["_law_cell"] f32 fd32:=⟨T32.fn,PySem.W.mg_of X G T32.ns,T32.fn.binds fun _ _ _ _ _ _ us hl=>match us,hl with | [_],_=>rfl⟩
 obtain ⟨f33,fd33,T33⟩:=A33
 have D33:Dn K mg "_law_take" sTake ["_law_draw","_law_most"] f33 fd33:=⟨T33.fn,PySem.W.mg_of X G T33.ns,T33.fn.binds fun _ _ _ _ _ _ us hl=>match us,hl with | [_,_],_=>rfl⟩
 obtain ⟨f34,fd34,T34⟩:=A34
 have D34:Dn K mg "_law_weight" sWeight ["_law_draw","_law_way"] f34 fd34:=⟨T34.fn,PySem.W.mg_of X G T34.ns,T34.fn.binds fun _ _ _ _ _ _ us hl=>match us,hl with | [_,_],_=>rfl⟩
 obtain ⟨f35,fd35,T35⟩:=A35
 have D35:Dn K mg "_law_web" sWeb ["_law_draw","_law_most"] f35 fd35:=⟨T35.fn,PySem.W.mg_of X G T35.ns,T35.fn.binds fun _ _ _ _ _ _ us hl=>match us,hl with | [_,_],_=>rfl⟩
 obtain ⟨f36,fd36,T36⟩:=A36
 have D36:Dn K mg "_law_divisor" sDiv ["_law_one","_law_other"] f36 fd36:=⟨T36.fn,PySem.W.mg_of X G T36.ns,T36.fn.binds fun _ _ _ _ _ _ us hl=>match us,hl with | [_,_],_=>rfl⟩
 obtain ⟨f37,fd37,T37⟩:=A37
 have D37:Dn K mg "_law_is_fraction" sIsFr ["_law_found"] f37 fd37:=⟨T37.fn,PySem.W.mg_of X G T37.ns,T37.fn.binds fun _ _ _ _ _ _ us hl=>match us,hl with | [_],_=>rfl⟩
 obtain ⟨f38,fd38,T38⟩:=A38
 have D38:Dn K mg "_law_lowest" sLow ["_law_top","_law_bottom"] f38 fd38:=⟨T38.fn,PySem.W.mg_of X G T38.ns,T38.fn.binds fun _ _ _ _ _ _ us hl=>match us,hl with | [_,_],_=>rfl⟩
 obtain ⟨f39,fd39,T39⟩:=A39
 have D39:Dn K mg "_law_order" sOrder ["_law_draw","_law_many"] f39 fd39:=⟨T39.fn,PySem.W.mg_of X G T39.ns,T39.fn.binds fun _ _ _ _ _ _ us hl=>match us,hl with | [_,_],_=>rfl⟩
 obtain ⟨f40,fd40,T40⟩:=A40
 have D40:Dn K mg "_law_renamed" sRenamed ["_law_web_here","_law_order_here"] f40 fd40:=⟨T40.fn,PySem.W.mg_of X G T40.ns,T40.fn.binds fun _ _ _ _ _ _ us hl=>match us,hl with | [_,_],_=>rfl⟩
 obtain ⟨f41,fd41,T41⟩:=A41
 have D41:Dn K mg "_law_lift" sLift ["_law_draw","_law_web_here"] f41 fd41:=⟨T41.fn,PySem.W.mg_of X G T41.ns,T41.fn.binds fun _ _ _ _ _ _ us hl=>match us,hl with | [_,_],_=>rfl⟩
 obtain ⟨f42,fd42,T42⟩:=A42
 have D42:Dn K mg "_law_second" sSecond ["_law_draw","_law_web_here","_law_most"] f42 fd42:=⟨T42.fn,PySem.W.mg_of X G T42.ns,T42.fn.binds fun _ _ _ _ _ _ us hl=>match us,hl with | [_,_,_],_=>rfl⟩
 obtain ⟨f43,fd43,T43⟩:=A43
 have D43:Dn K mg "_law_both" sBoth ["_law_draw","_law_most"] f43 fd43:=⟨T43.fn,PySem.W.mg_of X G T43.ns,T43.fn.binds fun _ _ _ _ _ _ us hl=>match us,hl with | [_,_],_=>rfl⟩
 obtain ⟨f44,fd44,T44⟩:=A44
 have D44:Dn K mg "_law_orders" sOrders ["_law_many"] f44 fd44:=⟨T44.fn,PySem.W.mg_of X G T44.ns,T44.fn.binds fun _ _ _ _ _ _ us hl=>match us,hl with | [_],_=>rfl⟩
 obtain ⟨f45,fd45,T45⟩:=A45
 have D45:Dn K mg "_law_turns" sTurns ["_law_web_here","_law_other","_law_order_here"] f45 fd45:=⟨T45.fn,PySem.W.mg_of X G T45.ns,T45.fn.binds fun _ _ _ _ _ _ us hl=>match us,hl with | [_,_,_],_=>rfl⟩
 obtain ⟨f46,fd46,T46⟩:=A46
 have D46:Dn K mg "_law_counts" sCounts ["_law_web_here"] f46 fd46:=⟨T46.fn,PySem.W.mg_of X G T46.ns,T46.fn.binds fun _ _ _ _ _ _ us hl=>match us,hl with | [_],_=>rfl⟩
 obtain ⟨f47,fd47,T47⟩:=A47
 have D47:Dn K mg "_law_lots" sLLots ["_law_table"] f47 fd47:=⟨T47.fn,PySem.W.mg_of X G T47.ns,T47.fn.binds fun _ _ _ _ _ _ us hl=>match us,hl with | [_],_=>rfl⟩
 obtain ⟨f48,fd48,T48⟩:=A48
 have D48:Dn K mg "_law_mean" sMean ["_law_web_here"] f48 fd48:=⟨T48.fn,PySem.W.mg_of X G T48.ns,T48.fn.binds fun _ _ _ _ _ _ us hl=>match us,hl with | [_],_=>rfl⟩
 obtain ⟨f49,fd49,T49⟩:=A49
 have D49:Dn K mg "_law_tables" sTables ["_law_web_here","_law_other"] f49 fd49:=⟨T49.fn,PySem.W.mg_of X G T49.ns,T49.fn.binds fun _ _ _ _ _ _ us hl=>match us,hl with | [_,_],_=>rfl⟩
 obtain ⟨f50,fd50,T50⟩:=A50
 have D50:Dn K mg "_law_six" sSix ["_law_draw"] f50 fd50:=⟨T50.fn,PySem.W.mg_of X G T50.ns,T50.fn.binds fun _ _ _ _ _ _ us hl=>match us,hl with | [_],_=>rfl⟩
 have FL:=fun_mk (st:=sLaw) lL cL kL
 have BT:BltT mg:=⟨PySem.W.mg_none_of X G z_range,PySem.W.mg_none_of X G z_list,PySem.W.mg_none_of X G z_len,PySem.W.mg_none_of X G z_int,PySem.W.mg_none_of X G z_bool,PySem.W.mg_none_of X G z_sorted,PySem.W.mg_none_of X G z_isinstance,PySem.W.mg_none_of X G z_enumerate⟩
 have BW:BltW mg:=⟨PySem.W.mg_none_of X G z_range,PySem.W.mg_none_of X G z_int⟩
 have BF:BltF mg:=⟨PySem.W.mg_none_of X G z_abs,PySem.W.mg_none_of X G z_len,PySem.W.mg_none_of X G z_isinstance,PySem.W.mg_none_of X G z_int,PySem.W.mg_none_of X G z_bool,PySem.W.mg_none_of X G z_tuple,PySem.W.mg_none_of X G z_list,PySem.W.mg_none_of X G z_range⟩
 have BR:BltR mg:=⟨PySem.W.mg_none_of X G z_abs,PySem.W.mg_none_of X G z_len,PySem.W.mg_none_of X G z_sum,PySem.W.mg_none_of X G z_zip,PySem.W.mg_none_of X G z_range,PySem.W.mg_none_of X G z_enumerate,PySem.W.mg_none_of X G z_isinstance,PySem.W.mg_none_of X G z_ValueError,PySem.W.mg_none_of X G z_int,PySem.W.mg_none_of X G z_bool,PySem.W.mg_none_of X G z_list,PySem.W.mg_none_of X G z_tuple⟩
 have BG:BltG mg:=⟨PySem.W.mg_none_of X G z_len,PySem.W.mg_none_of X G z_sum,PySem.W.mg_none_of X G z_zip,PySem.W.mg_none_of X G z_range,PySem.W.mg_none_of X G z_all⟩
 have BP:BltP mg:=⟨PySem.W.mg_none_of X G z_len,PySem.W.mg_none_of X G z_zip,PySem.W.mg_none_of X G z_list,PySem.W.mg_none_of X G z_tuple⟩
 refine ⟨PySem.W.fnOf "law" "law" (defArgs sLaw) (defBody sLaw) (defScope sLaw) .none kV doc pm an cdv ct,fun s v=>.of_eq rfl,fun base _ _=>?_⟩
 have GGd:=ok_gd (P:=l.prog) (w:=w) (base:=base) BR D0.fn
 have GFr:=ok_fr BR D1.fn D0 GGd
 have GBo:=ok_bottom D2.fn D0 GGd
 have GTp:=ok_topOver (P:=l.prog) (w:=w) (base:=base) (mg:=mg) D3.fn
 have GCl:=ok_col (P:=l.prog) (w:=w) (base:=base) (mg:=mg) D4.fn
 have GCs:=ok_cols BR D5.fn D4 GCl
 have GDo:=ok_dot (P:=l.prog) (w:=w) (base:=base) BR D6.fn
 have GEa:=ok_eachG D7.fn D6 GDo
 have GPg:=ok_prod D8.fn D5 GCs D7 GEa
 have GIo:=ok_inOne (P:=l.prog) (w:=w) (base:=base) (mg:=mg) D9.fn
 have GSq:=ok_inSq (P:=l.prog) (w:=w) (base:=base) BR D10.fn
 have GIs:=ok_isSq (P:=l.prog) (w:=w) (base:=base) BG D11.fn
 have GP:=ok_picked (P:=l.prog) (w:=w) (base:=base) (mg:=mg) D12.fn
 have GL:=ok_led BT D13.fn D12 GP
 have GBT:=ok_begunT (P:=l.prog) (w:=w) (base:=base) BT D14.fn
 have GN:=ok_next BT D15.fn D13 GL
 have GA:=ok_allT D16.fn D14 GBT D15 GN
 have GSP:=ok_shP (P:=l.prog) (w:=w) (base:=base) BR D17.fn
 have GTT:=ok_tabT BR D18.fn D17 GSP
 have GMS:=ok_meanS BR D19.fn D1 GFr
 have GMT:=ok_meanT BR D20.fn D16 GA D4 GCl D19 GMS
 have GNI:=ok_numI (P:=l.prog) (w:=w) (base:=base) BP D21.fn
 have GCm:=ok_come (P:=l.prog) (w:=w) (base:=base) BG D22.fn
 have GSh:=ok_shared D23.fn D9 GIo D22 GCm D5 GCs
 have GKh:=ok_keepsHue (P:=l.prog) (w:=w) (base:=base) BG D24.fn
 have GKe:=ok_keepHues BG D25.fn D24 GKh
 have GGo:=ok_goes BG D26.fn D11 GIs D9 GIo D2 GBo D3 GTp D10 GSq D23 GSh D25 GKe D8 GPg
 have GMe:=ok_merged (P:=l.prog) (w:=w) (base:=base) (mg:=mg) D27.fn
 have GLO:=ok_lotsOf BR D28.fn D5 GCs D27 GMe D21 GNI
 have GC:=ok_cell (P:=l.prog) (w:=w) (base:=base) BT D29.fn
 have GB:=ok_begun (P:=l.prog) (w:=w) (base:=base) (mg:=mg) D32.fn
 have GT:=ok_take (P:=l.prog) (w:=w) (base:=base) D33.fn D31
 have GWe:=ok_weight D34.fn D33 GT
 have GW:=ok_web BW D35.fn D33 GT D34 GWe
 have GIF:=ok_isf (P:=l.prog) (w:=w) (base:=base) BF D37.fn D30 D36
 have GLw:=ok_low (P:=l.prog) (w:=w) (base:=base) BF D38.fn D36
 have GO:=ok_order BT D39.fn D33 GT
 have GR:=ok_lren (P:=l.prog) (w:=w) (base:=base) (mg:=mg) D40.fn
 have GLi:=ok_lift BT D41.fn D33 GT
 have GS:=ok_second BT D42.fn D33 GT D39 GO D40 GR D35 GW
 have GBh:=ok_both D43.fn D33 GT D41 GLi D42 GS D35 GW
 have GOs:=ok_orders (P:=l.prog) (w:=w) (base:=base) BT D44.fn
 have GU:=ok_turns (P:=l.prog) (w:=w) (base:=base) BT D45.fn
 have GCo:=ok_counts BT D46.fn D44 GOs D45 GU D38 GLw
 have GLL:=ok_ll (P:=l.prog) (w:=w) (base:=base) BR (PySem.W.mg_none_of X G z_max) D47.fn
 have GM:=ok_mean BR D48.fn D46 GCo D20 GMT D26 GGo D37 GIF D28 GLO D47 GLL
 have GTb:=ok_tables BR D49.fn D16 GA D18 GTT D26 GGo
 have GSx:=ok_six BT D50.fn D33 GT D39 GO D40 GR
 exact ok_law FL D29 GC D32 GB D43 GBh D48 GM D49 GTb D50 GSx D20 GMT D18 GTT
theorem walk {l:PySem.W.OpenLaw} {q:Program} {loose:List Str} {XP:(Str→Option Value)→Heap→Prop} {YP:World→Heap→Prop} {d:DefRec} {K:Params→PySem.W.Frag} (hn:l.most=some 63) (hdf:d.params.defaults=[])
  (hY:∀ (w:World) (h:Heap),YP w h→(K w.params).In h)
  (F:∀ (w:World) (mg:Str→Option Value) (fa:Addr) (h:Heap),(K w.params).In h→h.Ns mainGlobals mg→mg d.name=some (.ref fa) →
   ∃ fd:FuncData,(∀ (s:Shared) (u:Value),BindsTo s fd ⟨[u],[]⟩ [("_law_script",u)])∧∀ base:Heap,(K w.params).In base→base.Ns mainGlobals mg→FnOk l.prog w (K w.params) mg base CX0 7 fa fd ["_law_script"] (spLaw (K w.params))) :
  PySem.W.WalkO q loose XP YP l.row.toRowW d [] (fun f vs=>PySem.call f vs) :=
 L2.walk_of (n:=63) (k:=7) (x:="_law_script") (CX:=fun _=>CX0) (sp:=fun w=>spLaw (K w.params)) hn (by decide) hdf ⟨rfl,by decide,by decide,rfl⟩ hY F (fun _ _ a ns hl _ hS=>⟨a,ns,rfl,hS,hl,fun _=>rfl⟩) fun _ _ _ _ _ z=>z
end My
open PySem PySem.W PyProof.Rows
namespace PySem.W.Fast
def tw3181407423936338987:=()
def tw8254860345537334013:=()
def tw14542115400800400984:=()
def tw540075558718663703:=()
def tw1547909026544727464:=()
def tw6008256039089719358:=()
def tw11043844037302242028:=()
def tw3213348312597051746:=()
def tw11556769213891154225:=()
def tw4318472574616490947:=()
def tw7596714007312086984:=()
def tw650096446524050905:=()
def tw8307586293932455659:=()
def tw14715631102508527292:=()
def tw18367628516485765362:=()
def tw3567981324802175555:=()
def tw14461794966068915070:=()
def tw3184952810214636278:=()
def tw14227968885041098998:=()
def tw679578943848208929:=()
def tw6527831710261263619:=()
def tw5862810437605840631:=()
def tw3451282015511519857:=()
def tw8800644187062376347:=()
def tw16819767659607892910:=()
def tw517349399046922033:=()
def tw15000173718052103571:=()
def tw945094406457997915:=()
def tw5114940753743493539:=()
def tw13844521001064627714:=()
def tw14793539886978304623:=()
def tw14304962798453547638:=()
def tw17265819265153599258:=()
def tw3703462107875690647:=()
def tw6586533485285470469:=()
def tw17396487529316918135:=()
def tw5178406274620681574:=()
def tw11083121186808358208:=()
def tw1475532671806723662:=()
def tw12392862510991905101:=()
def tw18335406180043403041:=()
def tw819931250639610785:=()
def tw5127882587164970490:=()
def tw17030565018428889497:=()
def tw12604344100040070166:=()
def tw1147397632755130248:=()
def tw1791358348555323385:=()
def tw12173018641276197966:=()
def tw8386127186340299105:=()
def tw11894246270581296330:=()
def tw3574052587493971069:=()
def tw5125369898481129628:=()
def tw15935368651818197902:=()
def tw17567140773164837563:=()
def tw1933567305820245237:=()
def tw7802174168758372389:=()
def tw3634218061852974331:=()
def tw2639425949965495708:=()
def tw6959723943644227432:=()
def tw4599907061134039163:=()
def tw4043295699017230588:=()
def tw11687702017086085949:=()
def tw7960447255913589906:=()
def tw1754583804645778287:=()
def tw5375682169197321494:=()
def tw2363952841048719618:=()
def tw14653000494645945856:=()
def tw8156364801401786545:=()
def tw8269556945495638312:=()
def tw6307120397447112937:=()
def tw5634578502966767716:=()
def tw7072234486979534948:=()
def tw10078220369957126542:=()
def tw11923015588391158569:=()
def tw11298059296922741493:=()
end PySem.W.Fast
set_option maxRecDepth 100000 in
set_option maxHeartbeats 0 in
theorem PySem.Challenge.cw_evenkin_k87_tables_of_turnings_holds : PySem.Challenge.rw_evenkin_k87_tables_of_turnings.Holds := by
  w_on; o_law; k_head; (case hw => w_witness2)
  k_fill
  refine My.walk (l := PySem.Challenge.rw_evenkin_k87_tables_of_turnings) rfl rfl (fun w h Y => PySem.W.kIn_of Y) ?F
  case F =>
    intro w mg fa h KX G hmg
    refine' My.all_mk KX G hmg (My.at_mk ?a0 ?l0 ?c0 ?k0) (My.at_mk ?a1 ?l1 ?c1 ?k1) (My.at_mk ?a2 ?l2 ?c2 ?k2) (My.at_mk ?a3 ?l3 ?c3 ?k3) (My.at_mk ?a4 ?l4 ?c4 ?k4) (My.at_mk ?a5 ?l5 ?c5 ?k5) (My.at_mk ?a6 ?l6 ?c6 ?k6) (My.at_mk ?a7 ?l7 ?c7 ?k7) (My.at_mk ?a8 ?l8 ?c8 ?k8) (My.at_mk ?a9 ?l9 ?c9 ?k9) (My.at_mk ?a10 ?l10 ?c10 ?k10) (My.at_mk ?a11 ?l11 ?c11 ?k11) (My.at_mk ?a12 ?l12 ?c12 ?k12) (My.at_mk ?a13 ?l13 ?c13 ?k13) (My.at_mk ?a14 ?l14 ?c14 ?k14) (My.at_mk ?a15 ?l15 ?c15 ?k15) (My.at_mk ?a16 ?l16 ?c16 ?k16) (My.at_mk ?a17 ?l17 ?c17 ?k17) (My.at_mk ?a18 ?l18 ?c18 ?k18) (My.at_mk ?a19 ?l19 ?c19 ?k19) (My.at_mk ?a20 ?l20 ?c20 ?k20) (My.at_mk ?a21 ?l21 ?c21 ?k21) (My.at_mk ?a22 ?l22 ?c22 ?k22) (My.at_mk ?a23 ?l23 ?c23 ?k23) (My.at_mk ?a24 ?l24 ?c24 ?k24) (My.at_mk ?a25 ?l25 ?c25 ?k25) (My.at_mk ?a26 ?l26 ?c26 ?k26) (My.at_mk ?a27 ?l27 ?c27 ?k27) (My.at_mk ?a28 ?l28 ?c28 ?k28) (My.at_mk ?a29 ?l29 ?c29 ?k29) (My.at_mk ?a30 ?l30 ?c30 ?k30) (My.at_mk ?a31 ?l31 ?c31 ?k31) (My.at_mk ?a32 ?l32 ?c32 ?k32) (My.at_mk ?a33 ?l33 ?c33 ?k33) (My.at_mk ?a34 ?l34 ?c34 ?k34) (My.at_mk ?a35 ?l35 ?c35 ?k35) (My.at_mk ?a36 ?l36 ?c36 ?k36) (My.at_mk ?a37 ?l37 ?c37 ?k37) (My.at_mk ?a38 ?l38 ?c38 ?k38) (My.at_mk ?a39 ?l39 ?c39 ?k39) (My.at_mk ?a40 ?l40 ?c40 ?k40) (My.at_mk ?a41 ?l41 ?c41 ?k41) (My.at_mk ?a42 ?l42 ?c42 ?k42) (My.at_mk ?a43 ?l43 ?c43 ?k43) (My.at_mk ?a44 ?l44 ?c44 ?k44) (My.at_mk ?a45 ?l45 ?c45 ?k45) (My.at_mk ?a46 ?l46 ?c46 ?k46) (My.at_mk ?a47 ?l47 ?c47 ?k47) (My.at_mk ?a48 ?l48 ?c48 ?k48) (My.at_mk ?a49 ?l49 ?c49 ?k49) (My.at_mk ?a50 ?l50 ?c50 ?k50) ?aL ?lL ?cL ?kL ?z_len ?z_range ?z_int ?z_sorted ?z_enumerate ?z_sum ?z_zip ?z_list ?z_isinstance ?z_bool ?z_max ?z_abs ?z_all ?z_ValueError ?z_tuple
    (case a0 => k_is); (case l0 => k_is); (case c0 => k_is); (case k0 => k_is)
    (case a1 => k_is); (case l1 => k_is); (case c1 => k_is); (case k1 => k_is)
    (case a2 => k_is); (case l2 => k_is); (case c2 => k_is); (case k2 => k_is)
    (case a3 => k_is); (case l3 => k_is); (case c3 => k_is); (case k3 => k_is)
    (case a4 => k_is); (case l4 => k_is); (case c4 => k_is); (case k4 => k_is)
    (case a5 => k_is); (case l5 => k_is); (case c5 => k_is); (case k5 => k_is)
    (case a6 => k_is); (case l6 => k_is); (case c6 => k_is); (case k6 => k_is)
    (case a7 => k_is); (case l7 => k_is); (case c7 => k_is); (case k7 => k_is)
    (case a8 => k_is); (case l8 => k_is); (case c8 => k_is); (case k8 => k_is)
    (case a9 => k_is); (case l9 => k_is); (case c9 => k_is); (case k9 => k_is)
    (case a10 => k_is); (case l10 => k_is); (case c10 => k_is); (case k10 => k_is)
    (case a11 => k_is); (case l11 => k_is); (case c11 => k_is); (case k11 => k_is)
    (case a12 => k_is); (case l12 => k_is); (case c12 => k_is); (case k12 => k_is)
    (case a13 => k_is); (case l13 => k_is); (case c13 => k_is); (case k13 => k_is)
    (case a14 => k_is); (case l14 => k_is); (case c14 => k_is); (case k14 => k_is)
    (case a15 => k_is); (case l15 => k_is); (case c15 => k_is); (case k15 => k_is)
    (case a16 => k_is); (case l16 => k_is); (case c16 => k_is); (case k16 => k_is)
    (case a17 => k_is); (case l17 => k_is); (case c17 => k_is); (case k17 => k_is)
    (case a18 => k_is); (case l18 => k_is); (case c18 => k_is); (case k18 => k_is)
    (case a19 => k_is); (case l19 => k_is); (case c19 => k_is); (case k19 => k_is)
    (case a20 => k_is); (case l20 => k_is); (case c20 => k_is); (case k20 => k_is)
    (case a21 => k_is); (case l21 => k_is); (case c21 => k_is); (case k21 => k_is)
    (case a22 => k_is); (case l22 => k_is); (case c22 => k_is); (case k22 => k_is)
    (case a23 => k_is); (case l23 => k_is); (case c23 => k_is); (case k23 => k_is)
    (case a24 => k_is); (case l24 => k_is); (case c24 => k_is); (case k24 => k_is)
    (case a25 => k_is); (case l25 => k_is); (case c25 => k_is); (case k25 => k_is)
    (case a26 => k_is); (case l26 => k_is); (case c26 => k_is); (case k26 => k_is)
    (case a27 => k_is); (case l27 => k_is); (case c27 => k_is); (case k27 => k_is)
    (case a28 => k_is); (case l28 => k_is); (case c28 => k_is); (case k28 => k_is)
    (case a29 => k_is); (case l29 => k_is); (case c29 => k_is); (case k29 => k_is)
    (case a30 => k_is); (case l30 => k_is); (case c30 => k_is); (case k30 => k_is)
    (case a31 => k_is); (case l31 => k_is); (case c31 => k_is); (case k31 => k_is)
    (case a32 => k_is); (case l32 => k_is); (case c32 => k_is); (case k32 => k_is)
    (case a33 => k_is); (case l33 => k_is); (case c33 => k_is); (case k33 => k_is)
    (case a34 => k_is); (case l34 => k_is); (case c34 => k_is); (case k34 => k_is)
    (case a35 => k_is); (case l35 => k_is); (case c35 => k_is); (case k35 => k_is)
    (case a36 => k_is); (case l36 => k_is); (case c36 => k_is); (case k36 => k_is)
    (case a37 => k_is); (case l37 => k_is); (case c37 => k_is); (case k37 => k_is)
    (case a38 => k_is); (case l38 => k_is); (case c38 => k_is); (case k38 => k_is)
    (case a39 => k_is); (case l39 => k_is); (case c39 => k_is); (case k39 => k_is)
    (case a40 => k_is); (case l40 => k_is); (case c40 => k_is); (case k40 => k_is)
    (case a41 => k_is); (case l41 => k_is); (case c41 => k_is); (case k41 => k_is)
    (case a42 => k_is); (case l42 => k_is); (case c42 => k_is); (case k42 => k_is)
    (case a43 => k_is); (case l43 => k_is); (case c43 => k_is); (case k43 => k_is)
    (case a44 => k_is); (case l44 => k_is); (case c44 => k_is); (case k44 => k_is)
    (case a45 => k_is); (case l45 => k_is); (case c45 => k_is); (case k45 => k_is)
    (case a46 => k_is); (case l46 => k_is); (case c46 => k_is); (case k46 => k_is)
    (case a47 => k_is); (case l47 => k_is); (case c47 => k_is); (case k47 => k_is)
    (case a48 => k_is); (case l48 => k_is); (case c48 => k_is); (case k48 => k_is)
    (case a49 => k_is); (case l49 => k_is); (case c49 => k_is); (case k49 => k_is)
    (case a50 => k_is); (case l50 => k_is); (case c50 => k_is); (case k50 => k_is)
    (case aL => k_is); (case lL => k_is); (case cL => k_is); (case kL => k_is)
    (case z_len => k_is); (case z_range => k_is); (case z_int => k_is); (case z_sorted => k_is); (case z_enumerate => k_is); (case z_sum => k_is); (case z_zip => k_is); (case z_list => k_is); (case z_isinstance => k_is); (case z_bool => k_is); (case z_max => k_is); (case z_abs => k_is); (case z_all => k_is); (case z_ValueError => k_is); (case z_tuple => k_is)
