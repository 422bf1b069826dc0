import PyProof.Rows.All
import Wide.All
import OpenK.AllK
import Wide.FinOn
import Lean
import PyProof.EqAt
import PyProof.EqKinds
import PyProof.TupleCall
import KE.KSortTup
import KE.KSortAsk
import PyProof.Rows.Digits
import OpenK.KOwn
import PySem.Challenge.RW_evenkin_k82_papers_of_pairs_looked_at
set_option Elab.async false
set_option linter.all false
set_option maxRecDepth 100000
section
open PySem
abbrev LA:=List (List Int)
abbrev LC:=List (Int × Int)
abbrev LD:=List (Addr × Obj)
abbrev LF:=List Int
abbrev LH:=List Value
abbrev LI:=List Addr
abbrev LJ:=List Nat
abbrev LK:=List Str
abbrev LL:=List Expr
abbrev LM:=PySem.W.Frag
abbrev LN:=Value→Shared→Prop
abbrev LO:=Str→Option Value
abbrev LR:=Option Addr
abbrev LU:=Array Value
abbrev LV:=Option Value
abbrev LW:=List PyData
end
section
open PySem PySem.Spec PyProof.Rows
abbrev aa:=@List.length_map
abbrev ae:=@List.mem_of_getElem?
abbrev af:=@wpAny_bind
abbrev ai:=@List.length_append
abbrev ak:=@Heap.get?_push_of_some
abbrev aq:=@List.getElem?_map
abbrev au:=@Nat.le_refl
abbrev aw:=@List.mem_singleton
abbrev ax:=@List.getElem?_eq_getElem
abbrev aA:=@wpAny_pure
abbrev aC:=@List.mem_cons_of_mem
abbrev aE:=@Nat.le_trans
abbrev aF:=@PySem.W.mg_none_of
abbrev aH:=@Nat.lt_of_lt_of_le
abbrev aI:=@List.size_toArray
abbrev aK:=@List.mem_cons_self
abbrev aM:=@List.map_append
abbrev aN:=@List.getElem?_eq_some_iff
abbrev aP:=@List.mem_iff_getElem?
abbrev aQ:=@List.mem_cons
abbrev aR:=@List.getD_eq_getElem?_getD
abbrev aS:=@List.map_cons
abbrev aV:=@List.getElem?_append_right
abbrev aW:=@Option.some.inj
abbrev aX:=@Heap.lt_size
abbrev aZ:=@Nat.zero_le
abbrev ba:=@Bool.false_ne_true
abbrev bc:=@Int.eq_ofNat_of_zero_le
abbrev be:=@List.getElem?_append_left
abbrev bg:=@List.mem_map
abbrev bp:=@PySem.F.plainAttrs_list
abbrev bq:=@List.length_cons
abbrev br:=@Heap.get?_push_size
abbrev bu:=@List.mem_append
abbrev bA:=@List.mem_append_right
abbrev bB:=@List.length_take
abbrev bC:=@Int.toNat_natCast
abbrev bE:=@PySem.boot_len
abbrev bH:=@decide_eq_false
abbrev bN:=@PySem.F.type_list_append
abbrev bO:=@PySem.F.slot_list_append
abbrev bP:=@Nat.mul_le_mul
abbrev bR:=@Rat.intCast_mul
abbrev bU:=@Nat.lt_of_le_of_lt
abbrev bV:=@List.flatten_cons
abbrev bZ:=@Nat.ne_of_lt
abbrev b9:=@List.length_range
abbrev cc:=@Option.map_eq_some_iff
abbrev cf:=@Nat.le_of_lt
abbrev cg:=@List.length_zipWith
abbrev ck:=@Bool.and_self
abbrev cn:=@decide_eq_true
abbrev cp:=@Int.emod_lt_of_pos
abbrev cu:=@List.map_map
abbrev cx:=@List.length_singleton
abbrev cy:=@decide_eq_true_iff
abbrev cB:=@Int.emod_nonneg
abbrev cD:=@List.getElem?_range
abbrev cF:=@List.take_length
abbrev cG:=@Bool.and_eq_true
abbrev cH:=@Nat.pow_le_pow_right
abbrev cO:=@List.length_replicate
abbrev cP:=@List.getElem?_eq_none
abbrev cQ:=@List.replicate_succ
abbrev cR:=@List.length_set
abbrev cS:=@Nat.le_add_right
abbrev cW:=@List.mem_append_left
abbrev cZ:=@Int.gcd_pos_of_ne_zero_right
abbrev de:=@Nat.lt_irrefl
abbrev df:=@List.length_drop
abbrev du:=@wpAny_mono
abbrev dw:=@Heap.size_push
abbrev dz:=@List.nodup_cons
abbrev dC:=@Nat.ne_of_gt
abbrev dE:=@List.take_of_length_le
abbrev dF:=@List.lookup_cons
abbrev dG:=@List.getElem?_set_self
abbrev dM:=@List.getElem?_zip_eq_some
abbrev dN:=@List.map_congr_left
abbrev dR:=@wpAny_holding
abbrev dX:=@List.mem_range
abbrev d5:=@PySem.W.kia_one
abbrev d6:=@Nat.min_eq_left
abbrev d8:=@wpAny_field
abbrev eg:=@List.getElem?_set_ne
abbrev eA:=@List.getElem?_replicate
abbrev eE:=@PyProof.Rows.callWith_type1
abbrev eP:=@List.nodup_nil
abbrev eQ:=@List.map_nil
abbrev eY:=@PySem.mem_of_lookup
abbrev fe:=@List.append_nil
abbrev ff:=@List.mem_or_eq_of_mem_set
abbrev fj:=@List.take_append_drop
abbrev fm:=@wpAny_call_entry
abbrev fU:=@Option.isSome_iff_exists
abbrev fX:=@List.getElem?_take_of_lt
abbrev gc:=@List.mem_of_mem_take
abbrev gi:=@Int.gcd_dvd_right
abbrev gn:=@List.range_succ
abbrev gq:=@List.flatten_append
abbrev gs:=@Nat.mul_comm
abbrev gu:=@Nat.le_succ
abbrev gw:=@Int.mul_pos
abbrev gD:=@Int.mul_nonpos_of_nonneg_of_nonpos
abbrev gK:=@Bool.eq_iff_iff
abbrev gL:=@wpAny_newObj_type
abbrev gM:=@List.nodup_append
abbrev gQ:=@wpAny_comprehension_free
abbrev gW:=@List.sum_cons
abbrev g9:=@Nat.mul_le_mul_left
abbrev hJ:=@wpAny_callSpecial?_slot
abbrev ie:=@wpAny_setField_rec
abbrev ik:=@Nat.succ_mul
abbrev il:=@Nat.sub_self
abbrev im:=@List.map_set
abbrev io:=@Int.zero_add
abbrev ip:=@Heap.get?_update_other
abbrev iq:=@Bool.false_eq_true
abbrev iw:=@wpAny_passesOwn
abbrev iB:=@Rat.intCast_one
abbrev iF:=@List.any_cons
abbrev iH:=@List.set_append_right
abbrev iJ:=@wpAny_truthy_bool
abbrev iL:=@List.foldl_append
abbrev iY:=@wpAny_seqItems
abbrev jd:=@Int.gcd_dvd_left
abbrev jr:=@Nat.add_left_cancel
abbrev js:=@Array.length_toList
abbrev jy:=@List.idxOf_lt_length_iff
abbrev jz:=@List.eq_of_mem_replicate
abbrev jB:=@List.idxOf_cons
abbrev jC:=@List.forIn_cons
abbrev jD:=@List.find?_cons
abbrev jE:=@wpAny_Call_Name_kw
abbrev jX:=@wpAny_nextOf_list_item
abbrev j9:=@Heap.get?_update_of_ne
abbrev kc:=@Bool.eq_false_iff
abbrev kz:=@Heap.get?_update_self
abbrev kZ:=@Option.getD_some
abbrev k8:=@List.not_mem_nil
abbrev k9:=@List.mem_flatten
abbrev lq:=@List.flatten_nil
abbrev lA:=@Int.mul_le_mul_of_nonneg_right
abbrev mw:=@List.mem_of_mem_drop
abbrev mH:=@Option.map_some
abbrev mI:=@Nat.div_add_mod
abbrev mJ:=@Nat.add_lt_add_left
abbrev mY:=@Nat.mul_succ
abbrev m6:=@Int.ofNat_lt
abbrev m9:=@Bool.or_self
abbrev nM:=@wpAny_rule
abbrev nQ:=@if_false
abbrev nU:=@Nat.mod_lt
abbrev nV:=@Nat.eq_zero_or_pos
abbrev nW:=@List.zip_cons_cons
abbrev nY:=@List.getElem_idxOf
abbrev nZ:=@Int.natAbs_mul
abbrev n8:=@Int.eq_of_mul_eq_mul_right
abbrev n9:=@Array.forIn_toList
abbrev oM:=@wpAny_pyIter_list
abbrev oN:=@List.append_assoc
abbrev oO:=@wpAny_standAt
abbrev oP:=@wpAny_getItem_list_slice
abbrev pZ:=@List.map_take
abbrev p8:=@Int.mul_fdiv_cancel_left
abbrev qz:=@Rat.intCast_zero
abbrev qA:=@List.all_eq_true
abbrev rh:=@Nat.lt_or_ge
abbrev rk:=@Int.ne_of_gt
abbrev rm:=@Int.fmod_nonneg_of_pos
abbrev rn:=@wpAny_updateSeq
abbrev rp:=@wpAny_execs_nil
abbrev rZ:=@Nat.not_lt_zero
abbrev se:=@List.mem_filter
abbrev uf:=@PySem.F.slot_dict_get
abbrev ug:=@List.getElem?_zipWith
abbrev ul:=@Int.natAbs_dvd_natAbs
abbrev uy:=@Nat.pow_add
abbrev uz:=@Nat.mul_le_mul_right
abbrev uA:=@Nat.div_lt_of_lt_mul
abbrev uB:=@List.forIn_nil
abbrev uD:=@Bool.false_and
abbrev xG:=@Nat.add_le_add_left
abbrev xH:=@List.getElem_of_mem
abbrev xI:=@List.filterMap_cons
abbrev xO:=@List.map_drop
abbrev zY:=@List.map_inj_right
abbrev Ag:=@wpAny_dictEntries
abbrev Ah:=@wpAny_assign_Name
abbrev Aq:=@slot_list_getitem
abbrev Bk:=@Nat.min_self
abbrev Bl:=@Nat.add_comm
abbrev Bm:=@List.ext_getElem?
abbrev Bo:=@Int.mul_comm
abbrev Dl:=@wpAny_execs_cons
abbrev Dm:=@wpAny_eqBool_int
abbrev E4:=@Nat.div_eq_of_lt
abbrev E5:=@List.getElem_mem
abbrev Fa:=@wpAny_mkInt
abbrev Fe:=@Nat.log2_lt
end
namespace L2
open PySem PySem.Spec PyProof.Rows
abbrev iX:=Sum Int Str
def vF:iX→Value→Bool
 | .inl k,v=>Value.isInt k v
 | .inr x,v=>Value.isStrOf x v
def QL (w:World):iX→Int
 | .inl k=>hashInt k
 | .inr x=>hashStr w x
theorem gm:∀ {k:iX} {v:Value},vF k v=true→(∃ i t,k=Sum.inl i∧v=Value.int i t) ∨ (∃ x t,k=Sum.inr x∧v=Value.str x t)
 | .inl i,v,h=>by
  obtain⟨t,e⟩:=Value.isInt_shape (k:=i) (v:=v) h;exact .inl ⟨i,t,rfl,e⟩
 | .inr x,v,h=>by
  obtain⟨t,e⟩:=Value.isStrOf_shape (x:=x) (v:=v) h;exact .inr ⟨x,t,rfl,e⟩
theorem EJ (i:Int)(t:Tok):vF (.inl i) (.int i t)=true:=by simp[vF,Value.isInt]
theorem EI (x:Str)(t:Tok):vF (.inr x) (.str x t)=true:=by simp[vF,Value.isStrOf]
theorem NP (a b:Int):decide ((Sum.inl a:iX)=Sum.inl b)=(a == b):=by
 by_cases e:a=b
 ·subst e; simp
 ·have h:¬ (Sum.inl a:iX)=Sum.inl b:=fun q=>e (Sum.inl.inj q)
  rw[bH h];exact (beq_eq_false_iff_ne.mpr e).symm
theorem NL (a b:Str):decide ((Sum.inr a:iX)=Sum.inr b)=decide (a=b):=by
 by_cases e:a=b
 ·subst e; simp
 ·have h:¬ (Sum.inr a:iX)=Sum.inr b:=fun q=>e (Sum.inr.inj q)
  rw[bH h,bH e]
theorem NO (a:Int)(b:Str):decide ((Sum.inl a:iX)=Sum.inr b)=false:=bH (fun q=>nomatch q)
theorem NM (a:Str)(b:Int):decide ((Sum.inr a:iX)=Sum.inl b)=false:=bH (fun q=>nomatch q)
def gj (prog:Program)(w:World):PySem.KeyKind prog w iX where
 is:=vF
 hash:=QL w
 inj:=fun v a b ha hb=>by
  rcases gm ha with ⟨i,t,rfl,rfl⟩ | ⟨x,t,rfl,rfl⟩
  ·rcases gm hb with ⟨j,u,rfl,e⟩ | ⟨y,u,rfl,e⟩
   ·injection e with e1 _; rw[e1]
   ·exact nomatch e
  ·rcases gm hb with ⟨j,u,rfl,e⟩ | ⟨y,u,rfl,e⟩
   ·exact nomatch e
   ·injection e with e1 _; rw[e1]
 byValue:=fun k v h=>by
  rcases gm h with ⟨i,t,rfl,rfl⟩ | ⟨x,t,rfl,rfl⟩ <;> rfl
 pyHash:=fun hv h=>by
  rcases gm hv with ⟨i,t,rfl,rfl⟩ | ⟨x,t,rfl,rfl⟩
  ·exact wpAny_pyHash_int h
  ·exact wpAny_pyHash_str h
 eqBool:=fun hu hv h=>by
  rcases gm hu with ⟨i,t,rfl,rfl⟩ | ⟨x,t,rfl,rfl⟩
  ·rcases gm hv with ⟨j,u,rfl,rfl⟩ | ⟨y,u,rfl,rfl⟩
   ·rw[NP] at h; exact Dm h
   ·rw[NO] at h; exact SeqAt.EqAt.int_str i t y u _ _ _ _ h
  ·rcases gm hv with ⟨j,u,rfl,rfl⟩ | ⟨y,u,rfl,rfl⟩
   ·rw[NM] at h; exact SeqAt.EqAt.str_int x t j u _ _ _ _ h
   ·rw[NL] at h; exact wpAny_eqBool_str h
 «strs»:=fun k x t v h=>by
  rcases gm h with ⟨i,u,rfl,e⟩ | ⟨y,u,rfl,e⟩
  ·exact nomatch e
  ·injection e with e1 _
   subst e1;cases v <;> rfl
theorem zc (prog:Program)(w:World)(i:Int)(t:Tok):(gj prog w).is (.inl i) (.int i t)=true:=EJ i t
theorem y9 (prog:Program)(w:World)(x:Str)(t:Tok):(gj prog w).is (.inr x) (.str x t)=true:=EI x t
inductive V where
 | non | bl (b:Bool) | int (i:Int) | str (x:Str) | byt (b:Array UInt8) | flt (b:UInt64) | ref (a:Addr) | ty (n:String)
 deriving DecidableEq
def cY:V→Value→Prop
 | .non,u=>u=Value.none
 | .bl b,u=>u=Value.bool b
 | .int i,u=>∃ t,u=Value.int i t
 | .str x,u=>∃ t,u=Value.str x t
 | .byt b,u=>∃ t,u=Value.bytes b t
 | .flt b,u=>∃ t,u=Value.float b t
 | .ref a,u=>u=Value.ref a
 | .ty n,u=>u=Value.type n
abbrev cN:List V→List Value→Prop:=Paired cY
theorem cN.length {xs:List V}{us:LH}(r:cN xs us):xs.length=us.length:=Paired.length r
theorem cN.get:∀ {xs:List V} {us:LH} {i:Nat} {x:V},cN xs us→xs[i]? = some x→∃ u,us[i]? = some u∧cY x u
 | _,_,_,_,.nil,e=>by simp at e
 | _,_,0,_,.cons r _,e=>by simp at e; subst e; exact⟨_,rfl,r⟩
 | _,_,i+1,x,.cons _ t,e=>by
  obtain⟨u,h1,h2⟩:=cN.get (i:=i) (x:=x) t (by simpa using e);exact⟨u,by simpa using h1,h2⟩
theorem cN.set {x:V}{u:Value}(r:cY x u):∀ {xs:List V} {us:LH} (i:Nat),cN xs us→cN (xs.set i x) (us.set i u)
 | _,_,_,.nil=>.nil
 | _,_,0,.cons _ t=>.cons r t
 | _,_,i+1,.cons q t=>.cons q (cN.set r i t)
theorem cN.append:∀ {xs ys:List V} {us ws:LH},cN xs us→cN ys ws→cN (xs++ys) (us++ws)
 | _,_,_,_,.nil,s=>s
 | _,_,_,_,.cons r t,s=>.cons r (cN.append t s)
theorem cN.take:∀ {xs:List V} {us:LH} (n:Nat),cN xs us→cN (xs.take n) (us.take n)
 | _,_,0,_=>.nil
 | _,_,_+1,.nil=>.nil
 | _,_,n+1,.cons r t=>.cons r (cN.take n t)
theorem cN.drop:∀ {xs:List V} {us:LH} (n:Nat),cN xs us→cN (xs.drop n) (us.drop n)
 | _,_,0,r=>r
 | _,_,_+1,.nil=>.nil
 | _,_,n+1,.cons _ t=>cN.drop n t
def ux:Option V→Option Value→Prop
 | some v,some u=>cY v u
 | none,none=>True
 | _,_=>False
def KV {κ:Type}:List (κ × V)→List (κ × Value)→Prop:=Paired fun (p:κ × V) (q:κ × Value)=>p.1=q.1∧cY p.2 q.2
def kV:iX→V
 | .inl i=>.int i
 | .inr x=>.str x
inductive HO where
 | lst (xs:List V)
 | tup (xs:List V)
 | dK (kvs:List (iX × V)) | dT (kvs:List (List iX × V))
 | set (S:Int→Bool) (n:Nat)
 | ins (C dx:Addr) (fs:List (Str × V))
 | own (x:Addr)
 | xd (fs:List (Str × V))
 | met (f x:Addr)
 | rng (lo hi:Int)
 | frz (o:Obj) (u:HO)
 | tbl (ps:LU)
 | ext (φ:Heap→Prop)
abbrev Hp:=Addr→Option HO
def upd (H:Hp)(a:Addr)(o:HO):Hp:=fun b=>if b=a then some o else H b
theorem ao {H:Hp}{a:Addr}{o:HO}:upd H a o a=some o:=by unfold upd; rw[if_pos rfl]
theorem aO {H:Hp}{a b:Addr}{o:HO}(h:b≠a):upd H a o b=H b:=by unfold upd; rw[if_neg h]
theorem IS {H:Hp}{a:Addr}{o u:HO}:upd (upd H a o) a u=upd H a u:=by
 funext b; unfold upd; split <;> rfl
theorem Pe {H:Hp}{a b:Addr}{o u:HO}(h:H a=some o)(h':H b=some u)(d:o≠u):a≠b:=by
 intro e; subst e; rw[h] at h'; exact d (aW h')
theorem aU {H:Hp}{a b:Addr}{o:HO}(h:H a=some o)(h':H b=none):a≠b:=by
 intro e; subst e; rw[h] at h'; cases h'
section
variable (P:Program)(w:World)
def eZ (H:Hp)(h:Heap)(a:Addr):HO→Prop
 | .lst xs=>xs.length≤sizeLine∧∃ (its:LH) (n:Nat),cN xs its∧h.get? a=some { cls:=.type "list",data:=.seq its.toArray n }
 | .tup xs=>xs.length≤sizeLine∧∃ its:LH,cN xs its∧IsTup h a its.toArray
 | .dK kvs=>kvs.length≤sizeLine∧(a == sysModules)=false∧∃ vs,KV kvs vs∧h.DictOf (gj P w) a vs
 | .dT kvs=>kvs.length≤sizeLine∧(a == sysModules)=false∧∃ xs:List (List iX × Addr × Value),
   Paired (fun (p:List iX × V) (q:List iX × Addr × Value)=>p.1=q.1∧H q.2.1=some (.tup (p.1.map kV))∧cY p.2 q.2.2) kvs xs ∧
   ∃ o es ep,h.get? a=some o∧o.ExactDict∧o.data=.dict es ep∧es.toList=xs.map (entryOfKey (tupleKind (gj P w)))∧(xs.map (·.1)).Nodup
 | .set S n=>h.SetOf (intKind P w) a S n
 | .ins C dx fs=>H dx=some (.own a)∧fs.length≤1000∧dx≠a∧h.get? a=some (PySem.W.instObj C dx) ∧
   ∃ mA,h.Ns1 dx mA∧(∀ f,ux (fs.lookup f) (mA f))∧PySem.Within mA (fs.map (·.1))
 | .own _=>∃ o,h.get? a=some o
 | .xd fs=>∃ mA,h.Ns1 a mA∧∀ f,ux (fs.lookup f) (mA f)
 | .rng lo hi=>∃ t u v,h.get? a=some { cls:=.type "range",data:=.fields #[.int lo t,.int hi u,.int 1 v] }
 | .frz o u=>h.get? a=some o∧eZ H h a u
 | .tbl ps=>h.get? a=some { cls:=.none,data:=.fields ps }
 | .met f x=>h.get? a=some (PySem.W.methodObj (.ref f) (.ref x))
 | .ext φ=>φ h∧(∃ o,h.get? a=some o)∧∀ h1 h2:Heap,φ h1→(∀ o,h1.get? a=some o→h2.get? a=some o)→φ h2
def nK (H:Hp)(h:Heap):Prop:=∀ a o,H a=some o→eZ P w H h a o
end
section
variable {P:Program}{w:World}{H H':Hp}{h h':Heap}{a:Addr}{o:HO}
theorem eZ.lt (x:eZ P w H h a o):a < h.objs.size:=by
 cases o with
 | lst xs=>obtain⟨_,_,_,_,e⟩:=x; exact aX e
 | tup xs=>obtain⟨_,_,_,p⟩:=x; exact p.lt
 | dK kvs=>obtain⟨_,_,_,_,o,_,_,e,_⟩:=x; exact aX e
 | dT kvs=>obtain⟨_,_,_,_,o,_,_,e,_⟩:=x; exact aX e
 | set S n=>obtain⟨o,_,_,_,e,_⟩:=x; exact aX e
 | ins C dx fs=>obtain⟨_,_,_,e,_⟩:=x; exact aX e
 | own y=>obtain⟨_,e⟩:=x; exact aX e
 | xd fs=>obtain⟨_,⟨_,_,_,e,_⟩,_⟩:=x; exact aX e
 | rng lo hi=>obtain⟨_,_,_,e⟩:=x; exact aX e
 | frz ob u=>obtain⟨e,_⟩:=x; exact aX e
 | tbl ps=>exact aX (show h.get? a=some _ from x)
 | met f y=>exact aX (show h.get? a=some _ from x)
 | ext φ=>obtain⟨_,⟨_,e⟩,_⟩:=x; exact aX e
theorem Paired.mapP {α β:Type}{F G:α→β→Prop}:∀ {l₁:List α} {l₂:List β},Paired F l₁ l₂→(∀ a b,F a b→G a b)→Paired G l₁ l₂
 | _,_,.nil,_=>.nil
 | _,_,.cons r t,f=>.cons (f _ _ r) (Paired.mapP t f)
theorem eZ.stay (x:eZ P w H h a o)(k:∀ b u,(b=a ∨ H b=some (.own a))→h.get? b=some u→h'.get? b=some u)(ho:∀ b,H b=some (.own a)→H' b=some (.own a))(ht:∀ b xs,H b=some (.tup xs)→H' b=some (.tup xs)):eZ P w H' h' a o:=by
 induction o with
 | lst xs=>obtain⟨z,its,n,r,e⟩:=x; exact⟨z,its,n,r,k _ _ (.inl rfl) e⟩
 | tup xs=>obtain⟨z,its,r,ob,e,c⟩:=x; exact⟨z,its,r,ob,k _ _ (.inl rfl) e,c⟩
 | dK kvs=>obtain⟨z,y,vs,r,ob,es,ep,e,c⟩:=x; exact⟨z,y,vs,r,ob,es,ep,k _ _ (.inl rfl) e,c⟩
 | dT kvs =>
  obtain⟨z,y,xs,r,ob,es,ep,e,c⟩:=x;exact⟨z,y,xs,Paired.mapP r fun p q z=>⟨z.1,ht _ _ z.2.1,z.2.2⟩,ob,es,ep,k _ _ (.inl rfl) e,c⟩
 | set S n=>obtain⟨ob,es,ep,t,e,c⟩:=x; exact⟨ob,es,ep,t,k _ _ (.inl rfl) e,c⟩
 | ins C dx fs =>
  obtain⟨d,z,ne,e,mA,⟨od,es,ep,e2,c⟩,r⟩:=x;exact⟨ho _ d,z,ne,k _ _ (.inl rfl) e,mA,⟨od,es,ep,k _ _ (.inr d) e2,c⟩,r⟩
 | own y=>obtain⟨ob,e⟩:=x; exact⟨ob,k _ _ (.inl rfl) e⟩
 | xd fs=>obtain⟨mA,⟨od,es,ep,e,c⟩,r⟩:=x; exact⟨mA,⟨od,es,ep,k _ _ (.inl rfl) e,c⟩,r⟩
 | rng lo hi=>obtain⟨t,u,v,e⟩:=x; exact⟨t,u,v,k _ _ (.inl rfl) e⟩
 | frz ob u ih=>obtain⟨e,q⟩:=x; exact⟨k _ _ (.inl rfl) e,ih q⟩
 | tbl ps =>
  have e:h.get? a=some { cls:=.none,data:=.fields ps }:=x;show h'.get? a=some { cls:=.none,data:=.fields ps };exact k a _ (.inl rfl) e
 | met f y =>
  have e:h.get? a=some (PySem.W.methodObj (.ref f) (.ref y)):=x;show h'.get? a=some (PySem.W.methodObj (.ref f) (.ref y));exact k a _ (.inl rfl) e
 | ext φ=>obtain⟨p,⟨o,e⟩,st⟩:=x; exact⟨st _ _ p fun o q=>k _ _ (.inl rfl) q,⟨o,k _ _ (.inl rfl) e⟩,st⟩
theorem nK.lt (x:nK P w H h)(e:H a=some o):a < h.objs.size:=(x a o e).lt
theorem nK.fresh (x:nK P w H h)(e:h.objs.size≤a):H a=none:=by
 cases q:H a with
 | none=>rfl
 | some u=>exact absurd (aH (x.lt q) e) (de _)
theorem nK.kept (x:nK P w H h)(k:∀ b u,h.get? b=some u→h'.get? b=some u):nK P w H h':=fun a o e =>
 (x a o e).stay (fun b u _ q=>k b u q) (fun _ q=>q) fun _ _ q=>q
theorem nK.laid (x:nK P w H h)(k:∀ b u,h.get? b=some u→h'.get? b=some u)(hp:h.objs.size≤a)(new:eZ P w (upd H a o) h' a o):nK P w (upd H a o) h':=fun b u e=>by
 have hn:=x.fresh hp
 by_cases hb:b=a
 ·subst hb; rw[ao] at e; cases e; exact new
 ·rw[aO hb] at e
  exact (x b u e).stay (fun c v _ q=>k c v q) (fun c q=>by rw[aO (aU q hn)]; exact q) fun c xs q=>by rw[aO (aU q hn)]; exact q
end
def Rd (H:Hp)(a:Addr)(u:HO):Prop:=H a=some u ∨ ∃ o,H a=some (.frz o u)
theorem Rd.ok {P:Program}{w:World}{H:Hp}{h:Heap}{a:Addr}{u:HO}(r:Rd H a u)(x:nK P w H h):eZ P w H h a u:=by
 rcases r with r | ⟨o,r⟩
 ·exact x a u r
 ·obtain⟨_,q⟩:=x a _ r
  exact q
def P1:Option HO→Prop
 | some (.lst _)=>True
 | some (.dK _)=>True
 | some (.dT _)=>True
 | some (.set _ _)=>True
 | some (.ins _ _ _)=>True
 | some (.ext _)=>True
 | _=>False
section
variable {P:Program}{w:World}{H:Hp}{h h':Heap}{x e:Addr}{o':HO}
theorem nK.write (ok:nK P w H h)(mu:P1 (H x))(he:e=x ∨ H e=some (.own x))(k:∀ b u,b≠e→h.get? b=some u→h'.get? b=some u)(heo:∃ u,h'.get? e=some u)(new:eZ P w (upd H x o') h' x o'):nK P w (upd H x o') h':=fun b u q=>by
 have nown:∀ c y,H c=some (.own y)→c≠x:=fun c y r z=>by subst z; rw[r] at mu; exact mu
 have ntup:∀ c xs,H c=some (.tup xs)→c≠x:=fun c xs r z=>by subst z; rw[r] at mu; exact mu
 by_cases hb:b=x
 ·subst hb; rw[ao] at q; cases q; exact new
 ·rw[aO hb] at q
  by_cases hbe:b=e
  ·have q':H b=some (.own x):=by
    rcases he with z | z
    ·exact absurd (hbe.trans z) hb
    ·rw[hbe]; exact z
   rw[q] at q'; cases q';obtain⟨v,hv⟩:=heo;exact⟨v,by rw[hbe]; exact hv⟩
  ·refine (ok b u q).stay (fun c v hc r=>k c v ?_ r) (fun c r=>by rw[aO (nown c b r)]; exact r) fun c xs r=>by rw[aO (ntup c xs r)]; exact r
   rcases hc with rfl | hc
   ·exact hbe
   ·rintro rfl
    rcases he with z | z
    ·exact nown c b hc z
    ·rw[hc] at z; cases z; exact hb rfl
end
structure Un (fs ex:LI)(H H':Hp)(h h':Heap):Prop where
 keep:∀ b o,h.get? b=some o→H b=none→b ∉ fs→b ∉ ex→h'.get? b=some o
 slot:∀ b o,h.get? b=some o→H b=none→b ∈ fs→b ∉ ex→∃ sl,h'.get? b=some { o with slots:=sl }
 free:∀ b o,h.get? b=some o→H b=none→b ∉ ex→H' b=none
 there:∀ b o,h.get? b=some o→b ∉ ex→∃ o',h'.get? b=some o'
 tups:∀ b xs,H b=some (.tup xs)→H' b=some (.tup xs)
 frzs:∀ b o u,H b=some (.frz o u)→H' b=some (.frz o u)
 tbls:∀ b ps,H b=some (.tbl ps)→∃ more,H' b=some (.tbl (ps++more))
section
variable {fs fs' ex ex':LI}{H H1 H2:Hp}{h h1 h2 h':Heap}{a x e:Addr}{o:HO}
theorem Un.any (u:Un fs ex H H1 h h1){b:Addr}{ob:Obj}(q:h.get? b=some ob)(n:H b=none)(hx:b ∉ ex):∃ sl,h1.get? b=some { ob with slots:=sl }:=by
 by_cases hb:b ∈ fs
 ·exact u.slot b ob q n hb hx
 ·exact⟨ob.slots,u.keep b ob q n hb hx⟩
theorem Un.kept (k:∀ b u,h.get? b=some u→h'.get? b=some u):Un fs ex H H h h' :=
 ⟨fun b ob q _ _ _=>k b ob q,fun b ob q _ _ _=>⟨ob.slots,k b ob q⟩,fun _ _ _ n _=>n,fun b ob q _=>⟨ob,k b ob q⟩,fun _ _ q=>q,fun _ _ _ q=>q,fun _ ps q=>⟨#[],by rw[q]; simp⟩⟩
theorem Un.refl:Un fs ex H H h h:=Un.kept fun _ _ q=>q
theorem Un.laid (k:∀ b u,h.get? b=some u→h'.get? b=some u)(hp:h.objs.size≤a)(hn:H a=none):Un fs ex H (upd H a o) h h' where
 keep:=fun b u q _ _ _=>k b u q
 slot:=fun b u q _ _ _=>⟨u.slots,k b u q⟩
 free:=fun b u q n _=>by rw[aO (bZ (aH (aX q) hp))]; exact n
 there:=fun b u q _=>⟨u,k b u q⟩
 tups:=fun b xs q=>by rw[aO (aU q hn)]; exact q
 frzs:=fun b u xs q=>by rw[aO (aU q hn)]; exact q
 tbls:=fun b ps q=>⟨#[],by rw[aO (aU q hn),q]; simp⟩
theorem Un.write (mu:P1 (H x))(he:e=x ∨ H e=some (.own x))(k:∀ b u,b≠e→h.get? b=some u→h'.get? b=some u)(heo:∃ u,h'.get? e=some u):Un fs ex H (upd H x o) h h':=by
 have hx:∀ b,H b=none→b≠x:=fun b n z=>by subst z; rw[n] at mu; exact mu
 have hb:∀ b,H b=none→b≠e:=fun b n z=>by
  subst z;rcases he with r | r
  ·exact hx b n r
  ·rw[n] at r; cases r
 have hm:∀ b u,H b=some u→¬ P1 (some u)→b≠x:=fun b u q nm z=>by subst z; rw[q] at mu; exact nm mu
 refine⟨fun b u q n _ _=>k b u (hb b n) q,fun b u q n _ _=>⟨u.slots,k b u (hb b n) q⟩,fun b u q n _=>by rw[aO (hx b n)]; exact n,fun b u q _=>?_,
  fun b xs q=>by rw[aO (hm b _ q fun z=>z)]; exact q,fun b u xs q=>by rw[aO (hm b _ q fun z=>z)]; exact q,fun b ps q=>⟨#[],by rw[aO (hm b _ q fun z=>z),q]; simp⟩⟩
 by_cases hbe:b=e
 ·subst hbe; exact heo
 ·exact⟨u,k b u hbe q⟩
end
def Qd (h:Heap)(H:Hp):LI:=(List.range h.objs.size).filter fun a=>(H a).isSome
def xl (h:Heap)(H:Hp):Heap:=PySem.W.hideAll h (Qd h H)
theorem EN (h:Heap)(H:Hp):(xl h H).objs.size=h.objs.size:=PySem.W.hideAll_size _ _
theorem HQ {h:Heap}{H:Hp}{b:Addr}{o:Obj}(e:h.get? b=some o)(n:H b=none):(xl h H).get? b=some o :=
 PySem.W.hideAll_get _ e fun hm=>by
  have q:(H b).isSome=true:=(se.mp hm).2;rw[n] at q; simp at q
theorem Ka {h:Heap}{H:Hp}{b:Addr}{o:Obj}(e:(xl h H).get? b=some o):h.get? b=some o∧H b=none:=by
 have e':h.get? b=some o:=PySem.W.of_hideAll (Qd h H) e;refine⟨e',?_⟩;cases q:H b with
 | none=>rfl
 | some x =>
  have hm:b ∈ Qd h H:=se.mpr ⟨dX.mpr (aX e'),by simp[q]⟩;have z:(xl h H).get? b=none:=PySem.W.hideAll_none (Qd h H) hm;rw[z] at e; cases e
def K2 (g h:Heap)(L:Addr):LD:=(List.range h.objs.size).filterMap fun a=>if a=L ∨ (g.get? a).isSome=true then none else (h.get? a).map fun o=>(a,o)
def rest (g h:Heap)(L d:Addr):LD:=(K2 g h L).filter fun p=>decide (p.1≠d)
structure Mod (K:LM)(mg:LO)(base:Heap):Prop where
 kin:K.In base
 glob:base.Ns mainGlobals mg
 blt:∃ mb,base.Ns builtinsNs mb∧∀ x:Str,x≠"__name__"→mb x=bootBuiltins x
 nolimit:base.NoLimit
structure Cx where
 prog:Program
 w:World
 K:LM
 mg:LO
 base:Heap
 A:Around
 N:LK
 s₀:Shared
 H₀:Hp
 env:Env
 outer:List Env
 stack:List Env
 ex:LI
 fn:Str→Bool
 calm:Bool
 pn:LD
 xe:LN
def frs (l:List Env):LI:=l.filterMap (·.frame)
abbrev Cx.fs (X:Cx):LI:=frs X.outer
def Ql (sc:Scope)(x:Str):Prop:=sc.names.lookup x=some .local ∨ sc.names.lookup x=some .cell ∨ sc.names.lookup x=some .free
def Fg (sc:Scope)(x:Str):Prop:=sc.names.lookup x=some .local ∨ sc.names.lookup x=some .cell
def Q5 (env:Env)(h:Heap)(m:LO)(x:Str)(u:Value):Prop :=
 (env.kindOf x=some .local∧m x=some u) ∨ ((env.kindOf x=some .cell ∨ env.kindOf x=some .free)∧∃ c,env.cells.lookup x=some c∧h.IsCell c (some u))
structure Cx.Ok (X:Cx):Prop where
 mod:Mod X.K X.mg X.base
 kind:X.env.scope.kind=.function
 glob:X.env.globals=mainGlobals
 blt:X.env.builtins=builtinsNs
 above:X.s₀.heap.objs.size≤X.env.locals
 inj:∀ x y c,X.env.cells.lookup x=some c→X.env.cells.lookup y=some c→x=y
 has:∀ x,(X.env.kindOf x=some .cell ∨ X.env.kindOf x=some .free)→∃ c,X.env.cells.lookup x=some c
 cab:∀ x c,X.fn x=true→X.env.cells.lookup x=some c→X.s₀.heap.objs.size≤c
 hd:X.calm=true→X.A.handled=none
 frames:X.A.frames=some X.stack
 stk:X.stack=X.outer ∨ (X.stack=X.env :: X.outer∧X.env.frame=some X.env.locals)
 exf:∀ b ∈ X.ex,b≠X.env.locals∧∀ x c,X.env.cells.lookup x=some c→c≠b
 bs:∀ b o,X.base.get? b=some o→X.s₀.heap.get? b=some o∧X.H₀ b=none
 bsz:X.base.objs.size≤X.s₀.heap.objs.size
 noex:∀ b o,X.base.get? b=some o→b ∉ X.ex
 exfs:∀ b ∈ X.ex,b ∉ X.fs
 funs:X.s₀.heap.FunFrames X.base X.outer
 frf:∀ b ∈ X.fs,X.H₀ b=none
structure Inv (X:Cx)(pins:LD)(σ:List (Option V))(H:Hp)(s:Shared):Prop where
 ok:X.Ok
 os:s.os=X.s₀.os
 bare:AllBare s.gens
 base:Un X.fs X.ex X.H₀ H X.s₀.heap s.heap
 loc:∃ m,s.heap.Ns X.env.locals m∧∀ (i:Nat) (x:Str) (v:V),X.N[i]? = some x→σ[i]? = some (some v)→Ql X.env.scope x→∃ u,cY v u∧Q5 X.env s.heap m x u
 cell:∀ x c,X.env.cells.lookup x=some c→∃ v,s.heap.IsCell c v
 free:H X.env.locals=none
 freeC:∀ x c,X.env.cells.lookup x=some c→H c=none
 pin:∀ p ∈ X.pn++pins,s.heap.get? p.1=some p.2∧H p.1=none∧p.1≠X.env.locals∧p.1 ∉ X.fs∧∀ v,p.2.data≠.cell v
 hok:nK X.prog X.w H s.heap
 len:σ.length=X.N.length
section
variable {X:Cx}{pins:LD}{σ:List (Option V)}{H H':Hp}{s:Shared}{h':Heap}
theorem Cx.Ok.nofr (ok:X.Ok){b:Addr}{o:Obj}(e:X.base.get? b=some o):b ∉ X.fs:=fun hb=>by
 have:=(ok.funs.mem hb).1
 rw[e] at this; cases this
theorem Inv.bs (I:Inv X pins σ H s):∀ b o,X.base.get? b=some o→s.heap.get? b=some o∧H b=none:=fun b o e =>
 ⟨I.base.keep b o (I.ok.bs b o e).1 (I.ok.bs b o e).2 (I.ok.nofr e) (I.ok.noex b o e),I.base.free b o (I.ok.bs b o e).1 (I.ok.bs b o e).2 (I.ok.noex b o e)⟩
theorem Inv.bk (I:Inv X pins σ H s):∀ b o,X.base.get? b=some o→s.heap.get? b=some o:=fun b o e=>(I.bs b o e).1
theorem Inv.mod (I:Inv X pins σ H s):Mod X.K X.mg X.base:=I.ok.mod
theorem Inv.kIn (I:Inv X pins σ H s):X.K.In s.heap:=I.ok.mod.kin.keeps I.bk
theorem Inv.lt (I:Inv X pins σ H s):X.env.locals < s.heap.objs.size:=let ⟨_,hn,_⟩:=I.loc; hn.lt
theorem Inv.sz (I:Inv X pins σ H s):X.s₀.heap.objs.size≤s.heap.objs.size:=aE I.ok.above (cf I.lt)
theorem Inv.nofs (I:Inv X pins σ H s){a:Addr}(h:s.heap.objs.size≤a):a ∉ X.fs:=fun hb=>by
 obtain⟨_,o,ho,_⟩:=I.ok.funs.mem hb;exact absurd (aH (aX ho) (aE I.sz h)) (de _)
theorem Inv.cne (I:Inv X pins σ H s):∀ x c,X.env.cells.lookup x=some c→c≠X.env.locals:=fun x c e z=>by
 obtain⟨v,o,ho,hd⟩:=I.cell x c e;obtain⟨m,⟨o',es,ep,ho',hd',_⟩,_⟩:=I.loc;rw[z,ho'] at ho; cases ho; rw[hd'] at hd; cases hd
theorem Inv.funs (I:Inv X pins σ H s):s.heap.FunFrames X.base X.outer:=by
 have all:∀ (l:List Env),(∀ b ∈ frs l,b ∈ X.fs)→X.s₀.heap.FunFrames X.base l→s.heap.FunFrames X.base l:=by
  intro l
  induction l with
  | nil=>intro _ _; trivial
  | cons env r ih =>
   intro hs hl;obtain⟨hk,⟨L,o,hf,hn,ho,hd⟩,hr⟩:=hl;have hL:L ∈ X.fs:=hs L (by unfold frs; rw[xI,hf]; exact aK);obtain⟨sl,e⟩:=I.base.slot L o ho (I.ok.frf L hL) hL fun z=>I.ok.exfs L z hL
   exact⟨hk,⟨L,_,hf,hn,e,hd⟩,ih (fun b hb=>hs b (by unfold frs; rw[xI,hf]; exact aC _ hb)) hr⟩
 exact all X.outer (fun _ hb=>hb) I.ok.funs
theorem Inv.stack (I:Inv X pins σ H s):s.heap.FunFrames X.base X.stack:=by
 rcases I.ok.stk with e | ⟨e,hf⟩
 ·rw[e]; exact I.funs
 ·rw[e]
  obtain⟨m,hn,_⟩:=I.loc;refine .cons (by rw[I.ok.kind]; decide) hf hn ?_ I.funs;exact Heap.get?_none_of_le (aE I.ok.bsz I.ok.above)
theorem Inv.stkSub (I:Inv X pins σ H s):∀ b ∈ frs X.stack,b ∈ X.env.locals :: X.fs:=fun b hb=>by
 rcases I.ok.stk with e | ⟨e,hf⟩
 ·rw[e] at hb; exact aC _ hb
 ·rw[e] at hb
  unfold frs at hb;rw[xI,hf] at hb;exact hb
theorem Inv.stkFree (I:Inv X pins σ H s):∀ b ∈ frs X.stack,H b=none:=fun b hb=>by
 rcases aQ.mp (I.stkSub b hb) with e | hb
 ·rw[e]; exact I.free
 ·obtain⟨_,o,ho,_⟩:=I.ok.funs.mem hb
  exact I.base.free b o ho (I.ok.frf b hb) fun z=>I.ok.exfs b z hb
theorem Inv.step {g':Array GenState}{t':Nat}{d':Drawn}{ch:LI}(I:Inv X pins σ H s)(hch:∀ b ∈ ch,(b ∈ X.ex ∨ X.s₀.heap.objs.size≤b)∧b≠X.env.locals∧(∀ x c,X.env.cells.lookup x=some c→c≠b)∧∀ p ∈ X.pn++pins,p.1≠b)(keep:∀ b o,b≠X.env.locals→b ∉ X.fs→b ∉ ch→s.heap.get? b=some o→H b=none→h'.get? b=some o)(slot:∀ b o,b≠X.env.locals→b ∈ X.fs→b ∉ ch→s.heap.get? b=some o→H b=none→∃ sl,h'.get? b=some { o with slots:=sl })(free:∀ b o,b ∉ ch→s.heap.get? b=some o→H b=none→H' b=none)(there:∀ b o,b ∉ ch→s.heap.get? b=some o→∃ o',h'.get? b=some o')(tups:∀ b xs,H b=some (.tup xs)→H' b=some (.tup xs))(frzs:∀ b o u,H b=some (.frz o u)→H' b=some (.frz o u))(tbls:∀ b ps,H b=some (.tbl ps)→∃ more,H' b=some (.tbl (ps++more)))(ns:∀ m,s.heap.Ns X.env.locals m→h'.Ns X.env.locals m)(hok:nK X.prog X.w H' h')(hg:AllBare g') :
  Inv X pins σ H' { s with heap:=h',gens:=g',drawn:=d',toks:=t' }:=by
 have neL:∀ b o,X.s₀.heap.get? b=some o→b≠X.env.locals:=fun b o e=>bZ (aH (aX e) I.ok.above)
 have neC:∀ b o,X.s₀.heap.get? b=some o→b ∉ X.ex→b ∉ ch:=fun b o e hx hb=>by
  rcases (hch b hb).1 with z | z
  ·exact hx z
  ·exact absurd (aH (aX e) z) (de _)
 have cellK:∀ x c,X.env.cells.lookup x=some c→∀ v,s.heap.IsCell c v→h'.IsCell c v:=fun x c e v ⟨o,ho,hd⟩=>by
  have nch:c ∉ ch:=fun z=>(hch c z).2.2.1 x c e rfl
  by_cases hc:c ∈ X.fs
  ·obtain⟨sl,q⟩:=slot c o (I.cne x c e) hc nch ho (I.freeC x c e)
   exact⟨_,q,hd⟩
  ·exact⟨o,keep c o (I.cne x c e) hc nch ho (I.freeC x c e),hd⟩
 refine⟨I.ok,I.os,hg,⟨fun b o e n hb hx=>?_,fun b o e n hb hx=>?_,fun b o e n hx=>?_,fun b o e hx=>?_,fun b xs e=>tups b xs (I.base.tups b xs e),fun b o xs e=>frzs b o xs (I.base.frzs b o xs e),fun b ps e=>?_⟩,?_,fun x c e=>?_,?_,fun x c e=>?_,fun p hp=>?_,hok,I.len⟩
 ·exact keep b o (neL b o e) hb (neC b o e hx) (I.base.keep b o e n hb hx) (I.base.free b o e n hx)
 ·obtain⟨sl,e1⟩:=I.base.slot b o e n hb hx
  obtain⟨sl',e2⟩:=slot b _ (neL b o e) hb (neC b o e hx) e1 (I.base.free b o e n hx);exact⟨sl',e2⟩
 ·obtain⟨o',e1⟩:=I.base.there b o e hx
  exact free b o' (neC b o e hx) e1 (I.base.free b o e n hx)
 ·obtain⟨o',e1⟩:=I.base.there b o e hx
  exact there b o' (neC b o e hx) e1
 ·obtain⟨m1,e1⟩:=I.base.tbls b ps e
  obtain⟨m2,e2⟩:=tbls b _ e1;exact⟨m1++m2,by rw[e2,Array.append_assoc]⟩
 ·obtain⟨m,hn,hl⟩:=I.loc
  refine⟨m,ns m hn,fun i x v e1 e2 e3=>?_⟩;obtain⟨u,r,l⟩:=hl i x v e1 e2 e3;refine⟨u,r,?_⟩;rcases l with l | ⟨k,c,e,z⟩
  ·exact .inl l
  ·exact .inr ⟨k,c,e,cellK x c e _ z⟩
 ·obtain⟨v,z⟩:=I.cell x c e
  exact⟨v,cellK x c e v z⟩
 ·obtain⟨m,⟨o,_,_,ho,_⟩,_⟩:=I.loc
  exact free _ o (fun z=>(hch _ z).2.1 rfl) ho I.free
 ·obtain⟨v,o,ho,hd⟩:=I.cell x c e
  exact free c o (fun z=>(hch c z).2.2.1 x c e rfl) ho (I.freeC x c e)
 ·obtain⟨e,n,ne,nf,d⟩:=I.pin p hp
  have nch:p.1 ∉ ch:=fun z=>(hch p.1 z).2.2.2 p hp rfl
  exact⟨keep p.1 p.2 ne nf nch e n,free p.1 p.2 nch e n,ne,nf,d⟩
theorem Inv.un {t':Nat}(I:Inv X pins σ H s)(u:Un X.fs [] H H' s.heap h')(hok:nK X.prog X.w H' h'):Inv X pins σ H' { s with heap:=h',toks:=t' }:=by
 obtain⟨m,⟨o,es,ep,ho,r⟩,_⟩:=id I.loc;obtain⟨sl,hL⟩:=u.any ho I.free (by simp);exact I.step (g':=s.gens) (d':=s.drawn) (ch:=[]) (fun _ z=>nomatch z) (fun b o _ hb _ e n=>u.keep b o e n hb (by simp)) (fun b o _ hb _ e n=>u.slot b o e n hb (by simp)) (fun b o _ e n=>u.free b o e n (by simp)) (fun b o _ e=>u.there b o e (by simp)) u.tups u.frzs u.tbls (fun m' hm=>by
  obtain⟨o',es',ep',ho',r'⟩:=hm
  rw[ho] at ho'; cases ho'
  exact⟨_,es',ep',hL,r'⟩) hok I.bare
theorem Inv.call {g':Array GenState}{t':Nat}{d':Drawn}{ch:LI}(I:Inv X pins σ H s)(u:Un (frs X.stack) ch H H' s.heap h')(hok:nK X.prog X.w H' h')(hg:AllBare g')(hch:∀ b ∈ ch,(b ∈ X.ex ∨ X.s₀.heap.objs.size≤b)∧b≠X.env.locals∧(∀ x c,X.env.cells.lookup x=some c→c≠b)∧∀ p ∈ X.pn++pins,p.1≠b) :
  Inv X pins σ H' { s with heap:=h',gens:=g',drawn:=d',toks:=t' }:=by
 obtain⟨m,⟨o,es,ep,ho,r⟩,_⟩:=id I.loc;obtain⟨sl,hL⟩:=u.any ho I.free fun z=>(hch _ z).2.1 rfl
 exact I.step (ch:=ch) hch (fun b o hL hb hc e n=>u.keep b o e n (fun z=>(aQ.mp (I.stkSub b z)).elim hL hb) hc) (fun b o _ _ hc e n=>u.any e n hc) (fun b o hc e n=>u.free b o e n hc) (fun b o hc e=>u.there b o e hc) u.tups u.frzs u.tbls (fun m' hm=>by
  obtain⟨o',es',ep',ho',r'⟩:=hm
  rw[ho] at ho'; cases ho'
  exact⟨_,es',ep',hL,r'⟩) hok hg
theorem Inv.turned {t':Nat}{it:Addr}(I:Inv X pins σ H s)(k:∀ b o,b≠it→s.heap.get? b=some o→h'.get? b=some o)(hn:H it=none)(hL:it≠X.env.locals)(h1:it ∈ X.ex ∨ X.s₀.heap.objs.size≤it)(h2:∀ x c,X.env.cells.lookup x=some c→c≠it)(h3:∀ p ∈ X.pn++pins,p.1≠it):Inv X pins σ H { s with heap:=h',toks:=t' }:=by
 have nit:∀ b u,H b=some u→b≠it:=fun b u e z=>by rw[z,hn] at e; cases e
 refine I.step (g':=s.gens) (d':=s.drawn) (ch:=[it]) (fun b hb=>?_) (fun b o _ _ hc e _=>k b o (fun z=>hc (by simp[z])) e) (fun b o _ _ hc e _=>⟨o.slots,k b o (fun z=>hc (by simp[z])) e⟩) (fun _ _ _ _ n=>n)
  (fun b o hc e=>⟨o,k b o (fun z=>hc (by simp[z])) e⟩) (fun _ _ e=>e) (fun _ _ _ e=>e) (fun b ps e=>⟨#[],by rw[e]; simp⟩) (fun m hm=>?_) (fun b u e=>?_) I.bare
 ·have e:b=it:=by simpa using hb
  subst e;exact⟨h1,hL,h2,h3⟩
 ·obtain⟨o,es,ep,ho,r⟩:=hm
  exact⟨o,es,ep,k _ o (Ne.symm hL) ho,r⟩
 ·refine (I.hok b u e).stay (fun c v hc q=>k c v ?_ q) (fun _ q=>q) fun _ _ q=>q
  rcases hc with z | z
  ·rw[z]; exact nit b u e
  ·exact nit c _ z
theorem Inv.tok (I:Inv X pins σ H s)(t:Nat):Inv X pins σ H { s with toks:=t }:=I.un (h':=s.heap) (t':=t) Un.refl I.hok
theorem Inv.kept {t':Nat}(I:Inv X pins σ H s)(k:∀ b u,s.heap.get? b=some u→h'.get? b=some u):Inv X pins σ H { s with heap:=h',toks:=t' }:=I.un (Un.kept k) (I.hok.kept k)
theorem Inv.laid {a:Addr}{o:HO}{t':Nat}(I:Inv X pins σ H s)(k:∀ b u,s.heap.get? b=some u→h'.get? b=some u)(hp:s.heap.objs.size≤a)(new:eZ X.prog X.w (upd H a o) h' a o) :
  Inv X pins σ (upd H a o) { s with heap:=h',toks:=t' }:=I.un (Un.laid k hp (I.hok.fresh hp)) (I.hok.laid k hp new)
theorem Inv.write {x e:Addr}{o:HO}{t':Nat}(I:Inv X pins σ H s)(mu:P1 (H x))(he:e=x ∨ H e=some (.own x))(k:∀ b u,b≠e→s.heap.get? b=some u→h'.get? b=some u)(heo:∃ u,h'.get? e=some u)(new:eZ X.prog X.w (upd H x o) h' x o):Inv X pins σ (upd H x o) { s with heap:=h',toks:=t' }:=I.un (Un.write mu he k heo) (I.hok.write mu he k heo new)
theorem Inv.pins_of {pins':LD}(I:Inv X pins σ H s)(h:∀ p ∈ pins',s.heap.get? p.1=some p.2∧H p.1=none∧p.1≠X.env.locals∧p.1 ∉ X.fs∧∀ v,p.2.data≠.cell v):Inv X pins' σ H s :=
 ⟨I.ok,I.os,I.bare,I.base,I.loc,I.cell,I.free,I.freeC,fun p hp=>(bu.mp hp).elim (fun z=>I.pin p (cW _ z)) (h p),I.hok,I.len⟩
theorem yU {N:LK}(hN:N.Nodup){i j:Nat}{x:Str}(a:N[i]? = some x)(b:N[j]? = some x):i=j:=by
 obtain⟨h1,e1⟩:=aN.mp a;obtain⟨h2,e2⟩:=aN.mp b;exact (List.getElem_inj hN).mp (e1.trans e2.symm)
theorem qg {M:Model}{A:Around}{E:LN}{i:Nat}{x:Str}{v:V}{u:Value}{Q:Unit→Shared→Prop}(I:Inv X pins σ H s)(hN:X.N.Nodup)(hi:X.N[i]? = some x)(hx:Fg X.env.scope x)(r:cY v u)(h:∀ s',Inv X pins (σ.set i (some v)) H s'→(∃ a,Heap.SameBut a s.heap s'.heap∧(a=X.env.locals ∨ X.env.cells.lookup x=some a))→Q () s')(hf:X.fn x=true ∨ X.env.scope.names.lookup x=some .local:=by first | exact .inl rfl | exact .inr rfl | assumption):wpAny M A (storeName X.env x u) Q E s:=by
 obtain⟨m,hn,hl⟩:=id I.loc;have hcls:(X.env.scope.kind == .class || (X.env.scope.kind == .module && X.env.locals != X.env.globals))=false:=by rw[I.ok.kind]; rfl
 have hiσ:i < σ.length:=by rw[I.len]; exact (aN.mp hi).1
 have cne:=I.cne;have tracked:∀ {a:Addr} {h':Heap},(∃ o,s.heap.get? a=some o∧H a=none)→Heap.SameBut a s.heap h'→nK X.prog X.w H h':=fun {a h'} ha hs b ob e=>by
  obtain⟨_,_,hfree⟩:=ha;refine (I.hok b ob e).stay (fun c w' hc q=>(hs.2 c ?_).trans q) (fun _ q=>q) fun _ _ q=>q
  rintro rfl;rcases hc with rfl | hc
  ·rw[hfree] at e; cases e
  ·rw[hfree] at hc; cases hc
 rcases hx with hk | hk
 ·refine wpAny_storeName_local hk hn (fun h' hn' hs=>?_) hcls
  obtain⟨oL,_,_,hoL,_⟩:=id hn;refine h _ ⟨I.ok,I.os,I.bare,⟨fun b o e n hb hx=>?_,fun b o e n hb hx=>?_,I.base.free,fun b o e hx=>?_,I.base.tups,I.base.frzs,I.base.tbls⟩,⟨_,hn',fun j y v' e1 e2 e3=>?_⟩,fun y c e=>?_,I.free,I.freeC,fun p hp=>?_,tracked ⟨oL,hoL,I.free⟩ hs,by simpa using I.len⟩ ⟨_,hs,.inl rfl⟩
  ·exact (hs.2 b (bZ (aH (aX e) I.ok.above))).trans (I.base.keep b o e n hb hx)
  ·obtain⟨sl,e1⟩:=I.base.slot b o e n hb hx
   exact⟨sl,(hs.2 b (bZ (aH (aX e) I.ok.above))).trans e1⟩
  ·obtain⟨o',e1⟩:=I.base.there b o e hx
   exact⟨o',(hs.2 b (bZ (aH (aX e) I.ok.above))).trans e1⟩
  ·by_cases hj:j=i
   ·subst hj
    rw[hi] at e1; cases e1;rw[dG hiσ] at e2;cases e2;exact⟨u,r,.inl ⟨hk,by simp⟩⟩
   ·rw[eg (Ne.symm hj)] at e2
    obtain⟨u',r',q⟩:=hl j y v' e1 e2 e3;refine⟨u',r',?_⟩;rcases q with ⟨k,e⟩ | ⟨k,c,e,z⟩
    ·refine .inl ⟨k,?_⟩
     have:y≠x:=fun e=>hj (yU hN e1 (e ▸ hi))
     simp[this,e]
    ·exact .inr ⟨k,c,e,z.sameBut hs (cne y c e)⟩
  ·obtain⟨w',z⟩:=I.cell y c e
   exact⟨w',z.sameBut hs (cne y c e)⟩
  ·obtain⟨e,n,ne,nf,d⟩:=I.pin p hp
   exact⟨(hs.2 p.1 ne).trans e,n,ne,nf,d⟩
 ·have hfn:X.fn x=true:=by
   rcases hf with z | z
   ·exact z
   ·rw[z] at hk; cases hk
  obtain⟨c,hc⟩:=I.ok.has x (.inl hk);obtain⟨w',z⟩:=I.cell x c hc;refine wpAny_storeName_cell I.ok.kind hk hc z (fun h' hc' hs=>?_);obtain⟨oc,hoc,hocd⟩:=id z;refine h { s with heap:=h' } ⟨I.ok,I.os,I.bare,⟨fun b o e n hb hx=>?_,fun b o e n hb hx=>?_,I.base.free,fun b o e hx=>?_,I.base.tups,I.base.frzs,I.base.tbls⟩,⟨m,hn.sameBut hs (Ne.symm (cne x c hc)),fun j y v' e1 e2 e3=>?_⟩,fun y c' e=>?_,I.free,I.freeC,fun p hp=>?_,tracked ⟨oc,hoc,I.freeC x c hc⟩ hs,by simpa using I.len⟩ ⟨c,hs,.inr hc⟩
  ·exact (hs.2 b (bZ (aH (aX e) (I.ok.cab x c hfn hc)))).trans (I.base.keep b o e n hb hx)
  ·obtain⟨sl,e1⟩:=I.base.slot b o e n hb hx
   exact⟨sl,(hs.2 b (bZ (aH (aX e) (I.ok.cab x c hfn hc)))).trans e1⟩
  ·obtain⟨o',e1⟩:=I.base.there b o e hx
   exact⟨o',(hs.2 b (bZ (aH (aX e) (I.ok.cab x c hfn hc)))).trans e1⟩
  ·by_cases hj:j=i
   ·subst hj
    rw[hi] at e1; cases e1;rw[dG hiσ] at e2;cases e2;exact⟨u,r,.inr ⟨.inl hk,c,hc,hc'⟩⟩
   ·rw[eg (Ne.symm hj)] at e2
    obtain⟨u',r',q⟩:=hl j y v' e1 e2 e3;refine⟨u',r',?_⟩;rcases q with q | ⟨k,c',e,z'⟩
    ·exact .inl q
    ·refine .inr ⟨k,c',e,z'.sameBut hs ?_⟩
     rintro rfl;exact hj (yU hN e1 (I.ok.inj _ _ _ e hc ▸ hi))
  ·by_cases hcc:c'=c
   ·subst hcc; exact⟨_,hc'⟩
   ·obtain⟨w2,z2⟩:=I.cell y c' e
    exact⟨w2,z2.sameBut hs hcc⟩
  ·obtain⟨e,n,ne,nf,d⟩:=I.pin p hp
   refine⟨(hs.2 p.1 ?_).trans e,n,ne,nf,d⟩;intro q;rw[q,hoc] at e;have q':oc=p.2:=aW e;exact d w' (by rw[←q']; exact hocd)
theorem sw {M:Model}{A:Around}{E:LN}{i:Nat}{x:Str}{v:V}{u:Value}{Q:Unit→Shared→Prop}(I:Inv X pins σ H s)(hN:X.N.Nodup)(hi:X.N[i]? = some x)(hx:Fg X.env.scope x)(r:cY v u)(h:∀ s',Inv X pins (σ.set i (some v)) H s'→Q () s')(hf:X.fn x=true ∨ X.env.scope.names.lookup x=some .local:=by first | exact .inl rfl | exact .inr rfl | assumption):wpAny M A (storeName X.env x u) Q E s :=
 qg I hN hi hx r (fun s' I' _=>h s' I') hf
theorem Inv.call' {s':Shared}{ch:LI}(I:Inv X pins σ H s)(ho:s'.os=s.os)(u:Un (frs X.stack) ch H H' s.heap s'.heap)(hok:nK X.prog X.w H' s'.heap)(hg:AllBare s'.gens)(hch:∀ b ∈ ch,(b ∈ X.ex ∨ X.s₀.heap.objs.size≤b)∧b≠X.env.locals∧(∀ x c,X.env.cells.lookup x=some c→c≠b)∧∀ p ∈ X.pn++pins,p.1≠b):Inv X pins σ H' s':=by
 obtain⟨h',g',d',t',o'⟩:=s';have e:o'=s.os:=ho;subst e;exact I.call (g':=g') (t':=t') (d':=d') u hok hg hch
end
abbrev XK:=Value→Option Addr→Hp→Prop
abbrev St:=List (Option V)
abbrev VK:=V→Hp→Prop
abbrev LB:=List (List V)
abbrev LG:=List V
abbrev LP:=Nat→L2.St→Hp→Prop
abbrev LQ:=L2.St→Hp→Prop
abbrev LS:=Option V
abbrev TE:=St→Hp→VK→Prop
abbrev TT:=St→Hp→(Bool→Hp→Prop)→Prop
abbrev TA:=St→Hp→(List V→Hp→Prop)→Prop
structure qB where
 nx:St→Hp→Prop
 rt:VK
 bk:St→Hp→Prop:=fun _ _=>False
 ct:St→Hp→Prop:=fun _ _=>False
abbrev TS:=qB→St→Hp→Prop
inductive P6 (X:Cx)(pins:LD)(σ:St)(Q:VK)(u:Value)(s':Shared):Prop | mk (v H':_) (_:Inv X pins σ H' s') (_:cY v u) (_:Q v H'):P6 X pins σ Q u s'
def EP (X:Cx)(pins:LD)(σ:St)(Q:VK)(u:Value)(s':Shared):Prop:=P6 X pins σ Q u s'
def TP (X:Cx)(pins:LD)(σ:St)(Q:Bool→Hp→Prop)(b:Bool)(s':Shared):Prop:=∃ H',Inv X pins σ H' s'∧Q b H'
inductive Qa (X:Cx)(pins:LD)(σ:St)(Q:List V→Hp→Prop)(us:LH)(s':Shared):Prop | mk (vs H':_) (_:Inv X pins σ H' s') (_:cN vs us) (_:Q vs H'):Qa X pins σ Q us s'
def AP (X:Cx)(pins:LD)(σ:St)(Q:List V→Hp→Prop)(us:LH)(s':Shared):Prop:=Qa X pins σ Q us s'
def SP (X:Cx)(pins:LD)(D:qB)(f:Flow)(s':Shared):Prop :=
 match f with
 | .next=>∃ σ' H',Inv X pins σ' H' s'∧D.nx σ' H'
 | .brk=>∃ σ' H',Inv X pins σ' H' s'∧D.bk σ' H'
 | .cont=>∃ σ' H',Inv X pins σ' H' s'∧D.ct σ' H'
 | .ret u=>∃ v σ' H',Inv X pins σ' H' s'∧cY v u∧D.rt v H'
def PE (X:Cx)(e:Expr)(t:TE):Prop :=
 ∀ (pins:LD) (s:Shared) (σ:St) (H:Hp) (Q:VK),Inv X pins σ H s→t σ H Q→wpAny (model X.prog X.w) X.A (eval e X.env) (EP X pins σ Q) X.xe s
def PT (X:Cx)(e:Expr)(t:TT):Prop :=
 ∀ (pins:LD) (s:Shared) (σ:St) (H:Hp) (Q:Bool→Hp→Prop),Inv X pins σ H s→t σ H Q→wpAny (model X.prog X.w) X.A (isTrue e X.env (eval e X.env)) (TP X pins σ Q) X.xe s
def PW (X:Cx)(e:Expr)(t:TT):Prop :=
 ∀ (whole:Sem Value) (pins:LD) (s:Shared) (σ:St) (H:Hp) (Q:Bool→Hp→Prop),Inv X pins σ H s→t σ H Q→wpAny (model X.prog X.w) X.A (isTrue e X.env whole) (TP X pins σ Q) X.xe s
theorem PW.pt {X:Cx}{e:Expr}{t:TT}(h:PW X e t):PT X e t:=h _
def PA (X:Cx)(es:LL)(t:TA):Prop :=
 ∀ (pos:Pos) (pins:LD) (s:Shared) (σ:St) (H:Hp) (Q:List V→Hp→Prop),Inv X pins σ H s→t σ H Q→wpAny (model X.prog X.w) X.A (spliced (backTo pos (starEach es X.env))) (AP X pins σ Q) X.xe s
def PS (X:Cx)(st:Stmt)(t:TS):Prop :=
 ∀ (pins:LD) (s:Shared) (σ:St) (H:Hp) (D:qB),Inv X pins σ H s→t D σ H→wpAny (model X.prog X.w) X.A (exec st X.env) (SP X pins D) X.xe s
def xN (X:Cx)(st:List Stmt)(t:TS):Prop :=
 ∀ (pins:LD) (s:Shared) (σ:St) (H:Hp) (D:qB),Inv X pins σ H s→t D σ H→wpAny (model X.prog X.w) X.A (execs st X.env) (SP X pins D) X.xe s
theorem thn {α:Type}{t:Sem α}{Q Q':α→Shared→Prop}{M:Model}{A:Around}{E:LN}{s:Shared}(h:wpAny M A t Q E s)(hQ:∀ a s,Q a s→Q' a s):wpAny M A t Q' E s:=du h hQ fun _ _ x=>x
section
variable {X:Cx}
theorem bin {a b:Expr}{ta tb:TE}(ha:PE X a ta)(hb:PE X b tb){pins:LD}{s:Shared}{σ:St}{H:Hp}{R:V→V→Hp→Prop}(I:Inv X pins σ H s)(h:ta σ H fun x H1=>tb σ H1 fun y H2=>R x y H2){α:Type}{Q:α→Shared→Prop}{f:Value→Value→Sem α}(hf:∀ v u s2 x y H2,Inv X pins σ H2 s2→cY x v→cY y u→R x y H2→wpAny (model X.prog X.w) X.A (f v u) Q X.xe s2) :
  wpAny (model X.prog X.w) X.A (eval a X.env) (fun v s₁=>wpAny (model X.prog X.w) X.A (eval b X.env) (fun u s₂=>wpAny (model X.prog X.w) X.A (f v u) Q X.xe s₂) X.xe s₁) X.xe s:=by
 refine thn (ha pins s σ H _ I h) fun v s1 ⟨x,H1,I1,r1,q1⟩=>?_
 refine thn (hb pins s1 σ H1 _ I1 q1) fun u s2 ⟨y,H2,I2,r2,q2⟩=>?_
 exact hf v u s2 x y H2 I2 r1 r2 q2
inductive Fv (i:Nat)(σ:L2.St)(H:Hp)(Q:VK):Prop | mk (v:_) (_:σ[i]? = some (some v)) (_:Q v H):Fv i σ H Q
def Fw (i:Nat):TE:=fun σ H Q=>Fv i σ H Q
def tC (v:V):TE:=fun _ H Q=>Q v H
theorem MZ {i:Nat}{x:Str}{pos:Pos}(hN:X.N[i]? = some x)(hv:Ql X.env.scope x)(hd:(x == ("__debug__" : Str))=false:=by decide)(hcd:(x == ("__classdict__" : Str))=false:=by decide):PE X (.Name x pos) (Fw i):=by
 intro pins s σ H Q I h;obtain⟨v,e,h⟩:=h;obtain⟨m,hn,hl⟩:=I.loc;obtain⟨u,r,l⟩:=hl i x v hN e hv;have fin:EP X pins σ Q u s:=⟨v,H,I,r,h⟩;rcases l with ⟨hk,hm⟩ | ⟨hk,c,hc,hcell⟩
 ·exact wpAny_Name (wpAny_loadName_local I.ok.kind hk hn hm fin) hd
 ·rcases hk with hk | hk
  ·exact wpAny_Name (wpAny_loadName_cell I.ok.kind hk hc hcell fin) hd
  ·exact wpAny_Name (wpAny_loadName_free I.ok.kind hk hc hcell fin hcd) hd
theorem aj {i j pos}:PE X (.Constant (.int i) j pos) (tC (.int i)):=fun _ _ _ H _ I h=>wpAny_Constant_int ⟨.int i,H,I.tok _,⟨_,rfl⟩,h⟩
theorem vw {b j pos}:PE X (.Constant (.bool b) j pos) (tC (.bl b)):=fun _ _ _ H _ I h=>Constant_bool ⟨.bl b,H,I,rfl,h⟩
theorem cV {x j pos}:PE X (.Constant (.str x) j pos) (tC (.str x)):=fun _ _ _ H _ I h=>Calls.Constant_str ⟨.str x,H,I.tok _,⟨_,rfl⟩,h⟩
def Gl (X:Cx)(x:Str):Prop:=X.env.kindOf x=some .globalImplicit
theorem Cp {E:LN}{pins:LD}{s:Shared}{σ:St}{H:Hp}{x:Str}{u:Value}{pos:Pos}{Q:LN}(I:Inv X pins σ H s)(hg:Gl X x)(hm:X.mg x=some u)(h:Q u s)(hd:(x == ("__debug__" : Str))=false:=by decide):wpAny (model X.prog X.w) X.A (eval (.Name x pos) X.env) Q E s :=
 Calls.Name_function_global I.ok.kind hg (Calls.loadGlobal_global (by rw[I.ok.glob]; exact I.mod.glob.keeps I.bk) hm h) hd
theorem mf {E:LN}{pins:LD}{s:Shared}{σ:St}{H:Hp}{x:Str}{u:Value}{pos:Pos}{Q:LN}(I:Inv X pins σ H s)(hg:Gl X x)(hm:X.mg x=none)(hv:bootBuiltins x=some u)(h:Q u s)(hn:x≠"__name__":=by decide)(hd:(x == ("__debug__" : Str))=false:=by decide):wpAny (model X.prog X.w) X.A (eval (.Name x pos) X.env) Q E s:=by
 obtain⟨mb,h1,h2⟩:=I.mod.blt;exact Calls.Name_function_global I.ok.kind hg (Calls.loadGlobal_builtin (by rw[I.ok.glob]; exact I.mod.glob.keeps I.bk) hm (by rw[I.ok.blt]; exact h1.keeps I.bk) ((h2 x hn).trans hv) h) hd
theorem JD {x:Str}{v:V}{u:Value}{pos:Pos}(hg:Gl X x)(hm:X.mg x=some u)(r:cY v u)(hd:(x == ("__debug__" : Str))=false:=by decide):PE X (.Name x pos) (tC v) :=
 fun _ _ _ H _ I h=>Cp I hg hm ⟨v,H,I,r,h⟩ hd
theorem JF {x:Str}{v:V}{u:Value}{pos:Pos}(hg:Gl X x)(hm:X.mg x=none)(hv:bootBuiltins x=some u)(r:cY v u)(hn:x≠"__name__":=by decide)(hd:(x == ("__debug__" : Str))=false:=by decide):PE X (.Name x pos) (tC v) :=
 fun _ _ _ H _ I h=>mf I hg hm hv ⟨v,H,I,r,h⟩ hn hd
variable {a b:Expr}{ta tb:TE}{pos:Pos}
def PC (X:Cx)(op:CmpOp)(a b:Expr)(t:TE):Prop :=
 ∀ (pins:LD) (s:Shared) (σ:St) (H:Hp) (Q:VK),Inv X pins σ H s→t σ H Q →
  wpAny (model X.prog X.w) X.A (eval a X.env) (fun v s₁=>wpAny (model X.prog X.w) X.A (eval b X.env) (fun u s₂=>wpAny (model X.prog X.w) X.A (compareOp op v u) (EP X pins σ Q) X.xe s₂) X.xe s₁) X.xe s
inductive ON (Q:Bool→Hp→Prop)(x:V)(H1:Hp):Prop | mk (c:_) (_:x=.bl c) (_:Q c H1):ON Q x H1
def tB (t:TE):TT:=fun σ H Q=>t σ H fun x H1=>ON Q x H1
theorem QC {op:CmpOp}{t:TE}(h:PC X op a b t)(h1:behindInMarks op b=false:=by first | exact nobehind _ (by decide) (by decide) | rfl):PT X (.Compare a [op] [b] pos) (tB t):=by
 intro pins s σ H Q I hw;refine wpAny_isTrue_Compare1 (thn (h pins s σ H _ I hw) fun v s1 h1=>thn h1 fun u s2 h2=>thn h2 fun c s3 ⟨x,H1,I1,r1,q1⟩=>?_) h1;obtain⟨d,rfl,q⟩:=q1;cases r1;exact iJ ⟨H1,I1,q⟩
theorem Az {e:Expr}{t:TE}(h:PE X e t)(he:∀ whole,isTrue e X.env whole=(do let v ← whole; standAt e.pos; holding [v] (truthy v)):=by intro _; rfl):PT X e (tB t):=by
 intro pins s σ H Q I hw;refine isTrue_plain (thn (h pins s σ H _ I hw) fun v s1 ⟨x,H1,I1,r1,q1⟩=>?_) (he _);obtain⟨d,rfl,q⟩:=q1;cases r1;exact iJ ⟨H1,I1,q⟩
variable {tA tB':TT}{rest:LL}
def MD (t u:TT):TT:=fun σ H Q=>t σ H fun c H1=>if c=true then u σ H1 Q else Q false H1
def RI (t u:TT):TT:=fun σ H Q=>t σ H fun c H1=>if c=true then Q true H1 else u σ H1 Q
def Qq (t:TT):TT:=fun σ H Q=>t σ H fun c H1=>Q (!c) H1
theorem ke (ha:PT X a tA):PW X (.BoolOp .And [a] pos) tA:=by
 intro wh pins s σ H Q I h;refine isTrue_and (thn (ha pins s σ H Q I h) fun c s1 e=>?_);cases c with
 | true=>exact isTrue_and_nil e
 | false=>exact e
theorem Ay (ha:PT X a tA):PW X (.BoolOp .Or [a] pos) tA:=by
 intro wh pins s σ H Q I h;refine isTrue_or (thn (ha pins s σ H Q I h) fun c s1 e=>?_);cases c with
 | false=>exact isTrue_or_nil e
 | true=>exact e
theorem lZ (ha:PT X a tA)(hb:PW X (.BoolOp .And (b :: rest) pos) tB'):PW X (.BoolOp .And (a :: b :: rest) pos) (MD tA tB'):=by
 intro wh pins s σ H Q I h;refine isTrue_and (thn (ha pins s σ H _ I h) fun c s1 ⟨H1,I1,q1⟩=>?_);cases c with
 | true=>exact hb wh pins s1 σ H1 Q I1 q1
 | false=>exact⟨H1,I1,q1⟩
theorem Cc (ha:PT X a tA)(hb:PW X (.BoolOp .Or (b :: rest) pos) tB'):PW X (.BoolOp .Or (a :: b :: rest) pos) (RI tA tB'):=by
 intro wh pins s σ H Q I h;refine isTrue_or (thn (ha pins s σ H _ I h) fun c s1 ⟨H1,I1,q1⟩=>?_);cases c with
 | true=>exact⟨H1,I1,q1⟩
 | false=>exact hb wh pins s1 σ H1 Q I1 q1
theorem Gu (ha:PT X a tA):PT X (.UnaryOp .Not a pos) (Qq tA):=by
 intro pins s σ H Q I h;exact isTrue_not (ha pins s σ H (fun c H1=>Q (!c) H1) I h)
inductive Bz (tb:TE)(σ:L2.St)(Q:VK)(x:V)(H1:Hp):Prop | mk (c:_) (_:x=.bl c) (_:if c=true then tb σ H1 Q else Q (.bl false) H1):Bz tb σ Q x H1
def OO (ta tb:TE):TE:=fun σ H Q=>ta σ H fun x H1=>Bz tb σ Q x H1
theorem tp {op}{t:TE}(h:PE X a t):PE X (.BoolOp op [a] pos) t:=fun pins s σ H Q I hw=>BoolOp_one (h pins s σ H Q I hw)
theorem tu (ha:PE X a ta)(hb:PE X (.BoolOp .And (b :: rest) pos) tb):PE X (.BoolOp .And (a :: b :: rest) pos) (OO ta tb):=by
 intro pins s σ H Q I h;refine BoolOp_and (thn (ha pins s σ H _ I h) fun v s1 ⟨x,H1,I1,r1,q1⟩=>?_);obtain⟨c,rfl,q1⟩:=q1;cases r1;refine iJ ?_;cases c with
 | true=>exact hb pins s1 σ H1 Q I1 q1
 | false=>exact⟨.bl false,H1,I1,rfl,q1⟩
def RJ (t:TT)(ta tb:TE):TE:=fun σ H Q=>t σ H fun c H1=>if c=true then ta σ H1 Q else tb σ H1 Q
theorem pi {c:Expr}(hc:PT X c tA)(ha:PE X a ta)(hb:PE X b tb):PE X (.IfExp c a b pos) (RJ tA ta tb):=by
 intro pins s σ H Q I h;refine wpAny_IfExp (thn (hc pins s σ H _ I h) fun d s1 ⟨H1,I1,q1⟩=>?_);cases d with
 | true=>exact ha pins s1 σ H1 Q I1 q1
 | false=>exact hb pins s1 σ H1 Q I1 q1
end
def bh (K:LM)(H:Hp)(a:Addr)(xs:LG):Prop :=
 Rd H a (.lst xs) ∨
  ∃ (o:Obj) (its:LU) (n:Nat),K.lookup a=some o∧o.cls=.type "list"∧o.dict=none∧o.data=.seq its n∧its.size≤sizeLine∧cN xs its.toList
def dy (K:LM)(H:Hp)(a:Addr)(xs:LG):Prop :=
 Rd H a (.tup xs) ∨
  ∃ (o:Obj) (its:LU) (n:Nat),K.lookup a=some o∧o.cls=.type "tuple"∧o.data=.seq its n∧its.size≤sizeLine∧cN xs its.toList
def QT:Value→LS
 | .none=>some .non
 | .bool b=>some (.bl b)
 | .int i _=>some (.int i)
 | .str x _=>some (.str x)
 | .bytes b _=>some (.byt b)
 | .float b _=>some (.flt b)
 | .ref a=>some (.ref a)
 | .type n=>some (.ty n)
 | _=>none
theorem cY.abs {x:V}{u:Value}(r:cY x u):QT u=some x:=by
 cases x with
 | non=>cases r; rfl
 | bl _=>cases r; rfl
 | int _=>obtain⟨t,rfl⟩:=r; rfl
 | str _=>obtain⟨t,rfl⟩:=r; rfl
 | byt _=>obtain⟨t,rfl⟩:=r; rfl
 | flt _=>obtain⟨t,rfl⟩:=r; rfl
 | ref _=>cases r; rfl
 | ty _=>cases r; rfl
theorem cY.inj {x y:V}{u:Value}(r:cY x u)(q:cY y u):x=y:=aW (r.abs.symm.trans q.abs)
theorem cN.inj:∀ {xs ys:LG} {us:LH},cN xs us→cN ys us→xs=ys
 | _,_,_,.nil,.nil=>rfl
 | _,_,_,.cons r t,.cons r' t'=>by rw[r.inj r',cN.inj t t']
section
variable {X:Cx}{pins:LD}{σ:St}{H:Hp}{s:Shared}{a:Addr}{xs ys:LG}
theorem bh.of {K:LM}(h:H a=some (.lst xs)):bh K H a xs:=.inl (.inl h)
theorem dy.of {K:LM}(h:H a=some (.tup xs)):dy K H a xs:=.inl (.inl h)
theorem Inv.list (I:Inv X pins σ H s)(h:bh X.K H a xs):∃ its:LH,cN xs its∧PlainL s.heap a its.toArray∧xs.length≤sizeLine:=by
 rcases h with h | ⟨o,its,n,hk,hc,hd,hs,hz,r⟩
 ·obtain⟨z,its,n,r,e⟩:=h.ok I.hok
  exact⟨its,r,⟨_,n,e,rfl,rfl,rfl⟩,z⟩
 ·refine⟨its.toList,r,⟨o,n,I.kIn a o hk,hc,hd,by simpa using hs⟩,?_⟩
  have e:=r.length;simp only[js] at e
  lia
theorem Inv.tuple (I:Inv X pins σ H s)(h:dy X.K H a xs):∃ its:LH,cN xs its∧IsTup s.heap a its.toArray∧xs.length≤sizeLine:=by
 rcases h with h | ⟨o,its,n,hk,hc,hs,hz,r⟩
 ·obtain⟨z,its,r,p⟩:=h.ok I.hok
  exact⟨its,r,p,z⟩
 ·refine⟨its.toList,r,⟨o,I.kIn a o hk,hc,n,by simpa using hs⟩,?_⟩
  have e:=r.length;simp only[js] at e
  lia
theorem Inv.list_inj (I:Inv X pins σ H s)(h:bh X.K H a xs)(h':bh X.K H a ys):xs=ys:=by
 obtain⟨its,r,⟨o,n,e,_,_,d⟩,_⟩:=I.list h;obtain⟨its',r',⟨o',n',e',_,_,d'⟩,_⟩:=I.list h';rw[e] at e'; cases e';rw[d] at d'
 injection d' with d1 _
 have:its=its':=by simpa using congrArg Array.toList d1
 subst this;exact r.inj r'
theorem Inv.tuple_inj (I:Inv X pins σ H s)(h:dy X.K H a xs)(h':dy X.K H a ys):xs=ys:=by
 obtain⟨its,r,⟨o,e,_,n,d⟩,_⟩:=I.tuple h;obtain⟨its',r',⟨o',e',_,n',d'⟩,_⟩:=I.tuple h';rw[e] at e'; cases e';rw[d] at d'
 injection d' with d1 _
 have:its=its':=by simpa using congrArg Array.toList d1
 subst this;exact r.inj r'
end
abbrev Cx.wish (X:Cx)(E:LN):Cx:={ X with xe:=E }
abbrev Cx.nox (X:Cx):Cx:=X.wish fun _ _=>False
theorem Cx.Ok.wish {X:Cx}(ok:X.Ok)(E:LN):(X.wish E).Ok :=
 ⟨ok.mod,ok.kind,ok.glob,ok.blt,ok.above,ok.inj,ok.has,ok.cab,ok.hd,ok.frames,ok.stk,ok.exf,ok.bs,ok.bsz,ok.noex,ok.exfs,ok.funs,ok.frf⟩
theorem Cx.Ok.unwish {X:Cx}{E:LN}(ok:(X.wish E).Ok):X.Ok :=
 ⟨ok.mod,ok.kind,ok.glob,ok.blt,ok.above,ok.inj,ok.has,ok.cab,ok.hd,ok.frames,ok.stk,ok.exf,ok.bs,ok.bsz,ok.noex,ok.exfs,ok.funs,ok.frf⟩
section
variable {X:Cx}{pins:LD}{σ:St}{H:Hp}{s:Shared}{E:LN}
theorem Inv.wish (I:Inv X pins σ H s)(E:LN):Inv (X.wish E) pins σ H s:=⟨I.ok.wish E,I.os,I.bare,I.base,I.loc,I.cell,I.free,I.freeC,I.pin,I.hok,I.len⟩
theorem Inv.unwish (I:Inv (X.wish E) pins σ H s):Inv X pins σ H s:=⟨I.ok.unwish,I.os,I.bare,I.base,I.loc,I.cell,I.free,I.freeC,I.pin,I.hok,I.len⟩
theorem SP.unwish {D:qB}{f:Flow}{s':Shared}(h:SP (X.wish E) pins D f s'):SP X pins D f s':=by
 cases f with
 | next=>obtain⟨σ',H',I,q⟩:=h; exact⟨σ',H',I.unwish,q⟩
 | brk=>obtain⟨σ',H',I,q⟩:=h; exact⟨σ',H',I.unwish,q⟩
 | cont=>obtain⟨σ',H',I,q⟩:=h; exact⟨σ',H',I.unwish,q⟩
 | ret u=>obtain⟨v,σ',H',I,r,q⟩:=h; exact⟨v,σ',H',I.unwish,r,q⟩
theorem xN.nox {st:List Stmt}{t:TS}(h:xN X.nox st t):xN X st t:=fun pins s σ H D I hw =>
 du (h pins s σ H D (I.wish _) hw) (fun _ _ q=>q.unwish) fun _ _ z=>False.elim z
end
section
variable {X:Cx}{st:Stmt}{rest:List Stmt}{t u:TS}{e:Expr}{te:TE}{pos:Pos}
def OK:TS:=fun D σ H=>D.nx σ H
def bL (t u:TS):TS:=fun D σ H=>t { D with nx:=u D } σ H
theorem bX:xN X [] OK:=fun _ _ σ H _ I h=>rp ⟨σ,H,I,h⟩
theorem am (h1:PS X st t)(h2:xN X rest u):xN X (st :: rest) (bL t u):=by
 intro pins s σ H D I h;refine Dl (thn (h1 pins s σ H { D with nx:=u D } I h) fun f s1 q=>?_);cases f with
 | next =>
  obtain⟨σ',H',I',q⟩:=q;exact h2 pins s1 σ' H' D I' q
 | ret v=>exact q
 | brk=>exact q
 | cont=>exact q
theorem ar (h1:PS X st t):xN X [st] t:=by
 intro pins s σ H D I h;refine Dl (thn (h1 pins s σ H D I h) fun f s1 q=>?_);cases f with
 | next=>exact rp q
 | ret v=>exact q
 | brk=>exact q
 | cont=>exact q
theorem Inv.quiet {pins:LD}{σ:St}{H:Hp}{s:Shared}(I:Inv X pins σ H s):interactive X.env=false:=by simp[interactive,I.ok.kind]
def Li (te:TE):TS:=fun D σ H=>te σ H fun _ H1=>D.nx σ H1
theorem fg (he:PE X e te)(hs:swapsWith e none pos.line X.env=pure false:=by rfl):PS X (.Expr e pos) (Li te):=by
 intro pins s σ H D I h;exact wpAny_Expr_any (thn (he pins s σ H _ I h) fun v s1 ⟨x,H1,I1,r1,q1⟩=>⟨σ,H1,I1,q1⟩) I.quiet hs
def OI (te:TE):TS:=fun D σ H=>te σ H D.rt
theorem bt (he:PE X e te):PS X (.Return (some e) pos) (OI te):=by
 intro pins s σ H D I h;exact wpAny_Return_some (thn (he pins s σ H _ I h) fun v s1 ⟨x,H1,I1,r1,q1⟩=>⟨x,σ,H1,I1,r1,q1⟩)
def eK (c:TT)(t u:TS):TS:=fun D σ H=>c σ H fun b H1=>if b=true then t D σ H1 else u D σ H1
theorem cK {c:Expr}{a b:List Stmt}{tc:TT}(hc:PT X c tc)(ha:xN X a t)(hb:xN X b u):PS X (.If c a b pos) (eK tc t u):=by
 intro pins s σ H D I h;refine wpAny_If (thn (hc pins s σ H _ I h) fun d s1 ⟨H1,I1,q1⟩=>?_);cases d with
 | true=>exact ha pins s1 σ H1 D I1 q1
 | false=>exact hb pins s1 σ H1 D I1 q1
def MA:TS:=fun _ _ _=>False
theorem Ec {sts:List Stmt}:xN X sts MA:=fun _ _ _ _ _ _ h=>h.elim
end
abbrev TG:=V→St→Hp→(St→Hp→Prop)→Prop
abbrev K5:=List V→St→Hp→(St→Hp→Prop)→Prop
def PG (X:Cx)(target:Expr)(t:TG):Prop :=
 ∀ (pins:LD) (s:Shared) (σ:St) (H:Hp) (v:V) (u:Value) (Q:St→Hp→Prop),Inv X pins σ H s→cY v u→t v σ H Q →
  wpAny (model X.prog X.w) X.A (assign target X.env u) (fun _ s'=>∃ σ' H',Inv X pins σ' H' s'∧Q σ' H') X.xe s
def Qn (X:Cx)(ts:LL)(t:K5):Prop :=
 ∀ (pins:LD) (s:Shared) (σ:St) (H:Hp) (vs:LG) (us:LH) (Q:St→Hp→Prop),Inv X pins σ H s→cN vs us→t vs σ H Q →
  wpAny (model X.prog X.w) X.A (assignInOrder ((assignEach ts X.env).map (·.2)) us) (fun _ s'=>∃ σ' H',Inv X pins σ' H' s'∧Q σ' H') X.xe s
abbrev Oh:=V→V→V→Hp→(Hp→Prop)→Prop
def PY (X:Cx)(t:Oh):Prop :=
 ∀ (pins:LD) (s:Shared) (σ:St) (H:Hp) (o i v:V) (ov iv u:Value) (Q:Hp→Prop),Inv X pins σ H s→cY o ov→cY i iv→cY v u→t o i v H Q →
  wpAny (model X.prog X.w) X.A (setItem ov iv u) (fun _ s'=>∃ H',Inv X pins σ H' s'∧Q H') X.xe s
abbrev PU:=V→V→Hp→VK→Prop
def Rz (X:Cx)(op:Operator)(t:PU):Prop :=
 ∀ (pins:LD) (s:Shared) (σ:St) (H:Hp) (x y:V) (v u:Value) (Q:VK),Inv X pins σ H s→cY x v→cY y u→t x y H Q →
  wpAny (model X.prog X.w) X.A (inplaceOp op v u) (EP X pins σ Q) X.xe s
section
variable {X:Cx}{pos:Pos}
def kW (i:Nat):TG:=fun v σ H Q=>Q (σ.set i (some v)) H
theorem ny {i:Nat}{x:Str}(hN:X.N.Nodup)(hi:X.N[i]? = some x)(hx:Fg X.env.scope x)(hf:X.fn x=true ∨ X.env.scope.names.lookup x=some .local:=by first | exact .inl rfl | exact .inr rfl | assumption):PG X (.Name x pos) (kW i):=by
 intro pins s σ H v u Q I r h;exact Ah (sw I hN hi hx r (fun s' I'=>⟨_,H,I',h⟩) hf)
theorem iK (i:Nat){x:Str}(hN:X.N.Nodup)(hi:X.N[i]? = some x:=by rfl)(hx:Fg X.env.scope x:=by first | exact Or.inl rfl | exact Or.inr rfl)(hf:X.fn x=true ∨ X.env.scope.names.lookup x=some .local:=by first | exact .inl rfl | exact .inr rfl | assumption):PG X (.Name x pos) (kW i):=ny hN hi hx hf
def PD:K5:=fun vs σ H Q=>vs=[]∧Q σ H
inductive CK (t:TG)(u:K5)(vs:LG)(σ:L2.St)(H:Hp)(Q:LQ):Prop | mk (v r:_) (_:vs=v :: r) (_:t v σ H fun σ' H'=>u r σ' H' Q):CK t u vs σ H Q
def HY (t:TG)(u:K5):K5:=fun vs σ H Q=>CK t u vs σ H Q
theorem eJ:Qn X [] PD:=by
 intro pins s σ H vs us Q I r h;obtain⟨e,h⟩:=h;subst e;cases r;exact assignInOrder_nil ⟨σ,H,I,h⟩
theorem bY {e:Expr}{es:LL}{t:TG}{u:K5}(h1:PG X e t)(h2:Qn X es u)(hs:(assignEach (e :: es) X.env).map (·.2)=assign e X.env :: (assignEach es X.env).map (·.2):=by rfl):Qn X (e :: es) (HY t u):=by
 intro pins s σ H vs us Q I r h;obtain⟨v,vr,e1,h⟩:=h;subst e1;cases r with
 | cons r rr =>
  rw[hs];refine assignInOrder_cons (thn (h1 pins s σ H _ _ _ I r h) fun _ s1 ⟨σ1,H1,I1,q1⟩=>?_);exact h2 pins s1 σ1 H1 _ _ Q I1 rr q1
inductive HW (K:LM)(n:Nat)(t:K5)(v:V)(σ:L2.St)(H:Hp)(Q:LQ):Prop | mk (a xs:_) (_:v=.ref a) (_:dy K H a xs) (_:xs.length=n) (_:t xs σ H Q):HW K n t v σ H Q
def Py (K:LM)(n:Nat)(t:K5):TG:=fun v σ H Q=>HW K n t v σ H Q
theorem gp {es:LL}{k:Nat}{t:K5}{n:Nat}(hc:X.calm=true)(h:Qn X es t)(hn:(assignEach es X.env).length=n:=by rfl)(hst:(assignEach es X.env).findIdx? (·.1)=none:=by rfl):PG X (.Tuple es k pos) (Py X.K n t):=by
 intro pins s σ H v u Q I r hw;obtain⟨a,xs,e1,hq,hl,hw⟩:=hw;subst e1;cases r;obtain⟨its,rv,ht,hz⟩:=I.tuple hq;refine assign_Tuple_tuple (I.ok.hd hc) ht (by simp[hn,←hl,rv.length]) hst fun h' hx=>?_
 have I1:Inv X pins σ H { s with heap:=h' }:=I.kept (t':=s.toks) fun b o e=>hx b o (bZ (aX e)) e
 exact h pins _ σ H xs _ Q I1 (by simpa using rv) hw
def QO (to ti:TE)(t:Oh):TG:=fun v σ H Q=>to σ H fun o H1=>ti σ H1 fun i H2=>t o i v H2 fun H3=>Q σ H3
theorem jv {o i:Expr}{to ti:TE}{t:Oh}(ho:PE X o to)(hi:PE X i ti)(hs:PY X t)(ha:∀ v,assign (.Subscript o i pos) X.env v=(do
   let ov ← holding [v] (eval o X.env)
   let iv ← holding [v,ov] (eval i X.env)
   standAt pos
   holding [v,ov,iv] (setItem ov iv v)
   release [v,ov,iv] []):=by intro _; rfl):PG X (.Subscript o i pos) (QO to ti t):=by
 intro pins s σ H v u Q I r h;rw[ha];refine af (dR (thn (ho pins s σ H _ I h) fun ov s1 ⟨x,H1,I1,r1,q1⟩=>?_));refine af (dR (thn (hi pins s1 σ H1 _ I1 q1) fun iv s2 ⟨y,H2,I2,r2,q2⟩=>?_));refine af (oO (af (dR (thn (hs pins s2 σ H2 x y v ov iv u _ I2 r1 r2 r q2) fun _ s3 ⟨H3,I3,q3⟩=>?_))));exact wpAny_release ⟨σ,H3,I3,q3⟩
def Ds (te:TE)(g:TG):TS:=fun D σ H=>te σ H fun x H1=>g x σ H1 D.nx
theorem gx {tg e:Expr}{te:TE}{g:TG}(he:PE X e te)(hg:PG X tg g)(hs:swapsWithSole [tg] e pos.line X.env=pure false:=by rfl)(hw:swappedStores [tg] e X.env=pure none:=by rfl)(h1:(assignEach [tg] X.env).map (·.2)=[assign tg X.env]:=by rfl):PS X (.Assign [tg] e pos) (Ds te g):=by
 intro pins s σ H D I h;refine wpAny_Assign_stores (thn (he pins s σ H _ I h) fun v s1 ⟨x,H1,I1,r1,q1⟩=>?_) hs hw;rw[h1];exact thn (hg pins s1 σ H1 x v _ I1 r1 q1) fun _ s2 q=>q
theorem Gw {i:Nat}{x:Str}{e:Expr}{te:TE}{pos':Pos}(hN:X.N.Nodup)(hi:X.N[i]? = some x)(hx:Fg X.env.scope x)(he:PE X e te)(hs:swapsWith e (some (.Name x pos')) pos.line X.env=pure false:=by rfl)(hf:X.fn x=true ∨ X.env.scope.names.lookup x=some .local:=by first | exact .inl rfl | exact .inr rfl | assumption) :
  PS X (.Assign [.Name x pos'] e pos) (Ds te (kW i)):=by
 intro pins s σ H D I h;refine wpAny_Assign_Name (thn (he pins s σ H _ I h) fun v s1 ⟨y,H1,I1,r1,q1⟩=>?_) hs;exact sw I1 hN hi hx r1 (fun s2 I2=>⟨_,H1,I2,q1⟩) hf
theorem d7 (i:Nat){x:Str}{e:Expr}{te:TE}{pos':Pos}(hN:X.N.Nodup)(he:PE X e te)(hi:X.N[i]? = some x:=by rfl)(hx:Fg X.env.scope x:=by first | exact Or.inl rfl | exact Or.inr rfl)(hs:swapsWith e (some (.Name x pos')) pos.line X.env=pure false:=by rfl)(hf:X.fn x=true ∨ X.env.scope.names.lookup x=some .local:=by first | exact .inl rfl | exact .inr rfl | assumption):PS X (.Assign [.Name x pos'] e pos) (Ds te (kW i)):=Gw hN hi hx he hs hf
inductive FA (i:Nat)(te:TE)(ti:PU)(D:qB)(σ:L2.St)(H:Hp):Prop | mk (x:_) (_:σ[i]? = some (some x)) (_:te σ H fun y H1=>ti x y H1 fun z H2=>D.nx (σ.set i (some z)) H2):FA i te ti D σ H
def Qt (i:Nat)(te:TE)(ti:PU):TS:=fun D σ H=>FA i te ti D σ H
theorem MY {i:Nat}{x:Str}{e:Expr}{te:TE}{op:Operator}{ti:PU}{pos':Pos}(hN:X.N.Nodup)(hi:X.N[i]? = some x)(hx:Fg X.env.scope x)(he:PE X e te)(ho:Rz X op ti)(hf:X.fn x=true ∨ X.env.scope.names.lookup x=some .local:=by first | exact .inl rfl | exact .inr rfl | assumption) :
  PS X (.AugAssign (.Name x pos') op e pos) (Qt i te ti):=by
 intro pins s σ H D I h;obtain⟨v,e1,h⟩:=h;obtain⟨m,hn,hl⟩:=I.loc;have vis:Ql X.env.scope x:=by rcases hx with k | k; exact .inl k; exact .inr (.inl k)
 obtain⟨u,r,l⟩:=hl i x v hi e1 vis;refine wpAny_AugAssign_Name ?_;have go:wpAny (model X.prog X.w) X.A (eval e X.env) (fun w s₂=>wpAny (model X.prog X.w) X.A (inplaceOp op u w) (fun r s₃=>wpAny (model X.prog X.w) X.A (storeName X.env x r) (fun _=>SP X pins D .next) X.xe s₃) X.xe s₂) X.xe s:=by
  refine thn (he pins s σ H _ I h) fun w s1 ⟨y,H1,I1,r1,q1⟩=>?_
  refine thn (ho pins s1 σ H1 v y u w _ I1 r r1 q1) fun z s2 ⟨zv,H2,I2,r2,q2⟩=>?_
  exact sw I2 hN hi hx r2 (fun s3 I3=>⟨_,H2,I3,q2⟩) hf
 rcases l with ⟨hk,hm⟩ | ⟨hk,c,hc,hcell⟩
 ·exact wpAny_loadName_local I.ok.kind hk hn hm go
 ·rcases hk with hk | hk
  ·exact wpAny_loadName_cell I.ok.kind hk hc hcell go
  ·rcases hx with k | k
   ·have:X.env.scope.names.lookup x=some .free:=hk
    rw[k] at this; cases this
   ·have:X.env.scope.names.lookup x=some .free:=hk
    rw[k] at this; cases this
inductive Ma (f:Int→Int→Int)(x:V)(y:V)(H:Hp)(Q:VK):Prop | mk (i j:_) (_:x=.int i) (_:y=.int j) (_:Q (.int (f i j)) H):Ma f x y H Q
def RN (f:Int→Int→Int):PU:=fun x y H Q=>Ma f x y H Q
theorem NS:Rz X .Add (RN fun i j=>i+j):=by
 intro pins s σ H x y v u Q I r1 r2 h;obtain⟨i,j,e1,e2,q⟩:=h;subst e1; subst e2;obtain⟨t,rfl⟩:=r1;obtain⟨t',rfl⟩:=r2;exact iadd_int ⟨.int _,H,I.tok _,⟨_,rfl⟩,q⟩
def Fu (c:TT)(tb:TS):TS:=fun D σ H=>∃ W:Nat→St→Hp→Prop,(∃ m,W m σ H)∧∀ m σ H,W m σ H →
 c σ H fun b H1=>if b=true then ∃ N:St→Hp→Prop,(∀ σ' H',N σ' H'→∃ m',m' < m∧W m' σ' H')∧tb { D with nx:=N,ct:=N,bk:=D.nx } σ H1 else D.nx σ H1
theorem sY {c:Expr}{body:List Stmt}{tc:TT}{tb:TS}(hp:PassesOwn (model X.prog X.w) X.A X.env X.xe)(hc:PT X c tc)(hb:xN X body tb):PS X (.While c body [] pos) (Fu tc tb):=by
 intro pins s σ H D I h;obtain⟨W,⟨m0,w0⟩,turn⟩:=h;refine wpAny_While (codeAny_whileLoop (fun n s'=>∃ σ' H',Inv X pins σ' H' s'∧W n σ' H') ?_ m0 ⟨σ,H,I,w0⟩);rintro n s1 ⟨σ1,H1,I1,w1⟩;refine iw hp (thn (hc pins s1 σ1 H1 _ I1 (turn n σ1 H1 w1)) fun b s2 ⟨H2,I2,q2⟩=>?_);cases b with
 | true =>
  obtain⟨N,hN,q2⟩:=q2;rw[if_pos rfl];refine iw hp (thn (hb pins s2 σ1 H2 _ I2 q2) fun f s3 q3=>?_);cases f with
  | next =>
   obtain⟨σ3,H3,I3,n3⟩:=q3;obtain⟨m',hm,w3⟩:=hN σ3 H3 n3;exact⟨m',hm,σ3,H3,I3,w3⟩
  | cont =>
   obtain⟨σ3,H3,I3,n3⟩:=q3;obtain⟨m',hm,w3⟩:=hN σ3 H3 n3;exact⟨m',hm,σ3,H3,I3,w3⟩
  | brk=>exact q3
  | ret v=>exact q3
 | false =>
  rw[if_neg ba];exact rp ⟨σ1,H2,I2,q2⟩
end
structure It where
 go:Nat→Hp→Prop
 yld:Nat→Hp→V→Hp→Prop
 stop:Nat→Hp→Prop
def mC (X:Cx)(pins:LD)(H:Hp)(b:Addr):Prop :=
 H b=none∧b≠X.env.locals∧b ∉ X.fs∧(b ∈ X.ex ∨ X.s₀.heap.objs.size≤b)∧(∀ x c,X.env.cells.lookup x=some c→c≠b)∧∀ p ∈ X.pn++pins,p.1≠b
theorem Inv.fpOk {X:Cx}{pins:LD}{σ:St}{H H':Hp}{s:Shared}{b:Addr}(I:Inv X pins σ H s)(hb:s.heap.objs.size≤b)(hn:H' b=none):mC X pins H' b:=by
 refine⟨hn,dC (aH I.lt hb),I.nofs hb,.inr (aE I.sz hb),fun x c e z=>?_,fun p hp z=>?_⟩
 ·obtain⟨v,q⟩:=I.cell x c e
  exact absurd (aH q.lt (by rw[z]; exact hb)) (de _)
 ·exact absurd (aH (aX (I.pin p hp).1) (by rw[z]; exact hb)) (de _)
structure zW (P:Program)(w:World)(K:LM)(tg:Expr)(J:It)(fp:LI)(it:Addr)(tn:Nat→Heap→Prop):Prop where
 mem:it ∈ fp
 obj:∀ i h,tn i h→∀ b ∈ fp,∃ o,h.get? b=some o∧∀ v,o.data≠.cell v
 keep:∀ i h h',tn i h→(∀ b ∈ fp,∀ o,h.get? b=some o→h'.get? b=some o)→tn i h'
 item:∀ (X:Cx),X.prog=P→X.w=w→X.K=K→X.calm=true→∀ (i:Nat) (pins:LD) (s:Shared) (σ:St) (H:Hp) (E:LN),Inv X pins σ H s→(∀ b ∈ fp,mC X pins H b)→tn i s.heap→J.go i H →
  wpAny (model P w) X.A (pyNext (.ref it)) (fun r s1=>∃ u,r=some u ∧
   wpAny (model P w) X.A (letOwnedTupleGo tg (.ref it) u) (fun _ s2=>∃ x H',Inv X pins σ H' s2∧cY x u∧J.yld i H x H'∧tn (i+1) s2.heap∧∀ b ∈ fp,H' b=none) E s1) E s
 done:∀ (X:Cx),X.prog=P→X.w=w→X.K=K→X.calm=true→∀ (i:Nat) (pins:LD) (s:Shared) (σ:St) (H:Hp) (E:LN),Inv X pins σ H s→(∀ b ∈ fp,mC X pins H b)→tn i s.heap→J.stop i H →
  wpAny (model P w) X.A (pyNext (.ref it)) (fun r s1=>r=none∧Inv X pins σ H s1) E s
 self:∀ (A:Around) (i:Nat) (s:Shared) (Q:LN) (E:LN),tn i s.heap→Q (.ref it) s→wpAny (model P w) A (pyIter (.ref it)) Q E s
abbrev TI:=St→Hp→(It→Hp→Prop)→Prop
inductive Mi (X:Cx)(pins:LD)(σ:St)(tg:Expr)(R:It→Hp→Prop)(itv:Value)(s2:Shared):Prop | mk (it:Addr) (fp:LI) (tn:Nat→Heap→Prop) (J:It) (H':Hp) (_:itv=.ref it) (_:Inv X pins σ H' s2) (_:zW X.prog X.w X.K tg J fp it tn) (_:tn 0 s2.heap) (_:(∀ b ∈ fp,mC X pins H' b)) (_:R J H'):Mi X pins σ tg R itv s2
def RA (X:Cx)(pins:LD)(σ:St)(tg:Expr)(R:It→Hp→Prop)(itv:Value)(s2:Shared):Prop:=Mi X pins σ tg R itv s2
def PI (X:Cx)(tg iter:Expr)(wi:TI):Prop :=
 ∀ (pins:LD) (s:Shared) (σ:St) (H:Hp) (R:It→Hp→Prop),Inv X pins σ H s→wi σ H R →
  wpAny (model X.prog X.w) X.A (eval iter X.env) (fun v s1=>wpAny (model X.prog X.w) X.A (pyIter v) (RA X pins σ tg R) X.xe s1) X.xe s
theorem HU {M:Model}{A:Around}{E:LN}{s:Shared}{tg:Expr}{it:Addr}{u:Value}{o:Obj}{n:String}{vs:LU}{Q:Unit→Shared→Prop}(ho:s.heap.get? it=some o)(hc:o.cls=.type n)(hd:o.data=.fields vs)(hn:["enumerate","zip","dict_itemiterator","dict_reverseitemiterator","odict_iterator","itertools.zip_longest","itertools.pairwise"].contains n=false)(hQ:Q () s):wpAny M A (letOwnedTupleGo tg (.ref it) u) Q E s:=by
 unfold letOwnedTupleGo;cases tg <;> first
  | exact aA hQ
  | (cases u <;> first
      | exact aA hQ
      | (refine af (wpAny_load ho ?_)
         rw[hc,hd]
         show wpAny M A (if (["enumerate","zip","dict_itemiterator","dict_reverseitemiterator","odict_iterator","itertools.zip_longest","itertools.pairwise"].contains n && vs[0]? == some (rawInt _))=true then _ else _) Q E s
         rw[if_neg (by intro h; rw[hn,uD] at h; cases h)]
         exact aA hQ))
def uC (K:LM)(a:Addr):It :=
 ⟨fun i H=>∃ xs x,bh K H a xs∧xs[i]? = some x,fun i H x H'=>H'=H∧∀ xs,bh K H a xs→xs[i]? = some x,fun i H=>∃ xs,bh K H a xs∧xs.length≤i⟩
def Mj (K:LM)(a:Addr):It :=
 ⟨fun i H=>∃ xs x,dy K H a xs∧xs[i]? = some x,fun i H x H'=>H'=H∧∀ xs,dy K H a xs→xs[i]? = some x,fun i H=>∃ xs,dy K H a xs∧xs.length≤i⟩
def Ad (lo:Int)(n:Nat):It:=⟨fun i _=>i < n,fun i H x H'=>H'=H∧x=.int (lo+i),fun i _=>n≤i⟩
theorem Dp {P:Program}{w:World}{K:LM}{tg:Expr}(a it:Addr):zW P w K tg (uC K a) [it] it (fun i h=>h.IsListIter it a i) where
 mem:=by simp
 obj:=fun i h st b hb=>by
  have e:b=it:=by simpa using hb
  subst e;obtain⟨o,e,c,d⟩:=st;exact⟨o,e,fun v z=>by rw[d] at z; cases z⟩
 keep:=fun i h h' st k=>st.at fun o e=>k it (by simp) o e
 item:=by
  intro X hP hw hK hc i pins s σ H E I hf st hg;subst hP hw hK;obtain⟨xs,x,hq,hx⟩:=hg;obtain⟨its,rv,p,hz⟩:=I.list hq;obtain⟨u,hu,ru⟩:=rv.get hx;obtain⟨f0,f1,f2,f3,f4,f5⟩:=hf it (by simp);refine wpAny_pyNext_list_item st p.isList (x:=u) (by simpa using hu) fun h' st' sb=>?_
  have I1:Inv X pins σ H { s with heap:=h' }:=I.turned (t':=s.toks) (fun b o hb e=>(sb.2 b hb).trans e) f0 f1 f3 f4 f5;obtain⟨o,e,c,d⟩:=id st';exact⟨u,rfl,HU (s:={ s with heap:=h' }) e c d (by decide) ⟨x,H,I1,ru,⟨rfl,fun ys hy=>by rw[I.list_inj hy hq]; exact hx⟩,st',fun b hb=>(hf b hb).1⟩⟩
 done:=by
  intro X hP hw hK hc i pins s σ H E I hf st hg;subst hP hw hK;obtain⟨xs,hq,hx⟩:=hg;obtain⟨its,rv,p,hz⟩:=I.list hq;obtain⟨f0,f1,f2,f3,f4,f5⟩:=hf it (by simp);have hl:=rv.length;exact wpAny_pyNext_list_end (I.ok.hd hc) st p.isList (by simp; lia) fun h' eb=>⟨rfl,I.turned (t':=s.toks) (fun b o hb e=>eb b o hb e) f0 f1 f3 f4 f5⟩
 self:=fun _ _ _ _ _ st h=>wpAny_pyIter_listiter st h
theorem Ak {P:Program}{w:World}{K:LM}{tg:Expr}(a it:Addr):zW P w K tg (Mj K a) [it] it (fun i h=>h.IsTupleIter it a i) where
 mem:=by simp
 obj:=fun i h st b hb=>by
  have e:b=it:=by simpa using hb
  subst e;obtain⟨o,e,c,d⟩:=st;exact⟨o,e,fun v z=>by rw[d] at z; cases z⟩
 keep:=fun i h h' st k=>st.at fun o e=>k it (by simp) o e
 item:=by
  intro X hP hw hK hc i pins s σ H E I hf st hg;subst hP hw hK;obtain⟨xs,x,hq,hx⟩:=hg;obtain⟨its,rv,p,hz⟩:=I.tuple hq;obtain⟨u,hu,ru⟩:=rv.get hx;obtain⟨f0,f1,f2,f3,f4,f5⟩:=hf it (by simp);refine wpAny_pyNext_tuple_item st (show s.heap.IsTuple a its.toArray from p) (x:=u) (by simpa using hu) fun h' st' sb=>?_
  have I1:Inv X pins σ H { s with heap:=h' }:=I.turned (t':=s.toks) (fun b o hb e=>(sb.2 b hb).trans e) f0 f1 f3 f4 f5;obtain⟨o,e,c,d⟩:=id st';exact⟨u,rfl,HU (s:={ s with heap:=h' }) e c d (by decide) ⟨x,H,I1,ru,⟨rfl,fun ys hy=>by rw[I.tuple_inj hy hq]; exact hx⟩,st',fun b hb=>(hf b hb).1⟩⟩
 done:=by
  intro X hP hw hK hc i pins s σ H E I hf st hg;subst hP hw hK;obtain⟨xs,hq,hx⟩:=hg;obtain⟨its,rv,p,hz⟩:=I.tuple hq;obtain⟨f0,f1,f2,f3,f4,f5⟩:=hf it (by simp);have hl:=rv.length;exact wpAny_pyNext_tuple_end (I.ok.hd hc) st (show s.heap.IsTuple a its.toArray from p) (by simp; lia) fun h' eb=>⟨rfl,I.turned (t':=s.toks) (fun b o hb e=>eb b o hb e) f0 f1 f3 f4 f5⟩
 self:=fun _ _ _ _ _ st h=>wpAny_pyIter_tupleiter st h
theorem Al {P:Program}{w:World}{K:LM}{tg:Expr}(it:Addr)(lo:Int)(n:Nat):zW P w K tg (Ad lo n) [it] it (fun i h=>IsRangeIter h it (lo+(i:Nat) * 1) ((n:Int) - (i:Nat)) 1) where
 mem:=by simp
 obj:=fun i h st b hb=>by
  have e:b=it:=by simpa using hb
  subst e;exact⟨_,st,fun v z=>by
   have z':Data.fields _=Data.cell v:=z
   cases z'⟩
 keep:=fun i h h' st k=>k it (by simp) _ st
 item:=by
  intro X hP hw hK hc i pins s σ H E I hf st hg;subst hP hw hK;obtain⟨f0,f1,f2,f3,f4,f5⟩:=hf it (by simp);have W:=Walks.range (prog:=X.prog) (w:=X.w) (I.ok.hd hc) it lo 1 n;refine W.item i s _ _ hg st fun v h' tk hv st' kk=>?_
  obtain⟨t,rfl⟩:=hv;have I1:Inv X pins σ H { s with heap:=h',toks:=tk }:=I.turned (fun b o hb e=>kk b o (by simpa using hb) e) f0 f1 f3 f4 f5;refine⟨_,rfl,HU (s:={ s with heap:=h',toks:=tk }) (n:="range_iterator") st' rfl rfl (by decide) ⟨.int (lo+i),H,I1,⟨t,?_⟩,⟨rfl,rfl⟩,st',fun b hb=>(hf b hb).1⟩⟩;rw[Int.mul_one]
 done:=by
  intro X hP hw hK hc i pins s σ H E I hf st hg;subst hP hw hK;obtain⟨f0,f1,f2,f3,f4,f5⟩:=hf it (by simp);exact wpAny_pyNext_range_end (I.ok.hd hc) st (by have:n≤i:=hg; lia) fun h' eb=>⟨rfl,I.turned (t':=s.toks) (fun b o hb e=>eb b o hb e) f0 f1 f3 f4 f5⟩
 self:=fun _ _ _ _ _ st h=>wpAny_pyIter_rangeiter st h
section
variable {X:Cx}{tg:Expr}
inductive CF (K:LM)(R:It→Hp→Prop)(x:V)(H1:Hp):Prop | mk (a:_) (_:x=.ref a) (_:(∃ xs,bh K H1 a xs)) (_:R (uC K a) H1):CF K R x H1
def Mc (K:LM)(tl:TE):TI:=fun σ H R=>tl σ H fun x H1=>CF K R x H1
inductive HN (K:LM)(R:It→Hp→Prop)(x:V)(H1:Hp):Prop | mk (a:_) (_:x=.ref a) (_:(∃ xs,dy K H1 a xs)) (_:R (Mj K a) H1):HN K R x H1
def QN (K:LM)(tl:TE):TI:=fun σ H R=>tl σ H fun x H1=>HN K R x H1
theorem cU {l:Expr}{tl:TE}(hl:PE X l tl):PI X tg l (Mc X.K tl):=by
 intro pins s σ H R I h;refine thn (hl pins s σ H _ I h) fun v s1 ⟨x,H1,I1,r1,q1⟩=>?_
 obtain⟨a,e,⟨xs,hq⟩,q⟩:=q1;subst e;cases r1;obtain⟨its,rv,p,hz⟩:=I1.list hq;refine oM p.isList ?_;refine⟨s1.heap.objs.size,[s1.heap.objs.size],_,_,H1,rfl,I1.kept (t':=s1.toks) fun b o e=>ak _ e,Dp a _,⟨_,br _ rfl,rfl,rfl⟩,fun b hb=>?_,q⟩;have e:b=s1.heap.objs.size:=by simpa using hb
 subst e;exact I1.fpOk (au _) (I1.hok.fresh (au _))
theorem GU {l:Expr}{tl:TE}(hl:PE X l tl):PI X tg l (QN X.K tl):=by
 intro pins s σ H R I h;refine thn (hl pins s σ H _ I h) fun v s1 ⟨x,H1,I1,r1,q1⟩=>?_
 obtain⟨a,e,⟨xs,hq⟩,q⟩:=q1;subst e;cases r1;obtain⟨its,rv,p,hz⟩:=I1.tuple hq;refine wpAny_pyIter_tuple (show s1.heap.IsTuple a its.toArray from p) ?_;refine⟨s1.heap.objs.size,[s1.heap.objs.size],_,_,H1,rfl,I1.kept (t':=s1.toks) fun b o e=>ak _ e,Ak a _,⟨_,br _ rfl,rfl,rfl⟩,fun b hb=>?_,q⟩;have e:b=s1.heap.objs.size:=by simpa using hb
 subst e;exact I1.fpOk (au _) (I1.hok.fresh (au _))
theorem yH {pins:LD}{σ:St}{H:Hp}{s:Shared}{R:It→Hp→Prop}{E:LN}{lo hi:Int}{t u v:Tok}{tk:Nat}(I:Inv X pins σ H s)(h1:-(2 ^ 62)≤lo)(h2:lo < 2 ^ 62)(h3:-(2 ^ 62)≤hi)(h4:hi < 2 ^ 62)(q:R (Ad lo (hi - lo).toNat) H):wpAny (model X.prog X.w) X.A (pyIter (.ref s.heap.objs.size)) (RA X pins σ tg R) E { s with heap:=s.heap.push { cls:=.type "range",data:=.fields #[.int lo t,.int hi u,.int 1 v] },toks:=tk }:=by
 refine wpAny_pyIter_range (IsRange.new ..) (small_one h1 h2 h3 h4) ?_;have I1:Inv X pins σ H { s with heap:=s.heap.push { cls:=.type "range",data:=.fields #[.int lo t,.int hi u,.int 1 v] },toks:=tk }:=I.kept fun b o e=>ak _ e
 refine⟨(s.heap.push { cls:=.type "range",data:=.fields #[.int lo t,.int hi u,.int 1 v] }).objs.size,[(s.heap.push { cls:=.type "range",data:=.fields #[.int lo t,.int hi u,.int 1 v] }).objs.size],_,_,H,rfl,
  I1.kept (t':=tk) fun b o e=>ak _ e,Al _ lo (hi - lo).toNat,?_,fun b hb=>?_,q⟩
 ·have e1:lo+((0:Nat):Int) * 1=lo:=by simp
  have e2:(((hi - lo).toNat:Nat):Int) - ((0:Nat):Int)=Builtin.Range.rangeSize lo hi 1:=by rw[rangeSize_one]; split <;> lia
  show IsRangeIter _ _ (lo+((0:Nat):Int) * 1) ((((hi - lo).toNat:Nat):Int) - ((0:Nat):Int)) 1;rw[e1,e2];exact br _ rfl
 ·have e:b=(s.heap.push { cls:=.type "range",data:=.fields #[.int lo t,.int hi u,.int 1 v] }).objs.size:=by simpa using hb
  subst e;exact I1.fpOk (au _) (I1.hok.fresh (au _))
inductive CD (R:It→Hp→Prop)(vs:LG)(H1:Hp):Prop | mk (j:Int) (_:vs=[.int j]) (_:-(2 ^ 62)≤j) (_:j < 2 ^ 62) (_:R (Ad 0 j.toNat) H1):CD R vs H1
def Pw (ta:TA):TI:=fun σ H R=>ta σ H fun vs H1=>CD R vs H1
inductive CC (R:It→Hp→Prop)(vs:LG)(H1:Hp):Prop | mk (i j:Int) (_:vs=[.int i,.int j]) (_:(-(2 ^ 62)≤i∧i < 2 ^ 62∧-(2 ^ 62)≤j∧j < 2 ^ 62)) (_:R (Ad i (j - i).toNat) H1):CC R vs H1
def Pu (ta:TA):TI:=fun σ H R=>ta σ H fun vs H1=>CC R vs H1
theorem dB {a:Expr}{ta:TA}{p pos:Pos}(hg:Gl X "range")(hm:X.mg "range" = none)(ha:PA X [a] ta)(hs:starEach [a] X.env=[(false,eval a X.env)]:=by rfl):PI X tg (.Call (.Name "range" p) [a] [] pos) (Pw ta):=by
 intro pins s σ H R I h;refine Call_ (mf I hg hm boot_range (eE (thn (ha pos pins s σ H _ I h) fun us s1 ⟨vs,H1,I1,r1,q1⟩=>?_) hs rfl));obtain⟨j,e,q1,q2,q⟩:=q1;subst e;cases r1 with
 | cons r rr =>
  cases rr;obtain⟨t,rfl⟩:=r;exact call_range_1 (yH I1 (by lia) (by lia) q1 q2 (by simpa using q))
theorem qo {a b:Expr}{ta:TA}{p pos:Pos}(hg:Gl X "range")(hm:X.mg "range" = none)(ha:PA X [a,b] ta)(hs:starEach [a,b] X.env=[(false,eval a X.env),(false,eval b X.env)]:=by rfl)(hs2:starEach [b] X.env=[(false,eval b X.env)]:=by rfl) :
  PI X tg (.Call (.Name "range" p) [a,b] [] pos) (Pu ta):=by
 intro pins s σ H R I h;refine Call_ (mf I hg hm boot_range (eE (thn (ha pos pins s σ H _ I h) fun us s1 ⟨vs,H1,I1,r1,q1⟩=>?_) (by rw[hs,hs2]) (by rw[hs2]; rfl)));obtain⟨i,j,e,⟨q1,q2,q3,q4⟩,q⟩:=q1;subst e;cases r1 with
 | cons r rr =>
  cases rr with
  | cons r' rr =>
   cases rr;obtain⟨t,rfl⟩:=r;obtain⟨t',rfl⟩:=r';exact call_range_2 (yH I1 q1 q2 q3 q4 q)
def ig (wi:TI)(g:TG)(tb:TS):TS:=fun D σ H=>wi σ H fun J H1=>∃ W:Nat→Nat→St→Hp→Prop,(∃ m,W 0 m σ H1)∧∀ i m σ H,W i m σ H →
 (J.stop i H∧D.nx σ H) ∨ (J.go i H∧∃ N:St→Hp→Prop,(∀ σ' H',N σ' H'→∃ m',m' < m∧W (i+1) m' σ' H')∧∀ x H',J.yld i H x H'→g x σ H' fun σ2 H2=>tb { D with nx:=N,ct:=N,bk:=D.nx } σ2 H2)
def wY (fp:LI)(h:Heap):LD:=fp.filterMap fun b=>(h.get? b).map fun o=>(b,o)
theorem gY {fp:LI}{h:Heap}{b:Addr}{o:Obj}(hb:b ∈ fp)(e:h.get? b=some o):(b,o) ∈ wY fp h:=List.mem_filterMap.mpr ⟨b,hb,by rw[e]; rfl⟩
theorem Es {fp:LI}{h:Heap}{p:Addr × Obj}(hp:p ∈ wY fp h):p.1 ∈ fp∧h.get? p.1=some p.2:=by
 obtain⟨b,hb,e⟩:=List.mem_filterMap.mp hp;cases q:h.get? b with
 | none=>rw[q] at e; cases e
 | some o =>
  rw[q] at e;have e':(b,o)=p:=aW e;subst e';exact⟨hb,q⟩
theorem Inv.pinned {pins:LD}{σ:St}{H:Hp}{s:Shared}{fp:LI}(I:Inv X pins σ H s)(hf:∀ b ∈ fp,mC X pins H b)(ho:∀ b ∈ fp,∃ o,s.heap.get? b=some o∧∀ v,o.data≠.cell v):Inv X (pins++wY fp s.heap) σ H s :=
 I.pins_of fun p hp=>(bu.mp hp).elim (fun z=>I.pin p (bA _ z)) fun z=>by
  obtain⟨hb,e⟩:=Es z;obtain⟨f0,f1,f2,_⟩:=hf p.1 hb;obtain⟨o,e',d⟩:=ho p.1 hb;rw[e] at e'; cases e';exact⟨e,f0,f1,f2,d⟩
theorem Inv.unpinned {pins pl:LD}{σ:St}{H:Hp}{s:Shared}(I:Inv X (pins++pl) σ H s):Inv X pins σ H s:=I.pins_of fun p hp=>I.pin p (bA _ (cW _ hp))
theorem di {iter:Expr}{body:List Stmt}{wi:TI}{g:TG}{tb:TS}{pos:Pos}(hp:PassesOwn (model X.prog X.w) X.A X.env X.xe)(hc:X.calm=true)(hi:PI X tg iter wi)(hg:PG X tg g)(hb:xN X body tb)(hs:∀ x,foldedSetIterable iter X.env x=pure x:=by intro _; rfl):PS X (.For tg iter body [] pos) (ig wi g tb):=by
 intro pins s σ H D I h;refine wpAny_For (thn (hi pins s σ H _ I h) fun v s1 h1=>thn h1 fun itv s2 h2=>?_) hs;obtain⟨it,fp,tn,J,H2,e,I2,T,st2,f2,W,⟨m0,w0⟩,turn⟩:=h2;subst e;have stat:∀ {H':Hp},(∀ b ∈ fp,H' b=none)→∀ b ∈ fp,mC X pins H' b:=fun hn b hb=>⟨hn b hb,(f2 b hb).2⟩
 refine codeAny_forLoop_any (fun n s'=>∃ i σ' H',Inv X pins σ' H' s'∧tn i s'.heap∧(∀ b ∈ fp,H' b=none)∧W i n σ' H') ?_ m0 ⟨0,σ,H2,I2,st2,fun b hb=>(f2 b hb).1,w0⟩;rintro n s3 ⟨i,σ3,H3,I3,st3,fr3,w3⟩;rcases turn i n σ3 H3 w3 with ⟨stop,qn⟩ | ⟨go,N,hN,step⟩
 ·refine iw hp (thn (T.done X rfl rfl rfl hc i pins s3 σ3 H3 X.xe I3 (stat fr3) st3 stop) fun r s4 ⟨hr,I4⟩=>?_)
  subst hr;exact rp ⟨σ3,H3,I4,qn⟩
 ·refine iw hp (thn (T.item X rfl rfl rfl hc i pins s3 σ3 H3 X.xe I3 (stat fr3) st3 go) fun r s4 ⟨u,hr,h4⟩=>?_)
  subst hr;refine iw hp (thn h4 fun _ s5 ⟨x,H5,I5,r5,y5,st5,fr5⟩=>?_);have I5':=I5.pinned (stat fr5) (T.obj _ _ st5);refine iw hp (thn (hg _ s5 σ3 H5 x u _ I5' r5 (step x H5 y5)) fun _ s6 ⟨σ6,H6,I6,q6⟩=>?_);refine iw hp (thn (hb _ s6 σ6 H6 _ I6 q6) fun f s7 q7=>?_);have again:∀ {σ7:St} {H7:Hp},Inv X (pins++wY fp s5.heap) σ7 H7 s7→N σ7 H7→∃ m,m < n∧∃ i σ' H',Inv X pins σ' H' s7∧tn i s7.heap∧(∀ b ∈ fp,H' b=none)∧W i m σ' H':=fun {σ7 H7} I7 n7=>by
   obtain⟨m',hm,w7⟩:=hN σ7 H7 n7;refine⟨m',hm,i+1,σ7,H7,I7.unpinned,T.keep _ _ _ st5 fun b hb o e=>(I7.pin (b,o) (bA _ (bA _ (gY hb e)))).1,fun b hb=>?_,w7⟩;obtain⟨o,e,d⟩:=T.obj _ _ st5 b hb;exact (I7.pin (b,o) (bA _ (bA _ (gY hb e)))).2.1
  cases f with
  | next=>obtain⟨σ7,H7,I7,n7⟩:=q7; exact again I7 n7
  | cont=>obtain⟨σ7,H7,I7,n7⟩:=q7; exact again I7 n7
  | brk=>obtain⟨σ7,H7,I7,q7⟩:=q7; exact⟨σ7,H7,I7.unpinned,q7⟩
  | ret v=>obtain⟨x7,σ7,H7,I7,r7,q7⟩:=q7; exact⟨x7,σ7,H7,I7.unpinned,r7,q7⟩
end
theorem gZ {K:LM}{a:Addr}{xs:LG}{g:TG}{tb:TS}{D:qB}{σ:St}{H:Hp}(Pv:Nat→St→Hp→Prop)(h0:Pv 0 σ H)(hl:∀ i σ H,i≤xs.length→Pv i σ H→bh K H a xs)(hs:∀ i x σ H,xs[i]? = some x→Pv i σ H→g x σ H fun σ2 H2=>tb { D with nx:=Pv (i+1),ct:=Pv (i+1),bk:=D.nx } σ2 H2)(hd:∀ σ H,Pv xs.length σ H→D.nx σ H) :
  ∃ W:Nat→Nat→St→Hp→Prop,(∃ m,W 0 m σ H)∧∀ i m σ H,W i m σ H →
   ((uC K a).stop i H∧D.nx σ H) ∨ ((uC K a).go i H∧∃ N:St→Hp→Prop,(∀ σ' H',N σ' H'→∃ m',m' < m∧W (i+1) m' σ' H')∧∀ x H',(uC K a).yld i H x H'→g x σ H' fun σ2 H2=>tb { D with nx:=N,ct:=N,bk:=D.nx } σ2 H2):=by
 refine⟨fun i m σ H=>m=xs.length - i∧i≤xs.length∧Pv i σ H,⟨xs.length,by simp,aZ _,h0⟩,?_⟩;rintro i m σ H ⟨rfl,hi,p⟩;have q:=hl i σ H hi p
 by_cases hlt:i < xs.length
 ·refine .inr ⟨⟨xs,xs[i],q,by simp[hlt]⟩,Pv (i+1),fun σ' H' p'=>⟨xs.length - (i+1),by lia,rfl,hlt,p'⟩,fun x H' y=>?_⟩
  obtain⟨e,y⟩:=y;subst e;exact hs i x σ _ (y xs q) p
 ·have e:i=xs.length:=by lia
  subst e;exact .inl ⟨⟨xs,q,au _⟩,hd σ H p⟩
theorem KQ {K:LM}{a:Addr}{xs:LG}{g:TG}{tb:TS}{D:qB}{σ:St}{H:Hp}(Pv:Nat→St→Hp→Prop)(h0:Pv 0 σ H)(hl:∀ i σ H,i≤xs.length→Pv i σ H→dy K H a xs)(hs:∀ i x σ H,xs[i]? = some x→Pv i σ H→g x σ H fun σ2 H2=>tb { D with nx:=Pv (i+1),ct:=Pv (i+1),bk:=D.nx } σ2 H2)(hd:∀ σ H,Pv xs.length σ H→D.nx σ H) :
  ∃ W:Nat→Nat→St→Hp→Prop,(∃ m,W 0 m σ H)∧∀ i m σ H,W i m σ H →
   ((Mj K a).stop i H∧D.nx σ H) ∨ ((Mj K a).go i H∧∃ N:St→Hp→Prop,(∀ σ' H',N σ' H'→∃ m',m' < m∧W (i+1) m' σ' H')∧∀ x H',(Mj K a).yld i H x H'→g x σ H' fun σ2 H2=>tb { D with nx:=N,ct:=N,bk:=D.nx } σ2 H2):=by
 refine⟨fun i m σ H=>m=xs.length - i∧i≤xs.length∧Pv i σ H,⟨xs.length,by simp,aZ _,h0⟩,?_⟩;rintro i m σ H ⟨rfl,hi,p⟩;have q:=hl i σ H hi p
 by_cases hlt:i < xs.length
 ·refine .inr ⟨⟨xs,xs[i],q,by simp[hlt]⟩,Pv (i+1),fun σ' H' p'=>⟨xs.length - (i+1),by lia,rfl,hlt,p'⟩,fun x H' y=>?_⟩
  obtain⟨e,y⟩:=y;subst e;exact hs i x σ _ (y xs q) p
 ·have e:i=xs.length:=by lia
  subst e;exact .inl ⟨⟨xs,q,au _⟩,hd σ H p⟩
theorem eV {lo:Int}{n:Nat}{g:TG}{tb:TS}{D:qB}{σ:St}{H:Hp}(Pv:Nat→St→Hp→Prop)(h0:Pv 0 σ H)(hs:∀ i σ H,i < n→Pv i σ H→g (.int (lo+i)) σ H fun σ2 H2=>tb { D with nx:=Pv (i+1),ct:=Pv (i+1),bk:=D.nx } σ2 H2)(hd:∀ σ H,Pv n σ H→D.nx σ H) :
  ∃ W:Nat→Nat→St→Hp→Prop,(∃ m,W 0 m σ H)∧∀ i m σ H,W i m σ H →
   ((Ad lo n).stop i H∧D.nx σ H) ∨ ((Ad lo n).go i H∧∃ N:St→Hp→Prop,(∀ σ' H',N σ' H'→∃ m',m' < m∧W (i+1) m' σ' H')∧∀ x H',(Ad lo n).yld i H x H'→g x σ H' fun σ2 H2=>tb { D with nx:=N,ct:=N,bk:=D.nx } σ2 H2):=by
 refine⟨fun i m σ H=>m=n - i∧i≤n∧Pv i σ H,⟨n,by simp,aZ _,h0⟩,?_⟩;rintro i m σ H ⟨rfl,hi,p⟩
 by_cases hlt:i < n
 ·refine .inr ⟨hlt,Pv (i+1),fun σ' H' p'=>⟨n - (i+1),by lia,rfl,hlt,p'⟩,fun x H' y=>?_⟩
  obtain⟨e,y⟩:=y;subst e y;exact hs i σ _ hlt p
 ·have e:i=n:=by lia
  subst e;exact .inl ⟨au _,hd σ H p⟩
theorem xQ {c:TT}{tb:TS}{D:qB}{σ:St}{H:Hp}(Pv:St→Hp→Prop)(μ:St→Hp→Nat)(h0:Pv σ H)(hs:∀ σ H,Pv σ H→c σ H fun b H1=>if b=true then tb { D with nx:=fun σ' H'=>Pv σ' H'∧μ σ' H' < μ σ H,ct:=fun σ' H'=>Pv σ' H'∧μ σ' H' < μ σ H,bk:=D.nx } σ H1 else D.nx σ H1)(mono:∀ σ H Q Q',(∀ b H1,Q b H1→Q' b H1)→c σ H Q→c σ H Q'):Fu c tb D σ H:=by
 refine⟨fun m σ H=>m=μ σ H∧Pv σ H,⟨_,rfl,h0⟩,?_⟩;rintro m σ H ⟨rfl,p⟩;refine mono σ H _ _ (fun b H1 q=>?_) (hs σ H p);cases b with
 | true=>exact⟨_,fun σ' H' ⟨p',l⟩=>⟨_,l,rfl,p'⟩,q⟩
 | false=>exact q
abbrev R2:=V→V→Hp→VK→Prop
def pY (X:Cx)(f:Value→Value→Sem Value)(r:R2):Prop :=
 ∀ (pins:LD) (s:Shared) (σ:St) (H:Hp) (x y:V) (v u:Value) (Q:VK),Inv X pins σ H s→cY x v→cY y u→r x y H Q →
  wpAny (model X.prog X.w) X.A (f v u) (EP X pins σ Q) X.xe s
def QU (X:Cx)(f:Value→Sem Value)(r:V→Hp→VK→Prop):Prop :=
 ∀ (pins:LD) (s:Shared) (σ:St) (H:Hp) (x:V) (v:Value) (Q:VK),Inv X pins σ H s→cY x v→r x H Q →
  wpAny (model X.prog X.w) X.A (f v) (EP X pins σ Q) X.xe s
def iV (X:Cx)(f:Value)(r:List V→Hp→VK→Prop):Prop :=
 ∀ (pins:LD) (s:Shared) (σ:St) (H:Hp) (xs:LG) (us:LH) (Q:VK),Inv X pins σ H s→cN xs us→r xs H Q →
  wpAny (model X.prog X.w) X.A (call f us) (EP X pins σ Q) X.xe s
def QW (X:Cx)(r:V→Hp→(Bool→Hp→Prop)→Prop):Prop :=
 ∀ (pins:LD) (s:Shared) (σ:St) (H:Hp) (x:V) (v:Value) (Q:Bool→Hp→Prop),Inv X pins σ H s→cY x v→r x H Q →
  wpAny (model X.prog X.w) X.A (truthy v) (TP X pins σ Q) X.xe s
def Lh (r:R2)(ta tb:TE):TE:=fun σ H Q=>ta σ H fun x H1=>tb σ H1 fun y H2=>r x y H2 Q
def Rm (r:V→Hp→VK→Prop)(ta:TE):TE:=fun σ H Q=>ta σ H fun x H1=>r x H1 Q
inductive O6 (C:Int→Int→Prop)(g:Int→Int→V)(x:V)(y:V)(H:Hp)(Q:VK):Prop | mk (i j:_) (_:x=.int i) (_:y=.int j) (_:C i j) (_:Q (g i j) H):O6 C g x y H Q
def rI (C:Int→Int→Prop)(g:Int→Int→V):R2:=fun x y H Q=>O6 C g x y H Q
inductive Lx (g:Int→Int→V)(x:V)(y:V)(H:Hp)(Q:VK):Prop | mk (i j:_) (_:x=.int i) (_:y=.int j) (_:Q (g i j) H):Lx g x y H Q
def MW (g:Int→Int→V):R2:=fun x y H Q=>Lx g x y H Q
inductive OX (g:Int→V)(x:V)(H:Hp)(Q:VK):Prop | mk (i:_) (_:x=.int i) (_:Q (g i) H):OX g x H Q
def rU (g:Int→V):V→Hp→VK→Prop:=fun x H Q=>OX g x H Q
section
variable {X:Cx}{a b c:Expr}{ta tb tc:TE}{pos:Pos}
theorem Oc (ha:PE X a ta)(hb:PE X b tb){pins:LD}{s:Shared}{σ:St}{H:Hp}{R:V→V→Hp→Prop}(I:Inv X pins σ H s)(h:ta σ H fun x H1=>tb σ H1 fun y H2=>R x y H2){Q:LN}{f:Value→Value→Sem Value}(hf:∀ v u s2 x y H2,Inv X pins σ H2 s2→cY x v→cY y u→R x y H2→wpAny (model X.prog X.w) X.A (f v u) Q X.xe s2) :
  wpAny (model X.prog X.w) X.A (eval a X.env) (fun v s₁=>wpAny (model X.prog X.w) X.A (eval b X.env) (fun u s₂=>wpAny (model X.prog X.w) X.A (f v u) Q X.xe s₂) X.xe s₁) X.xe s:=by
 refine thn (ha pins s σ H _ I h) fun v s1 ⟨x,H1,I1,r1,q1⟩=>?_
 refine thn (hb pins s1 σ H1 _ I1 q1) fun u s2 ⟨y,H2,I2,r2,q2⟩=>?_
 exact hf v u s2 x y H2 I2 r1 r2 q2
theorem aY {op:Operator}{r:R2}(ho:pY X (binaryOp op) r)(ha:PE X a ta)(hb:PE X b tb):PE X (.BinOp a op b pos) (Lh r ta tb):=by
 intro pins s σ H Q I h;exact wpAny_BinOp (Oc ha hb I h fun v u s2 x y H2 I2 rx ry q=>ho pins s2 σ H2 x y v u Q I2 rx ry q)
theorem yN {op:UnaryOp}{r:V→Hp→VK→Prop}(ho:QU X (unaryOp op) r)(ha:PE X a ta):PE X (.UnaryOp op a pos) (Rm r ta):=by
 intro pins s σ H Q I h;exact UnaryOp_ (thn (ha pins s σ H _ I h) fun v s1 ⟨x,H1,I1,r1,q1⟩=>ho pins s1 σ H1 x v Q I1 r1 q1)
theorem LT {f:Value→Value→Sem Value}{C:Int→Int→Prop}{g:Int→Int→Int}(rule:∀ (i j:Int) (t u:Tok) (s:Shared) (Q:LN) (E:LN),C i j→Q (.int (g i j) s.toks) { s with toks:=s.toks+1 }→wpAny (model X.prog X.w) X.A (f (.int i t) (.int j u)) Q E s) :
  pY X f (rI C fun i j=>.int (g i j)):=by
 intro pins s σ H x y v u Q I rx ry h;obtain⟨i,j,rfl,rfl,hc,q⟩:=h;obtain⟨t,rfl⟩:=rx;obtain⟨t',rfl⟩:=ry;exact rule i j t t' s _ _ hc ⟨.int (g i j),H,I.tok _,⟨_,rfl⟩,q⟩
theorem O9 {f:Value→Value→Sem Value}{g:Int→Int→Int}(rule:∀ (i j:Int) (t u:Tok) (s:Shared) (Q:LN) (E:LN),Q (.int (g i j) s.toks) { s with toks:=s.toks+1 }→wpAny (model X.prog X.w) X.A (f (.int i t) (.int j u)) Q E s) :
  pY X f (MW fun i j=>.int (g i j)):=by
 intro pins s σ H x y v u Q I rx ry h;obtain⟨i,j,rfl,rfl,q⟩:=h;obtain⟨t,rfl⟩:=rx;obtain⟨t',rfl⟩:=ry;exact rule i j t t' s _ _ ⟨.int (g i j),H,I.tok _,⟨_,rfl⟩,q⟩
theorem M4 {f:Value→Value→Sem Value}{g:Int→Int→Bool}(rule:∀ (i j:Int) (t u:Tok) (s:Shared) (Q:LN) (E:LN),Q (.bool (g i j)) s→wpAny (model X.prog X.w) X.A (f (.int i t) (.int j u)) Q E s) :
  pY X f (MW fun i j=>.bl (g i j)):=by
 intro pins s σ H x y v u Q I rx ry h;obtain⟨i,j,rfl,rfl,q⟩:=h;obtain⟨t,rfl⟩:=rx;obtain⟨t',rfl⟩:=ry;exact rule i j t t' s _ _ ⟨.bl (g i j),H,I,rfl,q⟩
def Rh (i j:Int):Prop:=0 < j∧j < 1073741824
def Rg (i j:Int):Prop:=0≤j∧j≤1000000∧i.natAbs < 2 ^ 64
def IN (i j:Int):Prop:=(-(2 ^ 64) < i∧i < 2 ^ 64) ∨ (-(2 ^ 64) < j∧j < 2 ^ 64)
theorem IN.ok {i j:Int}(h:IN i j):IntMulOk i j:=by
 rcases h with ⟨h1,h2⟩ | ⟨h1,h2⟩
 ·exact .of_left (intBits_le_64 h1 h2)
 ·exact .of_right (intBits_le_64 h1 h2)
theorem dZ:pY X (binaryOp .Add) (MW fun i j=>.int (i+j)):=O9 fun _ _ _ _ _ _ _ q=>add_int q
theorem mQ:pY X (binaryOp .Sub) (MW fun i j=>.int (i - j)):=O9 fun _ _ _ _ _ _ _ q=>sub_int q
theorem dY:pY X (binaryOp .Mult) (rI IN fun i j=>.int (i * j)):=LT fun _ _ _ _ _ _ _ hc q=>mul_int q hc.ok
theorem fZ:pY X (binaryOp .FloorDiv) (rI Rh fun i j=>.int (i / j)):=LT fun i j _ _ _ _ _ hc q=>by
 have h1:(0:Int) < j:=hc.1;have h2:j < 1073741824:=hc.2;exact floordiv_int (by lia) (by rw[Int.fdiv_eq_ediv_of_nonneg i (by lia)]; exact q) (.inl (PyProof.noPylong_small (by lia)))
theorem cJ:pY X (binaryOp .Mod) (rI (fun _ j=>0 < j) fun i j=>.int (i % j)):=LT fun i j _ _ _ _ _ hc q=>by
 have h1:(0:Int) < j:=hc;exact mod_int' (by lia) (by rw[Int.fmod_eq_emod_of_nonneg i (by lia)]; exact q)
theorem Cg:pY X (binaryOp .Mod) (rI (fun _ j=>j≠0) fun i j=>.int (i.fmod j)):=LT fun _ _ _ _ _ _ _ hc q=>mod_int' hc q
theorem M3:pY X (binaryOp .Pow) (rI Rg fun i j=>.int (i ^ j.toNat)):=LT fun _ _ _ _ _ _ _ hc q=>pow_int_small hc.1 hc.2.1 hc.2.2 q
theorem RF {f:Value→Sem Value}{g:Int→Int}(rule:∀ (i:Int) (t:Tok) (s:Shared) (Q:LN) (E:LN),Q (.int (g i) s.toks) { s with toks:=s.toks+1 }→wpAny (model X.prog X.w) X.A (f (.int i t)) Q E s) :
  QU X f (rU fun i=>.int (g i)):=by
 intro pins s σ H x v Q I rx h;obtain⟨i,rfl,q⟩:=h;obtain⟨t,rfl⟩:=rx;exact rule i t s _ _ ⟨.int (g i),H,I.tok _,⟨_,rfl⟩,q⟩
theorem sr:QU X (unaryOp .USub) (rU fun i=>.int (-i)):=RF fun _ _ _ _ _ q=>neg_int q
end
def OS:V→V→Bool
 | .non,.non=>true | .non,.int _=>true | .int _,.non=>true | .non,.bl _=>true | .bl _,.non=>true | .non,.str _=>true | .str _,.non=>true
 | .int _,.int _=>true | .bl _,.bl _=>true | .str _,.str _=>true | .byt _,.byt _=>true
 | .int _,.str _=>true | .str _,.int _=>true | .bl _,.str _=>true | .str _,.bl _=>true
 | _,_=>false
def RK:R2:=fun x y H Q=>OS x y=true∧Q (.bl (decide (x=y))) H
def Qy:R2:=fun x y H Q=>OS x y=true∧Q (.bl (!decide (x=y))) H
theorem CV {i j:Int}:decide (V.int i=V.int j)=(i == j):=by
 rw[gK];simp
theorem Io {i j:Bool}:decide (V.bl i=V.bl j)=(i == j):=by
 rw[gK];simp
theorem CU {i j:Str}:decide (V.str i=V.str j)=(i == j):=by
 rw[gK];simp
theorem CW {i j:Array UInt8}:decide (V.byt i=V.byt j)=(i.toList == j.toList):=by
 rw[gK];cases i;cases j;simp
section
variable {X:Cx}{a b c:Expr}{ta tb tc:TE}{pos:Pos}
theorem dL {pins:LD}{σ:St}{H:Hp}{s:Shared}{Q:VK}{k k':Bool}(I:Inv X pins σ H s)(q:Q (.bl k) H)(e:k=k'):EP X pins σ Q (.bool k') s:=by
 subst e;exact⟨.bl k,H,I,rfl,q⟩
theorem cE:pY X (compareOp .Eq) RK:=by
 intro pins s σ H x y v u Q I rx ry h;obtain⟨hs,q⟩:=h;cases x with
 | non =>
  cases rx;cases y with
  | non=>cases ry; exact PySem.EqNone.eq_none_none (dL I q (by simp))
  | bl j=>cases ry; exact PySem.EqNone.eq_none_bool (dL I q (by simp))
  | int j=>obtain⟨t',rfl⟩:=ry; exact PySem.EqNone.eq_none_int (dL I q (by simp))
  | str j=>obtain⟨t',rfl⟩:=ry; exact PySem.EqNone.eq_none_str (dL I q (by simp))
  | _=>exact absurd (show false=true from hs) ba
 | bl i =>
  cases rx;cases y with
  | non=>cases ry; exact PySem.EqNone.eq_bool_none (dL I q (by simp))
  | bl j=>cases ry; exact eq_bool (dL I q Io)
  | str j=>obtain⟨t',rfl⟩:=ry; exact PySem.EqMixed.eq_bool_str (dL I q (by simp))
  | _=>exact absurd (show false=true from hs) ba
 | int i =>
  obtain⟨t,rfl⟩:=rx;cases y with
  | non=>cases ry; exact PySem.EqNone.eq_int_none (dL I q (by simp))
  | int j=>obtain⟨t',rfl⟩:=ry; exact eq_int (dL I q CV)
  | str j=>obtain⟨t',rfl⟩:=ry; exact PySem.EqMixed.eq_int_str (dL I q (by simp))
  | _=>exact absurd (show false=true from hs) ba
 | str i =>
  obtain⟨t,rfl⟩:=rx;cases y with
  | non=>cases ry; exact PySem.EqNone.eq_str_none (dL I q (by simp))
  | bl j=>cases ry; exact PySem.EqMixed.eq_str_bool (dL I q (by simp))
  | int j=>obtain⟨t',rfl⟩:=ry; exact PySem.EqMixed.eq_str_int (dL I q (by simp))
  | str j=>obtain⟨t',rfl⟩:=ry; exact eq_str (dL I q CU)
  | _=>exact absurd (show false=true from hs) ba
 | byt i =>
  obtain⟨t,rfl⟩:=rx;cases y with
  | byt j=>obtain⟨t',rfl⟩:=ry; exact PySem.W.eq_bytes (dL I q CW)
  | _=>exact absurd (show false=true from hs) ba
 | _=>cases y <;> exact absurd (show false=true from hs) ba
theorem qN:pY X (compareOp .NotEq) Qy:=by
 intro pins s σ H x y v u Q I rx ry h;obtain⟨hs,q⟩:=h;cases x with
 | non =>
  cases rx;cases y with
  | non=>cases ry; exact PySem.EqNone.ne_none_none (dL I q (by simp))
  | bl j=>cases ry; exact PySem.EqNone.ne_none_bool (dL I q (by simp))
  | int j=>obtain⟨t',rfl⟩:=ry; exact PySem.EqNone.ne_none_int (dL I q (by simp))
  | str j=>obtain⟨t',rfl⟩:=ry; exact PySem.EqNone.ne_none_str (dL I q (by simp))
  | _=>exact absurd (show false=true from hs) ba
 | bl i =>
  cases rx;cases y with
  | non=>cases ry; exact PySem.EqNone.ne_bool_none (dL I q (by simp))
  | bl j=>cases ry; exact ne_bool (dL I q (congrArg not Io))
  | str j=>obtain⟨t',rfl⟩:=ry; exact PySem.EqMixed.ne_bool_str (dL I q (by simp))
  | _=>exact absurd (show false=true from hs) ba
 | int i =>
  obtain⟨t,rfl⟩:=rx;cases y with
  | non=>cases ry; exact PySem.EqNone.ne_int_none (dL I q (by simp))
  | int j=>obtain⟨t',rfl⟩:=ry; exact ne_int (dL I q (congrArg not CV))
  | str j=>obtain⟨t',rfl⟩:=ry; exact PySem.EqMixed.ne_int_str (dL I q (by simp))
  | _=>exact absurd (show false=true from hs) ba
 | str i =>
  obtain⟨t,rfl⟩:=rx;cases y with
  | non=>cases ry; exact PySem.EqNone.ne_str_none (dL I q (by simp))
  | bl j=>cases ry; exact PySem.EqMixed.ne_str_bool (dL I q (by simp))
  | int j=>obtain⟨t',rfl⟩:=ry; exact PySem.EqMixed.ne_str_int (dL I q (by simp))
  | str j=>obtain⟨t',rfl⟩:=ry; exact ne_str (dL I q (congrArg not CU))
  | _=>exact absurd (show false=true from hs) ba
 | byt i =>
  obtain⟨t,rfl⟩:=rx;cases y with
  | byt j=>obtain⟨t',rfl⟩:=ry; exact PySem.W.ne_bytes (dL I q (congrArg not CW))
  | _=>exact absurd (show false=true from hs) ba
 | _=>cases y <;> exact absurd (show false=true from hs) ba
theorem Ch:pY X (compareOp .Lt) (MW fun i j=>.bl (decide (i < j))):=M4 fun _ _ _ _ _ _ _ q=>lt_int q
theorem G9:pY X (compareOp .Gt) (MW fun i j=>.bl (decide (j < i))):=M4 fun _ _ _ _ _ _ _ q=>gt_int q
theorem O8:pY X (compareOp .GtE) (MW fun i j=>.bl (decide (j≤i))):=M4 fun _ _ _ _ _ _ _ q=>ge_int q
theorem bG (b:Expr){op:CmpOp}(h:op≠.In:=by decide)(h2:op≠.NotIn:=by decide):behindInMarks op b=false:=by
 have e1:(op == CmpOp.In)=false:=by cases op <;> first | rfl | exact absurd rfl h
 have e2:(op == CmpOp.NotIn)=false:=by cases op <;> first | rfl | exact absurd rfl h2
 cases b <;> simp[behindInMarks,e1,e2]
theorem fh {op:CmpOp}{r:R2}(ho:pY X (compareOp op) r)(ha:PE X a ta)(hb:PE X b tb)(hm:behindInMarks op b=false):PE X (.Compare a [op] [b] pos) (Lh r ta tb):=by
 intro pins s σ H Q I h;exact wpAny_Compare1 (Oc ha hb I h fun v u s2 x y H2 I2 rx ry q=>ho pins s2 σ H2 x y v u Q I2 rx ry q) hm
inductive Bx (Q:Bool→Hp→Prop)(x:V)(H':Hp):Prop | mk (k:_) (_:x=.bl k) (_:Q k H'):Bx Q x H'
def Fx (t:TE):TT:=fun σ H Q=>t σ H fun x H'=>Bx Q x H'
theorem bF {op:CmpOp}{r:R2}(ho:pY X (compareOp op) r)(ha:PE X a ta)(hb:PE X b tb)(hm:behindInMarks op b=false):PT X (.Compare a [op] [b] pos) (Fx (Lh r ta tb)):=by
 intro pins s σ H Q I h;refine wpAny_isTrue_Compare1 (thn (ha pins s σ H _ I h) fun v s1 ⟨x,H1,I1,r1,q1⟩=>thn (hb pins s1 σ H1 _ I1 q1) fun u s2 ⟨y,H2,I2,r2,q2⟩ =>
  thn (ho pins s2 σ H2 x y v u _ I2 r1 r2 q2) fun c s3 ⟨z,H3,I3,r3,k,e,q3⟩=>?_) hm
 subst e;cases r3;exact iJ ⟨H3,I3,q3⟩
def PR (K:LM)(x:V)(H:Hp)(k:Bool):Prop :=
 match x with
 | .non=>k=false
 | .bl b=>k=b
 | .int i=>k=(i != 0)
 | .str y=>y.length≤sizeLine∧k=((y.length:Int) != 0)
 | .byt y=>y.size≤sizeLine∧k=((y.size:Int) != 0)
 | .ref p=>(∃ xs,bh K H p xs∧k=!xs.isEmpty) ∨ (∃ xs,dy K H p xs∧k=!xs.isEmpty) ∨ ∃ kvs,H p=some (.dK kvs)∧k=!kvs.isEmpty
 | _=>False
theorem AW {κ:Type}{kvs:List (κ × V)}{vs:List (κ × Value)}(r:KV kvs vs):(!vs.isEmpty)=!kvs.isEmpty:=by
 cases r <;> rfl
theorem tN {xs:LG}{its:LH}(r:cN xs its):(!its.toArray.isEmpty)=!xs.isEmpty:=by
 cases r <;> simp
theorem oF:(sizeLine:Nat) < 2 ^ 63:=by rw[sizeLine_eq]; decide
theorem Mt:QW X (fun x H Q=>∃ k,PR X.K x H k∧Q k H):=by
 intro pins s σ H x v Q I rx h;obtain⟨k,e,q⟩:=h;have hl:=oF;have hs:sizeLine=16777216:=sizeLine_eq;cases x with
 | non =>
  cases rx;have e':k=false:=e;subst e';exact truthy_none ⟨H,I,q⟩
 | bl b =>
  cases rx;have e':k=b:=e;subst e';exact iJ ⟨H,I,q⟩
 | int i =>
  obtain⟨t,rfl⟩:=rx;have e':k=(i != 0):=e;subst e';exact PySem.P.truthy_int ⟨H,I,q⟩
 | str y =>
  obtain⟨t,rfl⟩:=rx;obtain⟨hy,e'⟩:y.length≤sizeLine∧k=((y.length:Int) != 0):=e;subst e';exact PySem.P.truthy_str (by lia) ⟨H,I.tok _,q⟩
 | byt y =>
  obtain⟨t,rfl⟩:=rx;obtain⟨hy,e'⟩:y.size≤sizeLine∧k=((y.size:Int) != 0):=e;subst e';exact PySem.W.truthy_bytes (by lia) ⟨H,I.tok _,q⟩
 | ref p =>
  cases rx;have e':(∃ xs,bh X.K H p xs∧k=!xs.isEmpty) ∨ (∃ xs,dy X.K H p xs∧k=!xs.isEmpty) ∨ ∃ kvs,H p=some (.dK kvs)∧k=!kvs.isEmpty:=e;rcases e' with ⟨xs,hx,e'⟩ | ⟨xs,hx,e'⟩ | ⟨kvs,hx,e'⟩
  ·subst e'
   obtain⟨its,r,pl,hz⟩:=I.list hx;have hlen:=r.length;exact wpAny_truthy_list pl.isList (by simp only[aI]; lia) ⟨H,I.tok _,by rw[tN r]; exact q⟩
  ·subst e'
   obtain⟨its,r,pl,hz⟩:=I.tuple hx;have hlen:=r.length;exact truthy_tuple pl (by simp only[aI]; lia) ⟨H,I.tok _,by rw[tN r]; exact q⟩
  ·subst e'
   obtain⟨hz,hS,vs,r,m⟩:kvs.length≤sizeLine∧(p == sysModules)=false∧∃ vs,KV kvs vs∧s.heap.DictOf (gj X.prog X.w) p vs:=I.hok p _ hx;have hlen:kvs.length=vs.length:=Paired.length r;exact wpAny_truthy_dict hS m (by lia) ⟨H,I.tok _,by rw[AW r]; exact q⟩
 | _=>exact (show False from e).elim
theorem Gs (ha:PE X a ta)(he:∀ whole,isTrue a X.env whole=(do let v ← whole; standAt a.pos; holding [v] (truthy v))) :
  PT X a (fun σ H Q=>ta σ H fun x H'=>∃ k,PR X.K x H' k∧Q k H'):=by
 intro pins s σ H Q I h;exact isTrue_plain (thn (ha pins s σ H _ I h) fun v s1 ⟨x,H1,I1,r1,q1⟩=>Mt pins s1 σ H1 x v Q I1 r1 q1) (he _)
theorem jM {x:V}{us:LH}(r:cN [x] us):∃ u,us=[u]∧cY x u:=by
 cases r with
 | cons r1 r2=>cases r2; exact⟨_,rfl,r1⟩
theorem Fn {x y:V}{us:LH}(r:cN [x,y] us):∃ u w',us=[u,w']∧cY x u∧cY y w':=by
 cases r with
 | cons r1 r2 =>
  cases r2 with
  | cons r3 r4=>cases r4; exact⟨_,_,rfl,r1,r3⟩
theorem zP:iV X (.builtin "abs") (fun xs H Q=>∃ i,xs=[.int i]∧Q (.int (if i < 0 then -i else i)) H):=by
 intro pins s σ H xs us Q I r h;obtain⟨i,rfl,q⟩:=h;obtain⟨u,rfl,t,rfl⟩:=jM r;exact call_abs_int fun u tk=>⟨.int (if i < 0 then -i else i),H,I.tok _,⟨_,rfl⟩,q⟩
theorem vW (hc:X.calm=true):iV X (.builtin "max") (fun xs H Q=>∃ i j,xs=[.int i,.int j]∧Q (.int (if j > i then j else i)) H):=by
 intro pins s σ H xs us Q I r h;obtain⟨i,j,rfl,q⟩:=h;obtain⟨u,w',rfl,⟨t,rfl⟩,⟨t',rfl⟩⟩:=Fn r;refine max_two_ints (I.ok.hd hc) fun h' tk k=>⟨_,H,I.kept k,?_,q⟩
 by_cases hj:j > i
 ·rw[if_pos hj,if_pos hj]; exact⟨_,rfl⟩
 ·rw[if_neg hj,if_neg hj]; exact⟨_,rfl⟩
theorem nH:iV X (.type "int") (fun xs H Q=>(∃ i,xs=[.int i]∧Q (.int i) H) ∨ ∃ k,xs=[.bl k]∧Q (.int (if k then 1 else 0)) H):=by
 intro pins s σ H xs us Q I r h;rcases h with ⟨i,rfl,q⟩ | ⟨k,rfl,q⟩
 ·obtain⟨u,rfl,t,rfl⟩:=jM r
  exact call_int_int ⟨.int i,H,I,⟨_,rfl⟩,q⟩
 ·obtain⟨u,rfl,r1⟩:=jM r
  cases r1;exact call_int_bool ⟨.int (if k then 1 else 0),H,I.tok _,⟨_,rfl⟩,q⟩
end
structure Oj (h:Heap)(x dx C:Addr)(mA:LO):Prop where
 obj:h.get? x=some (PySem.W.instObj C dx)
 ns:h.Ns1 dx mA
 ne:dx≠x
theorem EB {h:Heap}{dx:Addr}{mA:LO}(n:h.Ns1 dx mA):∃ od,h.get? dx=some od∧∀ name,PySem.W.lookIn name od=some (mA name):=by
 obtain⟨o,es,ep,ho,hd,hk,_,hm⟩:=n;refine⟨o,ho,fun name=>?_⟩;have e:=hm name;unfold nsFind findBy at e;rw[←Array.find?_toList] at e;unfold PySem.W.lookIn;rw[hd]
 dsimp only
 split
 ·rename_i y q
  rw[q] at e;exact congrArg some e
 ·rename_i q
  rw[q] at e;have a:es.toList.any (·.refKey)=false:=by
   rw[List.any_eq_false];intro y hy;obtain⟨z,t,hkey⟩:=hk y (Array.mem_toList_iff.mp hy);simp[DictEntry.refKey,hkey]
  have a':¬ es.toList.any (·.refKey)=true:=by rw[a]; exact ba
  rw[if_neg a'];exact congrArg some e
theorem Oj.look {h:Heap}{x dx C:Addr}{mA:LO}(I:Oj h x dx C mA):∃ od,PySem.W.InstAt h x (PySem.W.instObj C dx) C (some od)∧∀ name,PySem.W.lookIn name od=some (mA name) :=
 let ⟨od,ho,hl⟩:=EB I.ns
 ⟨od,⟨I.obj,rfl,rfl,ho⟩,hl⟩
section
variable {prog:Program}{w:World}{A:Around}{E:LN}{s:Shared}{K:LM}{x dx C f:Addr}{mA:LO}{name:Str}{v:Value}
end
section
variable {P:Program}{w:World}{H H':Hp}{h h':Heap}{a C dx:Addr}{fs fs':List (Str × V)}
theorem KH (hok:nK P w H h)(e:H a=some (.ins C dx fs)):∃ mA,Oj h a dx C mA∧(∀ f,ux (fs.lookup f) (mA f))∧PySem.Within mA (fs.map (·.1))∧fs.length≤1000∧H dx=some (.own a):=by
 obtain⟨d,z,ne,ob,mA,n,r,q⟩:=(show eZ P w H h a (.ins C dx fs) from hok a _ e);exact⟨mA,⟨ob,n,ne⟩,r,q,z,d⟩
end
structure Rf (K:LM)(C:Addr):Prop where
 pg:PySem.W.plainGet K C Str.empty=true
 hd:PySem.W.hasDictIn K C=true
 po:PySem.W.plainOver K C=true
 sa:PySem.W.findIn K (.ref C) "__setattr__" = some (some (.builtin "object.__setattr__"))
theorem Rf.get {K:LM}{C:Addr}(c:Rf K C)(f:Str):PySem.W.plainGet K C f=true:=c.pg
section
variable {X:Cx}{pins:LD}{σ:St}{H:Hp}{s:Shared}{a C dx:Addr}{fs:List (Str × V)}{f:Str}{v:V}{A:Around}{E:LN}
end
section
variable {X:Cx}{o e value:Expr}{f:Str}{pos pos' tpos:Pos}{ta tv:TE}
end
section
variable {X:Cx}{pins:LD}{σ:St}{H:Hp}{s:Shared}{A:Around}{E:LN}{Q:LN}{c:Value}{b:Bool}
inductive qx (K:LM)(H:Hp):V→Value→Prop where
 | non:qx K H .non (.type "NoneType")
 | bl (x:Bool):qx K H (.bl x) (.type "bool")
 | int (i:Int):qx K H (.int i) (.type "int")
 | str (x:Str):qx K H (.str x) (.type "str")
 | flt (x:UInt64):qx K H (.flt x) (.type "float")
 | lst {a:Addr} {xs:LG} (e:H a=some (.lst xs)):qx K H (.ref a) (.type "list")
 | frz {a:Addr} {o:Obj} {xs:LG} (e:H a=some (.frz o (.lst xs))):qx K H (.ref a) (.type "list")
 | tup {a:Addr} {xs:LG} (e:H a=some (.tup xs)):qx K H (.ref a) (.type "tuple")
 | dK {a:Addr} {kvs:List (iX × V)} (e:H a=some (.dK kvs)):qx K H (.ref a) (.type "dict")
 | dT {a:Addr} {kvs:List (List iX × V)} (e:H a=some (.dT kvs)):qx K H (.ref a) (.type "dict")
 | ins {a C dx:Addr} {fs:List (Str × V)} (e:H a=some (.ins C dx fs)) (cl:Rf K C) (ha:PySem.W.findIn K (.ref C) "__class__" = some (some (.builtin "object.__class__")))
   (hn:PySem.W.specialIn K (.builtin "object.__class__") "__get__" = some (some (.builtin "getset_descriptor.__get__"))) (htk:PySem.W.takesIn K (.builtin "object.__class__")=some true)
   (hm:PySem.W.mroIn K C (.type "object")=some true):qx K H (.ref a) (.ref C)
theorem EK {x:V}{u t:Value}(I:Inv X pins σ H s)(rx:cY x u)(ty:qx X.K H x t)(e:PySem.W.kitOne X.K t c=some b)(h:∀ tk,Q (.bool b) { s with toks:=tk }) :
  wpAny (model X.prog X.w) A (call (.builtin "isinstance") [u,c]) Q E s:=by
 cases ty with
 | non=>cases (show u=Value.none from rx); exact d5 PySem.W.kitx_none I.kIn True.intro e (fun z=>nomatch z) h
 | bl y=>cases (show u=Value.bool y from rx); exact d5 PySem.W.kitx_bool I.kIn True.intro e (fun z=>nomatch z) h
 | int i=>obtain⟨t,q⟩:=(show ∃ t,u=Value.int i t from rx); cases q; exact d5 PySem.W.kitx_int I.kIn True.intro e (fun z=>nomatch z) h
 | str y=>obtain⟨t,q⟩:=(show ∃ t,u=Value.str y t from rx); cases q; exact d5 PySem.W.kitx_str I.kIn True.intro e (fun z=>nomatch z) h
 | flt y=>obtain⟨t,q⟩:=(show ∃ t,u=Value.float y t from rx); cases q; exact d5 PySem.W.kitx_float I.kIn True.intro e (fun z=>nomatch z) h
 | @lst a xs ea =>
  cases (show u=Value.ref a from rx);obtain⟨_,_,n,_,h1⟩:=(show eZ X.prog X.w H s.heap a (.lst xs) from I.hok a _ ea);exact d5 PySem.W.kitx_list I.kIn ⟨_,h1,rfl⟩ e (fun z=>nomatch z) h
 | @frz a ob xs ea =>
  cases (show u=Value.ref a from rx);obtain⟨_,_,_,n,_,h1⟩:=(show eZ X.prog X.w H s.heap a (.frz ob (.lst xs)) from I.hok a _ ea);exact d5 PySem.W.kitx_list I.kIn ⟨_,h1,rfl⟩ e (fun z=>nomatch z) h
 | @tup a xs ea =>
  cases (show u=Value.ref a from rx);obtain⟨_,_,_,p⟩:=(show eZ X.prog X.w H s.heap a (.tup xs) from I.hok a _ ea);obtain⟨o,h1,h2,_⟩:=p;exact d5 PySem.W.kitx_tuple I.kIn ⟨o,h1,h2⟩ e (fun z=>nomatch z) h
 | @dK a kvs ea =>
  cases (show u=Value.ref a from rx);obtain⟨_,_,vs,_,p⟩:=(show eZ X.prog X.w H s.heap a (.dK kvs) from I.hok a _ ea);obtain⟨o,es,ep,h1,h2,_⟩:=p;exact d5 PySem.W.kitx_dict I.kIn ⟨o,h1,h2.1⟩ e (fun z=>nomatch z) h
 | @dT a kvs ea =>
  cases (show u=Value.ref a from rx);obtain⟨_,_,xs,_,o,es,ep,h1,h2,_⟩:=(show eZ X.prog X.w H s.heap a (.dT kvs) from I.hok a _ ea);exact d5 PySem.W.kitx_dict I.kIn ⟨o,h1,h2.1⟩ e (fun z=>nomatch z) h
 | @ins a C dx fs ea cl ha hn htk hm =>
  cases (show u=Value.ref a from rx);obtain⟨mA,O,_⟩:=KH I.hok ea;obtain⟨od,J,_⟩:=O.look;exact d5 (PySem.W.kitx_own (cl.get _) cl.hd ha hn htk hm) I.kIn J e (fun z=>nomatch z) h
end
structure kx (k:Nat)(A:Around):Prop where
 hd:A.handled=none
 dp:A.depth+3 * k+5 < recursionLimit
 un:A.units+16 * k+200 < cLine
 gd:A.guards=some []
theorem kx.mono {j k:Nat}{A:Around}(r:kx k A)(h:j≤k):kx j A:=⟨r.hd,by have:=r.dp; lia,by have:=r.un; lia,r.gd⟩
theorem kx.deeper {k:Nat}{A:Around}(r:kx (k+1) A)(env:Env):kx k (A.deeper env) :=
 ⟨r.hd,by have:=r.dp; show A.depth+1+3 * k+5 < _; lia,by have:=r.un; show A.units+3+16 * k+200 < _; lia,r.gd⟩
theorem kx.depth {k:Nat}{A:Around}(r:kx k A):A.depth < recursionLimit:=by have:=r.dp; lia
theorem kx.units {k:Nat}{A:Around}(r:kx k A):A.units+64 < cLine:=by have:=r.un; lia
def Mz:TA:=fun _ H Q=>Q [] H
def Lj (ta:TE)(tr:TA):TA:=fun σ H Q=>ta σ H fun x H1=>tr σ H1 fun xs H2=>Q (x :: xs) H2
section
variable {X:Cx}{e:Expr}{es:LL}{te:TE}{t:TA}{pos:Pos}
theorem ah:PA X [] Mz:=fun _ _ _ _ H Q I h=>Calls.spliced_nil ⟨[],H,I,.nil,h⟩
theorem ad (ha:PE X e te)(hr:PA X es t)(hs:starEach (e :: es) X.env=(false,eval e X.env) :: starEach es X.env:=by rfl):PA X (e :: es) (Lj te t):=by
 intro pos pins s σ H Q I h;rw[hs];show wpAny _ _ (spliced ((false,eval e X.env) :: backTo pos (starEach es X.env))) _ _ s;refine Calls.spliced_cons (thn (ha pins s σ H _ I h) fun u s1 ⟨x,H1,I1,r1,q1⟩=>?_);exact thn (hr pos pins s1 σ H1 _ I1 q1) fun us s2 ⟨xs,H2,I2,r2,q2⟩=>⟨x :: xs,H2,I2,.cons r1 r2,q2⟩
def OG (t:TA):TE:=fun σ H Q=>t σ H fun xs H1=>xs.length≤sizeLine∧∀ p,H1 p=none→Q (.ref p) (upd H1 p (.tup xs))
def OL (t:TA):TE:=fun σ H Q=>t σ H fun xs H1=>xs.length≤sizeLine∧∀ p,H1 p=none→Q (.ref p) (upd H1 p (.lst xs))
theorem dc {x1}(h:PA X es t):PE X (.Tuple es x1 pos) (OG t):=by
 intro pins s σ H Q I hq;refine wpAny_Tuple_spliced (thn (h pos pins s σ H _ I hq) fun us s1 ⟨xs,H1,I1,r,z,q⟩=>⟨by rw[←r.length]; exact z,?_⟩);have hf:H1 s1.heap.objs.size=none:=I1.hok.fresh (au _);refine⟨.ref s1.heap.objs.size,upd H1 s1.heap.objs.size (.tup xs),I1.laid (t':=s1.toks) (fun b u e=>ak _ e) (au _) ?_,rfl,q _ hf⟩;exact⟨z,us,r,⟨_,br _ rfl,rfl,_,rfl⟩⟩
theorem cC (h:PA X es t):PE X (.List es pos) (OL t):=by
 intro pins s σ H Q I hq;refine wpAny_List_spliced (thn (h pos pins s σ H _ I hq) fun us s1 ⟨xs,H1,I1,r,z,q⟩=>⟨by rw[←r.length]; exact z,?_⟩);have hf:H1 s1.heap.objs.size=none:=I1.hok.fresh (au _);refine⟨.ref s1.heap.objs.size,upd H1 s1.heap.objs.size (.lst xs),I1.laid (t':=s1.toks) (fun b u e=>ak _ e) (au _) ?_,rfl,q _ hf⟩;exact⟨z,us,0,r,br _ rfl⟩
end
abbrev Sp:=List V→Hp→VK→XK→Prop
abbrev IM:=List Env→Hp→Shared→XK→Value→Shared→Prop
structure K7 (P:Program)(w:World)(K:LM)(mg:LO)(base:Heap)(A:Around)(outer:List Env)(s:Shared)(H:Hp):Prop where
 frames:A.frames=some outer
 mod:Mod K mg base
 bs:∀ b o,base.get? b=some o→s.heap.get? b=some o∧H b=none
 bsz:base.objs.size≤s.heap.objs.size
 funs:s.heap.FunFrames base outer
 frf:∀ b ∈ frs outer,H b=none
 hok:nK P w H s.heap
 bare:AllBare s.gens
inductive P7 (outer:List Env)(P:Program)(w:World)(H:Hp)(s:Shared)(Q:VK)(u:Value)(s':Shared):Prop | mk (v H':_) (_:s'.os=s.os) (_:AllBare s'.gens) (_:Un (frs outer) [] H H' s.heap s'.heap) (_:nK P w H' s'.heap) (_:cY v u) (_:Q v H'):P7 outer P w H s Q u s'
def CE (outer:List Env)(P:Program)(w:World)(H:Hp)(s:Shared)(Q:VK)(u:Value)(s':Shared):Prop:=P7 outer P w H s Q u s'
def CR (CX:IM)(outer:List Env)(P:Program)(w:World)(H:Hp)(s:Shared)(Q:VK)(E:XK)(r:Result)(s':Shared):Prop :=
 match r with
 | .ok (.ret u)=>CE outer P w H s Q u s'
 | .ok _=>False
 | .error e=>CX outer H s E e s'
structure bK (P:Program)(w:World)(K:LM)(mg:LO)(base:Heap)(CX:IM)(k:Nat)(f:Addr)(fd:FuncData)(ps:LK)(sp:Sp):Prop where
 len:∀ vs H Q E,sp vs H Q E→vs.length=ps.length
 run:∀ (A:Around) (outer:List Env) (s:Shared) (H:Hp) (args:Args) (us:LH) (vs:LG) (Q:VK) (E:XK),kx k A→K7 P w K mg base A outer s H→BindsTo s fd args (ps.zip us)→cN vs us→sp vs H Q E →
  codeAny (model P w) A (.call (.ref f) args) (CR CX outer P w H s Q E) s
section
variable {X:Cx}{pins:LD}{σ:St}{H:Hp}{s s':Shared}
theorem Inv.env0 (I:Inv X pins σ H s):K7 X.prog X.w X.K X.mg X.base X.A X.stack s H :=
 ⟨I.ok.frames,I.ok.mod,I.bs,aE I.ok.bsz I.sz,I.stack,I.stkFree,I.hok,I.bare⟩
theorem Inv.after {Q:VK}{u:Value}(I:Inv X pins σ H s)(h:CE X.stack X.prog X.w H s Q u s'):EP X pins σ Q u s':=by
 obtain⟨v,H',os,bare,un,hok,r,q⟩:=h;obtain⟨hh,g,d,t,os'⟩:=s';obtain rfl:os'=s.os:=os;exact⟨v,H',I.call (h':=hh) (g':=g) (d':=d) (t':=t) (ch:=[]) un hok bare (fun b z=>absurd z (by simp)),r,q⟩
end
def Fz (sp:Sp)(dvs:LG)(E:XK)(t:TA):TE:=fun σ H Q=>t σ H fun vs H1=>sp (vs++dvs) H1 Q E
def we (K:LM)(fd:FuncData)(ps:LK)(ds:LH):Prop :=
 ∀ (s:Shared) (us:LH),K.In s.heap→(us++ds).length=ps.length→BindsTo s fd ⟨us,[]⟩ (ps.zip (us++ds))
theorem we.all {K:LM}{fd:FuncData}{ps:LK}(h:∀ us:LH,us.length=ps.length→bindArgs fd ⟨us,[]⟩=pure (ps.zip us)):we K fd ps []:=fun s us _ hl=>by
 rw[fe] at hl ⊢;exact .of_eq (h us hl)
def Bh (CX:IM)(X:Cx)(E:XK):Prop:=∀ (pins:LD) (σ:St) (H:Hp) (s:Shared) (e:Value) (s':Shared),Inv X pins σ H s→CX X.stack H s E e s'→X.xe e s'
section
variable {X:Cx}{CX:IM}{k:Nat}{f C:Addr}{fd:FuncData}{ps:LK}{sp:Sp}{dvs:LG}{ds:LH}{E:XK}{x m:Str}{p pos apos:Pos}{e o:Expr}{es:LL}{ta:TE}{t:TA}
theorem MS {pins:LD}{σ:St}{H:Hp}{s:Shared}{Q:VK}{us:LH}{vs:LG}(F:bK X.prog X.w X.K X.mg X.base CX k f fd ps sp)(hr:kx k X.A)(hb:we X.K fd ps ds)(hd:cN dvs ds)(hx:Bh CX X E)(I:Inv X pins σ H s)(r:cN vs us)(h:sp (vs++dvs) H Q E):wpAny (model X.prog X.w) X.A (call (.ref f) us) (EP X pins σ Q) X.xe s:=by
 have r2:cN (vs++dvs) (us++ds):=r.append hd;have hl:(us++ds).length=ps.length:=by rw[←r2.length]; exact F.len _ _ _ _ h
 refine wpAny_call (codeAny_mono (F.run X.A X.stack s H ⟨us,[]⟩ (us++ds) (vs++dvs) Q E hr I.env0 (hb s us I.kIn hl) r2 h) fun r s' hq=>?_);cases r with
 | error e=>exact hx pins σ H s e s' I hq
 | ok fl =>
  cases fl with
  | ret u=>exact I.after hq
  | next=>exact False.elim hq
  | brk=>exact False.elim hq
  | cont=>exact False.elim hq
theorem JE (F:bK X.prog X.w X.K X.mg X.base CX k f fd ps sp)(hr:kx k X.A)(hg:Gl X x)(hm:X.mg x=some (.ref f))(hk:PySem.W.keepIn X.K (.ref f)=true)(hb:we X.K fd ps ds)(hd:cN dvs ds)(hx:Bh CX X E)(ha:PA X (e :: es) t)(hdb:(x == ("__debug__" : Str))=false:=by decide)(he:starEach (e :: es) X.env=(false,eval e X.env) :: starEach es X.env:=by rfl)(hpl:(backTo pos (starEach es X.env)).any (·.1)=false:=by rfl) :
  PE X (.Call (.Name x p) (e :: es) [] pos) (Fz sp dvs E t):=by
 intro pins s σ H Q I h;refine jE (Cp I hg hm ?_ hdb);refine PySem.W.callWith_K (h₀:=X.base) I.ok.mod.kin hk (thn (ha pos pins s σ H _ I h) fun us s1 ⟨vs,H1,I1,r,q⟩=>⟨I1.kIn,?_⟩) he hpl;exact MS F hr hb hd hx I1 r q
structure Mk (K:LM)(C f:Addr):Prop where
 makes:PySem.W.makesIn K C=true
 init:PySem.W.findIn K (.ref C) "__init__" = some (some (.ref f))
 fn:PySem.W.isFn K (.ref f)=true
 kp:PySem.W.keepIn K (.ref C)=true
end
section
variable {X:Cx}{CX:IM}{k:Nat}{f C:Addr}{fd:FuncData}{ps ks:LK}{sp:Sp}{E:XK}{x m:Str}{p pos apos kpos:Pos}{e o:Expr}{es:LL}{kws:List Keyword}{te ta:TE}{t tk:TA}{nm:Option Str}
variable {g:List Value→List Value→LH}{gV:List V→List V→LG}
end
structure bJ (N P:LK)(sc:Scope):Prop where
 kind:sc.kind=.function
 co:sc.isCoroutine=false
 gen:sc.isGenerator=false
 nd:N.Nodup
 pre:N.take P.length=P
 par:∀ x ∈ P,sc.names.lookup x=some .local ∨ sc.names.lookup x=some .cell
 nofree:∀ y ∈ sc.names,y.2≠.free
theorem vY {kindOf:Str→Option NameKind}{x:Str}:∀ {binds:List (Str × Value)} {m:LO},(∀ v,(x,v) ∉ binds)→bindL kindOf binds m x=m x
 | [],_,_=>rfl
 | (n,v) :: r,m,h=>by
  unfold bindL;rw[vY fun w hw=>h w (aC _ hw)]
  split
  ·have:x≠n:=by rintro rfl; exact h v aK
   simp[this]
  ·rfl
theorem v7 {kindOf:Str→Option NameKind}{x:Str}:∀ {binds:List (Str × Value)} {m:LO},(∀ v,(x,v) ∉ binds)→bindC kindOf binds m x=m x
 | [],_,_=>rfl
 | (n,v) :: r,m,h=>by
  unfold bindC;rw[v7 fun w hw=>h w (aC _ hw)]
  split
  ·rfl
  ·have:x≠n:=by rintro rfl; exact h v aK
   simp[this]
theorem vZ {kindOf:Str→Option NameKind}{x:Str}{v:Value}:∀ {P:LK} {vs:LH} {i:Nat} {m:LO},P.Nodup→P[i]? = some x→vs[i]? = some v→kindOf x=some .local →
  bindL kindOf (P.zip vs) m x=some v
 | [],_,_,_,_,h,_,_=>by simp at h
 | _ :: _,[],_,_,_,_,h,_=>by simp at h
 | p :: P,w :: vs,0,m,nd,h1,h2,hk=>by
  simp at h1 h2; subst h1; subst h2;show bindL kindOf ((p,w) :: P.zip vs) m p=_;unfold bindL;rw[vY fun v hv=>(dz.mp nd).1 (List.of_mem_zip hv).1,if_pos hk];simp
 | p :: P,w :: vs,i+1,m,nd,h1,h2,hk=>by
  show bindL kindOf ((p,w) :: P.zip vs) m x=_;unfold bindL;exact vZ (i:=i) (dz.mp nd).2 (by simpa using h1) (by simpa using h2) hk
theorem v8 {kindOf:Str→Option NameKind}{x:Str}{v:Value}:∀ {P:LK} {vs:LH} {i:Nat} {m:LO},P.Nodup→P[i]? = some x→vs[i]? = some v→kindOf x≠some .local →
  bindC kindOf (P.zip vs) m x=some v
 | [],_,_,_,_,h,_,_=>by simp at h
 | _ :: _,[],_,_,_,_,h,_=>by simp at h
 | p :: P,w :: vs,0,m,nd,h1,h2,hk=>by
  simp at h1 h2; subst h1; subst h2;show bindC kindOf ((p,w) :: P.zip vs) m p=_;unfold bindC;rw[v7 fun v hv=>(dz.mp nd).1 (List.of_mem_zip hv).1,if_neg hk];simp
 | p :: P,w :: vs,i+1,m,nd,h1,h2,hk=>by
  show bindC kindOf ((p,w) :: P.zip vs) m x=_;unfold bindC;exact v8 (i:=i) (dz.mp nd).2 (by simpa using h1) (by simpa using h2) hk
def start (N:LK)(vs:LG):St:=vs.map some++List.replicate (N.length - vs.length) none
def Bb (CX:IM)(P:Program)(w:World)(K:LM)(mg:LO)(base:Heap)(N:LK)(qual:Str)(scope:Scope)(f:Addr)(cd:Value)(A:Around)(outer:List Env)(s:Shared)(H:Hp)(E:XK):Cx where
 prog:=P
 w:=w
 K:=K
 mg:=mg
 base:=base
 A:=A.deeper (envOfC qual scope s.heap.objs.size f cd)
 N:=N
 s₀:=s
 H₀:=H
 env:=envOfC qual scope s.heap.objs.size f cd
 outer:=outer
 stack:=envOfC qual scope s.heap.objs.size f cd :: outer
 ex:=[]
 calm:=true
 fn:=fun _=>true
 pn:=[]
 xe:=fun e s'=>wpAny (model P w) (A.deeper (envOfC qual scope s.heap.objs.size f cd)) (leaving (envOfC qual scope s.heap.objs.size f cd) e) (fun _ s''=>CX outer H s E e s'') (fun e' s''=>CX outer H s E e' s'') s'
theorem zM {sc:Scope}{n:Nat}{x:Str}(h:sc.names.lookup x=some .cell):∃ c,(cellsFrom n sc.names []).lookup x=some c:=by
 have q:=PySem.W.cellsFrom_some sc.names n [] (.inl h);exact fU.mp q
theorem EL {CX:IM}{P:Program}{w:World}{K:LM}{mg:LO}{base:Heap}{N ps:LK}{qual:Str}{scope:Scope}{f:Addr}{cd:Value}{A:Around}{outer:List Env}{s s1:Shared}{H:Hp}{E:XK}{us:LH}{vs:LG}(S:bJ N ps scope)(hd:A.handled=none)(e0:K7 P w K mg base A outer s H)(hl:vs.length=ps.length)(r:cN vs us)(x:InCallC s s.heap.objs.size (bindL (envOfC qual scope s.heap.objs.size f cd).kindOf (ps.zip us) fun _=>none) (cellsFrom (s.heap.objs.size+1) scope.names []) (bindC (envOfC qual scope s.heap.objs.size f cd).kindOf (ps.zip us) fun _=>none) s1) :
  Inv (Bb CX P w K mg base N qual scope f cd A outer s H E) [] (start N vs) H s1:=by
 have hpl:ps.length≤N.length:=by have:=congrArg List.length S.pre; rw[bB] at this; lia
 obtain⟨h1,tk,rfl,hk⟩:=x.done;have noA:∀ b:Addr,b ∉ (Bb CX P w K mg base N qual scope f cd A outer s H E).ex:=fun b z=>absurd (show b ∈ ([]:LI) from z) (by simp)
 refine⟨⟨e0.mod,S.kind,rfl,rfl,au _,fun y z c h1 h2=>?_,fun y hy=>?_,fun y c _ h=>?_,fun _=>hd,Around.frames_deeper e0.frames,.inr ⟨rfl,rfl⟩,fun b z=>absurd z (noA b),e0.bs,e0.bsz,fun b _ _=>noA b,fun b z=>absurd z (noA b),e0.funs,e0.frf⟩,
  rfl,e0.bare,Un.kept hk,⟨_,x.toInCall.ns,fun i y v h1 h2 h3=>?_⟩,fun y c h=>⟨_,x.cell y c h⟩,e0.hok.fresh (au _),fun y c h=>?_,fun p hp=>absurd (show p ∈ ([]:LD) from hp) (by simp),e0.hok.kept hk,?_⟩
 ·exact name_of_addr x.apart (eY h1) (eY h2)
 ·have hy:scope.names.lookup y=some .cell ∨ scope.names.lookup y=some .free:=hy
  rcases hy with hy | hy
  ·exact zM hy
  ·exact absurd rfl (S.nofree _ (eY hy))
 ·exact cf (x.above y c (eY h))
 ·have hi:i < vs.length:=by
   unfold start at h2
   by_cases hi:i < vs.length
   ·exact hi
   ·rw[aV (by simpa using hi)] at h2
    rw[eA] at h2
    split at h2 <;> cases h2
  have ha:vs[i]? = some v:=by
   unfold start at h2;rw[be (by simpa using hi),aq] at h2;cases e:vs[i]? with
   | none=>rw[e] at h2; cases h2
   | some a=>rw[e] at h2; cases h2; rfl
  obtain⟨u,hu,rv⟩:=r.get ha;have hp:ps[i]? = some y:=by
   rw[←S.pre,fX (by lia)]; exact h1
  have ndP:ps.Nodup:=by rw[←S.pre]; exact S.nd.sublist (List.take_sublist _ _)
  refine⟨u,rv,?_⟩;rcases S.par y (ae hp) with k | k
  ·exact .inl ⟨k,vZ ndP hp hu k⟩
  ·obtain⟨c,e⟩:=zM (n:=s.heap.objs.size+1) k
   refine .inr ⟨.inl k,c,e,?_⟩;have q:=x.cell y c e;rw[v8 ndP hp hu (by show scope.names.lookup y≠_; rw[k]; decide)] at q;exact q
 ·exact e0.hok.fresh (cf (x.above y c (eY h)))
 ·unfold start
  show _=N.length;rw[ai,aa,cO]
  lia
theorem PH {CX:IM}{P:Program}{w:World}{K:LM}{mg:LO}{base:Heap}{k:Nat}{f:Addr}{name qual:Str}{params:Arguments}{body:List Stmt}{scope:Scope}{dV kV doc pm cdv ct oc:Value}{an od:LR}{osl:Array (LV)}{N ps:LK}{sp:Sp}(lk:K.lookup f=some ⟨oc,od,.func (PySem.W.fnOf name qual params body scope dV kV doc pm an cdv ct),osl⟩)(hcd:PySem.W.codeIn K cdv qual=true)(S:bJ N ps scope)(len:∀ vs H Q E,sp vs H Q E→vs.length=ps.length)(hbody:∀ (A:Around) (outer:List Env) (s:Shared) (H:Hp) (vs:LG) (Q:VK) (E:XK),kx k (A.deeper (envOfC qual scope s.heap.objs.size f cdv))→sp vs H Q E →
   ∃ t,xN (Bb CX P w K mg base N qual scope f cdv A outer s H E) body t∧t { nx:=fun _ H'=>Q .non H',rt:=Q } (start N vs) H) :
  bK P w K mg base CX (k+1) f (PySem.W.fnOf name qual params body scope dV kV doc pm an cdv ct) ps sp:=by
 refine⟨len,fun A outer s H args us vs Q E hr e0 hb r hsp=>?_⟩;have hl:=len _ _ _ _ hsp;have KX:K.In s.heap:=e0.mod.kin.keeps fun b o e=>(e0.bs b o e).1
 have lim:s.heap.NoLimit:=e0.mod.nolimit.keeps fun b o e=>(e0.bs b o e).1
 have hkind:∀ y ∈ ps.zip us,scope.names.lookup y.1=some .local ∨ (scope.names.lookup y.1=some .cell∧((cellsFrom (s.heap.objs.size+1) scope.names []).lookup y.1).isSome=true):=fun⟨n,v⟩ hy=>by
  rcases S.par n (List.of_mem_zip hy).1 with q | q
  ·exact .inl q
  ·exact .inr ⟨q,PySem.W.cellsFrom_some _ _ _ (.inl q)⟩
 refine codeAny_call_function hr.depth (KX _ _ lk) rfl S.co S.gen rfl (PySem.W.codeRec_of KX hcd) (hb _ _ _ _ ?_);refine wpAny_newFunctionEnv_cells S.kind hkind fun env he s1 x=>?_
 subst he;refine⟨lim.keeps x.toInCall.keep,codeAny_func ?_⟩;obtain⟨t,ht,hq⟩:=hbody A outer s H vs Q E (hr.deeper _) hsp;have I:Inv (Bb CX P w K mg base N qual scope f cdv A outer s H E) [] (start N vs) H s1:=EL S hr.hd e0 hl r x;refine du (ht [] s1 (start N vs) H _ I hq) (fun fl s' hs=>?_) fun e s' hs=>hs
 have fin:∀ {σ':St} {H':Hp} {v:V} {u:Value},Inv (Bb CX P w K mg base N qual scope f cdv A outer s H E) [] σ' H' s'→cY v u→Q v H'→CE outer P w H s Q u s' :=
  fun {σ' H' v u} J rv q=>⟨v,H',J.os,J.bare,J.base,J.hok,rv,q⟩
 cases fl with
 | ret u =>
  obtain⟨v,σ',H',J,rv,q⟩:=hs;exact fin J rv q
 | next =>
  obtain⟨σ',H',J,q⟩:=hs;exact fin (v:=V.non) (u:=Value.none) J rfl q
 | brk =>
  obtain⟨_,_,_,q⟩:=hs;exact False.elim q
 | cont =>
  obtain⟨_,_,_,q⟩:=hs;exact False.elim q
section
variable {X:Cx}{x:Str}{p pos:Pos}{e:Expr}{es:LL}{t:TA}{id T:String}{r:List V→Hp→VK→Prop}
def Rn (r:List V→Hp→VK→Prop)(t:TA):TE:=fun σ H Q=>t σ H fun vs H1=>r vs H1 Q
theorem bQ (hc:iV X (.builtin id) r)(hg:Gl X x)(hm:X.mg x=none)(hv:bootBuiltins x=some (.builtin id))(ha:PA X (e :: es) t)(hn:x≠"__name__":=by decide)(hdb:(x == ("__debug__" : Str))=false:=by decide)(he:starEach (e :: es) X.env=(false,eval e X.env) :: starEach es X.env:=by rfl)(hpl:(backTo pos (starEach es X.env)).any (·.1)=false:=by rfl):PE X (.Call (.Name x p) (e :: es) [] pos) (Rn r t):=by
 intro pins s σ H Q I h;refine jE (mf I hg hm hv ?_ hn hdb);exact PyProof.Rows.callWith_builtin1 (thn (ha pos pins s σ H _ I h) fun us s1 ⟨vs,H1,I1,r1,q1⟩=>hc pins s1 σ H1 vs us Q I1 r1 q1) he hpl
theorem gy (hc:iV X (.type T) r)(hg:Gl X x)(hm:X.mg x=none)(hv:bootBuiltins x=some (.type T))(ha:PA X (e :: es) t)(hn:x≠"__name__":=by decide)(hdb:(x == ("__debug__" : Str))=false:=by decide)(he:starEach (e :: es) X.env=(false,eval e X.env) :: starEach es X.env:=by rfl)(hpl:(backTo pos (starEach es X.env)).any (·.1)=false:=by rfl):PE X (.Call (.Name x p) (e :: es) [] pos) (Rn r t):=by
 intro pins s σ H Q I h;refine jE (mf I hg hm hv ?_ hn hdb);exact eE (thn (ha pos pins s σ H _ I h) fun us s1 ⟨vs,H1,I1,r1,q1⟩=>hc pins s1 σ H1 vs us Q I1 r1 q1) he hpl
end
end L2
namespace HT
open PySem PyProof.Rows
section
open PySem.SeqAt
open PySem.AutoSeq1 (wpAny_loadPart')
open PySem.MeetsSeq PySem.MeetsSeq2 PySem.MeetsSeq3
end
section
variable {prog:Program}{w:World}{A:Around}{E:LN}{s:Shared}
def sIx (n d:Nat):Option Int→Nat
 | none=>d
 | some v=>if v < 0 then (v+(n:Int)).toNat else min v.toNat n
theorem sIx_none (n d:Nat):sIx n d none=d:=rfl
theorem sIx_nat (n d k:Nat):sIx n d (some (k:Int))=min k n:=by
 show (if (k:Int) < 0 then ((k:Int)+(n:Int)).toNat else min (k:Int).toNat n)=min k n;rw[if_neg (by lia),bC]
theorem MR (n d:Nat)(hd:d≤n)(o:Option Int):sIx n d o≤n:=by
 cases o with
 | none=>exact hd
 | some v =>
  show (if v < 0 then (v+(n:Int)).toNat else min v.toNat n)≤n
  by_cases hv:v < 0
  ·rw[if_pos hv]; lia
  ·rw[if_neg hv]; exact Nat.min_le_right _ _
theorem C1 (v:Int)(n d:Nat):(if v < 0 then max (v+(n:Int)) 0 else min v (n:Int))=((sIx n d (some v):Nat):Int):=by
 show (if v < 0 then max (v+(n:Int)) 0 else min v (n:Int))=(((if v < 0 then (v+(n:Int)).toNat else min v.toNat n):Nat):Int)
 by_cases hv:v < 0
 ·simp only[if_pos hv]; lia
 ·simp only[if_neg hv]; lia
theorem Bg (lo hi:Option Int)(n:Nat):Builtin.Slice.sliceAdjust lo hi 1 (n:Int)=(((sIx n 0 lo:Nat):Int),((sIx n n hi:Nat):Int)):=by
 have h1:¬ ((1:Int) < 0):=by lia
 unfold Builtin.Slice.sliceAdjust;simp only[h1,nQ];refine Prod.ext ?_ ?_
 ·cases lo with
  | none=>rfl
  | some v=>exact C1 v n 0
 ·cases hi with
  | none=>rfl
  | some v=>exact C1 v n n
theorem AB (i j:Nat):Builtin.Slice.slicePlaces (i:Int) (j:Int) 1=j - i:=by
 unfold Builtin.Slice.slicePlaces;have h1:(1:Int) > 0:=by lia
 simp only[h1,if_true,Int.ediv_one]
 split <;> lia
theorem sO {v:Value}{o:Option Int}{Q:Option Int→Shared→Prop}(p:IsPart v o)(h:Q o s):wpAny (model prog w) A (Builtin.Slice.slicePartIndex v) Q E s:=by
 cases p with
 | none=>exact slicePart_none h
 | int i t=>exact slicePart_int h
theorem qj {sl:Addr}{vl vu:Value}{lo hi:Option Int}{n:Nat}{Q:Int × Int × Nat→Shared→Prop}(hs:s.heap.IsSliceOf sl vl vu .none)(pl:IsPart vl lo)(pu:IsPart vu hi)(h:Q (((sIx n 0 lo:Nat):Int),1,sIx n n hi - sIx n 0 lo) s):wpAny (model prog w) A (Builtin.Slice.sliceApplied (.ref sl) (pure (n:Int))) Q E s:=by
 obtain⟨os,hos,hcs,hds⟩:=id hs;unfold Builtin.Slice.sliceApplied Builtin.Slice.sliceFields;refine af (af (d8 hos hds (x:=vl) rfl (af (d8 hos hds (x:=vu) rfl (af (d8 hos hds (x:=.none) rfl (aA ?_)))))));refine af (slicePart_none ?_);show wpAny _ _ (if ((1:Int) == 0)=true then _ else _) _ _ s;rw[if_neg (by decide)];refine af (sO pl (af (sO pu (af (aA ?_)))));show wpAny _ _ (match Builtin.Slice.sliceAdjust lo hi 1 (n:Int) with | (lo,hi)=>pure (lo,(1:Int),Builtin.Slice.slicePlaces lo hi 1)) _ _ s;rw[Bg lo hi n];show wpAny _ _ (pure (((sIx n 0 lo:Nat):Int),(1:Int),Builtin.Slice.slicePlaces ((sIx n 0 lo:Nat):Int) ((sIx n n hi:Nat):Int) 1)) _ _ s;rw[AB];exact aA h
theorem GH (xs:LU)(i k:Nat):((List.range k).filterMap fun (m:Nat)=>xs[((i:Int)+(m:Int) * 1).toNat]?).toArray=((xs.toList.drop i).take k).toArray:=by
 have e:(fun (m:Nat)=>xs[((i:Int)+(m:Int) * 1).toNat]?)=fun m=>xs[i+m]?:=by
  funext m
  have:((i:Int)+(m:Int) * 1).toNat=i+m:=by lia
  rw[this]
 rw[e]
 have:=pick_run xs i k
 rw[List.filterMap_map] at this;have e2:((fun x=>xs[x]?) ∘ fun x=>i+x)=fun m=>xs[i+m]?:=rfl
 rw[e2] at this;rw[this]
theorem getItem_tuple_cut {t sl:Addr}{items:LU}{vl vu:Value}{lo hi:Option Int}{Q:LN}(ht:IsTup s.heap t items)(hs:s.heap.IsSliceOf sl vl vu .none)(pl:IsPart vl lo)(pu:IsPart vu hi)(hw:¬ (sIx items.size 0 lo=0∧sIx items.size items.size hi=items.size))(h:Q (.ref s.heap.objs.size) { s with heap:=s.heap.push { cls:=.type "tuple",data:=.seq ((items.toList.drop (sIx items.size 0 lo)).take (sIx items.size items.size hi - sIx items.size 0 lo)).toArray } })(hsz:items.size≤sizeLine):wpAny (model prog w) A (getItem (.ref t) (.ref sl)) Q E s:=by
 have htake:sizeOk (.seq ((items.toList.drop (sIx items.size 0 lo)).take (sIx items.size items.size hi - sIx items.size 0 lo)).toArray):=by
  show ((items.toList.drop (sIx items.size 0 lo)).take (sIx items.size items.size hi - sIx items.size 0 lo)).toArray.size≤sizeLine;rw[aI,bB,df,js]
  lia
 have hj:sIx items.size items.size hi≤items.size:=MR _ _ (au _) hi;obtain⟨os,hos,hcs,hds⟩:=id hs;have hTs:s.TypeIs (.ref sl) "slice":=⟨os,hos,hcs⟩;unfold getItem
 try with_reducible refine dR ?_
 first | refine af (aA ?_) | skip
 refine af (wpAny_sequenceKey ht.typeIs (by decide) ?_);refine af (hJ (name:=Str.ofString "__getitem__") ht.typeIs PyProof.Rows.slot_tuple_getitem
  (fm PyProof.Rows.slot_tuple_getitem ht.typeIs entry_tuple_getitem ?_ (args_tuple_getitem _ _)))
 show wpAny _ _ (Builtin.Tuple.tupleItemsOf (.ref t) >>= _) _ _ s;refine af (tupleItemsOf_ ht ?_);refine af (wpAny_typeOf hTs ?_);rw[if_pos (by decide)];refine af (qj hs pl pu ?_);have hno:¬ ((((sIx items.size 0 lo:Nat):Int) == 0 && (1:Int) == 1 && (sIx items.size items.size hi - sIx items.size 0 lo) == items.size)=true):=by
  intro q;rw[cG,cG] at q;have q1:((sIx items.size 0 lo:Nat):Int)=0:=eq_of_beq q.1.1;have q2:sIx items.size items.size hi - sIx items.size 0 lo=items.size:=eq_of_beq q.2;exact hw ⟨by lia,by lia⟩
 show wpAny _ _ (if (((sIx items.size 0 lo:Nat):Int) == 0 && (1:Int) == 1 && (sIx items.size items.size hi - sIx items.size 0 lo) == items.size)=true then _ else _) _ _ s;rw[if_neg hno,GH]
 first
  | exact af (m:=Builtin.Tuple.tupleExact _) (gL (aA ⟨_,rfl,aA h⟩) htake)
  | exact af (m:=Builtin.Tuple.tupleExact _) (gL (af (aA (aA ⟨_,rfl,aA h⟩))) htake)
  | exact af (af (m:=Builtin.Tuple.tupleExact _) (gL (aA (aA ⟨_,rfl,aA h⟩)) htake))
  | exact af (af (m:=Builtin.Tuple.tupleExact _) (gL (aA ⟨_,rfl,aA h⟩) htake))
end
end HT
namespace L2
open PySem PySem.Spec PyProof.Rows
abbrev TO:=St→Hp→(Option Int→Hp→Prop)→Prop
def PO (X:Cx)(e:Option Expr)(t:TO):Prop :=
 ∀ (pins:LD) (s:Shared) (σ:St) (H:Hp) (Q:Option Int→Hp→Prop),Inv X pins σ H s→t σ H Q →
  wpAny (model X.prog X.w) X.A (evalPart e X.env) (fun u s'=>∃ o H',Inv X pins σ H' s'∧IsPart u o∧Q o H') X.xe s
def I8:TO:=fun _ H Q=>Q none H
inductive By (Q:Option Int→Hp→Prop)(x:V)(H1:Hp):Prop | mk (i:_) (_:x=.int i) (_:Q (some i) H1):By Q x H1
def OJ (t:TE):TO:=fun σ H Q=>t σ H fun x H1=>By Q x H1
theorem tO {ns:LF}:∀ {us:LH},cN (ns.map V.int) us→IntsAre us ns:=by
 induction ns with
 | nil=>intro us r; rw[eQ] at r; cases r; exact .nil
 | cons n ns ih =>
  intro us r;rw[aS] at r;cases r with
  | cons r1 r2 =>
   obtain⟨t,e⟩:=r1;subst e;exact .cons n t (ih r2)
section
variable {X:Cx}{e:Expr}{te:TE}{lo hi:Option Expr}{tl th:TO}{pos p2:Pos}
theorem rN:PO X none I8:=by
 intro pins s σ H Q I h;rw[evalPart_none];exact aA ⟨none,H,I,.none,h⟩
theorem jh (h:PE X e te):PO X (some e) (OJ te):=by
 intro pins s σ H Q I hw;rw[evalPart_some];refine thn (h pins s σ H _ I hw) fun u s1 ⟨x,H1,I1,r1,q1⟩=>?_
 obtain⟨i,rfl,q⟩:=q1;obtain⟨t,rfl⟩:=r1;exact⟨some i,H1,I1,.int i t,q⟩
def Qm (X:Cx)(r:V→Option Int→Option Int→Hp→VK→Prop):Prop :=
 ∀ (pins:LD) (s:Shared) (σ:St) (H:Hp) (x:V) (v vl vu:Value) (lo hi:Option Int) (sl:Addr) (Q:VK),Inv X pins σ H s→cY x v→s.heap.IsSliceOf sl vl vu .none→IsPart vl lo→IsPart vu hi→r x lo hi H Q →
  ∃ T id,typeLookup (.type T) "__getitem__" = pure (some (.builtin id))∧s.TypeIs v T∧wpAny (model X.prog X.w) X.A (getItem v (.ref sl)) (EP X pins σ Q) X.xe s
def RG (r:V→Option Int→Option Int→Hp→VK→Prop)(te:TE)(tl th:TO):TE:=fun σ H Q=>te σ H fun x H1=>tl σ H1 fun l H2=>th σ H2 fun u H3=>r x l u H3 Q
theorem jP {r:V→Option Int→Option Int→Hp→VK→Prop}(hr:Qm X r)(he:PE X e te)(hl:PO X lo tl)(hu:PO X hi th):PE X (.Subscript e (.Slice lo hi none p2) pos) (RG r te tl th):=by
 intro pins s σ H Q I h;refine Subscript_ (thn (he pins s σ H _ I h) fun v s1 ⟨x,H1,I1,r1,q1⟩=>?_);refine wpAny_Slice (thn (hl pins s1 σ H1 _ I1 q1) fun vl s2 ⟨l,H2,I2,pl,q2⟩=>thn (hu pins s2 σ H2 _ I2 q2) fun vu s3 ⟨u,H3,I3,pu,q3⟩=>?_);rw[evalPart_none];refine aA ?_;have I4:Inv X pins σ H3 { s3 with heap:=s3.heap.push { cls:=.type "slice",data:=.fields #[vl,vu,.none] } }:=I3.kept (t':=s3.toks) fun b ob q=>ak _ q
 obtain⟨T,id,hT,ht,hg⟩:=hr pins { s3 with heap:=s3.heap.push { cls:=.type "slice",data:=.fields #[vl,vu,.none] } } σ H3 x v vl vu l u s3.heap.objs.size Q I4 r1 (Heap.IsSliceOf.new ..) pl pu q3;show wpAny (model X.prog X.w) X.A (subscriptTail e (.Slice lo hi none p2) v (.ref s3.heap.objs.size)) (EP X pins σ Q) X.xe { s3 with heap:=s3.heap.push { cls:=.type "slice",data:=.fields #[vl,vu,.none] } };exact tail_any (ops:=[.ref s3.heap.objs.size,v]) ht hT hg (by with_unfolding_all rfl)
def jc (xs:LG)(lo hi:Option Int):LG:=(xs.drop (HT.sIx xs.length 0 lo)).take (HT.sIx xs.length xs.length hi - HT.sIx xs.length 0 lo)
theorem qW (xs:LG)(lo hi:Option Int):(jc xs lo hi).length≤xs.length:=by
 unfold jc;rw[bB,df]
 lia
inductive Gf (K:LM)(x:V)(lo:Option Int)(hi:Option Int)(H:Hp)(Q:VK):Prop | mk (a xs:_) (_:x=.ref a) (_:dy K H a xs) (_:¬ (HT.sIx xs.length 0 lo=0∧HT.sIx xs.length xs.length hi=xs.length)) (_:∀ p,H p=none→Q (.ref p) (upd H p (.tup (jc xs lo hi)))):Gf K x lo hi H Q
def Qv (K:LM):V→Option Int→Option Int→Hp→VK→Prop:=fun x lo hi H Q=>Gf K x lo hi H Q
theorem MF:Qm X (Qv X.K):=by
 intro pins s σ H x v vl vu lo hi sl Q I rx hs pl pu h;obtain⟨a,xs,rfl,hx,hw,q⟩:=h;cases rx;obtain⟨its,r,ht,hz⟩:=I.tuple hx;have hlen:its.toArray.size=xs.length:=by rw[aI]; exact r.length.symm
 refine⟨"tuple",_,PyProof.Rows.slot_tuple_getitem.lookup,ht.typeIs,?_⟩;refine HT.getItem_tuple_cut ht hs pl pu (by rw[hlen]; exact hw) ?_ (by rw[hlen]; exact hz);rw[hlen];refine⟨.ref s.heap.objs.size,_,I.laid (t':=s.toks) (o:=.tup (jc xs lo hi)) (fun b ob q=>ak _ q) (au _) ?_,rfl,q _ (I.hok.fresh (au _))⟩;exact⟨aE (qW xs lo hi) hz,_,(r.drop (HT.sIx xs.length 0 lo)).take (HT.sIx xs.length xs.length hi - HT.sIx xs.length 0 lo),IsTup.new _ _⟩
end
def AV (n:Nat)(i:Int):Option Nat:=if 0≤i then (if i < n then some i.toNat else none) else if -(n:Int)≤i then some (i+n).toNat else none
def lF {α:Type}(xs:List α)(i:Int):Option α:=(AV xs.length i).bind fun j=>xs[j]?
theorem CB {n:Nat}{i:Int}{j:Nat}(h:AV n i=some j):seqIndex? i n=some j∧j < n∧-(n:Int)≤i∧i < n:=by
 unfold AV at h
 by_cases h0:0≤i
 ·rw[if_pos h0] at h
  by_cases h1:i < n
  ·rw[if_pos h1] at h
   have e:i.toNat=j:=aW h;exact⟨by rw[seqIndex_of h0 h1,e],by lia,by lia,h1⟩
  ·rw[if_neg h1] at h; cases h
 ·rw[if_neg h0] at h
  by_cases h1:-(n:Int)≤i
  ·rw[if_pos h1] at h
   have e:(i+n).toNat=j:=aW h;exact⟨by rw[seqIndex_neg (by lia) h1,e],by lia,h1,by lia⟩
  ·rw[if_neg h1] at h; cases h
theorem C5 {α:Type}{xs:List α}{i:Int}{v:α}(h:lF xs i=some v):∃ j,seqIndex? i xs.length=some j∧xs[j]? = some v∧j < xs.length∧-(xs.length:Int)≤i∧i < xs.length:=by
 unfold lF at h;cases e:AV xs.length i with
 | none=>rw[e] at h; cases h
 | some j =>
  rw[e] at h;obtain⟨h1,h2,h3,h4⟩:=CB e;exact⟨j,h1,h,h2,h3,h4⟩
theorem cX {α:Type}{xs:List α}{j:Nat}{v:α}(h:xs[j]? = some v):lF xs (j:Int)=some v:=by
 have hj:j < xs.length:=(aN.mp h).1;have e:AV xs.length (j:Int)=some j:=by
  unfold AV;rw[if_pos (by lia),if_pos (by lia)]; simp
 unfold lF; rw[e]; exact h
def Db (b:Expr):Prop:=∀ o i,subscripted b false o i=operate [o,i] (getItem o i)
def Ol (X:Cx)(r:R2):Prop :=
 ∀ (value slice:Expr) (pins:LD) (s:Shared) (σ:St) (H:Hp) (x y:V) (v u:Value) (Q:VK),Inv X pins σ H s→cY x v→cY y u→r x y H Q →
  subscripted slice false v u=operate [v,u] (getItem v u)→wpAny (model X.prog X.w) X.A (subscriptTail value slice v u) (EP X pins σ Q) X.xe s
def Q4 (X:Cx)(id:String)(r:V→List V→Hp→VK→Prop):Prop :=
 ∀ (pins:LD) (s:Shared) (σ:St) (H:Hp) (x:V) (xs:LG) (v:Value) (us:LH) (Q:VK),Inv X pins σ H s→cY x v→cN xs us→r x xs H Q →
  wpAny (model X.prog X.w) X.A (call (.builtin id) (v :: us)) (EP X pins σ Q) X.xe s
section
variable {X:Cx}{a b:Expr}{ta tb:TE}{pos:Pos}
theorem aG {r:R2}(hr:Ol X r)(ha:PE X a ta)(hb:PE X b tb)(hs:Db b:=by exact fun _ _=>rfl):PE X (.Subscript a b pos) (Lh r ta tb):=by
 intro pins s σ H Q I h;exact Subscript_ (Oc ha hb I h fun v u s2 x y H2 I2 rx ry q=>hr a b pins s2 σ H2 x y v u Q I2 rx ry q (hs _ _))
inductive Gn (K:LM)(x:V)(y:V)(H:Hp)(Q:VK):Prop | mk (p xs i v:_) (_:x=.ref p) (_:y=.int i) (_:bh K H p xs) (_:lF xs i=some v) (_:Q v H):Gn K x y H Q
def O5 (K:LM):R2:=fun x y H Q=>Gn K x y H Q
inductive Gm (K:LM)(x:V)(y:V)(H:Hp)(Q:VK):Prop | mk (p xs i v:_) (_:x=.ref p) (_:y=.int i) (_:dy K H p xs) (_:lF xs i=some v) (_:Q v H):Gm K x y H Q
def O4 (K:LM):R2:=fun x y H Q=>Gm K x y H Q
theorem aJ:Ol X (O5 X.K):=by
 intro value slice pins s σ H x y v u Q I rx ry h hs;obtain⟨p,xs,i,z,rfl,rfl,hq,he,q⟩:=h;cases rx;obtain⟨t,rfl⟩:=ry;obtain⟨its,r,pl,hz⟩:=I.list hq;obtain⟨j,h1,h2,h3,h4,h5⟩:=C5 he;obtain⟨w,ew,rw'⟩:=r.get h2;have hl:=r.length;have hn:=oF;have fin:EP X pins σ Q w s:=⟨z,H,I,rw',q⟩
 by_cases h0:0≤i
 ·have hj:i.toNat=j:=by
   rw[seqIndex_of h0 h5] at h1;exact aW h1
  exact item_listR pl.isList h0 (by lia) (by rw[hj]; simpa using ew) fin hs
 ·have hj:(i+(its.toArray.size:Int)).toNat=j:=by
   rw[seqIndex_neg (by lia) h4] at h1;rw[aI,←hl];exact aW h1
  exact subscriptTail_builtinR (x:=w) pl.isList.typeIs Aq.lookup
   (wpAny_getItem_list_neg (Q:=fun r s'=>r=w∧EP X pins σ Q r s') pl.isList (by lia) (by rw[aI] <;> lia) (by lia) (by rw[hj]; simpa using ew) ⟨rfl,fin⟩) hs
theorem bM:Ol X (O4 X.K):=by
 intro value slice pins s σ H x y v u Q I rx ry h hs;obtain⟨p,xs,i,z,rfl,rfl,hq,he,q⟩:=h;cases rx;obtain⟨t,rfl⟩:=ry;obtain⟨its,r,pl,hz⟩:=I.tuple hq;obtain⟨j,h1,h2,h3,h4,h5⟩:=C5 he;obtain⟨w,ew,rw'⟩:=r.get h2;have hl:=r.length;have hn:=oF;have fin:EP X pins σ Q w s:=⟨z,H,I,rw',q⟩;exact subscriptTail_builtinR (x:=w) pl.typeIs slot_tuple_getitem.lookup
  (getItem_tuple (j:=j) (Q:=fun r s'=>r=w∧EP X pins σ Q r s') pl (by lia) (by lia) (by rw[aI,←hl]; exact h1) (by simpa using ew) ⟨rfl,fin⟩) hs
theorem AO (its:LH)(n j:Nat)(u:Value):Obj.mapSeq (·.setIfInBounds j u) { cls:=.type "list",data:=.seq its.toArray n }={ cls:=.type "list",data:=.seq (its.set j u).toArray n }:=by
 simp[Obj.mapSeq]
theorem Inv.lst {pins:LD}{σ:St}{H:Hp}{s:Shared}{p:Addr}{xs:LG}(I:Inv X pins σ H s)(h:H p=some (.lst xs)) :
  ∃ (its:LH) (n:Nat),cN xs its∧s.heap.get? p=some { cls:=.type "list",data:=.seq its.toArray n }∧xs.length≤sizeLine:=by
 obtain⟨z,its,n,r,e⟩:=I.hok p _ h;exact⟨its,n,r,e,z⟩
theorem Inv.lstUpd {pins:LD}{σ:St}{H:Hp}{s:Shared}{p:Addr}{xs ys:LG}{its its':LH}{n n':Nat}{f:Obj→Obj}(I:Inv X pins σ H s)(h:H p=some (.lst xs))(ho:s.heap.get? p=some { cls:=.type "list",data:=.seq its.toArray n })(hf:f { cls:=.type "list",data:=.seq its.toArray n }={ cls:=.type "list",data:=.seq its'.toArray n' })(r:cN ys its')(hz:ys.length≤sizeLine)(t:Nat) :
  Inv X pins σ (upd H p (.lst ys)) { s with heap:=s.heap.update p f,toks:=t }:=by
 have e:(s.heap.update p f).get? p=some { cls:=.type "list",data:=.seq its'.toArray n' }:=by
  rw[kz f ho (by rw[hf] <;> rfl),hf]
 refine I.write (x:=p) (e:=p) (by rw[h]; trivial) (.inl rfl) (fun b u hb q=>(ip _ _ (Ne.symm hb)).trans q) ⟨_,e⟩ ?_;exact⟨hz,its',n',r,e⟩
inductive Cb (o:V)(i:V)(v:V)(H:Hp)(Q:Hp→Prop):Prop | mk (p xs k j:_) (_:o=.ref p) (_:i=.int k) (_:H p=some (.lst xs)) (_:AV xs.length k=some j) (_:Q (upd H p (.lst (xs.set j v)))):Cb o i v H Q
def O1:V→V→V→Hp→(Hp→Prop)→Prop:=fun o i v H Q=>Cb o i v H Q
theorem gH:PY X O1:=by
 intro pins s σ H o i v ov iv u Q I ro ri rv h;obtain⟨p,xs,k,j,rfl,rfl,hp,hj,q⟩:=h;cases ro;obtain⟨t,rfl⟩:=ri;obtain⟨its,n,r,ho,hz⟩:=I.lst hp;obtain⟨h1,h2,h3,h4⟩:=CB hj;have hl:=r.length;have hn:=oF;have I':Inv X pins σ (upd H p (.lst (xs.set j v))) { s with heap:=s.heap.update p (Obj.mapSeq (·.setIfInBounds j u)) } :=
  I.lstUpd hp ho (AO its n j u) (r.set rv j) (by rw[cR]; exact hz) s.toks
 by_cases h0:0≤k
 ·have hk:k.toNat=j:=by
   rw[seqIndex_of h0 h4] at h1;exact aW h1
  exact PySem.W.ki_setAt ho h0 (by lia) (by rw[aI,←hl]; exact h4) (by rw[hk]; exact⟨_,I',q⟩)
 ·have hk:(k+(its.toArray.size:Int)).toNat=j:=by
   rw[seqIndex_neg (by lia) h3] at h1;rw[aI,←hl];exact aW h1
  exact PySem.W.ki_setBack ho (by lia) (by rw[aI,←hl]; exact h3) (by lia) (by rw[hk]; exact⟨_,I',q⟩)
theorem wD (lo hi:Option Int)(n:Nat):(sliceBounds lo hi none n).1=((HT.sIx n 0 lo:Nat):Int)∧(sliceBounds lo hi none n).2.1=((HT.sIx n n hi:Nat):Int)∧(sliceBounds lo hi none n).2.2=1:=by
 refine⟨?_,?_,rfl⟩
 ·cases lo with
  | none=>simp[sliceBounds,HT.sIx]
  | some i =>
   simp only[sliceBounds,HT.sIx,Option.getD_none,show (1:Int) > 0 by decide,if_true]
   by_cases h:i < 0
   ·simp only[h,if_true] <;> lia
   ·simp only[h,nQ] <;> lia
 ·cases hi with
  | none=>simp[sliceBounds,HT.sIx]
  | some i =>
   simp only[sliceBounds,HT.sIx,Option.getD_none,show (1:Int) > 0 by decide,if_true]
   by_cases h:i < 0
   ·simp only[h,if_true] <;> lia
   ·simp only[h,nQ] <;> lia
theorem uu (its:LH)(lo hi:Option Int):slicePick its.toArray lo hi none=((its.drop (HT.sIx its.length 0 lo)).take (HT.sIx its.length its.length hi - HT.sIx its.length 0 lo)).toArray:=by
 obtain⟨h1,h2,h3⟩:=wD lo hi its.toArray.size;unfold slicePick;rw[h1,h2,h3];simp only[sliceRange_one,pick_run,aI] <;> rfl
inductive Gg (K:LM)(x:V)(lo:Option Int)(hi:Option Int)(H:Hp)(Q:VK):Prop | mk (a xs:_) (_:x=.ref a) (_:bh K H a xs) (_:∀ p,H p=none→Q (.ref p) (upd H p (.lst (jc xs lo hi)))):Gg K x lo hi H Q
def O0 (K:LM):V→Option Int→Option Int→Hp→VK→Prop:=fun x lo hi H Q=>Gg K x lo hi H Q
theorem nj:Qm X (O0 X.K):=by
 intro pins s σ H x v vl vu lo hi sl Q I rx hs pl pu h;obtain⟨a,xs,rfl,hx,q⟩:=h;cases rx;obtain⟨its,r,ht,hz⟩:=I.list hx;have hlen:=r.length;refine⟨"list",_,Aq.lookup,ht.isList.typeIs,?_⟩;refine oP ht.isList hs pl pu .none (by simp) ?_ (by rw[aI] <;> lia);rw[uu,←hlen];refine⟨.ref s.heap.objs.size,_,I.laid (t':=s.toks) (o:=.lst (jc xs lo hi)) (fun b ob q=>ak _ q) (au _) ?_,rfl,q _ (I.hok.fresh (au _))⟩;exact⟨aE (qW xs lo hi) hz,_,0,(r.drop (HT.sIx xs.length 0 lo)).take (HT.sIx xs.length xs.length hi - HT.sIx xs.length 0 lo),br _ rfl⟩
def qV:V→Bool
 | .non=>true
 | .bl _=>true
 | .int _=>true
 | .str _=>true
 | _=>false
def Mf:V→V→Bool
 | .non,.non=>true
 | .bl a,.bl b=>a == b
 | .bl a,.int b=>(if a then 1 else 0) == b
 | .int a,.bl b=>a == (if b then 1 else 0)
 | .int a,.int b=>a == b
 | .str a,.str b=>a == b
 | _,_=>false
theorem N4 {A:Around}{s:Shared}{y x:V}{u v:Value}(ry:cY y u)(rx:cY x v)(fy:qV y=true)(fx:qV x=true):SeqAt.EqAt A s u v (Mf y x):=by
 cases y with
 | non =>
  cases ry;cases x with
  | non=>cases rx; exact SeqAt.EqAt.same _
  | bl b=>cases rx; exact SeqAt.EqAt.none_bool b
  | int b=>obtain⟨t,rfl⟩:=rx; exact SeqAt.EqAt.none_int b t
  | str b=>obtain⟨t,rfl⟩:=rx; exact SeqAt.EqAt.none_str b t
  | _=>exact absurd (show false=true from fx) ba
 | bl a =>
  cases ry;cases x with
  | non=>cases rx; exact SeqAt.EqAt.bool_none a
  | bl b=>cases rx; exact SeqAt.EqAt.bool_bool a b
  | int b=>obtain⟨t,rfl⟩:=rx; exact SeqAt.EqAt.bool_int a b t
  | str b=>obtain⟨t,rfl⟩:=rx; exact SeqAt.EqAt.bool_str a b t
  | _=>exact absurd (show false=true from fx) ba
 | int a =>
  obtain⟨t',rfl⟩:=ry;cases x with
  | non=>cases rx; exact SeqAt.EqAt.int_none a t'
  | bl b=>cases rx; exact SeqAt.EqAt.int_bool a t' b
  | int b=>obtain⟨t,rfl⟩:=rx; exact SeqAt.EqAt.int_int a t' b t
  | str b=>obtain⟨t,rfl⟩:=rx; exact SeqAt.EqAt.int_str a t' b t
  | _=>exact absurd (show false=true from fx) ba
 | str a =>
  obtain⟨t',rfl⟩:=ry;cases x with
  | non=>cases rx; exact SeqAt.EqAt.str_none a t'
  | bl b=>cases rx; exact SeqAt.EqAt.str_bool a t' b
  | int b=>obtain⟨t,rfl⟩:=rx; exact SeqAt.EqAt.str_int a t' b t
  | str b=>obtain⟨t,rfl⟩:=rx; exact SeqAt.EqAt.str_str a t' b t
  | _=>exact absurd (show false=true from fx) ba
 | _=>exact absurd (show false=true from fy) ba
def KU (x:V)(u:Value):Bool:=match u with
 | .none=>Mf .non x
 | .bool b=>Mf (.bl b) x
 | .int i _=>Mf (.int i) x
 | .str z _=>Mf (.str z) x
 | _=>false
theorem Ih {x y:V}{u:Value}(r:cY y u)(f:qV y=true):KU x u=Mf y x:=by
 cases y with
 | non=>cases r; rfl
 | bl b=>cases r; rfl
 | int i=>obtain⟨t,rfl⟩:=r; rfl
 | str z=>obtain⟨t,rfl⟩:=r; rfl
 | _=>exact absurd (show false=true from f) ba
theorem xA {x:V}:∀ {xs:LG} {us:LH},cN xs us→xs.all qV=true→us.any (KU x)=xs.any fun y=>Mf y x
 | _,_,.nil,_=>rfl
 | y :: xs,u :: us,.cons r t,f=>by
  rw[List.all_cons,cG] at f;rw[iF,iF,Ih r f.1,xA t f.2]
theorem tG {A:Around}{s:Shared}{x:V}{v:Value}(rx:cY x v)(fx:qV x=true):∀ {xs:LG} {us:LH},cN xs us→xs.all qV=true→∀ u ∈ us,SeqAt.EqAt A s u v (KU x u)
 | _,_,.nil,_=>fun u hu=>by cases hu
 | y :: xs,u :: us,.cons r t,f=>fun u' hu=>by
  rw[List.all_cons,cG] at f;rcases aQ.mp hu with rfl | hu
  ·rw[Ih r f.1]; exact N4 r rx f.1 fx
  ·exact tG rx fx t f.2 u' hu
def Mb (x:V)(xs:LG):Bool:=xs.any fun y=>Mf y x
inductive Lw (K:LM)(neg:Bool)(x:V)(y:V)(H:Hp)(Q:VK):Prop | mk (p xs:_) (_:y=.ref p) (_:(bh K H p xs ∨ dy K H p xs)) (_:qV x=true) (_:xs.all qV=true) (_:Q (.bl (if neg then !Mb x xs else Mb x xs)) H):Lw K neg x y H Q
def Rq (K:LM)(neg:Bool):R2:=fun x y H Q=>Lw K neg x y H Q
theorem Eg:pY X (compareOp .In) (Rq X.K false):=by
 intro pins s σ H x y v u Q I rx ry h;obtain⟨p,xs,rfl,hq,fx,fs,q⟩:=h;cases ry;rcases hq with hq | hq
 ·obtain⟨its,r,pl,hz⟩:=I.list hq
  refine SeqAt.in_listAt (KU x) pl.isList (fun w hw=>tG rx fx r fs w (by simpa using hw)) ⟨.bl _,H,I,rfl,?_⟩;rw[show its.toArray.any (KU x)=its.any (KU x) by simp,xA r fs];exact q
 ·obtain⟨its,r,pl,hz⟩:=I.tuple hq
  refine SeqAt.in_tupleAt (KU x) pl (fun w hw=>tG rx fx r fs w (by simpa using hw)) ⟨.bl _,H,I,rfl,?_⟩;rw[show its.toArray.any (KU x)=its.any (KU x) by simp,xA r fs];exact q
inductive Gk (K:LM)(xs:LG)(H:Hp)(Q:VK):Prop | mk (p ys:_) (_:xs=[.ref p]) (_:(bh K H p ys ∨ dy K H p ys)) (_:Q (.int ys.length) H):Gk K xs H Q
def O3 (K:LM):List V→Hp→VK→Prop:=fun xs H Q=>Gk K xs H Q
theorem bT:iV X (.builtin "len") (O3 X.K):=by
 intro pins s σ H xs us Q I r h;obtain⟨p,ys,rfl,hq,q⟩:=h;obtain⟨u,rfl,rx⟩:=jM r;cases rx;have hn:=oF;rcases hq with hq | hq
 ·obtain⟨its,r',pl,hz⟩:=I.list hq
  have hlen:=r'.length;exact Calls.call_len_list pl.isList (by simp only[aI] <;> lia) ⟨.int ys.length,H,I.tok _,⟨s.toks+1,by rw[aI,hlen]⟩,q⟩
 ·obtain⟨its,r',pl,hz⟩:=I.tuple hq
  have hlen:=r'.length;exact len_tuple pl (by simp only[aI] <;> lia) ⟨.int ys.length,H,I.tok _,⟨s.toks+1,by rw[aI,hlen]⟩,q⟩
theorem xy:iV X (.type "list") (fun xs H Q=>∃ p ys,xs=[.ref p]∧(bh X.K H p ys ∨ dy X.K H p ys)∧∀ l,H l=none→Q (.ref l) (upd H l (.lst ys))):=by
 intro pins s σ H xs us Q I r h;obtain⟨p,ys,rfl,hq,q⟩:=h;obtain⟨u,rfl,rx⟩:=jM r;cases rx;have fin:∀ (its:LH),cN ys its→ys.length≤sizeLine→∀ (h':Heap) (c':Nat),(∀ b o',s.heap.get? b=some o'→h'.get? b=some o') →
   h'.get? s.heap.objs.size=some { cls:=.type "list",dict:=none,data:=.seq its.toArray c',slots:=#[] }→EP X pins σ Q (.ref s.heap.objs.size) { s with heap:=h' }:=fun its r' hz h' c' kp e =>
  ⟨.ref s.heap.objs.size,_,I.laid (t':=s.toks) kp (au _) (show eZ X.prog X.w _ h' _ (.lst ys) from ⟨hz,its,c',r',e⟩),rfl,q _ (I.hok.fresh (au _))⟩
 rcases hq with hq | hq
 ·obtain⟨its,r',pl,hz⟩:=I.list hq
  have hlen:=r'.length;obtain⟨o,ho,hc,n,hd⟩:=pl.isList;exact call_list_seq p (.inl rfl) ho hc hd (fun h' c' kp e=>fin its r' hz h' c' kp e) (by simp only[aI] <;> lia)
 ·obtain⟨its,r',pl,hz⟩:=I.tuple hq
  have hlen:=r'.length;obtain⟨o,ho,hc,n,hd⟩:=pl;exact call_list_seq p (.inr rfl) ho hc hd (fun h' c' kp e=>fin its r' hz h' c' kp e) (by simp only[aI] <;> lia)
theorem oo:iV X (.type "tuple") (fun xs H Q=>∃ p ys,xs=[.ref p]∧((bh X.K H p ys∧∀ l,H l=none→Q (.ref l) (upd H l (.tup ys))) ∨ (dy X.K H p ys∧Q (.ref p) H))):=by
 intro pins s σ H xs us Q I r h;obtain⟨p,ys,rfl,h⟩:=h;obtain⟨u,rfl,rx⟩:=jM r;cases rx;rcases h with ⟨hq,q⟩ | ⟨hq,q⟩
 ·obtain⟨its,r',pl,hz⟩:=I.list hq
  have hlen:=r'.length;refine call_tuple_list pl.isList (fun h' kp=>?_) (by simp only[aI] <;> lia);have I1:Inv X pins σ H { s with heap:=h' }:=I.kept (t':=s.toks) kp;have I2:Inv X pins σ (upd H h'.objs.size (.tup ys)) { s with heap:=h'.push { cls:=.type "tuple",data:=.seq its.toArray } } :=
   I1.laid (t':=s.toks) (fun b o e=>ak _ e) (au _) (show eZ X.prog X.w _ _ _ (.tup ys) from ⟨hz,its,r',IsTup.new _ _⟩)
  exact⟨.ref h'.objs.size,_,I2,rfl,q _ (I1.hok.fresh (au _))⟩
 ·obtain⟨its,r',pl,hz⟩:=I.tuple hq
  exact call_tuple_same pl ⟨.ref p,H,I,rfl,q⟩
def Qo (K:LM)(T:String)(x:V)(H:Hp):Prop:=match x with
 | .str _=>T = "str"
 | .int _=>T = "int"
 | .ref p=>(T = "list"∧∃ xs,bh K H p xs) ∨ (T = "tuple"∧∃ o,K.lookup p=some o∧o.cls=.type "tuple"∧o.dict=none) ∨
   (T = "dict"∧((∃ kvs,H p=some (.dK kvs)) ∨ ∃ kvs,H p=some (.dT kvs))) ∨ (T = "set"∧∃ S n,H p=some (.set S n))
 | _=>False
theorem Fq {pins:LD}{σ:St}{H:Hp}{s:Shared}{T:String}{x:V}{v:Value}(I:Inv X pins σ H s)(r:cY x v)(ty:Qo X.K T x H) :
  s.TypeIs v T∧∀ a,v=.ref a→∃ ob,s.heap.get? a=some ob∧ob.dict=none:=by
 cases x with
 | str z =>
  obtain⟨t,rfl⟩:=r;cases (show T = "str" from ty);exact⟨typeIs_str s z t,fun _ e=>nomatch e⟩
 | int i =>
  obtain⟨t,rfl⟩:=r;cases (show T = "int" from ty);exact⟨typeIs_int s i t,fun _ e=>nomatch e⟩
 | ref p =>
  cases r;rcases ty with ⟨rfl,xs,hq⟩ | ⟨rfl,o,hk,hc,hd⟩ | ⟨rfl,hk⟩ | ⟨rfl,S,n,hk⟩
  ·obtain⟨its,_,pl,_⟩:=I.list hq
   refine⟨pl.isList.typeIs,fun a e=>?_⟩;cases e;obtain⟨o,n,e,c,hd,_⟩:=pl;exact⟨o,e,hd⟩
  ·refine⟨⟨o,I.kIn p o hk,hc⟩,fun a e=>?_⟩
   cases e;exact⟨o,I.kIn _ o hk,hd⟩
  ·have z:∃ o,s.heap.get? p=some o∧o.ExactDict:=by
    rcases hk with ⟨kvs,hk⟩ | ⟨kvs,hk⟩
    ·obtain⟨_,_,_,_,o,_,_,e,ex,_⟩:=I.hok p _ hk
     exact⟨o,e,ex⟩
    ·obtain⟨_,_,_,_,o,_,_,e,ex,_⟩:=I.hok p _ hk
     exact⟨o,e,ex⟩
   obtain⟨o,e,ex⟩:=z;refine⟨⟨o,e,ex.1⟩,fun a e2=>?_⟩;cases e2;exact⟨o,e,ex.2.1⟩
  ·obtain⟨o,_,_,_,e,ex,_⟩:=I.hok p _ hk
   refine⟨⟨o,e,ex.1⟩,fun a e2=>?_⟩;cases e2;exact⟨o,e,ex.2.1⟩
 | _=>exact False.elim ty
def Qs (K:LM)(T:String)(r:V→List V→Hp→VK→Prop)(to:TE):TE:=fun σ H Q=>to σ H fun x H1=>Qo K T x H1∧r x [] H1 Q
def Ro (K:LM)(T:String)(r:V→List V→Hp→VK→Prop)(to:TE)(t:TA):TE:=fun σ H Q=>to σ H fun x H1=>Qo K T x H1∧t σ H1 fun xs H2=>r x xs H2 Q
variable {o e:Expr}{es:LL}{to:TE}{t:TA}{name:Str}{apos cpos:Pos}{T id:String}{r:V→List V→Hp→VK→Prop}
theorem M0 (pa:PlainAttrs T)(slot:Slot T name id)(hty:typeOf (.builtin id)=pure (.type "method_descriptor"))(hm:Q4 X id r)(ho:PE X o to)(hbase:attributeBase o name X.env (eval o X.env)=eval o X.env:=by rfl)(hline:(apos.endLine == cpos.line)=true:=by rfl):PE X (.Call (.Attribute o name apos) [] [] cpos) (Qs X.K T r to):=by
 intro pins s σ H Q I h;refine wpAny_Call_method0_late hbase hline (thn (ho pins s σ H _ I h) fun v s1 ⟨x,H1,I1,r1,ty,q1⟩=>?_);obtain⟨h1,h2⟩:=Fq I1 r1 ty;exact⟨T,id,pa,slot,hty,h1,h2,Calls.callWith_builtin rfl (PySem.evalArgs_none (hm pins s1 σ H1 x [] v [] Q I1 r1 .nil q1))⟩
theorem i0 (pa:PlainAttrs T)(slot:Slot T name id)(hty:typeOf (.builtin id)=pure (.type "method_descriptor"))(hm:Q4 X id r)(ho:PE X o to)(ha:PA X (e :: es) t)(hbase:attributeBase o name X.env (eval o X.env)=eval o X.env:=by rfl)(hfew:((backTo cpos (starEach (e :: es) X.env)).all (fun x=>!x.1) && (backToKw cpos (keywordEach [] X.env)).all (fun x=>x.1.isSome)
   && decide ((e :: es).length+([]:List Keyword).length+(if ([]:List Keyword).isEmpty then 0 else 1) < 30))=true:=by rfl)(hline:(apos.endLine == cpos.line)=true:=by rfl)(hs:starEach (e :: es) X.env=(false,eval e X.env) :: starEach es X.env:=by rfl)(hplain:(backTo cpos (starEach es X.env)).any (·.1)=false:=by rfl) :
  PE X (.Call (.Attribute o name apos) (e :: es) [] cpos) (Ro X.K T r to t):=by
 intro pins s σ H Q I h;refine wpAny_Call_method_late hbase hfew hline rfl (thn (ho pins s σ H _ I h) fun v s1 ⟨x,H1,I1,r1,ty,q1⟩=>?_);obtain⟨h1,h2⟩:=Fq I1 r1 ty;refine⟨T,id,pa,slot,hty,h1,h2,?_⟩;have hA:=ha cpos pins s1 σ H1 _ I1 q1;rw[hs] at hA ⊢;refine Calls.callWith_builtin (by show (false || (backTo cpos (starEach es X.env)).any (·.1))=false; rw[hplain] <;> rfl) (Calls.evalArgs_plain ?_);exact thn hA fun us s2 ⟨vs,H2,I2,r2,q2⟩=>hm pins s2 σ H2 x vs v us Q I2 r1 r2 q2
end
def Ov (X:Cx)(id:String)(r:V→List V→Hp→VK→Prop):Prop :=
 ∀ (pins:LD) (s:Shared) (σ:St) (H:Hp) (x:V) (xs:LG) (v:Value) (us:LH) (Q:VK),Inv X pins σ H s→cY x v→cN xs us→r x xs H Q →
  wpAny (model X.prog X.w) X.A (call (.builtin id) (v :: us)) (EP X pins σ Q) X.xe s
theorem cN.one:∀ {x:V} {us:LH},cN [x] us→∃ u,us=[u]∧cY x u
 | _,_,.cons r .nil=>⟨_,rfl,r⟩
theorem cN.two:∀ {x y:V} {us:LH},cN [x,y] us→∃ u v,us=[u,v]∧cY x u∧cY y v
 | _,_,_,.cons r (.cons q .nil)=>⟨_,_,rfl,r,q⟩
theorem cN.zero:∀ {us:LH},cN [] us→us=[]
 | _,.nil=>rfl
theorem cN.dropLast {xs:LG}{us:LH}(h:cN xs us):cN xs.dropLast us.dropLast:=by
 induction h with
 | nil=>exact .nil
 | cons r t ih =>
  cases t with
  | nil=>exact .nil
  | cons q t'=>exact .cons r ih
theorem cN.rep {xs:LG}{us:LH}(h:cN xs us):∀ k:Nat,cN (List.replicate k xs).flatten (List.replicate k us).flatten
 | 0=>.nil
 | k+1=>by
  rw[cQ,cQ,bV,bV];exact cN.append h (cN.rep h k)
theorem AZ {α:Type}(l:List α):l.eraseIdx (l.length - 1)=l.dropLast:=by
 induction l with
 | nil=>rfl
 | cons a r ih =>
  cases r with
  | nil=>rfl
  | cons b r =>
   have e:(a :: b :: r).length - 1=((b :: r).length - 1)+1:=by
    have h1:(a :: b :: r).length=r.length+2:=rfl;have h2:(b :: r).length=r.length+1:=rfl
    lia
   rw[e,List.eraseIdx_cons_succ,ih]
   all_goals rfl
theorem vM (its:LH):∀ (k:Nat) (acc:LH),
  List.foldl (fun x1 x2=>x1++x2) acc.toArray (List.replicate k its.toArray)=(acc++(List.replicate k its).flatten).toArray
 | 0,acc=>by simp
 | k+1,acc=>by
  have e:acc.toArray++its.toArray=(acc++its).toArray:=by simp
  have e2:(acc++its)++(List.replicate k its).flatten=acc++(List.replicate (k+1) its).flatten:=by
   rw[cQ,bV,oN]
  rw[←e2,←vM its k (acc++its),←e,cQ,List.foldl_cons]
section
variable {X:Cx}{pins:LD}{σ:St}{H:Hp}{s:Shared}{l b:Addr}{xs ys zs:LG}
theorem Inv.lset {its its':LH}{n:Nat}{f:Array Value→LU}{t':Nat}(I:Inv X pins σ H s)(hH:H l=some (.lst xs))(e:s.heap.get? l=some { cls:=.type "list",data:=.seq its.toArray n })(hf:f its.toArray=its'.toArray)(hv:cN ys its')(hz:ys.length≤sizeLine) :
  Inv X pins σ (upd H l (.lst ys)) { s with heap:=s.heap.update l (Obj.mapSeq f),toks:=t' }:=by
 have q:=PySem.IsL.update e f;rw[hf] at q;refine I.write (x:=l) (e:=l) (by rw[hH]; exact trivial) (.inl rfl) (fun b' u hb hu=>(ip s.heap (Obj.mapSeq f) (Ne.symm hb)).trans hu) ⟨_,q⟩ ?_;exact⟨hz,its',_,hv,q⟩
theorem Inv.lnew {its:LH}{t':Nat}(I:Inv X pins σ H s)(hv:cN ys its)(hz:ys.length≤sizeLine) :
  Inv X pins σ (upd H s.heap.objs.size (.lst ys)) { s with heap:=s.heap.push { cls:=.type "list",data:=.seq its.toArray },toks:=t' } :=
 I.laid (fun _ _ q=>ak _ q) (au _) ⟨hz,its,0,hv,br _ rfl⟩
theorem Inv.fresh (I:Inv X pins σ H s):H s.heap.objs.size=none:=I.hok.fresh (au _)
theorem Inv.lstM (I:Inv X pins σ H s)(hH:H l=some (.lst xs)):xs.length≤sizeLine∧∃ (its:LH) (n:Nat),cN xs its∧xs.length=its.length∧s.heap.get? l=some { cls:=.type "list",data:=.seq its.toArray n }:=by
 obtain⟨z,its,n,r,e⟩:=I.hok l _ hH;exact⟨z,its,n,r,r.length,e⟩
theorem yT {n:Nat}(h:n≤sizeLine):Builtin.List.listTooLong n=false:=by
 unfold Builtin.List.listTooLong;exact bH (by lia)
end
section
variable {X:Cx}
inductive vp (x:V)(vs:LG)(H:Hp)(Q:VK):Prop | mk (l xs y:_) (_:x=.ref l) (_:vs=[y]) (_:H l=some (.lst xs)) (_:xs.length < sizeLine) (_:Q .non (upd H l (.lst (xs++[y])))):vp x vs H Q
def Jx:V→List V→Hp→VK→Prop:=fun x vs H Q=>vp x vs H Q
theorem dk:Ov X "list.append" Jx:=by
 intro pins s σ H x vs v us Q I rx rv h;obtain⟨l,xs,y,rfl,rfl,hH,hz,q⟩:=h;cases rx;obtain⟨u,rfl,ru⟩:=rv.one;obtain⟨z,its,n,r,hl,e⟩:=I.lstM hH;refine call_meets F.slot_list_append ⟨_,e,rfl⟩ F.entry_list_append (F.args_list_append_2 _ _) (PySem.list_append l its.toArray n u (by rw[aI]; lia)) ⟨e,?_⟩;refine⟨.non,_,I.lset (its':=its++[u]) hH e (by simp) (r.append (.cons ru .nil)) ?_,rfl,q⟩;rw[ai,cx]
 lia
inductive vo (x:V)(vs:LG)(H:Hp)(Q:VK):Prop | mk (l b xs zs:_) (_:x=.ref l) (_:vs=[.ref b]) (_:H l=some (.lst xs)) (_:H b=some (.lst zs)) (_:xs.length+zs.length≤sizeLine) (_:Q .non (upd H l (.lst (xs++zs)))):vo x vs H Q
def Jw:V→List V→Hp→VK→Prop:=fun x vs H Q=>vo x vs H Q
theorem Ex:Ov X "list.extend" Jw:=by
 intro pins s σ H x vs v us Q I rx rv h;obtain⟨l,b,xs,zs,rfl,rfl,hH,hB,hz,q⟩:=h;cases rx;obtain⟨u,rfl,ru⟩:=rv.one;cases ru;obtain⟨z,its,n,r,hl,e⟩:=I.lstM hH;obtain⟨z2,its2,n2,r2,hl2,e2⟩:=I.lstM hB;have hsz:its.toArray.size+its2.toArray.size≤sizeLine:=by rw[aI,aI]; lia
 have hlong:¬ (!its.toArray.isEmpty && Builtin.List.listTooLong (its.toArray.size+its2.toArray.size))=true:=by
  rw[yT hsz,Bool.and_false];exact ba
 refine call_meets F.slot_list_extend ⟨_,e,rfl⟩ F.entry_list_extend (F.args_list_extend_2 _ _)
  (AutoSeq1.list_extend_list_list_0 l its.toArray n b its2.toArray n2 hlong (by rw[aI]; lia) (by lia)) ⟨e,e2,?_⟩
 refine⟨.non,_,I.lset (its':=its++its2) hH e (by simp) (r.append r2) ?_,rfl,q⟩;rw[ai]
 lia
inductive Gi (x:V)(vs:LG)(H:Hp)(Q:VK):Prop | mk (l xs y:_) (_:x=.ref l) (_:vs=[]) (_:H l=some (.lst xs)) (_:xs[xs.length - 1]? = some y) (_:Q y (upd H l (.lst xs.dropLast))):Gi x vs H Q
def Qx:V→List V→Hp→VK→Prop:=fun x vs H Q=>Gi x vs H Q
theorem Nq:Ov X "list.pop" Qx:=by
 intro pins s σ H x vs v us Q I rx rv h;obtain⟨l,xs,y,rfl,rfl,hH,hy,q⟩:=h;cases rx;have hus:=rv.zero;subst hus;obtain⟨z,its,n,r,hl,e⟩:=I.lstM hH;obtain⟨u,hu,ru⟩:=r.get hy;have hy':its.toArray[its.toArray.size - 1]? = some u:=by
  show its.toArray[its.length - 1]? = some u;rw[←Array.getElem?_toList,←hl];exact hu
 refine call_meets F.slot_list_pop ⟨_,e,rfl⟩ F.entry_list_pop (F.args_list_pop_1 _) (MeetsSeq.list_pop_last l its.toArray n u hy' (by rw[aI]; lia)) ⟨e,?_⟩;refine⟨y,_,I.lset (its':=its.dropLast) hH e ?_ r.dropLast ?_,ru,q⟩
 ·show its.toArray.eraseIdxIfInBounds (its.toArray.size - 1)=its.dropLast.toArray
  rw[aI,List.eraseIdxIfInBounds_toArray,AZ]
 ·rw[List.length_dropLast]
  lia
inductive Gq (x:V)(y:V)(H:Hp)(Q:VK):Prop | mk (l b xs zs:_) (_:x=.ref l) (_:y=.ref b) (_:H l=some (.lst xs)) (_:H b=some (.lst zs)) (_:xs.length+zs.length≤sizeLine) (_:∀ p,H p=none→Q (.ref p) (upd H p (.lst (xs++zs)))):Gq x y H Q
def Qz:R2:=fun x y H Q=>Gq x y H Q
theorem oE:pY X (binaryOp .Add) Qz:=by
 intro pins s σ H x y v u Q I rx ry h;obtain⟨l,b,xs,zs,rfl,rfl,hH,hB,hz,q⟩:=h;cases rx;cases ry;obtain⟨z,its,n,r,hl,e⟩:=I.lstM hH;obtain⟨z2,its2,n2,r2,hl2,e2⟩:=I.lstM hB;refine PySem.P.add_list e e2 ?_ (by rw[aI,aI]; lia);have ea:its.toArray++its2.toArray=(its++its2).toArray:=by simp
 rw[ea];exact⟨.ref _,_,I.lnew (t':=s.toks) (r.append r2) (by rw[ai]; lia),rfl,q _ I.fresh⟩
inductive Gh (x:V)(y:V)(H:Hp)(Q:VK):Prop | mk (l k xs:_) (_:x=.ref l) (_:y=.int k) (_:H l=some (.lst xs)) (_:-(2 ^ 63)≤k) (_:k < 2 ^ 63) (_:xs.length * k.toNat≤sizeLine) (_:∀ p,H p=none→Q (.ref p) (upd H p (.lst (List.replicate k.toNat xs).flatten))):Gh x y H Q
def Qw:R2:=fun x y H Q=>Gh x y H Q
theorem Ko {α:Type}(xs:List α)(k:Nat):(List.replicate k xs).flatten.length=k * xs.length:=by
 induction k with
 | zero=>simp
 | succ k ih=>rw[cQ,bV,ai,ih,ik,Bl]
theorem mR:pY X (binaryOp .Mult) Qw:=by
 intro pins s σ H x y v u Q I rx ry h;obtain⟨l,k,xs,rfl,rfl,hH,h1,h2,hz,q⟩:=h;cases rx;obtain⟨t,rfl⟩:=ry;obtain⟨z,its,n,r,hl,e⟩:=I.lstM hH;have hlen:its.toArray.size * k.toNat≤sizeLine:=by rw[aI,←hl]; exact hz
 have hcap:¬ its.toArray.size * k.toNat > (2 ^ 63 - 1) / 8:=by
  have:(sizeLine:Nat)≤(2 ^ 63 - 1) / 8:=by decide
  lia
 have hfit:¬ (!Builtin.List.listFitsIndex k)=true:=by
  rw[fitsIndex_both h1 h2];exact ba
 have hlong:¬ Builtin.List.listTooLong (its.toArray.size * k.toNat)=true:=by
  rw[yT hlen];exact ba
 have hnew:List.foldl (fun x1 x2=>x1++x2) #[] (List.replicate (if its.toArray.isEmpty=true then 0 else k.toNat) its.toArray)=(List.replicate k.toNat its).flatten.toArray:=by
  have f0:∀ m:Nat,List.foldl (fun x1 x2=>x1++x2) #[] (List.replicate m its.toArray)=(List.replicate m its).flatten.toArray:=fun m=>by
   have:=vM its m []
   rw[List.nil_append] at this;exact this
  rw[f0];cases its with
  | nil=>simp
  | cons a r'=>rw[if_neg (by simp)]
 refine wpAny_binaryOp_repeat_ref (T:="list") (U:="int") (by decide) ⟨_,e,rfl⟩ (fun s'=>typeIs_int s' k t) noFill_list_mul F.fills_int_mul F.slot_int_rmul repeat_list F.slot_int_index.lookup
  (call_meets F.slot_int_rmul (typeIs_int s k t) F.entry_int_rmul (F.args_int_rmul_2 _ _) (int___rmul___int_list k t l its.toArray n)
   ⟨e,rfl,⟨_,e,rfl⟩,call_meets F.slot_list_mul ⟨_,e,rfl⟩ F.entry_list_mul (F.args_list_mul_2 _ _) (AutoListH.list___mul___list_int_3 l its.toArray n k t hfit hcap hlong) ⟨e,?_⟩⟩)
 rw[hnew];exact⟨.ref _,_,I.lnew (t':=s.toks) (r.rep k.toNat) (by rw[Ko,gs]; exact hz),rfl,q _ I.fresh⟩
end
section
variable {prog:Program}{w:World}{A:Around}{E:LN}{s:Shared}
end
section
variable {X:Cx}
end
end L2
namespace Att
open PySem PySem.W PySem.Calls PyProof.Rows
theorem rg {P:Params}{h:Heap}:∀ (ns:LF) (vs:LH),WellAll P h vs (ns.map WData.int)→IntsAre vs ns:=by
 intro ns
 induction ns with
 | nil =>
  intro vs w;rw[eQ] at w;cases w;exact .nil
 | cons n ns ih =>
  intro vs w;rw[aS] at w;cases w with
  | cons a b =>
   cases a;exact .cons _ _ (ih _ b)
theorem Dy {l:OpenLaw}{n:Nat}(hn:l.most=some n){P:Params}{h:Heap}{args:List WData}{vals:LH}(hpre:l.row.toRowW.claim.pre args=true)(hwl:WellAll P h vals args) :
  ∃ a vs ns,vals=[Value.ref a]∧args=[WData.list (ns.map WData.int)]∧h.get? a=some { cls:=.type "list",data:=.seq vs.toArray }∧IntsAre vs ns∧ns.length≤n:=by
 have hsh:WShape.hasAll [] args [.list .int]=true:=(pre_splitW hpre).1;have hc:l.pre.holds [] { args:=args }=true:=(pre_splitW hpre).2;obtain⟨d,r,rfl,h1,h2⟩:=hasAllW_cons hsh;obtain rfl:=hasAllW_nil h2;obtain⟨xs,rfl,h3⟩:=hasW_list h1;obtain⟨ns,rfl⟩:=items_int h3;have hlen:ns.length≤n:=by
  unfold OpenLaw.pre at hc;have h4:(WTm.not (.lt (.lit (.int (n:Int))) (.len (.arg 0)))).holds [] { args:=[.list (ns.map .int)] }=true:=by
   have h4:=(holds_andW hc).1;rw[hn] at h4;exact h4
  have h5:=condW_of h4 (w_not (w_lt w_lit (w_len_list (w_arg rfl))));rw[aa] at h5;refine Nat.le_of_not_lt fun q=>?_
  have q':(n:Int) < ((ns.length:Nat):Int):=by lia
  first
   | (rw[cn q'] at h5; exact absurd h5 (by decide))
   | (simp at h5; lia)
 cases hwl with
 | cons w1 w2 =>
  cases w2;cases w1 with
  | list ho hall=>exact⟨_,_,ns,rfl,rfl,ho,rg ns _ hall,hlen⟩
theorem Ed (l:OpenLaw)(args:List WData):l.row.toRowW.claim.post args (.bool true) args=true :=
 postW_of (r:=l.row.toRowW) (X:=(true == true))
  (show WShape.has [] (.bool true) .bool=true by first | rfl | decide | simp[WShape.has,WShape.arms,WShape.armsAll])
  (show (WTm.eq .res (.lit (.bool true))).value [] { args:=args,res:=some (.bool true),after:=args }=some (.bool (true == true)) from w_eq_bool (w_res rfl) w_lit) rfl
theorem attach_call {l:OpenLaw}{n:Nat}{q:Program}{loose:LK}{XP:(LO)→Heap→Prop}{YP:World→Heap→Prop}{d:DefRec}(hn:l.most=some n)(hdf:d.params.defaults=[])(call:∀ (w:World) (s₀ s₁:Shared) (mg mb:LO) (fa:Addr) (o:Obj) (pm cd doc:Value) (a:Addr) (vs:LH) (ns:LF),
   Ground q loose [] XP w s₀ mg mb s₁.heap→YP w s₁.heap →
   s₁.heap.get? fa=some o→o.data=.func (docDef d.name d.params d.body d.scope pm cd doc)→s₁.heap.CodeRec cd d.name→mg d.name=some (.ref fa) →
   s₁.heap.get? a=some { cls:=.type "list",data:=.seq vs.toArray }→IntsAre vs ns→ns.length≤n→s₁.gens=#[] →
   codeAny (model l.prog w) callerA (.call (.ref fa) ⟨[.ref a],[]⟩) (fun r s'=>r=.ok (.ret (.bool true))∧OldK s₁.heap s'.heap∧s'.os=s₁.os∧AllBare s'.gens) s₁) :
  WalkO q loose XP YP l.row.toRowW d [] (fun f vs=>PySem.call f vs):=by
 intro w s₀ s₁ mg mb G Y fa o pm cd doc dV kV ho hd hcd hD hmg hg args vals as hpre hlay hrd hwl hlo;obtain rfl:dV=.none:=Dflts.none hD hdf;obtain rfl:kV=.none:=Dflts.noKw hD;obtain⟨a,vs,ns,rfl,rfl,hobj,hints,hlen⟩:=Dy hn hpre hwl;refine enter_call (codeAny_mono (call w s₀ s₁ mg mb fa o pm cd doc a vs ns G Y ho (fd_plain hd) hcd hmg hobj hints hlen hg) fun r s' hq=>?_);obtain⟨rfl,h2,h3,h4⟩:=hq;exact⟨.inl ⟨.bool true,.bool true,[],rfl,fun _=>rfl,.bool true,Ed l _,fun _=>⟨List.Pairwise.nil,fun _ hm=>(nomatch hm)⟩⟩,h2,h3,h4⟩
section
variable {prog:Program}{w:World}{A:Around}{E:LN}{s:Shared}{K:Frag}
end
end Att
namespace L2
open PySem PySem.Spec PyProof.Rows
theorem qd:∀ {vs:LH} {ns:LF},IntsAre vs ns→cN (ns.map V.int) vs
 | _,_,.nil=>.nil
 | _,_,.cons n t h=>.cons ⟨t,rfl⟩ (qd h)
def Oi (H:Hp):Prop:=∀ b,H b=none ∨ ∃ o xs,H b=some (.frz o (.lst xs))
theorem HF {P:Program}{w:World}{K:LM}{mg mb:LO}{CX:IM}{k:Nat}{fa a:Addr}{fd:FuncData}{x:Str}{sp:Sp}{s₁:Shared}{vs:LH}{ns:LF}(KX:K.In s₁.heap)(hns:s₁.heap.Ns mainGlobals mg)(hb:s₁.heap.Ns builtinsNs mb)(hbb:∀ x:Str,x≠"__name__"→mb x=bootBuiltins x)(hlim:s₁.heap.NoLimit)(hg:s₁.gens=#[])(ha:s₁.heap.get? a=some { cls:=.type "list",data:=.seq vs.toArray })(hi:IntsAre vs ns)(hl:ns.length≤sizeLine)(hr:kx k callerA)(F:∀ base:Heap,K.In base→base.Ns mainGlobals mg→bK P w K mg base CX k fa fd [x] sp)(hbind:∀ (s:Shared) (u:Value),BindsTo s fd ⟨[u],[]⟩ [(x,u)])(hsp:∀ H:Hp,Oi H→bh K H a (ns.map V.int)→sp [.ref a] H (fun v _=>v=.bl true) fun _ _ _=>False)(hCX:∀ H e s',CX [] H s₁ (fun _ _ _=>False) e s'→False) :
  codeAny (model P w) callerA (.call (.ref fa) ⟨[.ref a],[]⟩) (fun r s'=>r=.ok (.ret (.bool true))∧OldK s₁.heap s'.heap∧s'.os=s₁.os∧AllBare s'.gens) s₁:=by
 have rv:=qd hi;have lenV:=hi.length;have core:∀ H:Hp,Oi H→bh K H a (ns.map V.int)→nK P w H s₁.heap→(∀ b,H b≠none→b=a)→(H a≠none→K.lookup a=none) →
   codeAny (model P w) callerA (.call (.ref fa) ⟨[.ref a],[]⟩) (fun r s'=>r=.ok (.ret (.bool true))∧OldK s₁.heap s'.heap∧s'.os=s₁.os∧AllBare s'.gens) s₁:=by
  intro H hO hS hok hA hK;have base_of:∀ {b:Addr} {o:Obj},s₁.heap.get? b=some o→H b=none→(xl s₁.heap H).get? b=some o:=fun e n=>HQ e n
  have noA:∀ {b:Addr} {o:Obj} {es:Array DictEntry} {ep:Nat},s₁.heap.get? b=some o→o.data=.dict es ep→H b=none:=fun {b o es ep} e d=>by
   cases q:H b with
   | none=>rfl
   | some u =>
    have e':b=a:=hA b (by rw[q]; simp);subst e';rw[ha] at e; cases e;have d':Data.seq vs.toArray _=Data.dict es ep:=d;cases d'
  have nsK:∀ {b:Addr} {m:LO},s₁.heap.Ns b m→(xl s₁.heap H).Ns b m:=fun {b m} ⟨o,es,ep,e,d,r⟩=>⟨o,es,ep,base_of e (noA e d),d,r⟩
  have hKb:K.In (xl s₁.heap H):=fun b o e=>base_of (KX b o e) (by
   cases q:H b with
   | none=>rfl
   | some u =>
    have e':b=a:=hA b (by rw[q]; simp)
    subst e'
    rw[hK (by rw[q]; simp)] at e; cases e)
  have hM:Mod K mg (xl s₁.heap H):=⟨hKb,nsK hns,⟨mb,nsK hb,hbb⟩,let ⟨mc,h1,h2⟩:=hlim; ⟨mc,nsK h1,h2⟩⟩;have e0:K7 P w K mg (xl s₁.heap H) callerA [] s₁ H:=⟨rfl,hM,fun b o e=>Ka e,Nat.le_of_eq (EN _ _),trivial,fun b hb=>absurd (show b ∈ ([]:LI) from hb) (by simp),hok,.of_eq hg⟩;refine codeAny_mono ((F _ hKb (nsK hns)).run callerA [] s₁ H ⟨[.ref a],[]⟩ [.ref a] [.ref a] _ _ hr e0 (hbind s₁ (.ref a)) (.cons rfl .nil) (hsp H hO hS)) fun r s' h=>?_
  cases r with
  | error e=>exact (hCX H e s' h).elim
  | ok fl =>
   cases fl with
   | next=>exact False.elim h
   | brk=>exact False.elim h
   | cont=>exact False.elim h
   | ret u =>
    obtain⟨v,H',os,bare,un,hok',r',q⟩:=h;have q':v=.bl true:=q;subst q';obtain rfl:u=Value.bool true:=r';refine⟨rfl,OldK.of_keep fun b o e=>?_,os,bare⟩;cases q:H b with
    | none=>exact un.keep b o e q (by intro z; exact absurd (show b ∈ ([]:LI) from z) (by simp)) (by simp)
    | some u =>
     rcases hO b with z | ⟨ob,xs,z⟩
     ·rw[q] at z; cases z
     ·have z2:=un.frzs b ob _ z
      obtain⟨e1,_⟩:=hok b _ z;obtain⟨e2,_⟩:=hok' b _ z2;rw[e] at e1; cases e1;exact e2
 cases hk:K.lookup a with
 | some o =>
  have e:=KX a o hk;rw[ha] at e;cases e;refine core (fun _=>none) (fun _=>.inl rfl) (.inr ⟨_,vs.toArray,_,hk,rfl,rfl,rfl,by rw[aI,lenV]; exact hl,by simpa using rv⟩) (fun b u z=>by have z':(none:Option HO)=some u:=z; cases z') (fun b z=>absurd rfl z) fun z=>absurd rfl z
 | none =>
  refine core (fun b=>if b=a then some (.frz { cls:=.type "list",data:=.seq vs.toArray } (.lst (ns.map V.int))) else none) (fun b=>?_) (.inl (.inr ⟨{ cls:=.type "list",data:=.seq vs.toArray },if_pos rfl⟩)) (fun b u z=>?_) (fun b z=>?_) fun _=>hk
  ·by_cases hb:b=a
   ·exact .inr ⟨_,_,if_pos hb⟩
   ·exact .inl (if_neg hb)
  ·by_cases hb:b=a
   ·have z':=(if_pos hb).symm.trans z
    cases z';subst hb;exact⟨ha,by rw[aa]; exact hl,vs,_,rv,ha⟩
   ·have z':=(if_neg hb).symm.trans z
    cases z'
  ·by_cases hb:b=a
   ·exact hb
   ·exact absurd (if_neg hb) z
theorem walk_of {l:PySem.W.OpenLaw}{n k:Nat}{q:Program}{loose:LK}{XP:(LO)→Heap→Prop}{YP:World→Heap→Prop}{d:DefRec}{K:Params→LM}{CX:World→IM}{sp:World→Sp}{x:Str}(hn:l.most=some n)(hn2:n≤sizeLine)(hdf:d.params.defaults=[])(hr:kx k callerA)(hY:∀ (w:World) (h:Heap),YP w h→(K w.params).In h)(F:∀ (w:World) (mg:LO) (fa:Addr) (h:Heap),(K w.params).In h→h.Ns mainGlobals mg→mg d.name=some (.ref fa) →
   ∃ fd:FuncData,(∀ (s:Shared) (u:Value),BindsTo s fd ⟨[u],[]⟩ [(x,u)]) ∧
    ∀ base:Heap,(K w.params).In base→base.Ns mainGlobals mg→bK l.prog w (K w.params) mg base (CX w) k fa fd [x] (sp w))(hsp:∀ (w:World) (H:Hp) (a:Addr) (ns:LF),ns.length≤n→Oi H→bh (K w.params) H a (ns.map V.int)→sp w [.ref a] H (fun v _=>v=.bl true) fun _ _ _=>False)(hCX:∀ (w:World) (H:Hp) (s:Shared) (e:Value) (s':Shared),CX w [] H s (fun _ _ _=>False) e s'→False) :
  PySem.W.WalkO q loose XP YP l.row.toRowW d [] (fun f vs=>PySem.call f vs):=by
 refine Att.attach_call hn hdf fun w s₀ s₁ mg mb fa o pm cd doc a vs ns G Y ho hd hcd hmg hobj hints hlen hg=>?_
 have KX:=hY w _ Y;obtain⟨fd,hb,hF⟩:=F w mg fa _ KX G.T.g hmg;exact HF KX G.T.g G.T.b G.T.builtins G.T.nolimit hg hobj hints (aE hlen hn2) hr hF hb (fun H hO hS=>hsp w H a ns hlen hO hS) fun H e s'=>hCX w H s₁ e s'
def ki (s:Stmt):Arguments:=match s with
 | .FunctionDef _ a _ _ _ _ _ _ _ _=>a
 | _=>{ posonlyargs:=[],args:=[],vararg:=none,kwonlyargs:=[],kw_defaults:=[],kwarg:=none,defaults:=[] }
def iS (s:Stmt):List Stmt:=match s with
 | .FunctionDef _ _ b _ _ _ _ _ _ _=>b
 | _=>[]
def aB (s:Stmt):Scope:=match s with
 | .FunctionDef _ _ _ _ _ _ sc _ _ _=>sc
 | _=>{ kind:=.function,names:=[],isGenerator:=false,isCoroutine:=false }
abbrev cI:IM:=fun _ _ _ _ _ _=>False
abbrev E0:XK:=fun _ _ _=>False
theorem O7 {X:Cx}:Bh cI X E0:=fun _ _ _ _ _ _ _ h=>h.elim
structure Fun (K:LM)(x qual:Str)(st:Stmt)(f:Addr)(fd:FuncData):Prop where
 ex:∃ (oc:Value) (od:LR) (kV doc pm:Value) (an:LR) (cdv ct:Value) (osl:Array (LV)),
  fd=PySem.W.fnOf x qual (ki st) (iS st) (aB st) .none kV doc pm an cdv ct∧K.lookup f=some ⟨oc,od,.func fd,osl⟩∧PySem.W.codeIn K cdv qual=true
 kp:PySem.W.keepIn K (.ref f)=true
section
variable {P:Program}{w:World}{K:LM}{mg:LO}{base:Heap}
theorem Fun.ok {x qual:Str}{st:Stmt}{f:Addr}{fd:FuncData}{N ps:LK}{k:Nat}{sp:Sp}(F:Fun K x qual st f fd)(S:bJ N ps (aB st))(len:∀ vs H Q E,sp vs H Q E→vs.length=ps.length)(hbody:∀ (cdv:Value) (A:Around) (outer:List Env) (s:Shared) (H:Hp) (vs:LG) (Q:VK) (E:XK),kx k (A.deeper (envOfC qual (aB st) s.heap.objs.size f cdv))→sp vs H Q E →
   ∃ t,xN (Bb cI P w K mg base N qual (aB st) f cdv A outer s H E).nox (iS st) t∧t { nx:=fun _ H'=>Q .non H',rt:=Q } (start N vs) H):bK P w K mg base cI (k+1) f fd ps sp:=by
 obtain⟨oc,od,kV,doc,pm,an,cdv,ct,osl,rfl,lk,hcd⟩:=F.ex;refine PH lk hcd S len fun A outer s H vs Q E hr hsp=>?_
 obtain⟨t,h,q⟩:=hbody cdv A outer s H vs Q E hr hsp;exact⟨t,h.nox,q⟩
theorem Fun.o {x qual:Str}{st:Stmt}{f:Addr}{fd:FuncData}{N ps:LK}{k:Nat}{sp:Sp}(F:Fun K x qual st f fd)(S:bJ N ps (aB st))(hbody:∀ (cdv:Value) (A:Around) (outer:List Env) (s:Shared) (H:Hp) (vs:LG) (Q:VK) (E:XK),kx k (A.deeper (envOfC qual (aB st) s.heap.objs.size f cdv))→sp vs H Q E →
   ∃ t,xN (Bb cI P w K mg base N qual (aB st) f cdv A outer s H E).nox (iS st) t∧t { nx:=fun _ H'=>Q .non H',rt:=Q } (start N vs) H)(len:∀ vs H Q E,sp vs H Q E→vs.length=ps.length:=by intro _ _ _ _ h; cases h; subst_vars; rfl):bK P w K mg base cI (k+1) f fd ps sp:=F.ok S len hbody
theorem Fun.binds {x qual:Str}{st:Stmt}{f:Addr}{fd:FuncData}{ps:LK}(F:Fun K x qual st f fd)(h:∀ (kV doc pm:Value) (an:LR) (cdv ct:Value) (us:LH),us.length=ps.length→bindArgs (PySem.W.fnOf x qual (ki st) (iS st) (aB st) .none kV doc pm an cdv ct) ⟨us,[]⟩=pure (ps.zip us)):we K fd ps []:=by
 obtain⟨oc,od,kV,doc,pm,an,cdv,ct,osl,rfl,lk,hcd⟩:=F.ex;exact .all (h kV doc pm an cdv ct)
theorem Ia {x qual:Str}{st:Stmt}{f:Addr}{oc:Value}{od an:LR}{osl:Array (LV)}{kV doc pm cdv ct:Value}(l:K.lookup f=some ⟨oc,od,.func (PySem.W.fnOf x qual (ki st) (iS st) (aB st) .none kV doc pm an cdv ct),osl⟩)(c:PySem.W.codeIn K cdv qual=true)(k:PySem.W.keepIn K (.ref f)=true):Fun K x qual st f (PySem.W.fnOf x qual (ki st) (iS st) (aB st) .none kV doc pm an cdv ct):=⟨⟨oc,od,kV,doc,pm,an,cdv,ct,osl,rfl,l,c⟩,k⟩
end
theorem Md {A:Around}{k:Nat}(hr:kx k A):A.units+1 < cLine:=bU (xG (by decide:1≤64) _) hr.units
theorem bo {n:Nat}(h:n≤1000):n < sizeLine:=bU h (by decide)
section
variable {X:Cx}
theorem pv (i:Nat){x:Str}{pos:Pos}(hN:X.N[i]? = some x:=by rfl)(hv:Ql X.env.scope x:=by first | exact Or.inl rfl | exact Or.inr (Or.inl rfl) | exact Or.inr (Or.inr rfl))(hd:(x == ("__debug__" : Str))=false:=by decide)(hcd:(x == ("__classdict__" : Str))=false:=by decide):PE X (.Name x pos) (Fw i):=MZ hN hv hd hcd
end
theorem oG {A B:Prop}(h:B):if false=true then A else B:=by
 rw[if_neg ba];exact h
theorem re {A B:Prop}(h:A):if true=true then A else B:=by
 rw[if_pos rfl];exact h
theorem qS {c A B:Prop}[Decidable c](hc:c)(h:B):if (!decide c)=true then A else B:=by
 rw[cn hc];exact oG h
def Same (H H':Hp):Prop:=∀ b o,H b=some o→H' b=some o
theorem Same.refl (H:Hp):Same H H:=fun _ _ h=>h
theorem Same.trans {H H1 H2:Hp}(a:Same H H1)(b:Same H1 H2):Same H H2:=fun c o h=>b c o (a c o h)
theorem Same.free {H H':Hp}(e:Same H H'){l:Addr}(h:H' l=Option.none):H l=Option.none:=by
 cases q:H l with
 | none=>rfl
 | some o =>
  rw[e l o q] at h;cases h
theorem Same.seq {K:LM}{H H':Hp}{a:Addr}{xs:LG}(e:Same H H')(h:bh K H a xs):bh K H' a xs:=by
 rcases h with (h | ⟨o,h⟩) | h
 ·exact .inl (.inl (e _ _ h))
 ·exact .inl (.inr ⟨o,e _ _ h⟩)
 ·exact .inr h
end L2
set_option maxHeartbeats 4000000
set_option exponentiation.threshold 2000
namespace L2
open PySem PySem.Spec PyProof.Rows
section
variable {X:Cx}
theorem C4 {i:Int}{n:Nat}(h:i.natAbs < 2 ^ n):Builtin.Int.intBits i≤n:=by
 by_cases hz:i=0
 ·subst hz
  have e:Builtin.Int.intBits 0=0:=by decide
  rw[e];exact aZ _
 ·have h0:i.natAbs≠0:=by lia
  have:=(Fe h0).mpr h
  unfold Builtin.Int.intBits
  split
  ·exact aZ _
  ·lia
def Aa (_ j:Int):Prop:=j≠0∧j.natAbs < 2 ^ 1000
theorem jo:pY X (binaryOp .FloorDiv) (rI Aa fun i j=>.int (i.fdiv j)) :=
 LT fun _ _ _ _ _ _ _ hc q=>floordiv_int hc.1 q (.inl (PyProof.noPylong_of_log2 (aH ((Fe (by have:=hc.1; lia)).mpr hc.2) (by decide))))
theorem zO:iV X (.builtin "isinstance") (fun xs H Q=>∃ x t n b,xs=[x,.ty n]∧qx X.K H x t∧PySem.W.kitOne X.K t (.type n)=some b∧Q (.bl b) H):=by
 intro pins s σ H xs us Q I r h;obtain⟨x,t,n,b,rfl,ty,e,q⟩:=h;obtain⟨u,w',rfl,ru,rw'⟩:=Fn r;cases (show w'=Value.type n from rw');exact EK I ru ty e fun tk=>⟨.bl b,H,I.tok _,rfl,q⟩
mutual
inductive DA (K:LM)(ok:Addr→Prop)(H:Hp):V→PyData→Prop
 | non:DA K ok H .non .none
 | bl (b:Bool):DA K ok H (.bl b) (.bool b)
 | int (i:Int):DA K ok H (.int i) (.int i)
 | str (x:Str):DA K ok H (.str x) (.str x)
 | lst {a:Addr} {vs:LG} {ds:LW}:ok a→bh K H a vs→DAs K ok H vs ds→DA K ok H (.ref a) (.list ds)
 | tup {a:Addr} {vs:LG} {ds:LW}:ok a→dy K H a vs→DAs K ok H vs ds→DA K ok H (.ref a) (.tuple ds)
inductive DAs (K:LM)(ok:Addr→Prop)(H:Hp):List V→List PyData→Prop
 | nil:DAs K ok H [] []
 | cons {v:V} {d:PyData} {vs:LG} {ds:LW}:DA K ok H v d→DAs K ok H vs ds→DAs K ok H (v :: vs) (d :: ds)
end
abbrev any (_:Addr):Prop:=True
def rj (ok:Addr→Prop)(H H':Hp):Prop:=∀ b o,ok b→H b=some o→H' b=some o
theorem rj.refl (ok:Addr→Prop)(H:Hp):rj ok H H:=fun _ _ _ h=>h
theorem Same.keep {ok:Addr→Prop}{H H':Hp}(e:Same H H'):rj ok H H':=fun b o _ h=>e b o h
theorem rj.seq {K:LM}{ok:Addr→Prop}{H H':Hp}{a:Addr}{xs:LG}(e:rj ok H H')(n:ok a)(h:bh K H a xs):bh K H' a xs:=by
 rcases h with (h | ⟨o,h⟩) | h
 ·exact .inl (.inl (e _ _ n h))
 ·exact .inl (.inr ⟨o,e _ _ n h⟩)
 ·exact .inr h
theorem rj.seqT {K:LM}{ok:Addr→Prop}{H H':Hp}{a:Addr}{xs:LG}(e:rj ok H H')(n:ok a)(h:dy K H a xs):dy K H' a xs:=by
 rcases h with (h | ⟨o,h⟩) | h
 ·exact .inl (.inl (e _ _ n h))
 ·exact .inl (.inr ⟨o,e _ _ n h⟩)
 ·exact .inr h
theorem Same.seqT {K:LM}{H H':Hp}{a:Addr}{xs:LG}(e:Same H H')(h:dy K H a xs):dy K H' a xs:=(e.keep (ok:=any)).seqT trivial h
theorem Same.upd {H:Hp}{p:Addr}{o:HO}(h:H p=none):Same H (upd H p o):=fun b u e=>by rw[aO (aU e h)]; exact e
mutual
theorem DA.mono {K:LM}{ok ok':Addr→Prop}{H H':Hp}(e:rj ok H H')(m:∀ a,ok a→ok' a):∀ {v:V} {d:PyData},DA K ok H v d→DA K ok' H' v d
 | _,_,.non=>.non
 | _,_,.bl b=>.bl b
 | _,_,.int i=>.int i
 | _,_,.str x=>.str x
 | _,_,.lst n s r=>.lst (m _ n) (e.seq n s) (DAs.mono e m r)
 | _,_,.tup n s r=>.tup (m _ n) (e.seqT n s) (DAs.mono e m r)
theorem DAs.mono {K:LM}{ok ok':Addr→Prop}{H H':Hp}(e:rj ok H H')(m:∀ a,ok a→ok' a):∀ {v:LG} {d:LW},DAs K ok H v d→DAs K ok' H' v d
 | _,_,.nil=>.nil
 | _,_,.cons a r=>.cons (DA.mono e m a) (DAs.mono e m r)
end
mutual
theorem DA.reads {ok:Addr→Prop}{pins:LD}{σ:St}{H:Hp}{s:Shared}(I:Inv X pins σ H s):∀ {v:V} {d:PyData} {u:Value},DA X.K ok H v d→cY v u→∃ as,Reads s.heap u d as
 | _,_,_,.non,r=>by cases r; exact⟨_,.none⟩
 | _,_,_,.bl b,r=>by cases r; exact⟨_,.bool b⟩
 | _,_,_,.int i,r=>by obtain⟨t,rfl⟩:=r; exact⟨_,.int i t⟩
 | _,_,_,.str x,r=>by obtain⟨t,rfl⟩:=r; exact⟨_,.str x t⟩
 | _,_,_,.lst _ h q,r=>by
  cases r;obtain⟨its,rv,⟨o,n,e,c,_,d⟩,_⟩:=I.list h;obtain⟨as,p⟩:=DAs.reads I q rv;exact⟨_,.list e c d (by simpa using p)⟩
 | _,_,_,.tup _ h q,r=>by
  cases r;obtain⟨its,rv,⟨o,e,c,n,d⟩,_⟩:=I.tuple h;obtain⟨as,p⟩:=DAs.reads I q rv;exact⟨_,.tuple e c d (by simpa using p)⟩
theorem DAs.reads {ok:Addr→Prop}{pins:LD}{σ:St}{H:Hp}{s:Shared}(I:Inv X pins σ H s):∀ {v:LG} {d:LW} {u:LH},DAs X.K ok H v d→cN v u→∃ as,ReadsAll s.heap u d as
 | _,_,_,.nil,r=>by cases r; exact⟨_,.nil⟩
 | _,_,_,.cons a q,r=>by
  cases r with
  | cons r1 r2 =>
   obtain⟨as,p⟩:=DA.reads I a r1;obtain⟨bs,p'⟩:=DAs.reads I q r2;exact⟨_,.cons p p'⟩
end
inductive Gp (K:LM)(x:V)(y:V)(H:Hp)(Q:VK):Prop | mk (d e:_) (_:DA K any H x d) (_:DA K any H y e) (_:(d.canLay0=true∧e.canLay0=true∧d.depth≤64)) (_:Q (.bl (PyData.eqv d e)) H):Gp K x y H Q
def MX (K:LM):R2:=fun x y H Q=>Gp K x y H Q
inductive Gj (K:LM)(x:V)(y:V)(H:Hp)(Q:VK):Prop | mk (d e:_) (_:DA K any H x d) (_:DA K any H y e) (_:(d.canLay0=true∧e.canLay0=true∧d.depth≤64)) (_:Q (.bl (!PyData.eqv d e)) H):Gj K x y H Q
def MT (K:LM):R2:=fun x y H Q=>Gj K x y H Q
theorem oD (hu:X.A.units+64 < cLine):pY X (compareOp .Eq) (MX X.K):=by
 intro pins s σ H x y v u Q I rx ry h;obtain⟨d,e,hd,he,⟨l1,l2,l3⟩,q⟩:=h;obtain⟨as,p1⟩:=hd.reads I rx;obtain⟨bs,p2⟩:=he.reads I ry;exact PySem.SeqAt.compareEq_reads p1 p2 l1 l2 (by lia) ⟨.bl _,H,I,rfl,q⟩
theorem l5 (hu:X.A.units+64 < cLine):pY X (compareOp .NotEq) (MT X.K):=by
 intro pins s σ H x y v u Q I rx ry h;obtain⟨d,e,hd,he,⟨l1,l2,l3⟩,q⟩:=h;obtain⟨as,p1⟩:=hd.reads I rx;obtain⟨bs,p2⟩:=he.reads I ry;exact PySem.SeqAt.compareNe_reads p1 p2 l1 l2 (by lia) ⟨.bl _,H,I,rfl,q⟩
end
theorem qT {c A B:Prop}[Decidable c](hc:¬ c)(h:A):if (!decide c)=true then A else B:=by
 rw[bH hc];exact re h
theorem dO {c A B:Prop}[Decidable c](hc:c)(h:A):if decide c=true then A else B:=by
 rw[cn hc];exact re h
theorem cr {c A B:Prop}[Decidable c](hc:¬ c)(h:B):if decide c=true then A else B:=by
 rw[bH hc];exact oG h
structure Dn (K:LM)(mg:LO)(x:Str)(st:Stmt)(ps:LK)(f:Addr)(fd:FuncData):Prop where
 fn:Fun K x x st f fd
 gl:mg x=some (.ref f)
 bd:we K fd ps []
section
variable {X:Cx}{k:Nat}{f:Addr}{fd:FuncData}{x:Str}{st:Stmt}{ps:LK}{sp:Sp}{e:Expr}{es:LL}{p pos:Pos}{t:TA}
theorem bw (D:Dn X.K X.mg x st ps f fd)(G:bK X.prog X.w X.K X.mg X.base cI k f fd ps sp)(hr:kx k X.A)(hg:Gl X x)(ha:PA X (e :: es) t)(hdb:(x == ("__debug__" : Str))=false:=by decide)(hs:starEach (e :: es) X.env=(false,eval e X.env) :: starEach es X.env:=by rfl)(hpl:(backTo pos (starEach es X.env)).any (·.1)=false:=by rfl):PE X (.Call (.Name x p) (e :: es) [] pos) (Fz sp [] E0 t) :=
 JE G hr hg D.gl D.fn.kp D.bd .nil O7 ha hdb hs hpl
end
def jS (N:LK)(x:Str):LK:=N.map (fun y=>if y=x then Str.empty else y)++[x]
def j8 (cells:List (Str × Addr)):List (Str × NameKind)→List (Str × Addr)→List (Str × Addr)
 | [],acc=>acc
 | (n,k) :: r,acc=>j8 cells r (if (k == .free)=true then (match cells.lookup n with | some c=>(n,c) :: acc | none=>acc) else acc)
structure fk (S:Scope)(N:LK)(sc:Scope)(x:Str):Prop where
 uniq:(sc.names.map (·.1)).Nodup
 kind:sc.kind=.function
 names:∀ y ∈ sc.names,y.2=.local→sc.names.lookup y.1=some .local
 loc:sc.names.lookup x=some .local ∨ sc.names.lookup x=some .cell
 free:∀ y ∈ sc.names,y.2=.free→S.names.lookup y.1=some .cell ∨ S.names.lookup y.1=some .free
 only:∀ y ∈ sc.names,y.2=.local→y.1=x ∨ y.1 = ".0"
 onlyC:∀ y ∈ sc.names,y.2=.cell→y.1=x
 ne:∀ y ∈ sc.names,y.1≠Str.empty
 dot:∀ y ∈ N,y≠".0"
 nd:(jS N x).Nodup
theorem md {c:Str→NameKind→Bool}{y:Str}:∀ (names:List (Str × NameKind)),(names.map fun (n,k)=>if c n k=true then (n,NameKind.cell) else (n,k)).lookup y=(names.lookup y).map fun k=>if c y k=true then NameKind.cell else k
 | []=>rfl
 | (n,k) :: r=>by
  have ih:=md (c:=c) (y:=y) r;show List.lookup y ((if c n k=true then (n,NameKind.cell) else (n,k)) :: _)=_;cases hx:y == n with
  | true =>
   have e:y=n:=by simpa using hx
   subst e
   by_cases hc:c y k=true
   ·rw[if_pos hc]; simp[dF,hc]
   ·rw[if_neg hc]; simp[dF,hc]
  | false =>
   by_cases hc:c n k=true
   ·rw[if_pos hc]; simp only[dF,hx]; exact ih
   ·rw[if_neg hc]; simp only[dF,hx]; exact ih
theorem jI {sc:Scope}{env:Env}{y:Str}{k:NameKind}(h:(relabel sc env).names.lookup y=some k):∃ k0,(y,k0) ∈ sc.names∧(k=k0 ∨ (k=.cell∧k0=.free)):=by
 have e:=md (c:=fun n k=>k == NameKind.free && env.scope.kind == .function && env.kindOf n == some .cell) (y:=y) sc.names;have h':(sc.names.map fun (n,k)=>if (k == NameKind.free && env.scope.kind == .function && env.kindOf n == some .cell)=true then (n,NameKind.cell) else (n,k)).lookup y=some k:=h;rw[e] at h';cases q:sc.names.lookup y with
 | none=>rw[q] at h'; cases h'
 | some k0 =>
  rw[q] at h';refine⟨k0,eY q,?_⟩;have h'':(if (k0 == NameKind.free && env.scope.kind == .function && env.kindOf y == some .cell)=true then NameKind.cell else k0)=k:=aW h'
  by_cases hc:(k0 == NameKind.free && env.scope.kind == .function && env.kindOf y == some .cell)=true
  ·rw[if_pos hc] at h''
   refine .inr ⟨h''.symm,?_⟩
   have:=(Bool.and_eq_true_iff.mp (Bool.and_eq_true_iff.mp hc).1).1
   simpa using this
  ·rw[if_neg hc] at h''
   exact .inl h''.symm
theorem tZ {cells:List (Str × Addr)}:∀ (names:List (Str × NameKind)) (acc:List (Str × Addr)),(∀ y c,acc.lookup y=some c→cells.lookup y=some c)→∀ y c,(j8 cells names acc).lookup y=some c→cells.lookup y=some c
 | [],_,h=>h
 | (n,k) :: r,acc,h=>by
  refine tZ r _ fun y c=>?_
  by_cases hk:(k == NameKind.free)=true
  ·rw[if_pos hk]
   cases q:cells.lookup n with
   | none=>exact h y c
   | some d =>
    intro e;show cells.lookup y=some c;have e':List.lookup y ((n,d) :: acc)=some c:=e;rw[dF] at e';cases hx:y == n with
    | true =>
     rw[hx] at e'
     have:y=n:=by simpa using hx
     subst this;rw[q]; exact e'
    | false =>
     rw[hx] at e';exact h y c e'
  ·rw[if_neg hk]
   exact h y c
theorem zL {cells:List (Str × Addr)}{y:Str}:∀ (names:List (Str × NameKind)) (acc:List (Str × Addr)),(acc.lookup y).isSome=true→((j8 cells names acc).lookup y).isSome=true
 | [],_,h=>h
 | (n,k) :: r,acc,h=>by
  refine zL r _ ?_
  by_cases hk:(k == NameKind.free)=true
  ·rw[if_pos hk]
   cases q:cells.lookup n with
   | none=>exact h
   | some d =>
    show (List.lookup y ((n,d) :: acc)).isSome=true;rw[dF];cases hx:y == n with
    | true=>rfl
    | false=>exact h
  ·rw[if_neg hk]; exact h
theorem ua {cells:List (Str × Addr)}{y:Str}(hc:(cells.lookup y).isSome=true):∀ (names:List (Str × NameKind)) (acc:List (Str × Addr)),(y,NameKind.free) ∈ names→((j8 cells names acc).lookup y).isSome=true
 | (n,k) :: r,acc,h=>by
  rcases aQ.mp h with e | h
  ·cases e
   refine zL r _ ?_;rw[if_pos (by rfl)];obtain⟨c,q⟩:=fU.mp hc;rw[q];show (List.lookup y ((y,c) :: acc)).isSome=true;rw[dF,beq_self_eq_true]
   rfl
  ·exact ua hc r _ h
theorem zN {env:Env}{y:Str}{c:Addr}(h:env.cells.lookup y=some c):cellOf env y=pure c:=by
 unfold cellOf;rw[h]
theorem jR {sc:Scope}{env:Env}(h:∀ y ∈ sc.names,y.2=.free→(env.cells.lookup y.1).isSome=true):closureFor sc env=pure (j8 env.cells sc.names []):=by
 have all:∀ (names:List (Str × NameKind)) (acc:List (Str × Addr)),(∀ y ∈ names,y.2=.free→(env.cells.lookup y.1).isSome=true) →
   (forIn names acc fun (x:Str × NameKind) (cs:List (Str × Addr))=>(do
    let (name,kind):=x
    if (kind == .free)=true then let c ← cellOf env name; pure (ForInStep.yield ((name,c) :: cs)) else pure (ForInStep.yield cs):Sem (ForInStep (List (Str × Addr)))))=pure (j8 env.cells names acc):=by
  intro names
  induction names with
  | nil=>intro acc _; rfl
  | cons a r ih =>
   intro acc hh;obtain⟨n,k⟩:=a;rw[jC]
   by_cases hk:(k == NameKind.free)=true
   ·obtain⟨c,q⟩:=fU.mp (hh (n,k) aK (by simpa using hk))
    simp only[hk,if_true,zN q,pure_bind];rw[ih _ fun y hy=>hh y (aC _ hy)];show pure (j8 env.cells r ((n,c) :: acc))=pure (j8 env.cells r (if (k == NameKind.free)=true then _ else acc));rw[if_pos hk,q]
   ·simp only[hk,iq,nQ,pure_bind]
    rw[ih _ fun y hy=>hh y (aC _ hy)];show pure (j8 env.cells r acc)=pure (j8 env.cells r (if (k == NameKind.free)=true then _ else acc));rw[if_neg hk]
 unfold closureFor
 first
  | exact (congrArg (fun z=>z >>= pure) (all sc.names [] h)).trans (by simp)
  | (have e:=all sc.names [] h
     simp only[bind_pure] at e ⊢
     exact e)
def qp (sc:Scope)(x:Str)(n:Nat):List (Str × Addr):=if sc.names.lookup x=some .cell then [(x,n)] else []
def Cx.blk (X:Cx)(N':LK)(sc:Scope)(x:Str)(s₀:Shared)(H₀:Hp)(fp:LI):Cx :=
 { X with N:=N',s₀:=s₀,H₀:=H₀,env:=compEnvC sc (qp sc x (s₀.heap.objs.size+1)++j8 X.env.cells sc.names []) s₀.heap.objs.size X.env,outer:=X.stack,stack:=X.stack,ex:=fp,fn:=fun y=>decide (y=x∧sc.names.lookup x=some .cell),pn:=[],xe:=fun _ _=>False }
theorem me {α:Type}:∀ {l:List (Str × α)} {y:Str} {k:α},(l.map (·.1)).Nodup→(y,k) ∈ l→l.lookup y=some k
 | (n,v) :: r,y,k,nd,h=>by
  rw[dF];have nd':(n :: r.map (·.1)).Nodup:=nd;obtain⟨h1,h2⟩:=dz.mp nd';rcases aQ.mp h with e | h
  ·cases e
   rw[beq_self_eq_true]
  ·have ne:(y == n)=false:=by
    rw[beq_eq_false_iff_ne];exact fun e=>h1 (bg.mpr ⟨(y,k),h,e⟩)
   rw[ne];exact me h2 h
theorem iT {acc:List (Str × Addr)}:∀ {names:List (Str × NameKind)} {n:Nat},(∀ y ∈ names,y.2≠.cell)→cellsFrom n names acc=acc
 | [],_,_=>rfl
 | (y,k) :: r,n,h=>by
  unfold cellsFrom;rw[if_neg (by simpa using h (y,k) aK)];exact iT fun z hz=>h z (aC _ hz)
theorem jO:∀ {names:List (Str × NameKind)} {h:Heap},(∀ y ∈ names,y.2≠.cell)→pushCells h names=h
 | [],_,_=>rfl
 | (y,k) :: r,h,hn=>by
  unfold pushCells;rw[if_neg (by simpa using hn (y,k) aK)];exact jO fun z hz=>hn z (aC _ hz)
theorem om {x:Str}{acc:List (Str × Addr)}:∀ {names:List (Str × NameKind)} {n:Nat},(names.map (·.1)).Nodup→(∀ y ∈ names,y.2=.cell→y.1=x)→(x,NameKind.cell) ∈ names→cellsFrom n names acc=(x,n) :: acc
 | (y,k) :: r,n,nd,ho,hm=>by
  have nd':(y :: r.map (·.1)).Nodup:=nd;obtain⟨h1,h2⟩:=dz.mp nd';unfold cellsFrom
  by_cases hk:(k == NameKind.cell)=true
  ·rw[if_pos hk]
   have e:y=x:=ho (y,k) aK (by simpa using hk);subst e;refine iT fun z hz hc=>h1 (bg.mpr ⟨z,hz,?_⟩)
   exact ho z (aC _ hz) hc
  ·rw[if_neg hk]
   rcases aQ.mp hm with e | hm
   ·cases e
    exact absurd rfl hk
   ·exact om h2 (fun z hz=>ho z (aC _ hz)) hm
theorem oi {x:Str}:∀ {names:List (Str × NameKind)} {h:Heap},(names.map (·.1)).Nodup→(∀ y ∈ names,y.2=.cell→y.1=x)→(x,NameKind.cell) ∈ names→pushCells h names=h.push { cls:=.type "cell",data:=.cell none }
 | (y,k) :: r,h,nd,ho,hm=>by
  have nd':(y :: r.map (·.1)).Nodup:=nd;obtain⟨h1,h2⟩:=dz.mp nd';unfold pushCells
  by_cases hk:(k == NameKind.cell)=true
  ·rw[if_pos hk]
   have e:y=x:=ho (y,k) aK (by simpa using hk);subst e;refine jO fun z hz hc=>h1 (bg.mpr ⟨z,hz,?_⟩)
   exact ho z (aC _ hz) hc
  ·rw[if_neg hk]
   rcases aQ.mp hm with e | hm
   ·cases e
    exact absurd rfl hk
   ·exact oi h2 (fun z hz=>ho z (aC _ hz)) hm
theorem vA {M:Model}{A:Around}{E:LN}{s:Shared}{scope:Scope}{globals:Addr}{closure:List (Str × Addr)}{qual:Str}{func:LR}{code:Value}{outer:Env}{builtins:Addr}{Q:Env→Shared→Prop}(hQ:Q (newEnv scope s.heap.objs.size globals (cellsFrom (s.heap.objs.size+1) scope.names closure) qual func code (some outer) builtins) { s with heap:=pushCells (s.heap.push { cls:=.type "dict",data:=.dict #[] }) scope.names }) :
  wpAny M A (newFunctionEnv scope globals closure [] qual func code (some outer) builtins) Q E s:=by
 simp only[newFunctionEnv,Option.isSome_some,if_true];refine af (wpAny_alloc ?_);refine af (wpAny_layCells _ (fun name kind cells=>by cases hkc:kind == NameKind.cell <;> simp[hkc]) _ _ _ _ ?_);rw[show ({ s with heap:=s.heap.push { cls:=.type "dict",data:=.dict #[] } }:Shared).heap.objs.size=s.heap.objs.size+1 from dw ..];exact af (aA (aA hQ))
theorem fk.cells {S:Scope}{N:LK}{sc:Scope}{x:Str}(L:fk S N sc x)(n:Nat)(cl:List (Str × Addr)):cellsFrom n sc.names cl=qp sc x n++cl:=by
 unfold qp;rcases L.loc with h | h
 ·rw[if_neg (by rw[h]; simp)]
  exact iT fun y hy hc=>by
   have e:=L.onlyC y hy hc
   have:=me L.uniq (y:=x) (k:=.cell) (by rw[←e,←hc]; exact hy)
   rw[h] at this;cases this
 ·rw[if_pos h]
  exact om L.uniq L.onlyC (eY h)
theorem fk.heap {S:Scope}{N:LK}{sc:Scope}{x:Str}(L:fk S N sc x)(h:Heap):(∀ b o,h.get? b=some o→(pushCells h sc.names).get? b=some o)∧(sc.names.lookup x=some .cell→(pushCells h sc.names).IsCell h.objs.size none):=by
 refine⟨fun b o e=>pushCells_keeps _ _ b o e,fun hc=>?_⟩;rw[oi L.uniq L.onlyC (eY hc)];exact⟨_,br _ rfl,rfl⟩
theorem yQ {sc:Scope}{x y:Str}{n:Nat}{c:Addr}{cl:List (Str × Addr)}(h:(qp sc x n++cl).lookup y=some c):(y=x∧c=n∧sc.names.lookup x=some .cell) ∨ cl.lookup y=some c:=by
 unfold qp at h
 by_cases hc:sc.names.lookup x=some .cell
 ·rw[if_pos hc] at h
  have h':List.lookup y ((x,n) :: cl)=some c:=h;rw[dF] at h';cases e:y == x with
  | true =>
   rw[e] at h';exact .inl ⟨by simpa using e,(aW h').symm,hc⟩
  | false =>
   rw[e] at h';exact .inr h'
 ·rw[if_neg hc] at h
  exact .inr h
theorem tz {sc:Scope}{x y:Str}{n:Nat}{cl:List (Str × Addr)}(h:y≠x):(qp sc x n++cl).lookup y=cl.lookup y:=by
 unfold qp
 by_cases hc:sc.names.lookup x=some .cell
 ·rw[if_pos hc]
  show List.lookup y ((x,n) :: cl)=_;rw[dF,beq_eq_false_iff_ne.mpr h]
 ·rw[if_neg hc]
  rfl
theorem vx {sc:Scope}{x:Str}{n:Nat}{cl:List (Str × Addr)}(h:sc.names.lookup x=some .cell):(qp sc x n++cl).lookup x=some n:=by
 unfold qp;rw[if_pos h];show List.lookup x ((x,n) :: cl)=_;rw[dF,beq_self_eq_true]
section
variable {X:Cx}{pins:LD}{σ:St}{H:Hp}{s:Shared}{sc:Scope}{x:Str}{fp:LI}
theorem IC (N:LK)(x:Str):(jS N x).length=N.length+1:=by simp[jS]
theorem KZ {N:LK}{x:Str}{i:Nat}{y:Str}(h:(jS N x)[i]? = some y)(hi:i < N.length):∃ y0,N[i]? = some y0∧((y0=x∧y=Str.empty) ∨ (y0≠x∧y=y0)):=by
 unfold jS at h;rw[be (by simpa using hi),aq] at h;cases q:N[i]? with
 | none=>rw[q] at h; cases h
 | some y0 =>
  rw[q] at h;refine⟨y0,rfl,?_⟩;have h':(if y0=x then Str.empty else y0)=y:=aW h
  by_cases e:y0=x
  ·rw[if_pos e] at h'; exact .inl ⟨e,h'.symm⟩
  ·rw[if_neg e] at h'; exact .inr ⟨e,h'.symm⟩
theorem Inv.has_cell (I:Inv X pins σ H s){S:Scope}(L:fk S X.N sc x)(hS:X.env.scope=S):∀ y ∈ sc.names,y.2=.free→(X.env.cells.lookup y.1).isSome=true:=fun y hy hf=>by
 have k:X.env.kindOf y.1=some .cell ∨ X.env.kindOf y.1=some .free:=by
  show X.env.scope.names.lookup y.1=_ ∨ X.env.scope.names.lookup y.1=_;rw[hS];exact L.free y hy hf
 obtain⟨c,e⟩:=I.ok.has y.1 k;rw[e]; rfl
theorem Inv.blk (I:Inv X pins σ H s){S:Scope}(L:fk S X.N sc x)(hS:X.env.scope=S)(hf:∀ b ∈ fp,mC X pins H b)(hb:∀ b ∈ fp,b < s.heap.objs.size){h1:Heap}{tk:Nat}{m:LO}(hn:h1.Ns s.heap.objs.size m)(hk:∀ b o,s.heap.get? b=some o→h1.get? b=some o)(hoc:sc.names.lookup x=some .cell→h1.IsCell (s.heap.objs.size+1) none):Inv (X.blk (jS X.N x) sc x s H fp) [] (σ++[none]) H { s with heap:=h1,toks:=tk }:=by
 have sub:∀ y c,(j8 X.env.cells sc.names []).lookup y=some c→X.env.cells.lookup y=some c:=tZ sc.names [] fun _ _ z=>by cases z
 have sub2:∀ y c,(qp sc x (s.heap.objs.size+1)++j8 X.env.cells sc.names []).lookup y=some c→(y=x∧c=s.heap.objs.size+1∧sc.names.lookup x=some .cell) ∨ X.env.cells.lookup y=some c:=fun y c e =>
  (yQ e).imp id (sub y c)
 have ltc:∀ y c,X.env.cells.lookup y=some c→c < s.heap.objs.size:=fun y c e=>by
  obtain⟨v,z⟩:=I.cell y c e;exact z.lt
 have fkey:∀ y,(y,NameKind.free) ∈ sc.names→y≠x:=fun y hy e=>by
  subst e;have z:=me L.uniq hy;rcases L.loc with q | q <;> rw[q] at z <;> cases z
 have hasC:∀ y,(y,NameKind.free) ∈ sc.names→∃ c,(qp sc x (s.heap.objs.size+1)++j8 X.env.cells sc.names []).lookup y=some c:=fun y hy=>by
  rw[tz (fkey y hy)];exact fU.mp (ua (I.has_cell L hS (y,.free) hy rfl) sc.names [] hy)
 have kinds:∀ y k,(relabel sc X.env).names.lookup y=some k→(k=.cell ∨ k=.free)→(y,NameKind.free) ∈ sc.names ∨ (y=x∧sc.names.lookup x=some .cell):=fun y k e hk=>by
  obtain⟨k0,hm,q⟩:=jI e;rcases q with rfl | ⟨_,rfl⟩
  ·rcases hk with rfl | rfl
   ·have e:=L.onlyC _ hm rfl
    have e':y=x:=e;subst e';exact .inr ⟨rfl,me L.uniq hm⟩
   ·exact .inl hm
  ·exact .inl hm
 have stk:=I.stkSub;refine⟨⟨I.ok.mod,L.kind,I.ok.glob,I.ok.blt,au _,fun y z c e1 e2=>?_,fun y hy=>?_,fun y c z e=>?_,I.ok.hd,I.ok.frames,.inl rfl,fun b hb'=>?_,I.bs,aE I.ok.bsz I.sz,fun b o e hb'=>?_,fun b hb' z=>?_,I.stack,I.stkFree⟩,
  rfl,I.bare,Un.kept hk,⟨m,hn,fun i y v e1 e2 e3=>?_⟩,fun y c e=>?_,I.hok.fresh (au _),fun y c e=>?_,fun p hp=>absurd (show p ∈ ([]:LD) from hp) (by simp),I.hok.kept hk,?_⟩
 ·rcases sub2 y c e1 with ⟨q1,q2,_⟩ | q <;> rcases sub2 z c e2 with ⟨q1',q2',_⟩ | q'
  ·rw[q1,q1']
  ·have z1:=ltc z c q'
   rw[q2] at z1;exact absurd z1 (Nat.not_lt.mpr (gu _))
  ·have z1:=ltc y c q
   rw[q2'] at z1;exact absurd z1 (Nat.not_lt.mpr (gu _))
  ·exact I.ok.inj y z c q q'
 ·have hy':(relabel sc X.env).names.lookup y=some .cell ∨ (relabel sc X.env).names.lookup y=some .free:=hy
  have z:(y,NameKind.free) ∈ sc.names ∨ (y=x∧sc.names.lookup x=some .cell):=by
   rcases hy' with e | e
   ·exact kinds y _ e (.inl rfl)
   ·exact kinds y _ e (.inr rfl)
  rcases z with z | ⟨rfl,z⟩
  ·exact hasC y z
  ·exact⟨_,vx z⟩
 ·have z':decide (y=x∧sc.names.lookup x=some .cell)=true:=z
  obtain⟨rfl,z2⟩:=of_decide_eq_true z';have e':(qp sc y (s.heap.objs.size+1)++j8 X.env.cells sc.names []).lookup y=some c:=e;rw[vx z2] at e';cases e';exact gu _
 ·obtain⟨f0,f1,f2,f3,f4,f5⟩:=hf b hb'
  refine⟨bZ (hb b hb'),fun y c e z=>?_⟩;rcases sub2 y c e with ⟨_,q2,_⟩ | q
  ·have z1:=hb b hb'
   rw[←z,q2] at z1;exact absurd z1 (Nat.not_lt.mpr (gu _))
  ·exact f4 y c q z
 ·obtain⟨f0,f1,f2,f3,f4,f5⟩:=hf b hb'
  rcases f3 with z | z
  ·exact I.ok.noex b o e z
  ·exact absurd (aH (aX (I.ok.bs b o e).1) z) (de _)
 ·obtain⟨f0,f1,f2,f3,f4,f5⟩:=hf b hb'
  rcases aQ.mp (stk b z) with q | q
  ·exact f1 q
  ·exact f2 q
 ·have hl:σ.length=X.N.length:=I.len
  have hi:i < X.N.length:=by
   by_cases hi:i < σ.length
   ·lia
   ·rw[aV (by lia)] at e2
    cases q:i - σ.length with
    | zero=>rw[q] at e2; cases e2
    | succ n=>rw[q] at e2; cases e2
  rw[be (by lia)] at e2;obtain⟨y0,g1,g2⟩:=KZ e1 hi;have vis:∃ k,(relabel sc X.env).names.lookup y=some k∧(k=.local ∨ k=.cell ∨ k=.free):=by
   rcases e3 with q | q | q
   ·exact⟨_,q,.inl rfl⟩
   ·exact⟨_,q,.inr (.inl rfl)⟩
   ·exact⟨_,q,.inr (.inr rfl)⟩
  obtain⟨k,q,hk'⟩:=vis;obtain⟨k0,hm,q0⟩:=jI q;rcases g2 with ⟨_,rfl⟩ | ⟨g2,rfl⟩
  ·exact absurd rfl (L.ne _ hm)
  ·have hkc:k=.cell ∨ k=.free:=by
    rcases hk' with rfl | z
    ·exfalso
     rcases q0 with rfl | ⟨z,_⟩
     ·rcases L.only _ hm rfl with z | z
      ·exact g2 z
      ·exact L.dot y (ae g1) z
     ·cases z
    ·exact z
   have hfr:(y,NameKind.free) ∈ sc.names:=(kinds y k q hkc).resolve_right fun z=>g2 z.1
   have visX:X.env.scope.names.lookup y=some .cell ∨ X.env.scope.names.lookup y=some .free:=by rw[hS]; exact L.free _ hfr rfl
   obtain⟨m0,_,hl0⟩:=I.loc;obtain⟨u,r,lk⟩:=hl0 i y v g1 e2 (.inr visX);refine⟨u,r,?_⟩;rcases lk with ⟨z,_⟩ | ⟨_,c,ec,hc⟩
   ·exfalso
    have z':X.env.scope.names.lookup y=some .local:=z;rcases visX with w' | w' <;> rw[z'] at w' <;> cases w'
   ·obtain⟨c',ec'⟩:=hasC y hfr
    have:c'=c:=by
     rw[tz (fkey y hfr)] at ec';exact aW ((sub y c' ec').symm.trans ec)
    subst this;refine .inr ⟨?_,c',ec',?_⟩
    ·rcases hkc with rfl | rfl
     ·exact .inl q
     ·exact .inr q
    ·obtain⟨o,ho,hd⟩:=hc
     exact⟨o,hk _ _ ho,hd⟩
 ·rcases sub2 y c e with ⟨_,q2,q3⟩ | q
  ·rw[q2]; exact⟨_,hoc q3⟩
  ·obtain⟨v,o,ho,hd⟩:=I.cell y c q
   exact⟨v,o,hk _ _ ho,hd⟩
 ·rcases sub2 y c e with ⟨_,q2,_⟩ | q
  ·rw[q2]; exact I.hok.fresh (gu _)
  ·exact I.freeC y c q
 ·rw[ai,I.len]
  exact (IC X.N x).symm
theorem DZ {sc:Scope}{env:Env}{x:Str}(h:sc.names.lookup x=some .cell):(relabel sc env).names.lookup x=some .cell:=by
 have e:=md (c:=fun n k=>k == NameKind.free && env.scope.kind == .function && env.kindOf n == some .cell) (y:=x) sc.names;show (sc.names.map fun (n,k)=>if (k == NameKind.free && env.scope.kind == .function && env.kindOf n == some .cell)=true then (n,NameKind.cell) else (n,k)).lookup x=some .cell;rw[e,h]
 rfl
theorem Ea {S:Scope}{N:LK}{env:Env}(L:fk S N sc x):Fg (relabel sc env) x:=by
 rcases L.loc with h | h
 ·exact .inl (lookup_relabel_local h)
 ·exact .inr (DZ h)
theorem Ge {S:Scope}{N:LK}{env:Env}(L:fk S N sc x):decide (x=x∧sc.names.lookup x=some .cell)=true ∨ (relabel sc env).names.lookup x=some .local:=by
 rcases L.loc with h | h
 ·exact .inr (lookup_relabel_local h)
 ·exact .inl (cn ⟨rfl,h⟩)
theorem EU {prog:Program}{w:World}{A:Around}{R:Result→Shared→Prop}{elt target iter:Expr}{scope:Scope}{pos:Pos}{it acc:Value}{env:Env}(I:Nat→Shared→Prop)(turn:∀ n s,I n s→wpAny (model prog w) A (pyNext it) (fun r s₁=>match r with
   | none=>R (.ok .next) s₁
   | some v=>wpAny (model prog w) A (letOwnedTupleGo target it v) (fun _ s₁'=>wpAny (model prog w) A (assign target env v) (fun _ s₂=>wpAny (model prog w) A (eval elt env) (fun x s₃ =>
     wpAny (model prog w) A (call (.builtin "list.append") [acc,x]) (fun _ s₄=>∃ m,m < n∧I m s₄) (fun _ _=>False) s₃) (fun _ _=>False) s₂) (fun _ _=>False) s₁') (fun _ _=>False) s₁) (fun _ _=>False) s)(n:Nat)(h:I n s):codeAny (model prog w) A (.compLoop (.ListComp elt [⟨target,iter,[],0⟩] scope pos) 0 it acc env) R s:=by
 refine codeAny_loop rfl I (fun n s hI=>?_) n h;show wpAny _ _ ((compTurn (.ListComp elt [⟨target,iter,[],0⟩] scope pos) 0 it acc env).onRaise fun x=>do noteFrame x env; theTreesLotGoes x) _ _ s;refine wpAny_noted ?_;rw[compTurn_list1];refine af (oO (af (du (turn n s hI) (fun r s₁ h₁=>?_) fun _ _ z=>z.elim)));cases r with
 | none=>exact aA h₁
 | some v =>
  exact af (du h₁ (fun _ s₁' h₁'=>af (du h₁' (fun _ s₂ h₂=>af (af (du h₂ (fun x s₃ h₃=>af (du h₃
   (fun _ s₄ h₄=>aA (aA ⟨rfl,h₄⟩)) fun _ _ z=>z.elim)) fun _ _ z=>z.elim))) fun _ _ z=>z.elim)) fun _ _ z=>z.elim)
def Qr (ti:TI)(te:TE):TE:=fun σ H Q=>ti σ H fun J H1=>∀ D,H1 D=none→∃ W:Nat→Nat→List V→Hp→Prop,(∃ m,W 0 m [] (upd H1 D (.lst []))) ∧
 ∀ i m ys H',W i m ys H'→H' D=some (.lst ys)∧((J.stop i H'∧Q (.ref D) H') ∨ (J.go i H'∧∀ z H2,J.yld i H' z H2→te (σ++[some z]) H2 fun v H3=>H3 D=some (.lst ys)∧ys.length < sizeLine∧∃ m',m' < m∧W (i+1) m' (ys++[v]) (upd H3 D (.lst (ys++[v])))))
theorem Cr {elt iter:Expr}{px pos:Pos}{te:TE}{S:Scope}{use:Option (Value→Sem Unit)}{QQ:LN}{Q:VK}{it:Addr}{tn:Nat→Heap→Prop}{J:It}(hc:X.calm=true)(L:fk S X.N sc x)(hS:X.env.scope=S)(he:∀ (s₀:Shared) (H₀:Hp) (fp:LI),PE (X.blk (jS X.N x) sc x s₀ H₀ fp) elt te)(I:Inv X pins σ H s)(T:zW X.prog X.w X.K (.Name x px) J fp it tn)(st:tn 0 s.heap)(hf:∀ b ∈ fp,mC X pins H b)(h:∀ D,H D=none→∃ W:Nat→Nat→List V→Hp→Prop,(∃ m,W 0 m [] (upd H D (.lst []))) ∧
   ∀ i m ys H',W i m ys H'→H' D=some (.lst ys)∧((J.stop i H'∧Q (.ref D) H') ∨ (J.go i H'∧∀ z H2,J.yld i H' z H2→te (σ++[some z]) H2 fun v H3=>H3 D=some (.lst ys)∧ys.length < sizeLine∧∃ m',m' < m∧W (i+1) m' (ys++[v]) (upd H3 D (.lst (ys++[v]))))))(fin:∀ (D C:Addr) (H':Hp) (s':Shared) (m:LO),Inv X pins σ H' s'→Q (.ref D) H'→s'.heap.Ns C m→H' C=none→s.heap.objs.size≤C→(∀ p ∈ X.pn++pins,p.1≠C)→C≠X.env.locals→(∀ y c,X.env.cells.lookup y=some c→c≠C)→compPost (model X.prog X.w) X.A X.xe use QQ (.ref D) C (.ok .next) s') :
  wpAny (model X.prog X.w) X.A (newList []) (fun acc s₃=>wpAny (model X.prog X.w) X.A (newFunctionEnv sc X.env.globals (j8 X.env.cells sc.names []) [] X.env.qual none .none (some X.env)) (fun cenv s₄ =>
   codeAny (model X.prog X.w) X.A (.compStart (.ListComp elt [⟨.Name x px,iter,[],0⟩] sc pos) 0 (.ref it) acc { cenv with scope:=relabel sc X.env }) (compPost (model X.prog X.w) X.A X.xe use QQ acc cenv.locals) s₄) X.xe s₃) X.xe s:=by
 refine gL ?_;have hD:H s.heap.objs.size=none:=I.hok.fresh (au _);obtain⟨W,⟨m0,w0⟩,turn⟩:=h s.heap.objs.size hD;have I2:Inv X pins σ (upd H s.heap.objs.size (.lst [])) { s with heap:=s.heap.push { cls:=.type "list",data:=.seq ([]:LH).toArray } }:=I.lnew (t':=s.toks) .nil (aZ _);have lt0:∀ b ∈ fp,b < s.heap.objs.size:=fun b hb=>by
  obtain⟨o,e,_⟩:=T.obj 0 s.heap st b hb;exact aX e
 have hf2:∀ b ∈ fp,mC X pins (upd H s.heap.objs.size (.lst [])) b:=fun b hb=>by
  obtain⟨f0,f⟩:=hf b hb;exact⟨by rw[aO (bZ (lt0 b hb))]; exact f0,f⟩
 have st2:tn 0 (s.heap.push { cls:=.type "list",data:=.seq ([]:LH).toArray }):=T.keep 0 _ _ st fun b _ o e=>ak _ e
 generalize hs2:({ s with heap:=s.heap.push { cls:=.type "list",data:=.seq ([]:LH).toArray } }:Shared)=s2 at I2;have eh:s2.heap=s.heap.push { cls:=.type "list",data:=.seq ([]:LH).toArray }:=by rw[←hs2]
 have lt2:∀ b ∈ fp,b < s2.heap.objs.size:=fun b hb=>by rw[eh,dw]; exact Nat.lt_succ_of_lt (lt0 b hb)
 rw[←eh] at st2;have le2:s.heap.objs.size≤s2.heap.objs.size:=by rw[eh,dw]; exact gu _
 show wpAny _ _ _ _ _ s2;refine vA ?_;rw[L.cells];have hp0:=L.heap (s2.heap.push { cls:=.type "dict",data:=.dict #[] });have hns0:(s2.heap.push { cls:=.type "dict",data:=.dict #[] }).Ns s2.heap.objs.size _:=Heap.Ns.new s2.heap (.type "dict");have hns₁:=hns0.keeps hp0.1;have hoc:=hp0.2;rw[dw] at hoc;have keep:∀ b o,s2.heap.get? b=some o→(pushCells (s2.heap.push { cls:=.type "dict",data:=.dict #[] }) sc.names).get? b=some o:=fun b o e=>hp0.1 b o (ak _ e)
 generalize pushCells (s2.heap.push { cls:=.type "dict",data:=.dict #[] }) sc.names=h₁ at hns₁ hoc keep ⊢;have J0:Inv (X.blk (jS X.N x) sc x s2 (upd H s.heap.objs.size (.lst [])) fp) [] (σ++[none]) (upd H s.heap.objs.size (.lst [])) { s2 with heap:=h₁ }:=I2.blk (tk:=s2.toks) L hS hf2 lt2 hns₁ keep hoc;have st3:tn 0 h₁:=T.keep 0 _ _ st2 fun b _ o e=>keep b o e
 have hl:σ.length=X.N.length:=I.len;have stat:∀ {H':Hp},(∀ b ∈ fp,H' b=none)→∀ b ∈ fp,mC (X.blk (jS X.N x) sc x s2 (upd H s.heap.objs.size (.lst [])) fp) [] H' b:=fun {H'} hn b hb=>by
  have o1:=J0.ok.exf b hb;exact⟨hn b hb,o1.1,J0.ok.exfs b hb,.inl hb,o1.2,fun p hp=>absurd (show p ∈ ([]:LD) from hp) (by simp)⟩
 have loop:codeAny (model X.prog X.w) X.A (.compLoop (.ListComp elt [⟨.Name x px,iter,[],0⟩] sc pos) 0 (.ref it) (.ref s.heap.objs.size) (compEnvC sc (qp sc x (s2.heap.objs.size+1)++j8 X.env.cells sc.names []) s2.heap.objs.size X.env))
   (compPost (model X.prog X.w) X.A X.xe use QQ (.ref s.heap.objs.size) s2.heap.objs.size) { s2 with heap:=h₁ }:=by
  refine EU (fun n s'=>∃ i ys H' o,Inv (X.blk (jS X.N x) sc x s2 (upd H s.heap.objs.size (.lst [])) fp) [] (σ++[o]) H' s'∧tn i s'.heap∧(∀ b ∈ fp,H' b=none)∧W i n ys H') ?_ m0 ⟨0,[],_,none,J0,st3,fun b hb=>(hf2 b hb).1,w0⟩;rintro n s4 ⟨i,ys,H4,o,J4,st4,fr4,w4⟩;obtain⟨hD4,tt⟩:=turn i n ys H4 w4;rcases tt with ⟨stop,q⟩ | ⟨go,step⟩
  ·refine thn (T.done (X.blk (jS X.N x) sc x s2 (upd H s.heap.objs.size (.lst [])) fp) rfl rfl rfl hc i [] s4 _ H4 _ J4 (stat fr4) st4 stop) fun r s5 ⟨hr,J5⟩=>?_
   subst hr;have I5:Inv X pins σ H4 s5:=I2.call' J5.os J5.base J5.hok J5.bare fun b hb=>by
    obtain⟨f0,f1,f2,f3,f4,f5⟩:=hf2 b hb;exact⟨f3,f1,f4,f5⟩
   obtain⟨m5,n5,_⟩:=J5.loc;exact fin _ _ H4 s5 m5 I5 q n5 J5.free le2 (fun p hp z=>by
     have:=aX (I2.pin p hp).1
     rw[z] at this
     exact de _ this) (dC I2.lt) (fun y c e z=>by
     obtain⟨v,o,ho,_⟩:=I2.cell y c e
     have:=aX ho
     rw[z] at this
     exact de _ this)
  ·refine thn (T.item (X.blk (jS X.N x) sc x s2 (upd H s.heap.objs.size (.lst [])) fp) rfl rfl rfl hc i [] s4 _ H4 _ J4 (stat fr4) st4 go) fun r s5 ⟨u,hr,h5⟩=>?_
   subst hr;refine thn h5 fun _ s6 ⟨z,H6,J6,r6,y6,st6,fr6⟩=>?_
   have J6':=J6.pinned (stat fr6) (T.obj _ _ st6);refine thn (ny (X:=X.blk (jS X.N x) sc x s2 (upd H s.heap.objs.size (.lst [])) fp) (i:=X.N.length) L.nd (by show (jS X.N x)[X.N.length]? = some x; unfold jS; rw[aV (by simp)]; simp) (Ea L) (Ge L)
    _ s6 _ H6 z u (fun σ' H'=>σ'=σ++[some z]∧H'=H6) J6' r6 ⟨by
     rw[iH _ _ (by lia)]
     have:X.N.length - σ.length=0:=by lia
     rw[this]
     rfl,rfl⟩) fun _ s7 ⟨σ7,H7,J7,e7,e8⟩=>?_
   subst e7 e8;refine thn (he s2 (upd H s.heap.objs.size (.lst [])) fp _ s7 _ H7 _ J7 (step z H7 y6)) fun vv s8 ⟨v,H8,J8,r8,hD8,hz8,m',hm,w8⟩=>?_
   refine thn (dk (X:=X.blk (jS X.N x) sc x s2 (upd H s.heap.objs.size (.lst [])) fp) _ s8 _ H8 (.ref s.heap.objs.size) [v] (.ref s.heap.objs.size) [vv] (fun _ H'=>H'=upd H8 s.heap.objs.size (.lst (ys++[v]))) J8 rfl (.cons r8 .nil) ⟨_,ys,v,rfl,rfl,hD8,hz8,rfl⟩) fun _ s9 ⟨_,H9,J9,_,e9⟩=>?_
   subst e9;refine⟨m',hm,i+1,ys++[v],_,some z,J9.unpinned,T.keep _ _ _ st6 fun b hb o e=>(J9.pin (b,o) (bA _ (bA _ (gY hb e)))).1,fun b hb=>?_,w8⟩;obtain⟨o',e',_⟩:=T.obj _ _ st6 b hb;exact (J9.pin (b,o') (bA _ (bA _ (gY hb e')))).2.1
 refine codeAny_compStart_list loop (T.self _ 0 _ _ _ st3 loop)
theorem Ce {elt iter:Expr}{px pos:Pos}{ti:TI}{te:TE}{S:Scope}(hc:X.calm=true)(L:fk S X.N sc x)(hS:X.env.scope=S)(hi:PI X (.Name x px) iter ti)(he:∀ (s₀:Shared) (H₀:Hp) (fp:LI),PE (X.blk (jS X.N x) sc x s₀ H₀ fp) elt te)(hs:∀ x,foldedSetIterable iter X.env x=pure x:=by intro _; rfl) :
  PE X (.ListComp elt [⟨.Name x px,iter,[],0⟩] sc pos) (Qr ti te):=by
 intro pins s σ H Q I h;rw[eval_ListComp];refine gQ (use:=none) rfl hs (jR (I.has_cell L hS)) L.kind L.names (thn (hi pins s σ H _ I h) fun xv s₁ h₁=>thn h₁ fun itv s₂ h₂=>?_);obtain⟨it,fp,tn,J,H2,rfl,I2,T,st2,f2,q2⟩:=h₂;refine Cr hc L hS he I2 T st2 f2 q2 ?_;intro D C H' s' m I' q hn hC hle hp hL hcl;refine⟨m,hn,fun h' hs'=>?_⟩;have I3:Inv X pins σ H' { s' with heap:=h' }:=I'.turned (t':=s'.toks) (fun b o hb e=>(hs'.2 b hb).trans e) hC hL (.inr (aE I2.sz hle)) hcl hp;exact⟨.ref D,H',I3,rfl,q⟩
theorem pf {elt iter:Expr}{i:Nat}{y:Str}{px py pos spos:Pos}{ti:TI}{te:TE}{S:Scope}(hN:X.N.Nodup)(hi:X.N[i]? = some y)(hy:Fg X.env.scope y)(hc:X.calm=true)(L:fk S X.N sc x)(hS:X.env.scope=S)(hit:PI X (.Name x px) iter ti)(he:∀ (s₀:Shared) (H₀:Hp) (fp:LI),PE (X.blk (jS X.N x) sc x s₀ H₀ fp) elt te)(hsw:swapsWith (.ListComp elt [⟨.Name x px,iter,[],0⟩] sc pos) (some (.Name y py)) spos.line X.env=pure true:=by rfl)(hs:∀ x,foldedSetIterable iter X.env x=pure x:=by intro _; rfl)(hf:X.fn y=true ∨ X.env.scope.names.lookup y=some .local:=by first | exact .inl rfl | exact .inr rfl | assumption) :
  PS X (.Assign [.Name y py] (.ListComp elt [⟨.Name x px,iter,[],0⟩] sc pos) spos) (Ds (Qr ti te) (kW i)):=by
 intro pins s σ H D I h;rw[exec_Assign_Name_used _ _ _ _ hsw];refine af (oO (af ?_));show wpAny _ _ (do let _ ← comprehension (.ListComp elt [⟨.Name x px,iter,[],0⟩] sc pos) sc X.env _ (newList []) false (eval iter X.env) (some (assign (.Name y py) X.env))) _ _ s;refine af (du (gQ (use:=some (assign (.Name y py) X.env)) (Q:=fun _ s'=>SP X pins D .next s') rfl hs (jR (I.has_cell L hS)) L.kind L.names
  (thn (hit pins s σ H _ I h) fun xv s₁ h₁=>thn h₁ fun itv s₂ h₂=>?_)) (fun _ s' hq=>aA (aA hq)) fun _ _ e=>e)
 obtain⟨it,fp,tn,J,H2,rfl,I2,T,st2,f2,q2⟩:=h₂;refine Cr (Q:=fun v H'=>D.nx (σ.set i (some v)) H') hc L hS he I2 T st2 f2 q2 ?_;intro D' C H' s' m I' q hn hC hle hp hL hcl;show wpAny _ _ (assign (.Name y py) X.env (.ref D')) _ _ s';refine Ah (qg I' hN hi hy (v:=.ref D') (u:=.ref D') rfl (fun s'' I'' ⟨a,sb,ha⟩=>?_) hf);have nCa:C≠a:=by
  rcases ha with rfl | ha
  ·exact hL
  ·exact fun z=>hcl y a ha z.symm
 refine⟨m,hn.sameBut sb nCa,fun h' hs'=>?_⟩;have I3:Inv X pins (σ.set i (some (.ref D'))) H' { s'' with heap:=h' }:=I''.turned (t':=s''.toks) (fun b o hb e=>(hs'.2 b hb).trans e) hC hL (.inr (aE I2.sz hle)) hcl hp;exact⟨_,H',I3,q⟩
end
section
variable {X:Cx}
theorem ko:iV X (.builtin "sorted") (fun xs H Q=>∃ (p:Addr) (ns:LF),xs=[.ref p]∧bh X.K H p (ns.map V.int)∧ns.length < 64∧∀ (l:Addr) (ns':LF),H l=none→ns'.Perm ns→ns'.Pairwise (·≤·)→Q (.ref l) (upd H l (.lst (ns'.map V.int)))):=by
 intro pins s σ H xs us Q I r h;obtain⟨p,ns,rfl,hq,hl,q⟩:=h;obtain⟨u,rfl,rx⟩:=jM r;cases rx;obtain⟨its,rv,pl,hz⟩:=I.list hq;have hI:IntsAre its ns:=tO rv;have hlen:=rv.length;rw[aa] at hlen;refine sorted_ints pl.isList hI (by lia) fun out ns' a1 a2 a3=>?_
 obtain⟨e,he⟩:=sortedAll_at s.heap its out;have hn:H (s.heap.objs.size+1)=none:=I.hok.fresh (gu _);refine⟨.ref (s.heap.objs.size+1),_,I.laid (t':=s.toks) (fun b o z=>sortedAll_old z) (gu _) ?_,rfl,q _ ns' hn a2 a3⟩;refine⟨?_,out.toList,e,qd a1,he⟩;rw[aa,a2.length_eq];exact cf (bo (by lia))
end
theorem mh {K:LM}{a:Addr}{xs:LG}{te:TE}{Q:Hp→Prop}{σ:St}{H1:Hp}{D:Addr}(Pv:Nat→List V→Hp→Prop)(h0:Pv 0 [] (upd H1 D (.lst [])))(hl:∀ i ys H',i≤xs.length→Pv i ys H'→bh K H' a xs∧H' D=some (.lst ys))(hs:∀ i x ys H',xs[i]? = some x→Pv i ys H'→te (σ++[some x]) H' fun v H3=>H3 D=some (.lst ys)∧ys.length < sizeLine∧Pv (i+1) (ys++[v]) (upd H3 D (.lst (ys++[v]))))(hd:∀ ys H',Pv xs.length ys H'→Q H')(mono:∀ σ H Q Q',(∀ v H1,Q v H1→Q' v H1)→te σ H Q→te σ H Q') :
  ∃ W:Nat→Nat→List V→Hp→Prop,(∃ m,W 0 m [] (upd H1 D (.lst []))) ∧
   ∀ i m ys H',W i m ys H'→H' D=some (.lst ys)∧(((uC K a).stop i H'∧Q H') ∨ ((uC K a).go i H'∧∀ z H2,(uC K a).yld i H' z H2→te (σ++[some z]) H2 fun v H3=>H3 D=some (.lst ys)∧ys.length < sizeLine∧∃ m',m' < m∧W (i+1) m' (ys++[v]) (upd H3 D (.lst (ys++[v]))))):=by
 refine⟨fun i m ys H'=>m=xs.length - i∧i≤xs.length∧Pv i ys H',⟨xs.length,by simp,aZ _,h0⟩,?_⟩;rintro i m ys H' ⟨rfl,hi,p⟩;obtain⟨q,eD⟩:=hl i ys H' hi p;refine⟨eD,?_⟩
 by_cases hlt:i < xs.length
 ·refine .inr ⟨⟨xs,xs[i],q,by simp[hlt]⟩,fun z H2 y=>?_⟩
  obtain⟨e,y⟩:=y;subst e;refine mono _ _ _ _ (fun v H3 ⟨z1,z2,z3⟩=>⟨z1,z2,xs.length - (i+1),by lia,rfl,hlt,z3⟩) (hs i z ys _ (y xs q) p)
 ·have e:i=xs.length:=by lia
  subst e;exact .inl ⟨⟨xs,q,au _⟩,hd ys H' p⟩
theorem kQ {lo:Int}{n:Nat}{te:TE}{Q:Hp→Prop}{σ:St}{H1:Hp}{D:Addr}(Pv:Nat→List V→Hp→Prop)(h0:Pv 0 [] (upd H1 D (.lst [])))(hl:∀ i ys H',i≤n→Pv i ys H'→H' D=some (.lst ys))(hs:∀ i ys H',i < n→Pv i ys H'→te (σ++[some (.int (lo+(i:Nat)))]) H' fun v H3=>H3 D=some (.lst ys)∧ys.length < sizeLine∧Pv (i+1) (ys++[v]) (upd H3 D (.lst (ys++[v]))))(hd:∀ ys H',Pv n ys H'→Q H')(mono:∀ σ H Q Q',(∀ v H1,Q v H1→Q' v H1)→te σ H Q→te σ H Q') :
  ∃ W:Nat→Nat→List V→Hp→Prop,(∃ m,W 0 m [] (upd H1 D (.lst []))) ∧
   ∀ i m ys H',W i m ys H'→H' D=some (.lst ys)∧(((Ad lo n).stop i H'∧Q H') ∨ ((Ad lo n).go i H'∧∀ z H2,(Ad lo n).yld i H' z H2→te (σ++[some z]) H2 fun v H3=>H3 D=some (.lst ys)∧ys.length < sizeLine∧∃ m',m' < m∧W (i+1) m' (ys++[v]) (upd H3 D (.lst (ys++[v]))))):=by
 refine⟨fun i m ys H'=>m=n - i∧i≤n∧Pv i ys H',⟨n,by simp,aZ _,h0⟩,?_⟩;rintro i m ys H' ⟨rfl,hi,p⟩;refine⟨hl i ys H' hi p,?_⟩
 by_cases hlt:i < n
 ·refine .inr ⟨hlt,fun z H2 y=>?_⟩
  obtain⟨e,y⟩:=y;subst e y;refine mono _ _ _ _ (fun v H3 ⟨z1,z2,z3⟩=>⟨z1,z2,n - (i+1),by lia,rfl,hlt,z3⟩) (hs i ys _ hlt p)
 ·have e:i=n:=by lia
  subst e;exact .inl ⟨au _,hd ys H' p⟩
section
variable {X:Cx}
theorem pQ (hc:X.calm=true):iV X (.builtin "sum") (fun xs H Q=>∃ (p:Addr) (ns:LF),xs=[.ref p]∧bh X.K H p (ns.map V.int)∧Q (.int ns.sum) H):=by
 intro pins s σ H xs us Q I r h;obtain⟨p,ns,rfl,hq,q⟩:=h;obtain⟨u,rfl,rx⟩:=jM r;cases rx;obtain⟨its,rv,pl,hz⟩:=I.list hq;have hI:IntsAre its ns:=tO rv;obtain⟨ys,hx⟩:=hI.allInts.items;have hl':s.heap.IsList p (intItems ys):=hx ▸ pl.isList;refine sum_intListG (I.ok.hd hc) hl' fun h' tk t' hk=>?_
 have e1:ns=ys.toList.map (·.1):=by
  rw[←nums_intItems,←hx];exact (show numsOf its.toArray.toList=ns from hI.numsOf).symm
 have e2:preSum (numAt ys) ys.size=ns.sum:=by
  rw[preSum_eq,dE (by simp),e1]
 rw[e2];exact⟨.int ns.sum,H,I.kept hk,⟨_,rfl⟩,q⟩
end
section
variable {X:Cx}{pins:LD}{σ:List (LS)}{H:Hp}{s:Shared}{h':Heap}
theorem Inv.turnedL {t':Nat}{its:LI}(I:Inv X pins σ H s)(k:∀ b o,b ∉ its→s.heap.get? b=some o→h'.get? b=some o)(hf:∀ b ∈ its,mC X pins H b):Inv X pins σ H { s with heap:=h',toks:=t' }:=by
 have nit:∀ b u,H b=some u→b ∉ its:=fun b u e z=>by rw[(hf b z).1] at e; cases e
 refine I.step (g':=s.gens) (d':=s.drawn) (ch:=its) (fun b hb=>?_) (fun b o _ _ hc e _=>k b o hc e) (fun b o _ _ hc e _=>⟨o.slots,k b o hc e⟩) (fun _ _ _ _ n=>n)
  (fun b o hc e=>⟨o,k b o hc e⟩) (fun _ _ e=>e) (fun _ _ _ e=>e) (fun b ps e=>⟨#[],by rw[e]; simp⟩) (fun m hm=>?_) (fun b u e=>?_) I.bare
 ·obtain⟨f0,f1,f2,f3,f4,f5⟩:=hf b hb
  exact⟨f3,f1,f4,f5⟩
 ·obtain⟨o,es,ep,ho,r⟩:=hm
  exact⟨o,es,ep,k _ o (fun z=>(hf _ z).2.1 rfl) ho,r⟩
 ·refine (I.hok b u e).stay (fun c v hc q=>k c v ?_ q) (fun _ q=>q) fun _ _ q=>q
  rcases hc with z | z
  ·rw[z]; exact nit b u e
  ·exact nit c _ z
end
def Om (K:LM)(a b:Addr):It :=
 ⟨fun i H=>∃ xs ys x y,bh K H a xs∧bh K H b ys∧xs[i]? = some x∧ys[i]? = some y,
  fun i H z H'=>∃ t x y,z=.ref t∧H t=none∧H'=upd H t (.tup [x,y])∧(∀ xs,bh K H a xs→xs[i]? = some x)∧∀ ys,bh K H b ys→ys[i]? = some y,
  fun i H=>∃ xs ys,bh K H a xs∧bh K H b ys∧(xs.length≤i ∨ ys.length≤i)⟩
structure RC (z TI TO i1 i2:Addr):Prop where
 a1:TI≠z
 a2:TO≠z
 a3:i1≠z
 a4:i2≠z
 a5:TI≠TO
 a6:TI≠i1
 a7:TI≠i2
 a8:TO≠i1
 a9:TO≠i2
 b1:i1≠i2
def Rx (z TI TO i1 i2 a b:Addr)(i:Nat)(h:Heap):Prop:=IsZip h z TI TO .none∧IsPair h TI (.ref i1) (.ref i2)∧(∃ c d,IsPair h TO c d)∧h.IsListIter i1 a i∧h.IsListIter i2 b i
theorem mV {h:Heap}{a b:Addr}{o o':Obj}(e:h.get? a=some o)(e':h.get? b=some o')(n:o.cls≠o'.cls):a≠b:=fun z=>by
 subst z;rw[e] at e';cases e';exact n rfl
theorem Rj {h:Heap}{z TI TO i1 i2 a b:Addr}{i:Nat}{xs ys:LU}(D:RC z TI TO i1 i2)(st:Rx z TI TO i1 i2 a b i h)(ha:h.IsList a xs)(hb:h.IsList b ys):ZipApart z TI TO i1 i2 a b:=by
 obtain⟨hz,hTI,⟨c,d,hTO⟩,⟨o1,e1,c1,_⟩,⟨o2,e2,c2,_⟩⟩:=st;obtain⟨oa,ea,ca,_⟩:=ha;obtain⟨ob,eb,cb,_⟩:=hb;exact⟨D.a1,D.a2,D.a3,D.a4,D.a5,D.a6,D.a7,D.a8,D.a9,D.b1,
  mV ea hz (by rw[ca]; show Value.type "list"≠Value.type "zip"; decide),mV ea hTO (by rw[ca]; show Value.type "list"≠Value.type "tuple"; decide),mV ea e1 (by rw[ca,c1]; decide),mV ea e2 (by rw[ca,c2]; decide),
  mV eb hz (by rw[cb]; show Value.type "list"≠Value.type "zip"; decide),mV eb hTO (by rw[cb]; show Value.type "list"≠Value.type "tuple"; decide),mV eb e1 (by rw[cb,c1]; decide),mV eb e2 (by rw[cb,c2]; decide)⟩
theorem Fs {P:Program}{w:World}{K:LM}{elts:LL}{ek:Nat}{epos:Pos}{z TI TO i1 i2 a b:Addr}(D:RC z TI TO i1 i2):zW P w K (.Tuple elts ek epos) (Om K a b) [z,TI,TO,i1,i2] z (Rx z TI TO i1 i2 a b) where
 mem:=by simp
 obj:=fun i h st c hc=>by
  obtain⟨hz,hTI,⟨p,q,hTO⟩,⟨o1,e1,c1,d1⟩,⟨o2,e2,c2,d2⟩⟩:=st;have hc':c=z ∨ c=TI ∨ c=TO ∨ c=i1 ∨ c=i2:=by simpa using hc
  rcases hc' with rfl | rfl | rfl | rfl | rfl
  ·exact⟨_,hz,fun v e=>by cases e⟩
  ·exact⟨_,hTI,fun v e=>by cases e⟩
  ·exact⟨_,hTO,fun v e=>by cases e⟩
  ·exact⟨_,e1,fun v e=>by rw[d1] at e; cases e⟩
  ·exact⟨_,e2,fun v e=>by rw[d2] at e; cases e⟩
 keep:=fun i h h' st k=>by
  obtain⟨hz,hTI,⟨p,q,hTO⟩,l1,l2⟩:=st;exact⟨k z (by simp) _ hz,k TI (by simp) _ hTI,⟨p,q,k TO (by simp) _ hTO⟩,l1.at fun o e=>k i1 (by simp) o e,l2.at fun o e=>k i2 (by simp) o e⟩
 item:=by
  intro X hP hw hK hc i pins s σ H E I hf st hg;subst hP hw hK;obtain⟨xs,ys,x,y,hx,hy,ex,ey⟩:=hg;obtain⟨ia,ra,pa,za⟩:=I.list hx;obtain⟨ib,rb,pb,zb⟩:=I.list hy;obtain⟨u,hu,ru⟩:=ra.get ex;obtain⟨v,hv,rv⟩:=rb.get ey;have A:=Rj D st pa.isList pb.isList;have stl:=st;obtain⟨hz,hTI,⟨p,q,hTO⟩,l1,l2⟩:=st;refine wpAny_pyNext_zip_item A hz hTI hTO l1 l2 pa.isList pb.isList (x:=u) (y:=v) (by simpa using hu) (by simpa using hv) fun h' a1 a2 a3 a4 a5 a6 a7=>?_
  refine⟨_,rfl,wpAny_letOwnedTupleGo_zip a1 fun h2 b1 b2=>?_⟩;have hT:H s.heap.objs.size=none:=I.hok.fresh (au _);have ltz:∀ c o,s.heap.get? c=some o→s.heap.objs.size≠c:=fun c o e=>dC (aX e)
  have hTI':=a7 _ _ D.a1 D.a5 D.a6 D.a7 hTI;have Tz:s.heap.objs.size≠z:=ltz _ _ hz;have aT:h2.get? s.heap.objs.size=some { cls:=.type "tuple",data:=.seq #[u,v] }:=b2.extBut _ _ Tz a5;have k2:∀ c o,c≠z→c≠TO→c≠i1→c≠i2→s.heap.get? c=some o→h2.get? c=some o:=fun c o n1 n2 n3 n4 e=>b2.extBut _ _ n1 (a7 c o n1 n2 n3 n4 e)
  have I1:Inv X pins σ (upd H s.heap.objs.size (.tup [x,y])) { s with heap:=s.heap.push { cls:=.type "tuple",data:=.seq #[u,v] } }:=by
   refine I.laid (t':=s.toks) (fun c o e=>ak _ e) (au _) ?_;exact⟨(by show 2≤sizeLine; decide),[u,v],.cons ru (.cons rv .nil),IsTup.new s.heap _⟩
  have hf1:∀ c ∈ [z,TI,TO,i1,i2],mC X pins (upd H s.heap.objs.size (.tup [x,y])) c:=fun c hc'=>by
   obtain⟨f0,f⟩:=hf c hc';refine⟨?_,f⟩
   have:∃ o,s.heap.get? c=some o:=by
    have hc'':c=z ∨ c=TI ∨ c=TO ∨ c=i1 ∨ c=i2:=by simpa using hc'
    obtain⟨o1,e1,_⟩:=l1;obtain⟨o2,e2,_⟩:=l2;rcases hc'' with rfl | rfl | rfl | rfl | rfl
    ·exact⟨_,hz⟩
    ·exact⟨_,hTI⟩
    ·exact⟨_,hTO⟩
    ·exact⟨_,e1⟩
    ·exact⟨_,e2⟩
   obtain⟨o,e⟩:=this;rw[aO (ltz c o e).symm];exact f0
  have I2:Inv X pins σ (upd H s.heap.objs.size (.tup [x,y])) { s with heap:=h2 }:=by
   refine Inv.turnedL (s:={ s with heap:=s.heap.push { cls:=.type "tuple",data:=.seq #[u,v] } }) (h':=h2) (t':=s.toks) (its:=[z,TI,TO,i1,i2]) I1 (fun c o hc' e=>?_) hf1;have hc'':¬ (c=z ∨ c=TI ∨ c=TO ∨ c=i1 ∨ c=i2):=by simpa using hc'
   by_cases hcs:c=s.heap.objs.size
   ·subst hcs
    have e':(s.heap.push { cls:=.type "tuple",data:=.seq #[u,v] }).get? s.heap.objs.size=some o:=e;rw[br _ rfl] at e';cases e';exact aT
   ·have hlt:c < (s.heap.push { cls:=.type "tuple",data:=.seq #[u,v] }).objs.size:=aX e
    rw[dw] at hlt;refine k2 c o (fun z'=>hc'' (.inl z')) (fun z'=>hc'' (.inr (.inr (.inl z')))) (fun z'=>hc'' (.inr (.inr (.inr (.inl z'))))) (fun z'=>hc'' (.inr (.inr (.inr (.inr z'))))) ?_;rw[←e];exact (Heap.get?_push_ne _ _ _ hcs).symm
  refine⟨.ref s.heap.objs.size,_,I2,rfl,⟨_,x,y,rfl,hT,rfl,fun ws hw=>by rw[I.list_inj hw hx]; exact ex,fun ws hw=>by rw[I.list_inj hw hy]; exact ey⟩,?_,fun c hc'=>(hf1 c hc').1⟩;exact⟨b1,b2.extBut _ _ D.a1 hTI',⟨_,_,b2.extBut _ _ D.a2 a2⟩,a3.extBut b2.extBut D.a3,a4.extBut b2.extBut D.a4⟩
 done:=by
  intro X hP hw hK hc i pins s σ H E I hf st hg;subst hP hw hK;obtain⟨xs,ys,hx,hy,hl⟩:=hg;obtain⟨ia,ra,pa,za⟩:=I.list hx;obtain⟨ib,rb,pb,zb⟩:=I.list hy;have A:=Rj D st pa.isList pb.isList;have hla:=ra.length;have hlb:=rb.length;obtain⟨hz,hTI,⟨p,q,hTO⟩,l1,l2⟩:=st;refine wpAny_pyNext_zip_end (I.ok.hd hc) A hz hTI hTO l1 l2 pa.isList pb.isList (by
   rcases hl with hl | hl
   ·exact .inl (by simp; lia)
   ·exact .inr (by simp; lia)) fun h' k=>⟨rfl,?_⟩
  exact I.turnedL (t':=s.toks) (its:=[z,TI,TO,i1,i2]) (fun c o hc' e=>by
   have hc'':¬ (c=z ∨ c=TI ∨ c=TO ∨ c=i1 ∨ c=i2):=by simpa using hc'
   exact k c o (fun z'=>hc'' (.inl z')) (fun z'=>hc'' (.inr (.inr (.inl z')))) (fun z'=>hc'' (.inr (.inr (.inr (.inl z'))))) (fun z'=>hc'' (.inr (.inr (.inr (.inr z'))))) e) hf
 self:=fun _ _ _ _ _ st h=>wpAny_pyIter_zip st.1 h
section
variable {X:Cx}
inductive HM (K:LM)(R:It→Hp→Prop)(vs:LG)(H1:Hp):Prop | mk (a b:_) (_:vs=[.ref a,.ref b]) (_:(∃ xs,bh K H1 a xs)) (_:(∃ ys,bh K H1 b ys)) (_:R (Om K a b) H1):HM K R vs H1
def QM (K:LM)(ta:TA):TI:=fun σ H R=>ta σ H fun vs H1=>HM K R vs H1
theorem zQ:bootBuiltins "zip" = some (.type "zip"):=by decide +kernel
theorem oC {elts:LL}{ek:Nat}{epos:Pos}{a b:Expr}{ta:TA}{p pos:Pos}(hg:Gl X "zip")(hm:X.mg "zip" = none)(ha:PA X [a,b] ta)(hs:starEach [a,b] X.env=[(false,eval a X.env),(false,eval b X.env)]:=by rfl)(hs2:starEach [b] X.env=[(false,eval b X.env)]:=by rfl) :
  PI X (.Tuple elts ek epos) (.Call (.Name "zip" p) [a,b] [] pos) (QM X.K ta):=by
 intro pins s σ H R I h;refine Call_ (mf I hg hm zQ (eE (thn (ha pos pins s σ H _ I h) fun us s1 ⟨vs,H1,I1,r1,q1⟩=>?_) (by rw[hs,hs2]) (by rw[hs2]; rfl)));obtain⟨l1,l2,e,⟨xs,hx⟩,⟨ys,hy⟩,q⟩:=q1;subst e;obtain⟨u,v,rfl,ru,rv⟩:=Fn r1;cases ru;cases rv;obtain⟨ia,ra,pa,za⟩:=I1.list hx;obtain⟨ib,rb,pb,zb⟩:=I1.list hy;refine call_zip_2 pa.isList pb.isList fun h' hz hTI hTO hi1 hi2 hsz hk=>wpAny_pyIter_zip hz ?_
 have fr:∀ b,s1.heap.objs.size≤b→mC X pins H1 b:=fun b hb=>I1.fpOk hb (I1.hok.fresh hb)
 refine⟨_,[s1.heap.objs.size+4,s1.heap.objs.size+2,s1.heap.objs.size+3,s1.heap.objs.size,s1.heap.objs.size+1],_,_,H1,rfl,I1.kept (t':=s1.toks) hk,
  Fs (TI:=s1.heap.objs.size+2) (TO:=s1.heap.objs.size+3) (i1:=s1.heap.objs.size) (i2:=s1.heap.objs.size+1) (a:=l1) (b:=l2) ?_,⟨hz,hTI,⟨_,_,hTO⟩,hi1,hi2⟩,fun b hb=>?_,q⟩
 ·generalize s1.heap.objs.size=n
  have ne:∀ {x y:Nat},x≠y→(n+x:Nat)≠n+y:=fun h e=>h (jr e)
  exact⟨ne (by decide),ne (by decide),ne (x:=0) (by decide),ne (by decide),ne (by decide),ne (y:=0) (by decide),ne (by decide),ne (y:=0) (by decide),ne (by decide),ne (x:=0) (by decide)⟩
 ·have hb':b=s1.heap.objs.size+4 ∨ b=s1.heap.objs.size+2 ∨ b=s1.heap.objs.size+3 ∨ b=s1.heap.objs.size ∨ b=s1.heap.objs.size+1:=by simpa using hb
  rcases hb' with rfl | rfl | rfl | rfl | rfl
  ·exact fr _ (cS _ _)
  ·exact fr _ (cS _ _)
  ·exact fr _ (cS _ _)
  ·exact fr _ (au _)
  ·exact fr _ (cS _ _)
def Am (D:List (Str × Int)):List (Str × PyProof.Rows.KTD.Dat):=D.map fun p=>(p.1,.flat (.int p.2))
structure Og (K:LM)(a:Addr)(D:List (Str × Int)):Prop where
 lk:PyProof.Rows.KTD.tabLook (PyProof.Rows.KTD.datLooks fun b=>K.lookup b) (fun b=>K.lookup b) a (Am D)=true
inductive yI (a:Addr)(D:List (Str × Int))(x:V)(y:V)(H:Hp)(Q:VK):Prop | mk (k i:_) (_:x=.ref a) (_:y=.str k) (_:PyProof.Rows.KTD.datumAt k D=some i) (_:Q (.int i) H):yI a D x y H Q
def MU (a:Addr)(D:List (Str × Int)):R2:=fun x y H Q=>yI a D x y H Q
theorem tQ {k:Str}{i:Int}:∀ {D:List (Str × Int)},PyProof.Rows.KTD.datumAt k D=some i→PyProof.Rows.KTD.inKeys k (Am D)=true
 | [],h=>by cases h
 | (x,d) :: D,h=>by
  have h':(if decide (k=x)=true then some d else PyProof.Rows.KTD.datumAt k D)=some i:=h;show (decide (k=x) || PyProof.Rows.KTD.inKeys k (Am D))=true
  by_cases e:k=x
  ·rw[cn e]; rfl
  ·rw[bH e] at h' ⊢
   exact tQ (by simpa using h')
theorem vR {h:Heap}{k:Str}{i:Int}{P:Value→Prop}(hp:∀ t,P (.int i t)):∀ {D:List (Str × Int)},PyProof.Rows.KTD.datumAt k D=some i→PyProof.Rows.KTD.EachL h k P (Am D)
 | [],h=>by cases h
 | [(x,d)],h=>by
  have h':(if decide (k=x)=true then some d else none)=some i:=h;refine PyProof.Rows.KTD.eachL_last fun e=>?_
  rw[if_pos (cn e)] at h';cases h';exact PyProof.Rows.KTD.opened_int hp
 | (x,d) :: p :: D,h=>by
  have h':(if decide (k=x)=true then some d else PyProof.Rows.KTD.datumAt k (p :: D))=some i:=h;refine PyProof.Rows.KTD.eachL_ite ?_
  by_cases e:k=x
  ·rw[if_pos (cn e)] at h' ⊢
   cases h';exact PyProof.Rows.KTD.opened_int hp
  ·rw[if_neg (by simpa using e)] at h' ⊢
   exact vR hp h'
theorem vt:∀ D:List (Str × Int),((Am D).all fun p=>PyProof.Rows.KTD.plain p.2)=true
 | []=>rfl
 | (x,d) :: D=>vt D
theorem NR {a:Addr}{D:List (Str × Int)}(T:Og X.K a D):Ol X (MU a D):=by
 intro value slice pins s σ H x y v u Q I rx ry h hs;obtain⟨k,i,rfl,rfl,hk,q⟩:=h;cases rx;obtain⟨t,rfl⟩:=ry;have TT:PyProof.Rows.KTD.TextTab X.base a (Am D):=PyProof.Rows.KTD.text_of_look (fun b o e=>I.mod.kin b o e) T.lk;exact PyProof.Rows.KTD.item_textA ⟨TT,I.bk⟩ (vt D) (tQ hk) (vR (fun t'=>⟨.int i,H,I.tok _,⟨_,rfl⟩,q⟩) hk) hs
end
def Qj (y:Str):Str:="."++y
def fH (N xs:LK):LK:=N.map (fun y=>if y ∈ xs then Qj y else y)++xs
structure cw (S:Scope)(N:LK)(sc:Scope)(xs:LK):Prop where
 uniq:(sc.names.map (·.1)).Nodup
 kind:sc.kind=.function
 names:∀ y ∈ sc.names,y.2=.local→sc.names.lookup y.1=some .local
 loc:∀ x ∈ xs,sc.names.lookup x=some .local
 free:∀ y ∈ sc.names,y.2=.free→S.names.lookup y.1=some .cell ∨ S.names.lookup y.1=some .free
 only:∀ y ∈ sc.names,y.2=.local→y.1 ∈ xs ∨ y.1 = ".0"
 noC:∀ y ∈ sc.names,y.2≠.cell
 ne:∀ y ∈ sc.names,∀ x ∈ xs,y.1≠Qj x
 dot:∀ y ∈ N,y≠".0"
 nd:(fH N xs).Nodup
def Cx.blks (X:Cx)(N':LK)(sc:Scope)(s₀:Shared)(H₀:Hp)(fp:LI):Cx :=
 { X with N:=N',s₀:=s₀,H₀:=H₀,env:=compEnvC sc (j8 X.env.cells sc.names []) s₀.heap.objs.size X.env,outer:=X.stack,stack:=X.stack,ex:=fp,fn:=fun _=>false,pn:=[],xe:=fun _ _=>False }
section
variable {X:Cx}{pins:LD}{σ:St}{H:Hp}{s:Shared}{sc:Scope}{xs:LK}{fp:LI}
theorem EX (N xs:LK):(fH N xs).length=N.length+xs.length:=by simp[fH]
theorem IB {N xs:LK}{i:Nat}{y:Str}(h:(fH N xs)[i]? = some y)(hi:i < N.length):∃ y0,N[i]? = some y0∧((y0 ∈ xs∧y=Qj y0) ∨ (y0 ∉ xs∧y=y0)):=by
 unfold fH at h;rw[be (by simpa using hi),aq] at h;cases q:N[i]? with
 | none=>rw[q] at h; cases h
 | some y0 =>
  rw[q] at h;refine⟨y0,rfl,?_⟩;have h':(if y0 ∈ xs then Qj y0 else y0)=y:=aW h
  by_cases e:y0 ∈ xs
  ·rw[if_pos e] at h'; exact .inl ⟨e,h'.symm⟩
  ·rw[if_neg e] at h'; exact .inr ⟨e,h'.symm⟩
theorem Inv.has_cells (I:Inv X pins σ H s){S:Scope}(L:cw S X.N sc xs)(hS:X.env.scope=S):∀ y ∈ sc.names,y.2=.free→(X.env.cells.lookup y.1).isSome=true:=fun y hy hf=>by
 have k:X.env.kindOf y.1=some .cell ∨ X.env.kindOf y.1=some .free:=by
  show X.env.scope.names.lookup y.1=_ ∨ X.env.scope.names.lookup y.1=_;rw[hS];exact L.free y hy hf
 obtain⟨c,e⟩:=I.ok.has y.1 k;rw[e]; rfl
theorem Inv.blks (I:Inv X pins σ H s){S:Scope}(L:cw S X.N sc xs)(hS:X.env.scope=S)(hf:∀ b ∈ fp,mC X pins H b)(hb:∀ b ∈ fp,b < s.heap.objs.size){h1:Heap}{tk:Nat}{m:LO}(hn:h1.Ns s.heap.objs.size m)(hk:∀ b o,s.heap.get? b=some o→h1.get? b=some o):Inv (X.blks (fH X.N xs) sc s H fp) [] (σ++xs.map fun _=>none) H { s with heap:=h1,toks:=tk }:=by
 have sub:∀ y c,(j8 X.env.cells sc.names []).lookup y=some c→X.env.cells.lookup y=some c:=tZ sc.names [] fun _ _ z=>by cases z
 have hasC:∀ y,(y,NameKind.free) ∈ sc.names→∃ c,(j8 X.env.cells sc.names []).lookup y=some c:=fun y hy =>
  fU.mp (ua (I.has_cells L hS (y,.free) hy rfl) sc.names [] hy)
 have kinds:∀ y k,(relabel sc X.env).names.lookup y=some k→(k=.cell ∨ k=.free)→(y,NameKind.free) ∈ sc.names:=fun y k e hk=>by
  obtain⟨k0,hm,q⟩:=jI e;rcases q with rfl | ⟨_,rfl⟩
  ·rcases hk with rfl | rfl
   ·exact absurd rfl (L.noC _ hm)
   ·exact hm
  ·exact hm
 have stk:=I.stkSub;refine⟨⟨I.ok.mod,L.kind,I.ok.glob,I.ok.blt,au _,fun y z c e1 e2=>?_,fun y hy=>?_,fun y c z e=>?_,I.ok.hd,I.ok.frames,.inl rfl,fun b hb'=>?_,I.bs,aE I.ok.bsz I.sz,fun b o e hb'=>?_,fun b hb' z=>?_,I.stack,I.stkFree⟩,
  rfl,I.bare,Un.kept hk,⟨m,hn,fun i y v e1 e2 e3=>?_⟩,fun y c e=>?_,I.hok.fresh (au _),fun y c e=>?_,fun p hp=>absurd (show p ∈ ([]:LD) from hp) (by simp),I.hok.kept hk,?_⟩
 ·exact I.ok.inj y z c (sub y c e1) (sub z c e2)
 ·have hy':(relabel sc X.env).names.lookup y=some .cell ∨ (relabel sc X.env).names.lookup y=some .free:=hy
  rcases hy' with e | e
  ·exact hasC y (kinds y _ e (.inl rfl))
  ·exact hasC y (kinds y _ e (.inr rfl))
 ·exact absurd (show false=true from z) (by decide)
 ·obtain⟨f0,f1,f2,f3,f4,f5⟩:=hf b hb'
  exact⟨bZ (hb b hb'),fun y c e z=>f4 y c (sub y c e) z⟩
 ·obtain⟨f0,f1,f2,f3,f4,f5⟩:=hf b hb'
  rcases f3 with z | z
  ·exact I.ok.noex b o e z
  ·exact absurd (aH (aX (I.ok.bs b o e).1) z) (de _)
 ·obtain⟨f0,f1,f2,f3,f4,f5⟩:=hf b hb'
  rcases aQ.mp (stk b z) with q | q
  ·exact f1 q
  ·exact f2 q
 ·have hl:σ.length=X.N.length:=I.len
  have hi:i < X.N.length:=by
   by_cases hi:i < σ.length
   ·lia
   ·rw[aV (by lia),aq] at e2
    cases q:xs[i - σ.length]? with
    | none=>rw[q] at e2; cases e2
    | some n=>rw[q] at e2; cases e2
  rw[be (by lia)] at e2;obtain⟨y0,g1,g2⟩:=IB e1 hi;have vis:∃ k,(relabel sc X.env).names.lookup y=some k∧(k=.local ∨ k=.cell ∨ k=.free):=by
   rcases e3 with q | q | q
   ·exact⟨_,q,.inl rfl⟩
   ·exact⟨_,q,.inr (.inl rfl)⟩
   ·exact⟨_,q,.inr (.inr rfl)⟩
  obtain⟨k,q,hk'⟩:=vis;obtain⟨k0,hm,q0⟩:=jI q;rcases g2 with ⟨g2,rfl⟩ | ⟨g2,rfl⟩
  ·exact absurd rfl (L.ne _ hm _ g2)
  ·have hkc:k=.cell ∨ k=.free:=by
    rcases hk' with rfl | z
    ·exfalso
     rcases q0 with rfl | ⟨z,_⟩
     ·rcases L.only _ hm rfl with z | z
      ·exact g2 z
      ·exact L.dot y (ae g1) z
     ·cases z
    ·exact z
   have hfr:(y,NameKind.free) ∈ sc.names:=kinds y k q hkc;have visX:X.env.scope.names.lookup y=some .cell ∨ X.env.scope.names.lookup y=some .free:=by rw[hS]; exact L.free _ hfr rfl
   obtain⟨m0,_,hl0⟩:=I.loc;obtain⟨u,r,lk⟩:=hl0 i y v g1 e2 (.inr visX);refine⟨u,r,?_⟩;rcases lk with ⟨z,_⟩ | ⟨_,c,ec,hc⟩
   ·exfalso
    have z':X.env.scope.names.lookup y=some .local:=z;rcases visX with w' | w' <;> rw[z'] at w' <;> cases w'
   ·obtain⟨c',ec'⟩:=hasC y hfr
    have:c'=c:=aW ((sub y c' ec').symm.trans ec)
    subst this;refine .inr ⟨?_,c',ec',?_⟩
    ·rcases hkc with rfl | rfl
     ·exact .inl q
     ·exact .inr q
    ·obtain⟨o,ho,hd⟩:=hc
     exact⟨o,hk _ _ ho,hd⟩
 ·obtain⟨v,o,ho,hd⟩:=I.cell y c (sub y c e)
  exact⟨v,o,hk _ _ ho,hd⟩
 ·exact I.freeC y c (sub y c e)
 ·rw[ai,aa,I.len]
  exact (EX X.N xs).symm
def PX (X:Cx)(ifs:LL)(t:TT):Prop :=
 ∀ (pins:LD) (s:Shared) (σ:St) (H:Hp) (Q:Bool→Hp→Prop),Inv X pins σ H s→t σ H Q →
  wpAny (model X.prog X.w) X.A (forIn ifs true fun c r=>if r=true then do let ok ← isTrue c X.env (eval c X.env); pure (ForInStep.yield ok) else pure (ForInStep.yield r)) (TP X pins σ Q) X.xe s
def An:TT:=fun _ H Q=>Q true H
theorem pe:PX X [] An:=fun _ _ _ H _ I h=>wpAny_tests_nil ⟨H,I,h⟩
theorem JA {c:Expr}{t:TT}(h:PT X c t):PX X [c] t:=fun pins s σ H Q I q=>wpAny_tests_one (h pins s σ H Q I q)
theorem ET {prog:Program}{w:World}{A:Around}{R:Result→Shared→Prop}{elt target iter:Expr}{ifs:LL}{scope:Scope}{pos:Pos}{it acc:Value}{env:Env}(I:Nat→Shared→Prop)(turn:∀ n s,I n s→wpAny (model prog w) A (pyNext it) (fun r s₁=>match r with
   | none=>R (.ok .next) s₁
   | some v=>wpAny (model prog w) A (letOwnedTupleGo target it v) (fun _ s₁'=>wpAny (model prog w) A (assign target env v) (fun _ s₂ =>
     wpAny (model prog w) A (forIn ifs true fun c r=>if r=true then do let ok ← isTrue c env (eval c env); pure (ForInStep.yield ok) else pure (ForInStep.yield r)) (fun ok s₃ =>
      if ok=true then wpAny (model prog w) A (eval elt env) (fun x s₄ =>
       wpAny (model prog w) A (call (.builtin "list.append") [acc,x]) (fun _ s₅=>∃ m,m < n∧I m s₅) (fun _ _=>False) s₄) (fun _ _=>False) s₃
      else ∃ m,m < n∧I m s₃) (fun _ _=>False) s₂) (fun _ _=>False) s₁') (fun _ _=>False) s₁) (fun _ _=>False) s)(n:Nat)(h:I n s):codeAny (model prog w) A (.compLoop (.ListComp elt [⟨target,iter,ifs,0⟩] scope pos) 0 it acc env) R s:=by
 refine codeAny_loop rfl I (fun n s hI=>?_) n h;show wpAny _ A ((compTurn (.ListComp elt [⟨target,iter,ifs,0⟩] scope pos) 0 it acc env).onRaise fun x=>do noteFrame x env; theTreesLotGoes x) _ _ s;refine wpAny_noted ?_;rw[compTurn_list];refine af (oO (af (du (turn n s hI) (fun r s₁ h₁=>?_) fun _ _ z=>z.elim)));cases r with
 | none=>exact aA h₁
 | some v =>
  refine af (du h₁ (fun _ s₁' h₁'=>?_) fun _ _ z=>z.elim);refine af (du h₁' (fun _ s₂ h₂=>af (du h₂ (fun ok s₃ h₃=>?_) fun _ _ z=>z.elim)) fun _ _ z=>z.elim);cases ok with
  | false=>exact aA ⟨rfl,h₃⟩
  | true =>
   exact af (af (du h₃ (fun x s₄ h₄=>af (du h₄ (fun _ s₅ h₅=>aA (aA ⟨rfl,h₅⟩)) fun _ _ z=>z.elim)) fun _ _ z=>z.elim))
def Ow (n:Nat)(J:It)(g:TG)(tt:TT)(te:TE)(σ:St)(H1:Hp)(Q:VK):Prop:=∀ D,H1 D=none→∃ W:Nat→Nat→List V→Hp→Prop,(∃ m,W 0 m [] (upd H1 D (.lst []))) ∧
 ∀ i m ys H',W i m ys H'→H' D=some (.lst ys)∧((J.stop i H'∧Q (.ref D) H') ∨ (J.go i H'∧∀ z H2,J.yld i H' z H2→∀ os:St,os.length=n→g z (σ++os) H2 fun σ' H3=>(∃ os':St,σ'=σ++os'∧os'.length=n)∧tt σ' H3 fun ok H4 =>
  if ok=true then te σ' H4 fun v H5=>H5 D=some (.lst ys)∧ys.length < sizeLine∧∃ m',m' < m∧W (i+1) m' (ys++[v]) (upd H5 D (.lst (ys++[v]))) else ∃ m',m' < m∧W (i+1) m' ys H4))
def OM (n:Nat)(ti:TI)(g:TG)(tt:TT)(te:TE):TE:=fun σ H Q=>ti σ H fun J H1=>Ow n J g tt te σ H1 Q
theorem tL {elt iter target:Expr}{ifs:LL}{pos:Pos}{g:TG}{tt:TT}{te:TE}{S:Scope}{use:Option (Value→Sem Unit)}{QQ:LN}{Q:VK}{it:Addr}{tn:Nat→Heap→Prop}{J:It}(hc:X.calm=true)(L:cw S X.N sc xs)(hS:X.env.scope=S)(hg:∀ (s₀:Shared) (H₀:Hp) (fp:LI),PG (X.blks (fH X.N xs) sc s₀ H₀ fp) target g)(ht:∀ (s₀:Shared) (H₀:Hp) (fp:LI),PX (X.blks (fH X.N xs) sc s₀ H₀ fp) ifs tt)(he:∀ (s₀:Shared) (H₀:Hp) (fp:LI),PE (X.blks (fH X.N xs) sc s₀ H₀ fp) elt te)(I:Inv X pins σ H s)(T:zW X.prog X.w X.K target J fp it tn)(st:tn 0 s.heap)(hf:∀ b ∈ fp,mC X pins H b)(h:Ow xs.length J g tt te σ H Q)(fin:∀ (D C:Addr) (H':Hp) (s':Shared) (m:LO),Inv X pins σ H' s'→Q (.ref D) H'→s'.heap.Ns C m→H' C=none→s.heap.objs.size≤C→(∀ p ∈ X.pn++pins,p.1≠C)→C≠X.env.locals→(∀ y c,X.env.cells.lookup y=some c→c≠C)→compPost (model X.prog X.w) X.A X.xe use QQ (.ref D) C (.ok .next) s') :
  wpAny (model X.prog X.w) X.A (newList []) (fun acc s₃=>wpAny (model X.prog X.w) X.A (newFunctionEnv sc X.env.globals (j8 X.env.cells sc.names []) [] X.env.qual none .none (some X.env)) (fun cenv s₄ =>
   codeAny (model X.prog X.w) X.A (.compStart (.ListComp elt [⟨target,iter,ifs,0⟩] sc pos) 0 (.ref it) acc { cenv with scope:=relabel sc X.env }) (compPost (model X.prog X.w) X.A X.xe use QQ acc cenv.locals) s₄) X.xe s₃) X.xe s:=by
 refine gL ?_;have hD:H s.heap.objs.size=none:=I.hok.fresh (au _);obtain⟨W,⟨m0,w0⟩,turn⟩:=h s.heap.objs.size hD;have I2:Inv X pins σ (upd H s.heap.objs.size (.lst [])) { s with heap:=s.heap.push { cls:=.type "list",data:=.seq ([]:LH).toArray } }:=I.lnew (t':=s.toks) .nil (aZ _);have lt0:∀ b ∈ fp,b < s.heap.objs.size:=fun b hb=>by
  obtain⟨o,e,_⟩:=T.obj 0 s.heap st b hb;exact aX e
 have hf2:∀ b ∈ fp,mC X pins (upd H s.heap.objs.size (.lst [])) b:=fun b hb=>by
  obtain⟨f0,f⟩:=hf b hb;exact⟨by rw[aO (bZ (lt0 b hb))]; exact f0,f⟩
 have st2:tn 0 (s.heap.push { cls:=.type "list",data:=.seq ([]:LH).toArray }):=T.keep 0 _ _ st fun b _ o e=>ak _ e
 generalize hs2:({ s with heap:=s.heap.push { cls:=.type "list",data:=.seq ([]:LH).toArray } }:Shared)=s2 at I2;have eh:s2.heap=s.heap.push { cls:=.type "list",data:=.seq ([]:LH).toArray }:=by rw[←hs2]
 have lt2:∀ b ∈ fp,b < s2.heap.objs.size:=fun b hb=>by rw[eh,dw]; exact Nat.lt_succ_of_lt (lt0 b hb)
 rw[←eh] at st2;have le2:s.heap.objs.size≤s2.heap.objs.size:=by rw[eh,dw]; exact gu _
 show wpAny _ _ _ _ _ s2;refine vA ?_;rw[iT L.noC,jO L.noC];have hns₁:(s2.heap.push { cls:=.type "dict",data:=.dict #[] }).Ns s2.heap.objs.size _:=Heap.Ns.new s2.heap (.type "dict");have keep:∀ b o,s2.heap.get? b=some o→(s2.heap.push { cls:=.type "dict",data:=.dict #[] }).get? b=some o:=fun b o e=>ak _ e
 generalize s2.heap.push { cls:=.type "dict",data:=.dict #[] }=h₁ at hns₁ keep ⊢;have J0:Inv (X.blks (fH X.N xs) sc s2 (upd H s.heap.objs.size (.lst [])) fp) [] (σ++xs.map fun _=>none) (upd H s.heap.objs.size (.lst [])) { s2 with heap:=h₁ }:=I2.blks (tk:=s2.toks) L hS hf2 lt2 hns₁ keep;have st3:tn 0 h₁:=T.keep 0 _ _ st2 fun b _ o e=>keep b o e
 have stat:∀ {H':Hp},(∀ b ∈ fp,H' b=none)→∀ b ∈ fp,mC (X.blks (fH X.N xs) sc s2 (upd H s.heap.objs.size (.lst [])) fp) [] H' b:=fun {H'} hn b hb=>by
  have o1:=J0.ok.exf b hb;exact⟨hn b hb,o1.1,J0.ok.exfs b hb,.inl hb,o1.2,fun p hp=>absurd (show p ∈ ([]:LD) from hp) (by simp)⟩
 have loop:codeAny (model X.prog X.w) X.A (.compLoop (.ListComp elt [⟨target,iter,ifs,0⟩] sc pos) 0 (.ref it) (.ref s.heap.objs.size) (compEnvC sc (j8 X.env.cells sc.names []) s2.heap.objs.size X.env))
   (compPost (model X.prog X.w) X.A X.xe use QQ (.ref s.heap.objs.size) s2.heap.objs.size) { s2 with heap:=h₁ }:=by
  refine ET (fun n s'=>∃ i ys H' os,os.length=xs.length∧Inv (X.blks (fH X.N xs) sc s2 (upd H s.heap.objs.size (.lst [])) fp) [] (σ++os) H' s'∧tn i s'.heap∧(∀ b ∈ fp,H' b=none)∧W i n ys H') ?_ m0 ⟨0,[],_,xs.map fun _=>none,by simp,J0,st3,fun b hb=>(hf2 b hb).1,w0⟩;rintro n s4 ⟨i,ys,H4,os,los,J4,st4,fr4,w4⟩;obtain⟨hD4,tt'⟩:=turn i n ys H4 w4;rcases tt' with ⟨stop,q⟩ | ⟨go,step⟩
  ·refine thn (T.done (X.blks (fH X.N xs) sc s2 (upd H s.heap.objs.size (.lst [])) fp) rfl rfl rfl hc i [] s4 _ H4 _ J4 (stat fr4) st4 stop) fun r s5 ⟨hr,J5⟩=>?_
   subst hr;have I5:Inv X pins σ H4 s5:=I2.call' J5.os J5.base J5.hok J5.bare fun b hb=>by
    obtain⟨f0,f1,f2,f3,f4,f5⟩:=hf2 b hb;exact⟨f3,f1,f4,f5⟩
   obtain⟨m5,n5,_⟩:=J5.loc;exact fin _ _ H4 s5 m5 I5 q n5 J5.free le2 (fun p hp z=>by
     have:=aX (I2.pin p hp).1
     rw[z] at this
     exact de _ this) (dC I2.lt) (fun y c e z=>by
     obtain⟨v,o,ho,_⟩:=I2.cell y c e
     have:=aX ho
     rw[z] at this
     exact de _ this)
  ·refine thn (T.item (X.blks (fH X.N xs) sc s2 (upd H s.heap.objs.size (.lst [])) fp) rfl rfl rfl hc i [] s4 _ H4 _ J4 (stat fr4) st4 go) fun r s5 ⟨u,hr,h5⟩=>?_
   subst hr;refine thn h5 fun _ s6 ⟨z,H6,J6,r6,y6,st6,fr6⟩=>?_
   have J6':=J6.pinned (stat fr6) (T.obj _ _ st6);refine thn (hg s2 (upd H s.heap.objs.size (.lst [])) fp _ s6 _ H6 z u _ J6' r6 (step z H6 y6 os los)) fun _ s7 ⟨σ7,H7,J7,⟨os',e7,l7⟩,t7⟩=>?_
   subst e7;refine thn (ht s2 (upd H s.heap.objs.size (.lst [])) fp _ s7 _ H7 _ J7 t7) fun ok s8 ⟨H8,J8,t8⟩=>?_
   cases ok with
   | false =>
    rw[if_neg ba] at t8 ⊢;obtain⟨m',hm,w8⟩:=t8;refine⟨m',hm,i+1,ys,_,os',l7,J8.unpinned,T.keep _ _ _ st6 fun b hb o e=>(J8.pin (b,o) (bA _ (bA _ (gY hb e)))).1,fun b hb=>?_,w8⟩;obtain⟨o',e',_⟩:=T.obj _ _ st6 b hb;exact (J8.pin (b,o') (bA _ (bA _ (gY hb e')))).2.1
   | true =>
    rw[if_pos rfl] at t8 ⊢;refine thn (he s2 (upd H s.heap.objs.size (.lst [])) fp _ s8 _ H8 _ J8 t8) fun vv s9 ⟨v,H9,J9,r9,hD9,hz9,m',hm,w9⟩=>?_
    refine thn (dk (X:=X.blks (fH X.N xs) sc s2 (upd H s.heap.objs.size (.lst [])) fp) _ s9 _ H9 (.ref s.heap.objs.size) [v] (.ref s.heap.objs.size) [vv] (fun _ H'=>H'=upd H9 s.heap.objs.size (.lst (ys++[v]))) J9 rfl (.cons r9 .nil) ⟨_,ys,v,rfl,rfl,hD9,hz9,rfl⟩) fun _ s10 ⟨_,H10,J10,_,e10⟩=>?_
    subst e10;refine⟨m',hm,i+1,ys++[v],_,os',l7,J10.unpinned,T.keep _ _ _ st6 fun b hb o e=>(J10.pin (b,o) (bA _ (bA _ (gY hb e)))).1,fun b hb=>?_,w9⟩;obtain⟨o',e',_⟩:=T.obj _ _ st6 b hb;exact (J10.pin (b,o') (bA _ (bA _ (gY hb e')))).2.1
 refine codeAny_compStart_list loop (T.self _ 0 _ _ _ st3 loop)
theorem GY {elt iter target:Expr}{ifs:LL}{pos:Pos}{ti:TI}{g:TG}{tt:TT}{te:TE}{S:Scope}(hc:X.calm=true)(L:cw S X.N sc xs)(hS:X.env.scope=S)(hi:PI X target iter ti)(hg:∀ (s₀:Shared) (H₀:Hp) (fp:LI),PG (X.blks (fH X.N xs) sc s₀ H₀ fp) target g)(ht:∀ (s₀:Shared) (H₀:Hp) (fp:LI),PX (X.blks (fH X.N xs) sc s₀ H₀ fp) ifs tt)(he:∀ (s₀:Shared) (H₀:Hp) (fp:LI),PE (X.blks (fH X.N xs) sc s₀ H₀ fp) elt te)(hs:∀ x,foldedSetIterable iter X.env x=pure x:=by intro _; rfl) :
  PE X (.ListComp elt [⟨target,iter,ifs,0⟩] sc pos) (OM xs.length ti g tt te):=by
 intro pins s σ H Q I h;rw[eval_ListComp];refine gQ (use:=none) rfl hs (jR (I.has_cells L hS)) L.kind L.names (thn (hi pins s σ H _ I h) fun xv s₁ h₁=>thn h₁ fun itv s₂ h₂=>?_);obtain⟨it,fp,tn,J,H2,rfl,I2,T,st2,f2,q2⟩:=h₂;refine tL hc L hS hg ht he I2 T st2 f2 q2 ?_;intro D C H' s' m I' q hn hC hle hp hL hcl;refine⟨m,hn,fun h' hs'=>?_⟩;have I3:Inv X pins σ H' { s' with heap:=h' }:=I'.turned (t':=s'.toks) (fun b o hb e=>(hs'.2 b hb).trans e) hC hL (.inr (aE I2.sz hle)) hcl hp;exact⟨.ref D,H',I3,rfl,q⟩
theorem ql {elt iter target:Expr}{ifs:LL}{i:Nat}{y:Str}{py pos spos:Pos}{ti:TI}{g:TG}{tt:TT}{te:TE}{S:Scope}(hN:X.N.Nodup)(hi:X.N[i]? = some y)(hy:Fg X.env.scope y)(hc:X.calm=true)(L:cw S X.N sc xs)(hS:X.env.scope=S)(hit:PI X target iter ti)(hg:∀ (s₀:Shared) (H₀:Hp) (fp:LI),PG (X.blks (fH X.N xs) sc s₀ H₀ fp) target g)(ht:∀ (s₀:Shared) (H₀:Hp) (fp:LI),PX (X.blks (fH X.N xs) sc s₀ H₀ fp) ifs tt)(he:∀ (s₀:Shared) (H₀:Hp) (fp:LI),PE (X.blks (fH X.N xs) sc s₀ H₀ fp) elt te)(hsw:swapsWith (.ListComp elt [⟨target,iter,ifs,0⟩] sc pos) (some (.Name y py)) spos.line X.env=pure true:=by rfl)(hs:∀ x,foldedSetIterable iter X.env x=pure x:=by intro _; rfl)(hf:X.fn y=true ∨ X.env.scope.names.lookup y=some .local:=by first | exact .inl rfl | exact .inr rfl | assumption) :
  PS X (.Assign [.Name y py] (.ListComp elt [⟨target,iter,ifs,0⟩] sc pos) spos) (Ds (OM xs.length ti g tt te) (kW i)):=by
 intro pins s σ H D I h;rw[exec_Assign_Name_used _ _ _ _ hsw];refine af (oO (af ?_));show wpAny _ _ (do let _ ← comprehension (.ListComp elt [⟨target,iter,ifs,0⟩] sc pos) sc X.env _ (newList []) false (eval iter X.env) (some (assign (.Name y py) X.env))) _ _ s;refine af (du (gQ (use:=some (assign (.Name y py) X.env)) (Q:=fun _ s'=>SP X pins D .next s') rfl hs (jR (I.has_cells L hS)) L.kind L.names
  (thn (hit pins s σ H _ I h) fun xv s₁ h₁=>thn h₁ fun itv s₂ h₂=>?_)) (fun _ s' hq=>aA (aA hq)) fun _ _ e=>e)
 obtain⟨it,fp,tn,J,H2,rfl,I2,T,st2,f2,q2⟩:=h₂;refine tL (Q:=fun v H'=>D.nx (σ.set i (some v)) H') hc L hS hg ht he I2 T st2 f2 q2 ?_;intro D' C H' s' m I' q hn hC hle hp hL hcl;show wpAny _ _ (assign (.Name y py) X.env (.ref D')) _ _ s';refine Ah (qg I' hN hi hy (v:=.ref D') (u:=.ref D') rfl (fun s'' I'' ⟨a,sb,ha⟩=>?_) hf);have nCa:C≠a:=by
  rcases ha with rfl | ha
  ·exact hL
  ·exact fun z=>hcl y a ha z.symm
 refine⟨m,hn.sameBut sb nCa,fun h' hs'=>?_⟩;have I3:Inv X pins (σ.set i (some (.ref D'))) H' { s'' with heap:=h' }:=I''.turned (t':=s''.toks) (fun b o hb e=>(hs'.2 b hb).trans e) hC hL (.inr (aE I2.sz hle)) hcl hp;exact⟨_,H',I3,q⟩
def g2 (K:LM)(n:Nat):TG:=Py K 2 (HY (kW n) (HY (kW (n+1)) PD))
theorem wZ {S:Scope}{x y:Str}{px py tpos:Pos}{k:Nat}(hc:X.calm=true)(L:cw S X.N sc [x,y])(s₀:Shared)(H₀:Hp)(fp:LI):PG (X.blks (fH X.N [x,y]) sc s₀ H₀ fp) (.Tuple [.Name x px,.Name y py] k tpos) (g2 X.K X.N.length):=by
 refine gp (X:=X.blks (fH X.N [x,y]) sc s₀ H₀ fp) hc (bY (ny L.nd ?_ (.inl (lookup_relabel_local (L.loc x (by simp)))) (.inr (lookup_relabel_local (L.loc x (by simp))))) (bY (ny L.nd ?_ (.inl (lookup_relabel_local (L.loc y (by simp)))) (.inr (lookup_relabel_local (L.loc y (by simp))))) eJ))
 ·show (fH X.N [x,y])[X.N.length]? = some x
  unfold fH;rw[aV (by simp)];simp
 ·show (fH X.N [x,y])[X.N.length+1]? = some y
  unfold fH;rw[aV (by simp)];simp
theorem GX {S:Scope}{x:Str}{px:Pos}(L:cw S X.N sc [x])(s₀:Shared)(H₀:Hp)(fp:LI):PG (X.blks (fH X.N [x]) sc s₀ H₀ fp) (.Name x px) (kW X.N.length):=by
 refine ny L.nd ?_ (.inl (lookup_relabel_local (L.loc x (by simp)))) (.inr (lookup_relabel_local (L.loc x (by simp))));show (fH X.N [x])[X.N.length]? = some x;unfold fH;rw[aV (by simp)];simp
end
theorem Kq {n:Nat}{J:It}{te:TE}{σ:St}{H1:Hp}{Q:VK}(hn:σ.length=n)(h:∀ D,H1 D=none→∃ W:Nat→Nat→List V→Hp→Prop,(∃ m,W 0 m [] (upd H1 D (.lst []))) ∧
  ∀ i m ys H',W i m ys H'→H' D=some (.lst ys)∧((J.stop i H'∧Q (.ref D) H') ∨ (J.go i H'∧∀ z H2,J.yld i H' z H2→te (σ++[some z]) H2 fun v H3=>H3 D=some (.lst ys)∧ys.length < sizeLine∧∃ m',m' < m∧W (i+1) m' (ys++[v]) (upd H3 D (.lst (ys++[v])))))) :
  Ow 1 J (kW n) An te σ H1 Q:=by
 subst hn;intro D hD;obtain⟨W,w0,st⟩:=h D hD;refine⟨W,w0,fun i m ys H' hw=>?_⟩;obtain⟨e,d⟩:=st i m ys H' hw;refine⟨e,d.imp id fun⟨go,yl⟩=>⟨go,fun z H2 hy os los=>?_⟩⟩
 match os,los with
 | [o],_ =>
  have es:(σ++[o]).set σ.length (some z)=σ++[some z]:=by
   rw[iH _ _ (au _),il]
   rfl
  show (∃ os':St,(σ++[o]).set σ.length (some z)=σ++os'∧os'.length=1)∧An ((σ++[o]).set σ.length (some z)) H2 _;rw[es];exact⟨⟨[some z],rfl,rfl⟩,re (B:=∃ m',m' < m∧W (i+1) m' ys H2) (yl z H2 hy)⟩
section
variable {X:Cx}{sc:Scope}{x:Str}
theorem gE {elt iter:Expr}{px pos:Pos}{ti:TI}{te:TE}{S:Scope}(hc:X.calm=true)(L:cw S X.N sc [x])(hS:X.env.scope=S)(hi:PI X (.Name x px) iter ti)(he:∀ (s₀:Shared) (H₀:Hp) (fp:LI),PE (X.blks (fH X.N [x]) sc s₀ H₀ fp) elt te)(hs:∀ x,foldedSetIterable iter X.env x=pure x:=by intro _; rfl) :
  PE X (.ListComp elt [⟨.Name x px,iter,[],0⟩] sc pos) (Qr ti te):=by
 intro pins s σ H Q I h;rw[eval_ListComp];refine gQ (use:=none) rfl hs (jR (I.has_cells L hS)) L.kind L.names (thn (hi pins s σ H _ I h) fun xv s₁ h₁=>thn h₁ fun itv s₂ h₂=>?_);obtain⟨it,fp,tn,J,H2,rfl,I2,T,st2,f2,q2⟩:=h₂;refine tL hc L hS (GX L) (fun _ _ _=>pe) he I2 T st2 f2 (Kq I2.len q2) ?_;intro D C H' s' m I' q hn hC hle hp hL hcl;refine⟨m,hn,fun h' hs'=>?_⟩;have I3:Inv X pins σ H' { s' with heap:=h' }:=I'.turned (t':=s'.toks) (fun b o hb e=>(hs'.2 b hb).trans e) hC hL (.inr (aE I2.sz hle)) hcl hp;exact⟨.ref D,H',I3,rfl,q⟩
end
end L2
namespace M11
abbrev G (a b:Int):Int:=(Int.gcd a b:Nat)
theorem gcd_step (a b:Int):Int.gcd b (a.fmod b)=Int.gcd a b:=by
 rw[Int.fmod_def,Int.gcd_sub_mul_left_right,Int.gcd_comm]
theorem fmod_small (a b:Int)(h:b≠0):(a.fmod b).natAbs < b.natAbs:=by
 rcases Int.lt_or_lt_of_ne h with hb | hb
 ·have e:=Int.neg_fmod_neg a b
  have h1:=rm (-a) (b:=-b) (by lia);have h2:=Int.fmod_lt_of_pos (-a) (b:=-b) (by lia)
  lia
 ·have h1:=rm a hb
  have h2:=Int.fmod_lt_of_pos a hb
  lia
theorem gcd_end (a:Int):(if a < 0 then -a else a)=G a 0:=by
 show _=((Int.gcd a 0:Nat):Int);rw[Int.gcd_zero_right]
 split <;> lia
def sgn (t b:Int):Int:=if b < 0 then -(G t b) else G t b
def low (t b:Int):Int × Int:=(t.fdiv (sgn t b),b.fdiv (sgn t b))
theorem sgn_ne {t b:Int}(h:b≠0):sgn t b≠0:=by
 have:=cZ t h
 unfold sgn G
 split <;> lia
theorem Ra {t b:Int}(h:b≠0):G t b≤(b.natAbs:Int):=by
 have h1:Int.gcd t b ∣ b.natAbs:=by
  have:=ul.mpr (gi t b)
  simpa using this
 have h2:0 < b.natAbs:=by lia
 exact Int.ofNat_le.mpr (Nat.le_of_dvd h2 h1)
theorem sgn_le {t b:Int}(h:b≠0):(sgn t b).natAbs≤b.natAbs:=by
 have h1:=Ra (t:=t) h;have h2:0≤G t b:=Int.natCast_nonneg _;unfold sgn;generalize G t b=g at h1 h2 ⊢
 split <;> lia
theorem Ar (t b:Int):(sgn t b).natAbs=Int.gcd t b:=by
 unfold sgn G
 split <;> lia
theorem Dx (t b:Int):sgn t b ∣ t:=by
 unfold sgn
 split
 ·exact Int.neg_dvd.mpr (jd t b)
 ·exact jd t b
theorem Dw (t b:Int):sgn t b ∣ b:=by
 unfold sgn
 split
 ·exact Int.neg_dvd.mpr (gi t b)
 ·exact gi t b
theorem pk {t b:Int}(h:b≠0):∃ t' b',t=sgn t b * t'∧b=sgn t b * b'∧low t b=(t',b')∧0 < b'∧Int.gcd t' b'=1:=by
 have hn:=sgn_ne (t:=t) h;obtain⟨t',e1⟩:=Dx t b;obtain⟨b',e2⟩:=Dw t b;refine⟨t',b',e1,e2,?_,?_,?_⟩
 ·have f1:t.fdiv (sgn t b)=t':=(congrArg (fun z=>Int.fdiv z (sgn t b)) e1).trans (p8 t' hn)
  have f2:b.fdiv (sgn t b)=b':=(congrArg (fun z=>Int.fdiv z (sgn t b)) e2).trans (p8 b' hn);unfold low;rw[f1,f2]
 ·by_cases hb:b < 0
  ·have hs:sgn t b < 0:=by
    have:=cZ t h
    unfold sgn G;rw[if_pos hb]
    lia
   by_cases hp:0 < b'
   ·exact hp
   ·have:=Int.mul_nonneg_of_nonpos_of_nonpos (a:=sgn t b) (b:=b') (by lia) (by lia)
    lia
  ·have hs:0 < sgn t b:=by
    have:=cZ t h
    unfold sgn G;rw[if_neg hb]
    lia
   by_cases hp:0 < b'
   ·exact hp
   ·have:=gD (a:=sgn t b) (b:=b') (by lia) (by lia)
    lia
 ·have g1:Int.gcd (sgn t b * t') (sgn t b * b')=(sgn t b).natAbs * Int.gcd t' b':=Int.gcd_mul_left _ _ _
  rw[←e1,←e2,Ar] at g1;have g2:=cZ t h;have g3:Int.gcd t b * Int.gcd t' b'=Int.gcd t b * 1:=by lia
  exact Nat.eq_of_mul_eq_mul_left g2 g3
theorem low_cross {t b:Int}(h:b≠0):(low t b).1 * b=t * (low t b).2:=by
 obtain⟨t',b',e1,e2,e3,_⟩:=pk (t:=t) h;rw[e3];generalize sgn t b=d at e1 e2;subst e1 e2;show t' * (d * b')=d * t' * b';rw[←Int.mul_assoc,Bo t' d]
theorem low_pos {t b:Int}(h:b≠0):0 < (low t b).2:=by
 obtain⟨t',b',_,_,e3,h',_⟩:=pk (t:=t) h;rw[e3]; exact h'
theorem low_cop {t b:Int}(h:b≠0):Int.gcd (low t b).1 (low t b).2=1:=by
 obtain⟨t',b',_,_,e3,_,h'⟩:=pk (t:=t) h;rw[e3]; exact h'
theorem natAbs_le_of_mul {d x:Int}(h:d≠0):x.natAbs≤(d * x).natAbs:=by
 rw[nZ];exact Nat.le_mul_of_pos_left _ (by lia)
theorem low_le {t b:Int}(h:b≠0):(low t b).1.natAbs≤t.natAbs∧(low t b).2.natAbs≤b.natAbs:=by
 obtain⟨t',b',e1,e2,e3,_⟩:=pk (t:=t) h;have hn:=sgn_ne (t:=t) h;rw[e3];have h1:=natAbs_le_of_mul (x:=t') hn;have h2:=natAbs_le_of_mul (x:=b') hn;rw[←e1] at h1;rw[←e2] at h2;exact⟨h1,h2⟩
end M11
namespace M11
theorem CZ {x y z:Int}(h:Int.gcd x y=1)(d:y ∣ x * z):y ∣ z:=by
 have d':y.natAbs ∣ x.natAbs * z.natAbs:=by
  rw[←nZ];exact ul.mpr d
 have c:Nat.Coprime y.natAbs x.natAbs:=by
  show Nat.gcd y.natAbs x.natAbs=1;rw[Nat.gcd_comm];exact h
 exact ul.mp (Nat.Coprime.dvd_of_dvd_mul_left c d')
theorem zd {t b x y:Int}(hb:b≠0)(hy:0 < y)(hg:Int.gcd x y=1)(hc:x * b=t * y):low t b=(x,y):=by
 have c1:=low_cross (t:=t) hb;have p1:=low_pos (t:=t) hb;have g1:=low_cop (t:=t) hb;generalize low t b=l at c1 p1 g1;obtain⟨x',y'⟩:=l;have c1':x' * b=t * y':=c1;have p1':0 < y':=p1;have g1':Int.gcd x' y'=1:=g1;have e:x * y'=x' * y:=by
  have:(x * y') * b=(x' * y) * b:=by grind
  exact n8 hb this
 have d1:y ∣ y':=CZ hg ⟨x',by rw[e,Bo]⟩;have d2:y' ∣ y:=CZ g1' ⟨x,by rw[←e,Bo]⟩;have ey:y'=y:=Int.dvd_antisymm (by lia) (by lia) d2 d1;subst ey;have ex:x'=x:=by
  have:x * y'=x' * y':=e
  exact (n8 (by lia) this).symm
 rw[ex]
theorem low_eq {t b t' b':Int}(hb:b≠0)(hb':b'≠0)(h:t * b'=t' * b):low t b=low t' b':=by
 have c1:=low_cross (t:=t') hb';have p1:=low_pos (t:=t') hb';have g1:=low_cop (t:=t') hb';generalize low t' b'=l at c1 p1 g1;obtain⟨x,y⟩:=l;refine zd hb p1 g1 ?_;have c1':x * b'=t' * y:=c1
 have:(x * b) * b'=(t * y) * b':=by grind
 exact n8 hb' this
theorem low_self {x y:Int}(hy:0 < y)(hg:Int.gcd x y=1):low x y=(x,y):=zd (by lia) hy hg rfl
def foldG (b:Int)(ts:LF):Int:=ts.foldl (fun d t=>G d t) b
theorem P4 {a b:Int}(h:0 < a):0 < G a b:=m6.mpr (Int.gcd_pos_of_ne_zero_left b (by lia))
theorem foldG_spec:∀ (ts:LF) (b:Int),0 < b→0 < foldG b ts∧foldG b ts ∣ b∧∀ t ∈ ts,foldG b ts ∣ t
 | [],b,h=>⟨h,Int.dvd_refl _,fun t ht=>by cases ht⟩
 | t :: ts,b,h=>by
  have hp:=P4 (b:=t) h;obtain⟨h1,h2,h3⟩:=foldG_spec ts (G b t) hp;have e:foldG b (t :: ts)=foldG (G b t) ts:=rfl;rw[e];refine⟨h1,Int.dvd_trans h2 (jd b t),fun u hu=>?_⟩;rcases aQ.mp hu with rfl | hu
  ·exact Int.dvd_trans h2 (gi b u)
  ·exact h3 u hu
theorem foldG_one:∀ ts:LF,foldG 1 ts=1
 | []=>rfl
 | t :: ts=>by
  show foldG (G 1 t) ts=1
  have:G 1 t=1:=by unfold G; rw[Int.one_gcd]; rfl
  rw[this];exact foldG_one ts
def lowerR (ts:LF)(b:Int):List Int × Int:=(ts.map fun t=>t.fdiv (foldG b ts),b.fdiv (foldG b ts))
theorem fdiv_of_dvd {d t:Int}(hd:0 < d)(h:d ∣ t):∃ q,t=d * q∧t.fdiv d=q:=by
 obtain⟨q,e⟩:=h;exact⟨q,e,by rw[e]; exact p8 q (by lia)⟩
theorem lowerR_one {ts:LF}{b:Int}(h:foldG b ts=1):lowerR ts b=(ts,b):=by
 unfold lowerR;rw[h];simp only[Int.fdiv_one,List.map_id']
theorem lowerR_pos {ts:LF}{b:Int}(h:0 < b):0 < (lowerR ts b).2∧(lowerR ts b).2≤b:=by
 obtain⟨h1,h2,h3⟩:=foldG_spec ts b h;obtain⟨q,e1,e2⟩:=fdiv_of_dvd h1 h2;show 0 < b.fdiv (foldG b ts)∧b.fdiv (foldG b ts)≤b;rw[e2];generalize foldG b ts=d at *;have hq:0 < q:=by
  by_cases z:0 < q
  ·exact z
  ·have:=gD (a:=d) (b:=q) (by lia) (by lia)
   lia
 refine⟨hq,?_⟩;rw[e1]
 have:=lA (a:=1) (b:=d) (c:=q) (by lia) (by lia)
 lia
theorem lowerR_le {ts:LF}{b:Int}(h:0 < b):∀ x ∈ (lowerR ts b).1,∃ t ∈ ts,x.natAbs≤t.natAbs:=by
 obtain⟨h1,h2,h3⟩:=foldG_spec ts b h;intro x hx;obtain⟨t,ht,rfl⟩:=bg.mp hx;obtain⟨r,e3,e4⟩:=fdiv_of_dvd h1 (h3 t ht);refine⟨t,ht,?_⟩;rw[e4]
 have:=natAbs_le_of_mul (d:=foldG b ts) (x:=r) (by lia)
 rw[←e3] at this;exact this
def Bn (n:Nat)(x:Int):Prop:=x.natAbs < 2 ^ n
theorem Bn.mono {n m:Nat}{x:Int}(h:Bn n x)(hm:n≤m):Bn m x:=aH h (cH (by decide) hm)
theorem Bn.mul {n m:Nat}{x y:Int}(h:Bn n x)(h':Bn m y):Bn (n+m) (x * y):=by
 unfold Bn at *;rw[nZ,uy];exact Nat.mul_lt_mul'' h h'
theorem Bn.add {n:Nat}{x y:Int}(h:Bn n x)(h':Bn n y):Bn (n+1) (x+y):=by
 unfold Bn at *
 have:=Int.natAbs_add_le x y
 rw[Nat.pow_succ]
 lia
theorem Bn.le {n:Nat}{x y:Int}(h:Bn n x)(h':y.natAbs≤x.natAbs):Bn n y:=bU h' h
theorem bn_sum {n:Nat}:∀ (k:Nat) (l:LF),l.length≤2 ^ k→(∀ x ∈ l,Bn n x)→Bn (n+k+1) l.sum:=by
 intro k l hl h;have key:∀ l:LF,(∀ x ∈ l,Bn n x)→l.sum.natAbs≤l.length * 2 ^ n:=by
  intro l
  induction l with
  | nil=>intro _; simp
  | cons a l ih =>
   intro h;have h1:=ih fun x hx=>h x (aC _ hx)
   have h2:a.natAbs < 2 ^ n:=h a aK;rw[gW,bq,ik]
   have:=Int.natAbs_add_le a l.sum
   lia
 have h1:=key l h;have h2:l.length * 2 ^ n≤2 ^ k * 2 ^ n:=uz _ hl;have h3:2 ^ k * 2 ^ n=2 ^ (n+k):=by rw[←uy,Bl]
 have h4:0 < 2 ^ (n+k):=Nat.pow_pos (by decide);show l.sum.natAbs < 2 ^ (n+k+1);rw[Nat.pow_succ]
 lia
end M11
namespace M11
def manyR (a c:Int)(ts:LF)(b:Int):List Int × Int:=(ts.map fun t=>a.fdiv (G a b) * t.fdiv (foldG c ts),c.fdiv (foldG c ts) * b.fdiv (G a b))
theorem manyR_spec {a c b:Int}{ts:LF}(hc:0 < c)(hb:0 < b):0 < (manyR a c ts b).2∧(manyR a c ts b).2≤c * b∧(manyR a c ts b).1.map (fun t=>low t (manyR a c ts b).2)=ts.map (fun t=>low (a * t) (c * b))∧∀ x ∈ (manyR a c ts b).1,∃ t ∈ ts,x.natAbs≤(a * t).natAbs:=by
 obtain⟨h1,h2,h3⟩:=foldG_spec ts c hc;have p1:0 < G a b:=m6.mpr (cZ a (by lia));obtain⟨a',ea,fa⟩:=fdiv_of_dvd p1 (jd a b);obtain⟨b',eb,fb⟩:=fdiv_of_dvd p1 (gi a b);obtain⟨c',ec,fc⟩:=fdiv_of_dvd h1 h2;unfold manyR
 dsimp only
 rw[fa,fb,fc];generalize foldG c ts=g at *;generalize G a b=d at *;have pb:0 < b':=by
  by_cases z:0 < b'
  ·exact z
  ·have:=gD (a:=d) (b:=b') (by lia) (by lia)
   lia
 have pc:0 < c':=by
  by_cases z:0 < c'
  ·exact z
  ·have:=gD (a:=g) (b:=c') (by lia) (by lia)
   lia
 refine⟨gw pc pb,?_,?_,fun x hx=>?_⟩
 ·have l1:c'≤c:=by
   have:=lA (a:=1) (b:=g) (c:=c') (by lia) (by lia)
   lia
  have l2:b'≤b:=by
   have:=lA (a:=1) (b:=d) (c:=b') (by lia) (by lia)
   lia
  exact Int.mul_le_mul l1 l2 (by lia) (by lia)
 ·rw[cu]
  refine dN fun t ht=>?_
  obtain⟨t',et,ft⟩:=fdiv_of_dvd h1 (h3 t ht);show low (a' * t.fdiv g) (c' * b')=low (a * t) (c * b);rw[ft];have z1:=gw pc pb;have z2:=gw hc hb;refine low_eq (by lia) (by lia) ?_;clear fa fb fc ft h2 h3;rw[ea,eb,ec,et]
  grind
 ·obtain⟨t,ht,rfl⟩:=bg.mp hx
  obtain⟨t',et,ft⟩:=fdiv_of_dvd h1 (h3 t ht);refine⟨t,ht,?_⟩;rw[ft];have e:a * t=(d * g) * (a' * t'):=by
   clear fa fb fc ft h2 h3 hx;rw[ea,et]
   grind
  rw[e];exact natAbs_le_of_mul (by have:=gw p1 h1; lia)
theorem manyR_len (a c:Int)(ts:LF)(b:Int):(manyR a c ts b).1.length=ts.length:=by unfold manyR; simp
end M11
namespace L2
open PySem PySem.Spec PyProof.Rows
section
variable {X:Cx}
end
def P3 (K:LM)(a:Addr):It :=
 ⟨fun i H=>∃ xs x,bh K H a xs∧xs[i]? = some x,
  fun i H z H'=>∃ t x,z=.ref t∧H t=none∧H'=upd H t (.tup [.int (i:Int),x])∧∀ xs,bh K H a xs→xs[i]? = some x,
  fun i H=>∃ xs,bh K H a xs∧xs.length≤i⟩
def RO (e it a:Addr)(i:Nat)(h:Heap):Prop:=(∃ old,IsEnum h e it (i:Int) old)∧h.IsListIter it a i
theorem Dq {P:Program}{w:World}{K:LM}{elts:LL}{ek:Nat}{epos:Pos}{e it a:Addr}(ne:e≠it):zW P w K (.Tuple elts ek epos) (P3 K a) [e,it] e (RO e it a) where
 mem:=by simp
 obj:=fun i h st c hc=>by
  obtain⟨⟨old,he⟩,⟨o1,e1,c1,d1⟩⟩:=st;have hc':c=e ∨ c=it:=by simpa using hc
  rcases hc' with rfl | rfl
  ·exact⟨_,he,fun v e=>by cases e⟩
  ·exact⟨_,e1,fun v e=>by rw[d1] at e; cases e⟩
 keep:=fun i h h' st k=>by
  obtain⟨⟨old,he⟩,l1⟩:=st;exact⟨⟨old,k e (by simp) _ he⟩,l1.at fun o q=>k it (by simp) o q⟩
 item:=by
  intro X hP hw hK hc i pins s σ H E I hf st hg;subst hP hw hK;obtain⟨xs,x,hx,ex⟩:=hg;obtain⟨ia,ra,pa,za⟩:=I.list hx;obtain⟨u,hu,ru⟩:=ra.get ex;obtain⟨⟨old,he⟩,l1⟩:=st;refine wpAny_pyNext_enum_item he l1 pa.isList (x:=u) (by simpa using hu) ne fun h' a1 a2 a3 a4 a5=>?_
  refine⟨_,rfl,wpAny_letOwnedTupleGo_enum a1 fun h2 b1 b2=>?_⟩;have hT:H s.heap.objs.size=none:=I.hok.fresh (au _);have ltz:∀ c o,s.heap.get? c=some o→s.heap.objs.size≠c:=fun c o q=>dC (aX q)
  have Te:s.heap.objs.size≠e:=ltz _ _ he;have aT:h2.get? s.heap.objs.size=some { cls:=.type "tuple",data:=.seq #[.int i s.toks,u] }:=b2.extBut _ _ Te a3;have k2:∀ c o,c≠e→c≠it→s.heap.get? c=some o→h2.get? c=some o:=fun c o n1 n2 q=>b2.extBut _ _ n1 (a5 c o n1 n2 q)
  have I1:Inv X pins σ (upd H s.heap.objs.size (.tup [.int (i:Int),x])) { s with heap:=s.heap.push { cls:=.type "tuple",data:=.seq #[.int i s.toks,u] },toks:=s.toks+1 }:=by
   refine I.laid (t':=s.toks+1) (fun c o q=>ak _ q) (au _) ?_;exact⟨(by show 2≤sizeLine; decide),[.int i s.toks,u],.cons ⟨_,rfl⟩ (.cons ru .nil),IsTup.new s.heap _⟩
  have hf1:∀ c ∈ [e,it],mC X pins (upd H s.heap.objs.size (.tup [.int (i:Int),x])) c:=fun c hc'=>by
   obtain⟨f0,f⟩:=hf c hc';refine⟨?_,f⟩
   have:∃ o,s.heap.get? c=some o:=by
    have hc'':c=e ∨ c=it:=by simpa using hc'
    obtain⟨o1,e1,_⟩:=l1;rcases hc'' with rfl | rfl
    ·exact⟨_,he⟩
    ·exact⟨_,e1⟩
   obtain⟨o,q⟩:=this;rw[aO (ltz c o q).symm];exact f0
  have I2:Inv X pins σ (upd H s.heap.objs.size (.tup [.int (i:Int),x])) { s with heap:=h2,toks:=s.toks+1 }:=by
   refine Inv.turnedL (s:={ s with heap:=s.heap.push { cls:=.type "tuple",data:=.seq #[.int i s.toks,u] },toks:=s.toks+1 }) (h':=h2) (t':=s.toks+1) (its:=[e,it]) I1 (fun c o hc' q=>?_) hf1;have hc'':¬ (c=e ∨ c=it):=by simpa using hc'
   by_cases hcs:c=s.heap.objs.size
   ·subst hcs
    have e':(s.heap.push { cls:=.type "tuple",data:=.seq #[.int i s.toks,u] }).get? s.heap.objs.size=some o:=q;rw[br _ rfl] at e';cases e';exact aT
   ·refine k2 c o (fun z'=>hc'' (.inl z')) (fun z'=>hc'' (.inr z')) ?_
    rw[←q];exact (Heap.get?_push_ne _ _ _ hcs).symm
  refine⟨.ref s.heap.objs.size,_,I2,rfl,⟨_,x,rfl,hT,rfl,fun ws hw=>by rw[I.list_inj hw hx]; exact ex⟩,?_,fun c hc'=>(hf1 c hc').1⟩;exact⟨⟨u,b1⟩,a2.extBut b2.extBut ne.symm⟩
 done:=by
  intro X hP hw hK hc i pins s σ H E I hf st hg;subst hP hw hK;obtain⟨xs,hx,hl⟩:=hg;obtain⟨ia,ra,pa,za⟩:=I.list hx;have hla:=ra.length;obtain⟨⟨old,he⟩,l1⟩:=st;refine wpAny_pyNext_enum_end (I.ok.hd hc) he l1 pa.isList (by simp; lia) fun h' k=>⟨rfl,?_⟩
  exact I.turnedL (t':=s.toks) (its:=[e,it]) (fun c o hc' q=>by
   have hc'':¬ (c=e ∨ c=it):=by simpa using hc'
   exact k c o (fun z'=>hc'' (.inr z')) q) hf
 self:=fun _ _ _ _ _ st h=>by
  obtain⟨⟨old,he⟩,_⟩:=st;exact wpAny_pyIter_enum he h
section
variable {X:Cx}
inductive CG (K:LM)(R:It→Hp→Prop)(vs:LG)(H1:Hp):Prop | mk (a:_) (_:vs=[.ref a]) (_:(∃ xs,bh K H1 a xs)) (_:R (P3 K a) H1):CG K R vs H1
def Px (K:LM)(ta:TA):TI:=fun σ H R=>ta σ H fun vs H1=>CG K R vs H1
theorem rO {elts:LL}{ek:Nat}{epos:Pos}{a:Expr}{ta:TA}{p pos:Pos}(hg:Gl X "enumerate")(hm:X.mg "enumerate" = none)(ha:PA X [a] ta)(hs:starEach [a] X.env=[(false,eval a X.env)]:=by rfl) :
  PI X (.Tuple elts ek epos) (.Call (.Name "enumerate" p) [a] [] pos) (Px X.K ta):=by
 intro pins s σ H R I h;refine Call_ (mf I hg hm boot_enumerate (eE (thn (ha pos pins s σ H _ I h) fun us s1 ⟨vs,H1,I1,r1,q1⟩=>?_) hs rfl));obtain⟨l1,e,⟨xs,hx⟩,q⟩:=q1;subst e;obtain⟨u,rfl,ru⟩:=jM r1;cases ru;obtain⟨ia,ra,pa,za⟩:=I1.list hx;refine call_enumerate_list pa.isList fun h' he hi hsz hk=>wpAny_pyIter_enum he ?_
 have fr:∀ b,s1.heap.objs.size≤b→mC X pins H1 b:=fun b hb=>I1.fpOk hb (I1.hok.fresh hb)
 refine⟨_,[s1.heap.objs.size+1,s1.heap.objs.size],_,_,H1,rfl,I1.kept (t':=s1.toks) hk,
  Dq (it:=s1.heap.objs.size) (a:=l1) (fun z=>by simp at z),⟨⟨_,he⟩,hi⟩,fun b hb=>?_,q⟩
 have hb':b=s1.heap.objs.size+1 ∨ b=s1.heap.objs.size:=by simpa using hb
 rcases hb' with rfl | rfl
 ·exact fr _ (cS _ _)
 ·exact fr _ (au _)
theorem pH {K:LM}{a:Addr}{xs:LG}{g:TG}{tb:TS}{D:qB}{σ:St}{H:Hp}(Pv:Nat→St→Hp→Prop)(h0:Pv 0 σ H)(hl:∀ i σ H,i≤xs.length→Pv i σ H→bh K H a xs)(hs:∀ (i:Nat) (x:V) (t:Addr) σ H,xs[i]? = some x→Pv i σ H→H t=none→g (.ref t) σ (upd H t (.tup [.int (i:Int),x])) fun σ2 H2=>tb { D with nx:=Pv (i+1),ct:=Pv (i+1),bk:=D.nx } σ2 H2)(hd:∀ σ H,Pv xs.length σ H→D.nx σ H) :
  ∃ W:Nat→Nat→St→Hp→Prop,(∃ m,W 0 m σ H)∧∀ i m σ H,W i m σ H →
   ((P3 K a).stop i H∧D.nx σ H) ∨ ((P3 K a).go i H∧∃ N:St→Hp→Prop,(∀ σ' H',N σ' H'→∃ m',m' < m∧W (i+1) m' σ' H')∧∀ x H',(P3 K a).yld i H x H'→g x σ H' fun σ2 H2=>tb { D with nx:=N,ct:=N,bk:=D.nx } σ2 H2):=by
 refine⟨fun i m σ H=>m=xs.length - i∧i≤xs.length∧Pv i σ H,⟨xs.length,by simp,aZ _,h0⟩,?_⟩;rintro i m σ H ⟨rfl,hi,p⟩;have q1:=hl i σ H hi p
 by_cases lt:i < xs.length
 ·refine .inr ⟨⟨xs,xs[i],q1,ax lt⟩,Pv (i+1),fun σ' H' p'=>⟨xs.length - (i+1),by lia,rfl,lt,p'⟩,fun x H' y=>?_⟩
  obtain⟨t,x1,rfl,ht,rfl,g1⟩:=y;exact hs i x1 t σ H (g1 xs q1) p ht
 ·have ei:i=xs.length:=by lia
  subst ei;exact .inl ⟨⟨xs,q1,au _⟩,hd σ H p⟩
theorem HL {prog:Program}{w:World}{A:Around}{E:LN}{s:Shared}{Q:LN}{l:Addr}{arr:LU}{n:Nat}{k:Int}{t1:Tok}{u2:Value}(hc0:¬(!Builtin.List.listFitsIndex k)=true)(hs1:arr.size≤sizeLine)(e:s.heap.get? l=some { cls:=.type "list",data:=.seq arr n })(h:Q .none { s with heap:=s.heap.update l (Obj.mapSeq fun xs=>have k:=if k < 0 then (k+(xs.size:Int)).toNat else min k.toNat xs.size; (xs.extract 0 k).push u2++xs.extract k),toks:=s.toks }) :
  wpAny (model prog w) A (call (.builtin "list.insert") [.ref l,.int k t1,u2]) Q E s :=
 call_meets F.slot_list_insert ⟨_,e,rfl⟩ F.entry_list_insert (F.args_list_insert_3 _ _ _) (PySem.AutoSeq1.list_insert_list_int_val_1 l arr n k t1 u2 hc0 hs1) ⟨e,h⟩
inductive vm (x:V)(vs:LG)(H:Hp)(Q:VK):Prop | mk (l:Addr) (xs:LG) (k:Nat) (y:V) (_:x=.ref l) (_:vs=[.int (k:Int),y]) (_:H l=some (.lst xs)) (_:k≤xs.length) (_:xs.length < sizeLine) (_:Q .non (upd H l (.lst (xs.take k++y :: xs.drop k)))):vm x vs H Q
def Jt:V→List V→Hp→VK→Prop:=fun x vs H Q=>vm x vs H Q
theorem Ev:Ov X "list.insert" Jt:=by
 intro pins s σ H x vs v us Q I rx rv h;obtain⟨l,xs,k,y,rfl,rfl,hH,hk,hz,q⟩:=h;cases rx;obtain⟨u1,u2,rfl,⟨t1,rfl⟩,r2⟩:=rv.two;obtain⟨z,its,n,r,hl,e⟩:=I.lstM hH;have hn:=oF;have hf:Builtin.List.listFitsIndex (k:Int)=true:=by
  unfold Builtin.List.listFitsIndex;rw[cG,cy,cy]
  lia
 have hc0:¬(!Builtin.List.listFitsIndex (k:Int))=true:=by rw[hf]; decide
 have hs1:its.toArray.size≤sizeLine:=by rw[aI]; lia
 refine HL hc0 hs1 e ?_;refine⟨.non,_,I.lset (its':=its.take k++u2 :: its.drop k) hH e ?_ ((r.take k).append (.cons r2 (r.drop k))) ?_,rfl,q⟩
 ·have e1:(if ((k:Nat):Int) < 0 then (((k:Nat):Int)+(its.toArray.size:Int)).toNat else min ((k:Nat):Int).toNat its.toArray.size)=k:=by
   rw[if_neg (by lia),bC,aI]
   lia
  dsimp only
  rw[e1]
  apply Array.ext'
  simp;exact dE (by rw[df]; exact au _)
 ·rw[ai,bq,bB,df]
  lia
end
noncomputable def tS (h:Heap)(d:PyData)(u:Value):Bool:=@decide (∃ e as,Reads h u e as∧e.canLay0=true∧PyData.eqv e d=true) (Classical.propDecidable _)
theorem CH {h:Heap}{d e:PyData}{u:Value}{as:LI}(r:Reads h u e as)(l:e.canLay0=true):tS h d u=PyData.eqv e d:=by
 unfold tS;cases q:PyData.eqv e d with
 | true=>exact @decide_eq_true _ (Classical.propDecidable _) ⟨e,as,r,l,q⟩
 | false =>
  refine @decide_eq_false _ (Classical.propDecidable _) fun⟨e',as',r',l',q'⟩=>?_
  rw[PySem.SeqAt.Reads.unique e e' u as as' l r r',q'] at q;cases q
theorem tR {h:Heap}{d:PyData}:∀ {us:LH} {ds:LW} {as:LI},ReadsAll h us ds as→PyData.canLayAll0 ds=true→us.length=ds.length∧∀ (i:Nat) (h1:i < us.length) (h2:i < ds.length),tS h d us[i]=PyData.eqv ds[i] d∧∃ bs,Reads h us[i] ds[i] bs∧ds[i].canLay0=true
 | _,_,_,.nil,_=>⟨rfl,fun i h1=>absurd h1 (by simp)⟩
 | _,_,_,.cons r rs,l=>by
  simp only[PyData.canLayAll0,cG] at l;obtain⟨e,g⟩:=tR (d:=d) rs l.2;refine⟨by rw[bq,bq,e],fun i h1 h2=>?_⟩;cases i with
  | zero=>exact⟨CH r l.1,_,r,l.1⟩
  | succ i=>exact g i (by simpa using h1) (by simpa using h2)
theorem C6 {h:Heap}{d:PyData}:∀ {us:LH} {ds:LW} {as:LI},ReadsAll h us ds as→PyData.canLayAll0 ds=true→us.any (tS h d)=ds.any fun e=>PyData.eqv e d
 | _,_,_,.nil,_=>rfl
 | _,_,_,.cons r rs,l=>by
  simp only[PyData.canLayAll0,cG] at l;rw[iF,iF,CH r l.1,C6 rs l.2]
theorem vJ {A:Around}{s:Shared}{x:Value}{d:PyData}{bs:LI}(rx:Reads s.heap x d bs)(lx:d.canLay0=true)(hu:A.units+d.depth < cLine){us:LH}{ds:LW}{as:LI}(r:ReadsAll s.heap us ds as)(l:PyData.canLayAll0 ds=true) :
  ∀ u ∈ us,SeqAt.EqAt A s u x (tS s.heap d u):=by
 intro u hm;obtain⟨i,hi,rfl⟩:=xH hm;obtain⟨e,g⟩:=tR (d:=d) r l;obtain⟨g1,cs,g2,g3⟩:=g i hi (by lia);rw[g1];exact PySem.SeqAt.eqAt_reads _ _ A s _ _ _ _ g2 rx g3 lx (bU (xG (Nat.min_le_right _ _) _) hu)
section
variable {X:Cx}
inductive vk (K:LM)(x:V)(y:V)(H:Hp)(Q:VK):Prop | mk (p xs ds d:_) (_:y=.ref p) (_:bh K H p xs) (_:DAs K any H xs ds) (_:DA K any H x d) (_:(PyData.canLayAll0 ds=true∧d.canLay0=true∧d.depth≤32)) (_:Q (.bl (!ds.any fun e=>PyData.eqv e d)) H):vk K x y H Q
def Js (K:LM):R2:=fun x y H Q=>vk K x y H Q
theorem Ef (hu:X.A.units+64 < cLine):pY X (compareOp .NotIn) (Js X.K):=by
 intro pins s σ H x y v u Q I rx ry h;obtain⟨p,xs,ds,d,rfl,hq,hs,hd,⟨l1,l2,l3⟩,q⟩:=h;cases ry;obtain⟨its,r,pl,hz⟩:=I.list hq;obtain⟨as,p1⟩:=hs.reads I r;obtain⟨bs,p2⟩:=hd.reads I rx;refine SeqAt.notIn_listAt (tS s.heap d) pl.isList (fun w hw=>vJ p2 l2 (by rw[Around.in1_units]; lia) p1 l1 w (by simpa using hw)) ⟨.bl _,H,I,rfl,?_⟩;rw[show its.toArray.any (tS s.heap d)=its.any (tS s.heap d) by simp,C6 p1 l1];exact q
inductive vn (K:LM)(x:V)(vs:LG)(H:Hp)(Q:VK):Prop | mk (l xs y ds d:_) (_:x=.ref l) (_:vs=[y]) (_:H l=some (.lst xs)) (_:DAs K any H xs ds) (_:DA K any H y d) (_:(PyData.canLayAll0 ds=true∧d.canLay0=true∧d.depth≤32)) (_:(ds.findIdx fun e=>PyData.eqv e d) < ds.length) (_:Q (.int ((ds.findIdx fun e=>PyData.eqv e d:Nat):Int)) H):vn K x vs H Q
def Ju (K:LM):V→List V→Hp→VK→Prop:=fun x vs H Q=>vn K x vs H Q
theorem Ew (hu:X.A.units+64 < cLine):Ov X "list.index" (Ju X.K):=by
 intro pins s σ H x vs v us Q I rx rv h;obtain⟨l,xs,y,ds,d,rfl,rfl,hH,hs,hd,⟨l1,l2,l3⟩,hj,q⟩:=h;cases rx;obtain⟨u,rfl,ru⟩:=rv.one;obtain⟨z,its,n,r,hl,e⟩:=I.lstM hH;obtain⟨as,p1⟩:=hs.reads I r;obtain⟨bs,p2⟩:=hd.reads I ru;obtain⟨g0,g⟩:=tR (d:=d) p1 l1;have hn:=oF;refine call_meets F.slot_list_index ⟨_,e,rfl⟩ F.entry_list_index (F.args_list_index_2 _ _) (SeqAt.list_indexAt l its.toArray n _ _ u (tS s.heap d) (ds.findIdx fun e=>PyData.eqv e d) (by simpa[g0] using hj) (by lia) ?_ ?_) ⟨e,fun w hw=>vJ p2 l2 (by rw[Around.in1_units]; lia) p1 l1 w (by simpa using hw),?_⟩
 ·have:=(g (ds.findIdx fun e=>PyData.eqv e d) (by lia) hj).1
  show tS s.heap d (its[ds.findIdx fun e=>PyData.eqv e d]'(by lia))=true;rw[this];exact List.findIdx_getElem (w:=hj)
 ·intro m hm lt
  have hm':m < its.length:=by simpa using hm
  have:=(g m hm' (by lia)).1
  show tS s.heap d (its[m]'hm')=false;rw[this]
  have:=List.not_of_lt_findIdx lt
  simpa using this
 ·exact⟨.int _,H,I.tok _,⟨_,rfl⟩,q⟩
theorem EY (bs:List Bool):(List.range bs.length).all (fun i=>(bs[i]?).getD true)=bs.all id:=by
 rw[gK,qA,qA]
 constructor
 ·intro h b hb
  obtain⟨i,hi⟩:=List.getElem?_of_mem hb
  have:=h i (dX.mpr (aN.mp hi).1)
  rw[hi] at this;exact this
 ·intro h i hi
  have e:=ax (dX.mp hi);rw[e];exact h _ (E5 _)
theorem Iw (hc:X.calm=true):iV X (.builtin "all") (fun xs H Q=>∃ (p:Addr) (bs:List Bool),xs=[.ref p]∧bh X.K H p (bs.map V.bl)∧Q (.bl (bs.all id)) H):=by
 intro pins s σ H xs us Q I r h;obtain⟨p,bs,rfl,hq,q⟩:=h;obtain⟨u,rfl,rx⟩:=jM r;cases rx;obtain⟨its,rv,pl,hz⟩:=I.list hq;have hl:=rv.length;rw[aa] at hl;refine call_all_walk (oM pl.isList ?_);have hne:p≠s.heap.objs.size:=by
  obtain⟨o,e,_⟩:=id pl.isList;exact bZ (aX e)
 refine⟨_,_,_,_,_,_,fun i=>(bs[i]?).getD true,rfl,Walks.list (A:=X.A.in1) (I.ok.hd hc) _ p hne its.toArray,?_,?_,?_⟩
 ·exact⟨⟨_,br _ rfl,rfl,rfl⟩,pl.isList.at fun o e=>ak _ e⟩
 ·intro i v s2 Q2 E2 hi hq2
  have hi':its[i]? = some v:=by simpa using hi
  have li:i < bs.length:=by rw[hl]; exact (aN.mp hi').1
  have eb:(bs.map V.bl)[i]? = some (.bl bs[i]):=by rw[aq,ax li]; rfl
  obtain⟨u,hu,ru⟩:=rv.get eb;rw[hi'] at hu;cases hu;cases ru;refine iJ ?_;have hq3:Q2 ((bs[i]?).getD true) s2:=hq2;rw[ax li] at hq3;exact hq3
 ·intro h' tk hk
  have e:(List.range its.toArray.size).all (fun i=>(bs[i]?).getD true)=bs.all id:=by
   rw[aI,←hl];exact EY bs
  rw[e];exact⟨.bl (bs.all id),H,I.kept fun b o e=>hk b o (by
   intro z
   have:=aw.mp z
   subst this
   exact de _ (aX e)) (ak _ e),rfl,q⟩
inductive Ca (K:LM)(xs:LG)(H:Hp)(Q:VK):Prop | mk (a d:_) (_:xs=[.ref a]) (_:DA K any H (.ref a) d) (_:(d.showable=true∧d.hasDict=false∧d.depth≤32∧d.shown.length≤sizeLine)) (_:Q (.str d.shown) H):Ca K xs H Q
def OZ (K:LM):List V→Hp→VK→Prop:=fun xs H Q=>Ca K xs H Q
theorem vU (hg:X.A.guards=some [])(hu:X.A.units+64 < cLine):iV X (.type "str") (OZ X.K):=by
 intro pins s σ H xs us Q I r h;obtain⟨a,d,rfl,hd,⟨h1,h2,h3,h4⟩,q⟩:=h;obtain⟨u,rfl,rx⟩:=jM r;obtain⟨as,p1⟩:=hd.reads I rx;cases rx;exact str_of_reads p1 h1 (fun z=>by rw[h2] at z; cases z) hg (by lia) (fun _ _ e=>e) (fun h' u tk hk=>⟨.str _,H,I.kept hk,⟨_,rfl⟩,q⟩) h4
end
theorem vI {z:Int}(h:z.natAbs < 10 ^ 30):(PyData.int z).showable=true∧(PyData.int z).intsShort 31=true∧(PyData.int z).weight≤101:=by
 have lg:z.natAbs.log2 < 100:=by
  by_cases e:z.natAbs=0
  ·rw[e]; decide
  ·exact (Fe e).mpr (aH h (by decide))
 refine⟨?_,?_,?_⟩
 ·simp only[PyData.showable,cy]
  lia
 ·simp only[PyData.intsShort,cy]
  have e:=int_text_length_le10 (k:=30) (by decide) h;show (Str.ofString (toString z)).length≤31;rw[PySem.ofString_length];exact e
 ·simp only[PyData.weight]
  split
  ·lia
  ·lia
theorem qt:∀ ns:LF,(∀ z ∈ ns,z.natAbs < 10 ^ 30)→PyData.showableAll (ns.map .int)=true∧PyData.intsShortAll 31 (ns.map .int)=true∧PyData.hasDictAll (ns.map .int)=false∧PyData.weightAll (ns.map .int)≤102 * ns.length
 | [],_=>⟨rfl,rfl,rfl,au _⟩
 | z :: ns,h=>by
  obtain⟨a1,a2,a3,a4⟩:=qt ns fun z hz=>h z (aC _ hz)
  obtain⟨b1,b2,b3⟩:=vI (h z aK);rw[aS];refine⟨?_,?_,?_,?_⟩
  ·simp only[PyData.showableAll,a1,b1,ck]
  ·simp only[PyData.intsShortAll,a2,b2,ck]
  ·simp only[PyData.hasDictAll,a3,PyData.hasDict,m9]
  ·simp only[PyData.weightAll,bq]
   lia
theorem Pd {K:LM}{h:Heap}(X:K.In h)(e:PySem.W.nsOkIn K cStatics=true)(q:PySem.W.nsIn K cStatics "sys.int_max_str_digits" = some none):h.NoDigits:=⟨_,.of_isNs (PySem.W.isNs_of_in X e),PySem.W.nsMap_none_of_in X e q⟩
section
variable {prog:Program}{w:World}{h₀:Heap}
theorem vj {x:Int}{t:Tok}{as:LI}{d:Nat}(hn:h₀.NoDigits)(hx:x.natAbs < 10 ^ 4300):ReprK prog w as h₀ d (.int x t) (toString x):=by
 intro b hb A g E s Q hg hcl hu hk hQ;rw[pyReprUnder_leaf (v:=.int x t) (by lia) fun _ e=>nomatch e]; unfold pyRepr;refine af (wpAny_pyReprObj_slot (by lia) (typeIs_int s x t) F.slot_int_repr.toG (fm F.slot_int_repr (typeIs_int s x t) F.entry_int_repr ?_ (F.args_int_repr_1 _)));unfold Builtin.«int.__repr__»; show wpAny _ _ (do let r ← Builtin.overDigitLimit? x; _) _ _ s;exact af (overDigitLimit_any (hn.keeps hk) (fun _=>af (wpAny_mkStr (aA ⟨_,rfl,_,_,rfl,aA (hQ s.heap _ fun _ _ e=>e)⟩) (int_text_fits10 hx))) fun hge=>absurd hx (Nat.not_lt.mpr hge))
def Wd (d:PyData):Prop:=d.showable=true ∨ ∃ x y:Int,d=.tuple [.int x,.int y]∧x.natAbs < 10 ^ 4300∧y.natAbs < 10 ^ 4300
theorem Jp {v:Value}{d:PyData}{as:LI}(r:Reads h₀ v d as)(hn:h₀.NoDigits)(h:Wd d)(hd:d.hasDict=false)(hz:d.shown.length≤sizeLine):∃ bs,ReadAtMost h₀ d.depth bs∧ReprK prog w bs h₀ d.depth v d.shown:=by
 rcases h with h | ⟨x,y,rfl,hx,hy⟩
 ·exact ReprK.of_reads r h (fun z=>by rw[hd] at z; cases z) hz
 ·cases r with
  | tuple h1 h2 h3 h4 =>
   rename_i a o vs n
   obtain⟨l⟩:=vs;cases h4 with
   | cons r1 h4=>cases h4 with
    | cons r2 h4 =>
     cases h4;cases r1;cases r2;refine⟨[a],fun b hb=>?_,?_⟩
     ·rw[aw.mp hb]
      exact⟨_,_,.tuple h1 h2 h3 (.cons (.int _ _) (.cons (.int _ _) .nil)),au _⟩
     ·simp only[PyData.shown,PyData.shownAll]
      exact ReprK.tuple (d:=0) h1 h2 h3 k8 (.cons (vj hn hx) (.cons (vj hn hy) .nil))
theorem yG:∀ {vs:LH} {ds:LW} {as:LI},ReadsAll h₀ vs ds as→h₀.NoDigits→(∀ d ∈ ds,Wd d)→PyData.hasDictAll ds=false→(∀ t ∈ PyData.shownAll ds,t.length≤sizeLine)→∃ bs,ReadAtMost h₀ (PyData.depthAll ds) bs∧ReprAllK prog w bs h₀ (PyData.depthAll ds) vs (PyData.shownAll ds)
 | _,_,_,.nil,_,_,_,_=>⟨[],(fun _ h=>nomatch h),by simp only[PyData.shownAll]; exact .nil⟩
 | _,_,_,.cons (d:=d) (ds:=ds) r rs,hn,hw,hd,hz=>by
  simp only[PyData.hasDictAll,Bool.or_eq_false_iff] at hd;have z1:d.shown ∈ PyData.shownAll (d :: ds):=by simp only[PyData.shownAll]; exact aK
  obtain⟨b1,g1,k1⟩:=Jp (prog:=prog) (w:=w) r hn (hw d aK) hd.1 (hz _ z1);obtain⟨b2,g2,k2⟩:=yG rs hn (fun e he=>hw e (aC _ he)) hd.2 fun t ht=>hz t (by simp only[PyData.shownAll]; exact aC _ ht)
  simp only[PyData.depthAll,PyData.shownAll];exact⟨b1++b2,(g1.mono (Nat.le_max_left _ _)).append (g2.mono (Nat.le_max_right _ _)),.cons ((k1.more fun b h=>cW _ h).level_le (Nat.le_max_left _ _)) (k2.more_le (fun b h=>bA _ h) (Nat.le_max_right _ _))⟩
end
section
variable {X:Cx}
inductive B9 (K:LM)(xs:LG)(H:Hp)(Q:VK):Prop | mk (a ds:_) (_:xs=[.ref a]) (_:DA K any H (.ref a) (.tuple ds)) (_:(∀ d ∈ ds,Wd d)) (_:PyData.hasDictAll ds=false) (_:PyData.depthAll ds≤31) (_:(tupleText (PyData.shownAll ds)).length≤sizeLine) (_:Q (.str (tupleText (PyData.shownAll ds))) H):B9 K xs H Q
def OY (K:LM):List V→Hp→VK→Prop:=fun xs H Q=>B9 K xs H Q
theorem vT (hg:X.A.guards=some [])(hu:X.A.units+64 < cLine)(eD:PySem.W.nsOkIn X.K cStatics=true)(qD:PySem.W.nsIn X.K cStatics "sys.int_max_str_digits" = some none):iV X (.type "str") (OY X.K):=by
 intro pins s σ H xs us Q I r h;obtain⟨a,ds,rfl,hd,hw,hdi,hde,hz,q⟩:=h;obtain⟨u,rfl,rx⟩:=jM r;obtain⟨as,p1⟩:=hd.reads I rx;cases rx;have nd:=Pd I.kIn eD qD;cases p1 with
 | tuple h1 h2 h3 h4 =>
  rename_i o vs n
  refine callType_new F.called_str (by decide) (F.typeCall_str_1 _) (F.newCall_str_1 _) (fun obj=>F.args_object_init_2 obj _) F.entry_str_new (meets_str_new (S:=fun A' R s'=>A'.guards=some []∧A'.units+40 < cLine∧(∀ b o,s.heap.get? b=some o→s'.heap.get? b=some o)∧∀ h' u tk,(∀ b o,s'.heap.get? b=some o→h'.get? b=some o)→R (.ok (.ret (.str (tupleText (PyData.shownAll ds)) u))) { s' with heap:=h',toks:=tk }) fun P' W' A' R s' hh=>?_) ⟨hg,by show X.A.units+1+40 < cLine; lia,(fun _ _ e=>e),fun h' u tk hk=>⟨typeIs_str _ _ _,.str _,H,I.kept hk,⟨_,rfl⟩,q⟩⟩;obtain⟨bs,hb,hk⟩:=yG (prog:=P') (w:=W') h4 nd hw hdi (fun t ht=>aE (tupleText_mem_le ht) hz);have hna:a ∉ bs:=not_mem_of_deeper (.tuple h1 h2 h3 h4) (by simp only[PyData.depth]; lia) hb;obtain⟨e1,e2,e3,e4⟩:=hh;exact wpAny_strOf_slot rfl (by show A'.units+1+1 < cLine; lia) ⟨o,e3 _ _ h1,h2⟩ F.slot_tuple_str F.slot_tuple_repr (call_tuple_reprK h1 h2 h3 hna hk (A:=A'.in1.in1) e1 (fun b _=>Clear.nil b) (by show A'.units+1+1+_ < cLine; lia) e3 (fun h' u tk k=>⟨_,_,rfl,e4 h' u tk k⟩) hz)
end
section
variable {κ:Type}[DecidableEq κ]
def jt (kvs:List (κ × V))(k:κ):LS:=(kvs.find? fun kv=>decide (kv.1=k)).map (·.2)
def kO (kvs:List (κ × V))(k:κ)(v:V):List (κ × V) :=
 if (kvs.any fun kv=>decide (kv.1=k))=true then kvs.map (fun kv=>if kv.1=k then (kv.1,v) else kv) else kvs++[(k,v)]
theorem gF {p:κ × V}{r:List (κ × V)}{k:κ}(e:p.1=k):jt (p :: r) k=some p.2:=by simp[jt,jD,e]
theorem gG {p:κ × V}{r:List (κ × V)}{k:κ}(e:¬ p.1=k):jt (p :: r) k=jt r k:=by simp[jt,jD,e]
theorem oR (k:κ):∀ kvs:List (κ × V),(kvs.any fun kv=>decide (kv.1=k))=(jt kvs k).isSome
 | []=>rfl
 | p :: r=>by
  rw[iF]
  by_cases e:p.1=k
  ·simp only[gF e,cn e,Bool.true_or,Option.isSome_some]
  ·rw[gG e,bH e,Bool.false_or]; exact oR k r
theorem xU (k j:κ)(y:V):∀ kvs:List (κ × V),jt (kvs.map fun kv=>if kv.1=k then (kv.1,y) else kv) j=(jt kvs j).map fun x=>if j=k then y else x
 | []=>rfl
 | p :: r=>by
  have ih:=xU k j y r;rw[aS]
  by_cases h:p.1=k
  ·rw[if_pos h]
   by_cases e:p.1=j
   ·rw[gF (p:=(p.1,y)) e,gF e,mH,if_pos (e.symm.trans h)]
   ·rw[gG (p:=(p.1,y)) e,gG e,ih]
  ·rw[if_neg h]
   by_cases e:p.1=j
   ·rw[gF (p:=p) e,gF e,mH,if_neg fun z=>h (e.trans z)]
   ·rw[gG (p:=p) e,gG e,ih]
theorem uE (k j:κ)(y:V):∀ kvs:List (κ × V),jt kvs k=none→jt (kvs++[(k,y)]) j=if j=k then some y else jt kvs j
 | [],_=>by
  by_cases e:k=j
  ·rw[if_pos e.symm]; exact gF (p:=(k,y)) e
  ·rw[if_neg fun z=>e z.symm]; exact gG (p:=(k,y)) e
 | p :: r,hn=>by
  rw[List.cons_append];have hk:¬ p.1=k:=fun z=>by rw[gF z] at hn; cases hn
  rw[gG hk] at hn;have ih:=uE k j y r hn
  by_cases e:p.1=j
  ·rw[gF e,gF e,if_neg fun z=>hk (e.trans z)]
  ·rw[gG e,gG e,ih]
theorem xT (kvs:List (κ × V))(k j:κ)(y:V):jt (kO kvs k y) j=if j=k then some y else jt kvs j:=by
 unfold kO
 by_cases a:(kvs.any fun kv=>decide (kv.1=k))=true
 ·rw[if_pos a,xU]
  rw[oR] at a
  by_cases e:j=k
  ·obtain⟨x,hx⟩:=fU.mp a
   rw[if_pos e,e,hx,mH,if_pos rfl]
  ·rw[if_neg e]
   cases jt kvs j with
   | none=>rfl
   | some x=>rw[mH,if_neg e]
 ·rw[if_neg a]
  refine uE k j y kvs ?_;rw[oR] at a;cases q:jt kvs k with
  | none=>rfl
  | some x=>rw[q] at a; exact (a rfl).elim
theorem qP (kvs:List (κ × V))(k:κ)(v:V):(kO kvs k v).length≤kvs.length+1:=by
 unfold kO
 split
 ·rw[aa]; lia
 ·rw[ai,bq,List.length_nil]; lia
theorem ux.isSome_eq {o:LS}{u:LV}(r:ux o u):o.isSome=u.isSome:=by
 cases o with
 | none=>cases u with
  | none=>rfl
  | some _=>exact (show False from r).elim
 | some _=>cases u with
  | none=>exact (show False from r).elim
  | some _=>rfl
theorem ux.getD {o:LS}{u:LV}{d:V}{d':Value}(r:ux o u)(rd:cY d d'):cY (o.getD d) (u.getD d'):=by
 cases o with
 | none=>cases u with
  | none=>exact rd
  | some _=>exact (show False from r).elim
 | some _=>cases u with
  | none=>exact (show False from r).elim
  | some _=>exact r
theorem KV.val {kvs:List (κ × V)}{vs:List (κ × Value)}(r:KV kvs vs)(k:κ):ux (jt kvs k) (valueAt vs k):=by
 unfold KV at r
 induction r with
 | nil=>exact True.intro
 | @cons p q ps qs h t ih =>
  obtain⟨h1,h2⟩:=h
  by_cases e:p.1=k
  ·have e':q.1=k:=h1.symm.trans e
   have b:valueAt (q :: qs) k=some q.2:=by simp[valueAt,jD,e']
   rw[gF e,b]; exact h2
  ·have e':¬ q.1=k:=fun z=>e (h1.trans z)
   have b:valueAt (q :: qs) k=valueAt qs k:=by simp[valueAt,jD,e']
   rw[gG e,b]; exact ih
theorem KV.any {kvs:List (κ × V)}{vs:List (κ × Value)}(r:KV kvs vs)(k:κ):(kvs.any fun kv=>decide (kv.1=k))=vs.any fun kv=>decide (kv.1=k):=by
 unfold KV at r
 induction r with
 | nil=>rfl
 | cons h t ih=>rw[iF,iF,ih,h.1]
theorem KV.repl {kvs:List (κ × V)}{vs:List (κ × Value)}(r:KV kvs vs)(k:κ){y:V}{u:Value}(ry:cY y u) :
  KV (kvs.map fun kv=>if kv.1=k then (kv.1,y) else kv) (vs.map fun kv=>if kv.1=k then (kv.1,u) else kv):=by
 unfold KV at r ⊢
 induction r with
 | nil=>exact .nil
 | @cons p q ps qs h t ih =>
  rw[aS,aS];refine .cons ?_ ih;obtain⟨h1,h2⟩:=h
  by_cases e:p.1=k
  ·rw[if_pos e,if_pos (h1.symm.trans e)]; exact⟨h1,ry⟩
  ·rw[if_neg e,if_neg fun z=>e (h1.trans z)]; exact⟨h1,h2⟩
theorem KV.put {kvs:List (κ × V)}{vs:List (κ × Value)}(r:KV kvs vs)(k:κ){y:V}{u:Value}(ry:cY y u):KV (kO kvs k y) (stored vs k u):=by
 unfold kO stored;rw[r.any k]
 by_cases e:(vs.any fun kv=>decide (kv.1=k))=true
 ·rw[if_pos e,if_pos e]; exact r.repl k ry
 ·rw[if_neg e,if_neg e]; exact Paired.snoc r ⟨rfl,ry⟩
theorem KV.length {kvs:List (κ × V)}{vs:List (κ × Value)}(r:KV kvs vs):kvs.length=vs.length:=Paired.length r
end
theorem Cz {P:Program}{w:World}{k:iX}{u:Value}(r:cY (kV k) u):(gj P w).is k u=true:=by
 cases k with
 | inl i=>obtain⟨t,e⟩:=(show ∃ t,u=Value.int i t from r); subst e; exact zc P w i t
 | inr x=>obtain⟨t,e⟩:=(show ∃ t,u=Value.str x t from r); subst e; exact y9 P w x t
theorem vH {P:Program}{w:World}:∀ {ks:List iX} {us:LH},cN (ks.map kV) us→ItemsAre (gj P w) ks us
 | [],_,r=>by rw[eQ] at r; cases r; exact .nil
 | k :: ks,_,r=>by
  rw[aS] at r;cases r with
  | cons h t=>exact .cons (Cz h) (vH t)
abbrev KT (H:Hp):List (List iX × V)→List (List iX × Addr × Value)→Prop:=Paired fun p q=>p.1=q.1∧H q.2.1=some (.tup (p.1.map kV))∧cY p.2 q.2.2
theorem KT.val {H:Hp}{kvs:List (List iX × V)}{xs:List (List iX × Addr × Value)}(r:KT H kvs xs)(k:List iX):ux (jt kvs k) ((atKey xs k).map (·.2)):=by
 induction r with
 | nil=>exact True.intro
 | @cons p q ps qs h t ih =>
  obtain⟨h1,_,h2⟩:=h
  by_cases e:p.1=k
  ·have e':q.1=k:=h1.symm.trans e
   have b:atKey (q :: qs) k=some q.2:=by simp[atKey,jD,e']
   rw[gF e,b]; exact h2
  ·have e':¬ q.1=k:=fun z=>e (h1.trans z)
   have b:atKey (q :: qs) k=atKey qs k:=by simp[atKey,jD,e']
   rw[gG e,b]; exact ih
theorem KT.repl {H:Hp}{kvs:List (List iX × V)}{xs:List (List iX × Addr × Value)}(r:KT H kvs xs)(k:List iX){y:V}{u:Value}(ry:cY y u) :
  KT H (kvs.map fun kv=>if kv.1=k then (kv.1,y) else kv) (xs.map (putAt k u)):=by
 induction r with
 | nil=>exact .nil
 | @cons p q ps qs h t ih =>
  rw[aS,aS];refine .cons ?_ ih;obtain⟨h1,h2,h3⟩:=h;unfold putAt
  by_cases e:p.1=k
  ·rw[if_pos e,if_pos (h1.symm.trans e)]; exact⟨h1,h2,ry⟩
  ·rw[if_neg e,if_neg fun z=>e (h1.trans z)]; exact⟨h1,h2,h3⟩
theorem KT.put {H:Hp}{kvs:List (List iX × V)}{xs:List (List iX × Addr × Value)}(r:KT H kvs xs)(k:List iX){b:Addr}{y:V}{u:Value}(hb:H b=some (.tup (k.map kV)))(ry:cY y u) :
  KT H (kO kvs k y) (storedH xs k b u):=by
 have e:(kvs.any fun kv=>decide (kv.1=k))=(atKey xs k).isSome:=by
  rw[oR,(r.val k).isSome_eq,Option.isSome_map]
 unfold kO storedH;rw[e]
 by_cases q:(atKey xs k).isSome=true
 ·rw[if_pos q,if_pos q]; exact r.repl k ry
 ·rw[if_neg q,if_neg q]; exact Paired.snoc r ⟨rfl,hb,ry⟩
theorem KT.keeps {H H':Hp}{kvs:List (List iX × V)}{xs:List (List iX × Addr × Value)}(r:KT H kvs xs)(ht:∀ b ys,H b=some (.tup ys)→H' b=some (.tup ys)):KT H' kvs xs :=
 Paired.mapP r fun _ _ z=>⟨z.1,ht _ _ z.2.1,z.2.2⟩
section
variable {P:Program}{w:World}{H:Hp}{h:Heap}{a:Addr}
theorem Lu {u:HO}(ok:nK P w H h)(e:Rd H a u):eZ P w H h a u:=e.ok ok
theorem CT {kvs:List (iX × V)}(ok:nK P w H h)(e:Rd H a (.dK kvs)):kvs.length≤sizeLine∧(a == sysModules)=false∧∃ vs,KV kvs vs∧h.DictOf (gj P w) a vs :=
 show eZ P w H h a (.dK kvs) from Lu ok e
theorem Mg {kvs:List (iX × V)}(ok:nK P w H h)(e:H a=some (.dK kvs)):kvs.length≤sizeLine∧(a == sysModules)=false∧∃ vs,KV kvs vs∧h.DictOf (gj P w) a vs:=CT ok (.inl e)
theorem AU {ks:List iX}(ok:nK P w H h)(e:H a=some (.tup (ks.map kV))):(tupleKind (gj P w)).is h ks a:=by
 obtain⟨_,its,r,o,h1,h2,n,h3⟩:=(show eZ P w H h a (.tup (ks.map kV)) from ok a _ e);exact⟨o,its.toArray,n,h1,h2,h3,by simpa using vH r⟩
theorem Ii {kvs:List (List iX × V)}(ok:nK P w H h)(e:Rd H a (.dT kvs)):kvs.length≤sizeLine∧(a == sysModules)=false ∧
  ∃ xs,KT H kvs xs∧h.DictOfH (tupleKind (gj P w)) a xs:=by
 obtain⟨z,y,xs,r,o,es,ep,h1,h2,h3,h4,h5⟩:=(show eZ P w H h a (.dT kvs) from Lu ok e);refine⟨z,y,xs,r,o,es,ep,h1,h2,h3,h4,fun x hx=>?_,h5⟩;have all:∀ {l:List (List iX × V)} {m:List (List iX × Addr × Value)},KT H l m→∀ x ∈ m,(tupleKind (gj P w)).is h x.1 x.2.1:=by
  intro l m q
  induction q with
  | nil=>intro x hx; exact nomatch hx
  | @cons p q ps qs hq t ih =>
   intro x hx;rcases aQ.mp hx with e | hx
   ·subst e
    exact AU ok (by rw[←hq.1]; exact hq.2.1)
   ·exact ih x hx
 exact all r x hx
theorem PK {kvs:List (List iX × V)}(ok:nK P w H h)(e:H a=some (.dT kvs)):kvs.length≤sizeLine∧(a == sysModules)=false ∧
  ∃ xs,KT H kvs xs∧h.DictOfH (tupleKind (gj P w)) a xs:=Ii ok (.inl e)
end
def E8 (H:Hp)(a:Addr)(y:V)(r:LS):Prop :=
 (∃ kvs k,Rd H a (.dK kvs)∧y=kV k∧r=jt kvs k) ∨ ∃ kvs k b,Rd H a (.dT kvs)∧y=.ref b∧H b=some (.tup (k.map kV))∧r=jt kvs k
def z8 (H:Hp)(a:Addr)(y v:V)(H':Hp):Prop :=
 (∃ kvs k,H a=some (.dK kvs)∧y=kV k∧kvs.length < sizeLine∧H'=upd H a (.dK (kO kvs k v))) ∨
 ∃ kvs k b,H a=some (.dT kvs)∧y=.ref b∧H b=some (.tup (k.map kV))∧kvs.length < sizeLine∧H'=upd H a (.dT (kO kvs k v))
theorem E8.k {H:Hp}{a:Addr}{kvs:List (iX × V)}{k:iX}(e:H a=some (.dK kvs)):E8 H a (kV k) (jt kvs k):=.inl ⟨kvs,k,.inl e,rfl,rfl⟩
theorem z8.k {H:Hp}{a:Addr}{kvs:List (iX × V)}{k:iX}{v:V}(e:H a=some (.dK kvs))(hl:kvs.length < sizeLine):z8 H a (kV k) v (upd H a (.dK (kO kvs k v))):=.inl ⟨kvs,k,e,rfl,hl,rfl⟩
section
variable {X:Cx}{pins:LD}{σ:St}{H:Hp}{s:Shared}{a:Addr}{y v:V}{u r:Value}{o:LS}{A:Around}{E:LN}
theorem Inv.big (I:Inv X pins σ H s):sysModules < s.heap.objs.size:=by
 have h:mainGlobals < s.heap.objs.size:=(I.mod.glob.keeps I.bk).lt;exact Nat.lt_trans (by decide) h
theorem rV {h':Heap}{t':Nat}{ob:HO}(I:Inv X pins σ H s)(mu:P1 (H a))(hs:Heap.SameBut a s.heap h')(he:∃ q,h'.get? a=some q)(new:eZ X.prog X.w (upd H a ob) h' a ob) :
  Inv X pins σ (upd H a ob) { s with heap:=h',toks:=t' } :=
 I.write (x:=a) (e:=a) mu (.inl rfl) (fun b q hb z=>(hs.2 b hb).trans z) he new
theorem Il {P:Program}{w:World}{H':Hp}{h':Heap}{kvs:List (iX × V)}{vs:List (iX × Value)}(z:kvs.length≤sizeLine)(hd:(a == sysModules)=false)(rel:KV kvs vs)(dd:h'.DictOf (gj P w) a vs) :
  eZ P w H' h' a (.dK kvs):=⟨z,hd,vs,rel,dd⟩
theorem ES {H':Hp}{Q:Unit→Shared→Prop}(hu:A.units+1 < cLine)(I:Inv X pins σ H s)(g:z8 H a y v H')(ry:cY y u)(rv:cY v r)(h:∀ s',Inv X pins σ H' s'→Q () s') :
  wpAny (model X.prog X.w) A (setItem (.ref a) u r) Q E s:=by
 rcases g with ⟨kvs,k,e,ey,l,eH⟩ | ⟨kvs,k,b,e,ey,eb,l,eH⟩
 ·subst ey eH
  obtain⟨z,hd,vs,rel,dd⟩:=Mg I.hok e;have hz:vs.length≤sizeLine:=by rw[←rel.length]; exact z
  have hl:(kO kvs k v).length≤sizeLine:=by have:=qP kvs k v; lia
  refine wpAny_setItem_pairs (hsz:=hz) (Cz ry) dd fun h' dd' hs=>h _ ?_
  have he:∃ q,h'.get? a=some q:=let ⟨q,_,_,hq,_⟩:=dd'; ⟨q,hq⟩;exact rV I (by rw[e]; exact True.intro) hs he (Il hl hd (rel.put k rv) dd')
 ·subst ey eH
  cases (show u=Value.ref b from ry);obtain⟨z,hd,xs,rel,dd⟩:=PK I.hok e;have hz:xs.length≤sizeLine:=by rw[←Paired.length rel]; exact z
  have hl:(kO kvs k v).length≤sizeLine:=by have:=qP kvs k v; lia
  refine wpAny_setItem_heap (hsz:=hz) (tupleKind_room_in1 hu) (AU I.hok eb) dd fun h' dd' hs=>h _ ?_
  obtain⟨q,es,ep,hq,h2,h3,h4,_,h5⟩:=dd';refine rV I (by rw[e]; exact True.intro) hs ⟨q,hq⟩ ⟨hl,hd,_,(rel.put k eb rv).keeps fun c ys ec=>?_,q,es,ep,hq,h2,h3,h4,h5⟩;rw[aO (Pe ec e fun z=>nomatch z)];exact ec
end
section
variable {X:Cx}{pins:LD}{σ:St}{H:Hp}{s:Shared}{a:Addr}{kvs:List (iX × V)}{k:iX}{u:Value}{A:Around}{E:LN}
theorem PL {Q:LN}(I:Inv X pins σ H s)(e:Rd H a (.dK kvs))(h:∀ t s',Inv X pins σ H s'→Q (.int kvs.length t) s'):wpAny (model X.prog X.w) A (call (.builtin "len") [.ref a]) Q E s:=by
 obtain⟨z,hd,vs,rel,dd⟩:=CT I.hok e;refine call_len_dict hd dd (by rw[←rel.length]; rw[sizeLine_eq] at z; lia) ?_;rw[←rel.length];exact h _ _ (I.tok _)
end
inductive B7 (D:qB)(σ:L2.St)(v:V)(x:V)(y:V)(H3:Hp):Prop | mk (a H4:_) (_:x=.ref a) (_:z8 H3 a y v H4) (_:D.nx σ H4):B7 D σ v x y H3
def OW (td ty tv:TE):TS:=fun D σ H=>tv σ H fun v H1=>td σ H1 fun x H2=>ty σ H2 fun y H3=>B7 D σ v x y H3
section
variable {X:Cx}{o i e value:Expr}{pos pos' tpos:Pos}{td ty tv:TE}
theorem JB (hu:X.A.units+1 < cLine)(ho:PE X o td)(hi:PE X i ty)(hv:PE X value tv)(hs:swapsWith value (some (.Subscript o i pos')) pos.line X.env=pure false) :
  PS X (.Assign [.Subscript o i pos'] value pos) (OW td ty tv):=by
 intro pins s σ H D I h;refine wpAny_Assign_Subscript (thn (hv pins s σ H _ I h) fun r s1 ⟨v,H1,I1,rv,q1⟩=>thn (ho pins s1 σ H1 _ I1 q1) fun u s2 ⟨x,H2,I2,rx,q2⟩=>thn (hi pins s2 σ H2 _ I2 q2) fun iv s3 ⟨y,H3,I3,ry,a,H4,ex,g,q3⟩=>?_) hs;subst ex;obtain rfl:u=Value.ref a:=rx;exact ES hu I3 g ry rv fun s4 I4=>⟨σ,H4,I4,q3⟩
end
theorem Im {P:Program}{w:World}{H:Hp}(h:Heap)(hb:sysModules < h.objs.size):eZ P w H (h.push { cls:=.type "dict",data:=.dict #[] }) h.objs.size (.dK []) :=
 ⟨aZ _,beq_eq_false_iff_ne.mpr (Ne.symm (bZ hb)),[],.nil,Heap.DictOf.new h⟩
def MB:TE:=fun _ H Q=>∀ p,H p=none→Q (.ref p) (upd H p (.dK []))
section
variable {X:Cx}{pos:Pos}
theorem yO:PE X (.Dict [] [] pos) MB:=fun pins s σ H Q I h =>
 wpAny_Dict_empty ⟨.ref s.heap.objs.size,_,I.laid (a:=s.heap.objs.size) (o:=.dK []) (t':=s.toks) (fun _ _ q=>ak _ q) (au _) (Im s.heap I.big),rfl,h _ (I.hok.fresh (au _))⟩
end
structure M1 (X:Cx)(o:Expr)(m:Str)(apos:Pos)(e:Expr)(cpos:Pos):Prop where
 base:attributeBase o m X.env (eval o X.env)=eval o X.env
 few:((backTo cpos (starEach [e] X.env)).all (fun x=>!x.1) && (backToKw cpos (keywordEach [] X.env)).all (fun x=>x.1.isSome)
  && decide (([e]:LL).length+([]:List Keyword).length+(if ([]:List Keyword).isEmpty then 0 else 1) < 30))=true
 line:(apos.endLine == cpos.line)=true
 trees:backTo cpos (starEach [e] X.env)=[(false,eval e X.env)]
structure M2 (X:Cx)(o:Expr)(m:Str)(apos:Pos)(e f:Expr)(cpos:Pos):Prop where
 base:attributeBase o m X.env (eval o X.env)=eval o X.env
 few:((backTo cpos (starEach [e,f] X.env)).all (fun x=>!x.1) && (backToKw cpos (keywordEach [] X.env)).all (fun x=>x.1.isSome)
  && decide (([e,f]:LL).length+([]:List Keyword).length+(if ([]:List Keyword).isEmpty then 0 else 1) < 30))=true
 line:(apos.endLine == cpos.line)=true
 trees:backTo cpos (starEach [e,f] X.env)=[(false,eval e X.env),(false,eval f X.env)]
def RB (H:Hp)(a:Addr):Prop:=(∃ kvs,Rd H a (.dK kvs)) ∨ ∃ kvs,Rd H a (.dT kvs)
theorem HK {X:Cx}{pins:LD}{σ:St}{H:Hp}{s:Shared}{a:Addr}(I:Inv X pins σ H s)(d:RB H a) :
  s.TypeIs (.ref a) "dict"∧(∀ b,Value.ref a=.ref b→∃ ob,s.heap.get? b=some ob∧ob.dict=none)∧(a == sysModules)=false:=by
 rcases d with ⟨kvs,e⟩ | ⟨kvs,e⟩
 ·obtain⟨_,hd,vs,_,dd⟩:=CT I.hok e
  refine⟨dd.typeIs,fun b q=>?_,hd⟩;cases q;obtain⟨ob,_,_,h1,h2,_⟩:=dd;exact⟨ob,h1,h2.2.1⟩
 ·obtain⟨_,hd,xs,_,dd⟩:=Ii I.hok e
  refine⟨dd.typeIs,fun b q=>?_,hd⟩;cases q;obtain⟨ob,_,_,h1,h2,_⟩:=dd;exact⟨ob,h1,h2.2.1⟩
section
variable {X:Cx}{pins:LD}{σ:St}{H:Hp}{s:Shared}{a:Addr}{y d:V}{u r:Value}{o:LS}{A:Around}{E:LN}
theorem N6 {Q:LN}(hu:A.units+1 < cLine)(I:Inv X pins σ H s)(g:E8 H a y o)(ry:cY y u)(rd:cY d r)(h:∀ w' s',Inv X pins σ H s'→cY (o.getD d) w'→Q w' s') :
  wpAny (model X.prog X.w) A (call (.builtin "dict.get") [.ref a,u,r]) Q E s:=by
 rcases g with ⟨kvs,k,e,ey,l⟩ | ⟨kvs,k,b,e,ey,eb,l⟩
 ·subst ey
  obtain⟨z,hd,vs,rel,dd⟩:=CT I.hok e;refine call_meetsIn uf dd.typeIs PySem.F.entry_dict_get (PySem.F.args_dict_get_3 _ _ _) (meets_dict_get_default (gj X.prog X.w) a (Cz ry) hd r) ⟨_,dd.mapOf,h _ _ (I.tok _) ?_⟩;rw[l];exact (rel.val k).getD rd
 ·subst ey
  cases (show u=Value.ref b from ry);obtain⟨z,hd,xs,rel,dd⟩:=Ii I.hok e;refine call_meetsIn uf dd.typeIs PySem.F.entry_dict_get (PySem.F.args_dict_get_3 _ _ _) (meetsH_dict_get_default (tupleKind (gj X.prog X.w)) a b hd r) ⟨tupleKind_room_in1 hu,k,xs,AU I.hok eb,dd,h _ _ (I.tok _) ?_⟩;rw[l];exact (rel.val k).getD rd
end
inductive xX (ty:TE)(tx:TE)(σ:L2.St)(Q:VK)(x:V)(H1:Hp):Prop | mk (a:_) (_:x=.ref a) (_:RB H1 a) (_:ty σ H1 fun y H2=>tx σ H2 fun z H3=>∃ o,E8 H3 a y o∧Q (o.getD z) H3):xX ty tx σ Q x H1
def MC (td ty tx:TE):TE:=fun σ H Q=>td σ H fun x H1=>xX ty tx σ Q x H1
section
variable {X:Cx}{o e f:Expr}{apos cpos:Pos}{td ty tx:TE}
theorem GZ (hu:X.A.units+1 < cLine)(ho:PE X o td)(he:PE X e ty)(hf:PE X f tx)(m:M2 X o "get" apos e f cpos):PE X (.Call (.Attribute o "get" apos) [e,f] [] cpos) (MC td ty tx):=by
 intro pins s σ H Q I h;refine wpAny_Call_method m.base m.few m.line PySem.F.plainAttrs_dict uf PySem.F.type_dict_get (thn (ho pins s σ H _ I h) fun u s1 ⟨x,H1,I1,rx,a,ex,d,q1⟩=>?_);subst ex;obtain rfl:u=Value.ref a:=rx;obtain⟨t1,t2,_⟩:=HK I1 d;refine⟨t1,t2,?_⟩;rw[m.trees];refine Calls.callWith_builtin rfl (Calls.evalArgs_plain (Calls.spliced_cons (thn (he pins s1 σ H1 _ I1 q1) fun iv s2 ⟨y,H2,I2,ry,q2⟩ =>
  Calls.spliced_cons (thn (hf pins s2 σ H2 _ I2 q2) fun fv s3 ⟨z,H3,I3,rz,ov,g,q3⟩=>Calls.spliced_nil ?_))))
 exact N6 hu I3 g ry rz fun w' s4 I4 rw'=>⟨_,H3,I4,rw',q3⟩
end
section
variable {X:Cx}{pins:LD}{σ:St}{H:Hp}{s:Shared}{a:Addr}{kvs:List (iX × V)}{A:Around}{E:LN}
end
section
variable {X:Cx}{pins:LD}{σ:St}{H:Hp}{s:Shared}{a:Addr}{y:V}{u:Value}{A:Around}{E:LN}
end
section
variable {X:Cx}
end
section
variable {κ:Type}[DecidableEq κ]
end
section
variable {prog:Program}{w:World}
variable {A:Around}{E:LN}{s:Shared}
end
section
variable {prog:Program}{w:World}{K:Type}[DecidableEq K]{A:Around}{E:LN}{s:Shared}
theorem KK {knd:HeapKind prog w K}{d a:Addr}{xs:List (K × Addr × Value)}{k:K}{x:Value}{Q:LN}(hu:knd.room A)(hk:knd.is s.heap k a)(hm:s.heap.DictOfH knd d xs)(hz:xs.length≤sizeLine)(old:∀ p,atKey xs k=some p→Q p.2 { s with toks:=s.toks+knd.draws k })(new:atKey xs k=none→∀ h',h'.DictOfH knd d (xs++[(k,a,x)])→Heap.SameBut d s.heap h'→Q x { s with heap:=h',toks:=s.toks+knd.draws k }) :
  wpAny (model prog w) A (dictSetDefault d (.ref a) x) Q E s:=by
 obtain⟨o,es,ep,g1,g2,g3,g4,g5,g6⟩:=hm;unfold dictSetDefault
 with_reducible refine dR ?_
 refine af (knd.pyHash hu hk (af (wpAny_dictFind_heap (s:={ s with toks:=s.toks+knd.draws k }) hu hk g1 g3 g4 g5 g6 (fun no=>?_) fun j p hj=>?_)))
 ·have e0:=atKey_none_of_get no
  have nm:=not_mem_keys_of_get no;have e1:es.size≤sizeLine:=by rw[size_of_entries g4]; exact hz
  refine af (nM (af (wpAny_updateDictKeys (hz:=e1) (s:={ s with toks:=s.toks+knd.draws k }) g1 g3 (aA (new e0 _ ⟨_,_,ep+1,kz _ g1 (Obj.isFreed_of_dict (Obj.data_mapDictKeys g3 _)),g2.mapDictKeys _,Obj.data_mapDictKeys g3 _,?_,?_,?_⟩ (Heap.SameBut.update ..))))))
  ·simp[g4,entryOfKey]
  ·intro y hy
   rcases bu.mp hy with q | q
   ·exact knd.keeps (g5 y q) g1 g3 (Heap.SameBut.update ..)
   ·cases aw.mp q
    exact knd.keeps hk g1 g3 (Heap.SameBut.update ..)
  ·rw[aM,gM]
   refine⟨g6,by simp,fun y hy z hz' q=>?_⟩;simp only[aS,eQ,aw] at hz';subst hz';exact nm (q ▸ hy)
 ·refine af (Ag (s:={ s with toks:=s.toks+knd.draws k }) g1 g3 ?_)
  rw[entry_at g4 j,hj];exact af (nM (aA (old p (atKey_of_get g6 hj))))
theorem KF {knd:KeyKind prog w K}{d:Addr}{ps:List (K × Value)}{k:K}{key x:Value}{Q:LN}(hk:knd.is k key=true)(hm:s.heap.DictOf knd d ps)(hz:ps.length≤sizeLine)(old:∀ v,valueAt ps k=some v→Q v { s with toks:=s.toks+1 })(new:valueAt ps k=none→∀ h',h'.DictOf knd d (ps++[(k,x)])→Heap.SameBut d s.heap h'→Q x { s with heap:=h',toks:=s.toks+1 }) :
  wpAny (model prog w) A (dictSetDefault d key x) Q E s:=by
 obtain⟨o,es,ep,g1,g2,g3,g4,g5,g6⟩:=hm;unfold dictSetDefault
 with_reducible refine dR ?_
 refine af (knd.pyHash hk (af (wpAny_dictFind_of (s:={ s with toks:=s.toks+1 }) hk g1 g3 g4 ?_)));have ix:(es.findIdx? fun e=>knd.is k e.key)=ps.findIdx? fun p=>decide (p.1=k):=by
  rw[←g5.findIdx k];obtain⟨l⟩:=es;simp
 cases hi:es.findIdx? fun e=>knd.is k e.key with
 | some i =>
  obtain⟨e,q1,_,q3⟩:=g5.at (i:=i) (k:=k) (by rw[←hi]; obtain⟨l⟩:=es; simp);refine af (Ag (s:={ s with toks:=s.toks+1 }) g1 g3 ?_);rw[show es[i]? = some e by rw[←q1]; simp];exact af (nM (aA (old _ q3)))
 | none =>
  have nm:k ∉ ps.map (·.1):=not_mem_of_findIdx_none (ix ▸ hi);have e0:valueAt ps k=none:=by
   unfold valueAt;rw[List.find?_eq_none.mpr fun p hp q=>nm (bg.mpr ⟨p,hp,of_decide_eq_true q⟩)]
   rfl
  have e1:es.size≤sizeLine:=by
   have q:=g5.length;rw[js] at q;rw[q];exact hz
  refine af (nM (af (wpAny_updateDictKeys (hz:=e1) (s:={ s with toks:=s.toks+1 }) g1 g3 (aA (new e0 _ ⟨_,_,ep+1,kz _ g1 (Obj.isFreed_of_dict (Obj.data_mapDictKeys g3 _)),g2.mapDictKeys _,Obj.data_mapDictKeys g3 _,g4.push hk _,?_,?_⟩ (Heap.SameBut.update ..))))))
  ·have q:=g5.append hk (knd.hash k) x
   obtain⟨l⟩:=es;simpa using q
  ·rw[aM,gM]
   refine⟨g6,by simp,fun y hy z hz' q=>?_⟩;simp only[aS,eQ,aw] at hz';subst hz';exact nm (q ▸ hy)
theorem vV {d:Addr}{key x:Value}{Q:LN}(T:s.TypeIs (.ref d) "dict")(hd:(d == sysModules)=false)(h:wpAny (model prog w) A.in1 (dictSetDefault d key x) Q (fun e s'=>E e s') s):wpAny (model prog w) A (call (.builtin "dict.setdefault") [.ref d,key,x]) Q E s:=by
 refine fm F.slot_dict_setdefault T F.entry_dict_setdefault ?_ (F.args_dict_setdefault_3 _ _ _);unfold Builtin.«dict.setdefault»;refine af ?_;unfold Builtin.Dict.keyAndDefault;refine af (wpAny_notOrdered_dict T ?_);show wpAny _ _ (pure (d,key,some x)) _ _ s;refine aA ?_;show wpAny _ _ (if (d == sysModules)=true then _ else (dictSetDefault d key x >>= _)) _ _ s;rw[if_neg (by rw[hd]; exact ba)];refine af (du h (fun v s' q=>?_) fun _ _ q=>q);exact aA ⟨_,rfl,q⟩
theorem NX {knd:HeapKind prog w K}{d:Addr}{xs:List (K × Addr × Value)}{Q:LN}(hd:(d == sysModules)=false)(hm:s.heap.DictOfH knd d xs)(hf:xs.length≤sizeLine)(h:∀ t t',Q (.int xs.length t) { s with toks:=t' }):wpAny (model prog w) A (call (.builtin "len") [.ref d]) Q E s:=by
 have T:=hm.typeIs;rw[sizeLine_eq] at hf;refine Calls.call_function_entry kind_len plain_len entry_len (args_len1 _) ?_;unfold Builtin.«len»;refine af (m:=oneArg "len" _) (aA ?_);refine af (m:=callSpecial? (.ref d) (Str.ofString "__len__")) (hJ (name:=Str.ofString "__len__") T F.slot_dict_len (fm F.slot_dict_len T F.entry_dict_len ?_ (F.args_dict_len_1 _)));obtain⟨o,es,ep,g1,_,g3,g4,_,_⟩:=hm;show wpAny _ _ (dictSize d >>= _) _ _ s;unfold dictSize;refine af (af (Ag g1 g3 (aA ?_)));show wpAny _ _ (Builtin.Dict.pendingCount d >>= _) _ _ s;refine af (wpAny_pendingCount_other hd (wpAny_ret_mkInt ?_));rw[size_of_entries g4];show wpAny _ _ _ _ _ { s with toks:=s.toks+1 };refine af (dR (aA ?_));refine af (wpAny_letGo ?_);show wpAny _ _ (if ((xs.length:Nat):Int) < 0 then _ else _) _ _ _;rw[if_neg (by lia)];show wpAny _ _ (if ((xs.length:Nat):Int) ≥ 2 ^ 63 then _ else _) _ _ _;rw[if_neg (by lia)];exact af (Fa (aA ⟨_,rfl,h _ _⟩))
end
section
variable {P:Program}{w:World}{H:Hp}{h:Heap}{a:Addr}
theorem zr:∀ {ns:LF} {us:LH},cN (ns.map V.int) us→ItemsAre (intKind P w) ns us
 | [],_,.nil=>.nil
 | n :: ns,_,.cons r t=>by
  obtain⟨t',rfl⟩:=(show ∃ t,_=Value.int n t from r);exact .cons (intKind_is P w n t') (zr t)
end
def KL {κ:Type}[DecidableEq κ](l:List (κ × V × V))(k:κ):LS:=(l.find? fun x=>decide (x.1=k)).map (·.2.2)
def Lv {κ:Type}[DecidableEq κ](obj:Addr→List (κ × V × V)→HO)(key:Hp→V→κ→Prop):V→List V→Hp→VK→Prop:=fun x vs H Q =>
 ∃ d l k y v,x=.ref d∧vs=[y,v]∧H d=some (obj d l)∧(∀ z ∈ l,key H z.2.1 z.1)∧key H y k∧l.length < sizeLine ∧
  ((∃ r,KL l k=some r∧Q r H) ∨ (KL l k=none∧Q v (upd H d (obj d (l++[(k,y,v)])))))
structure Kd (X:Cx)(κ:Type)[DecidableEq κ](obj:Addr→List (κ × V × V)→HO)(key:Hp→V→κ→Prop):Prop where
 ty:∀ {pins:LD} {σ:St} {H:Hp} {s:Shared} {a:Addr} {l:List (κ × V × V)},Inv X pins σ H s→H a=some (obj a l) →
  s.TypeIs (.ref a) "dict"∧∀ b,Value.ref a=.ref b→∃ ob,s.heap.get? b=some ob∧ob.dict=none
 new:∀ pos,PE X (.Dict [] [] pos) (fun _ H Q=>∀ p,H p=none→Q (.ref p) (upd H p (obj p [])))
 len:iV X (.builtin "len") (fun xs H Q=>∃ a l,xs=[V.ref a]∧H a=some (obj a l)∧(∀ z ∈ l,key H z.2.1 z.1)∧Q (.int l.length) H)
 set:Ov X "dict.setdefault" (Lv obj key)
def NW (_:Addr)(l:List (Int × V × V)):HO:=.dK (l.map fun x=>(Sum.inl x.1,x.2.2))
def HP (_:Hp)(y:V)(k:Int):Prop:=y=.int k
theorem qe (k:Int):∀ l:List (Int × V × V),jt (κ:=iX) (l.map fun x=>(Sum.inl x.1,x.2.2)) (Sum.inl k)=KL l k
 | []=>rfl
 | x :: l=>by
  by_cases e:x.1=k
  ·rw[aS,gF (by rw[e]),show KL (x :: l) k=some x.2.2 by simp[KL,e]]
  ·rw[aS,gG fun q=>e (Sum.inl.inj q),qe k l,show KL (x :: l) k=KL l k by simp[KL,e]]
theorem NQ {X:Cx}:Kd X Int NW HP where
 ty:=by
  intro pins σ H s a l I e;obtain⟨q1,q2,_⟩:=HK I (.inl ⟨_,.inl e⟩);exact⟨q1,q2⟩
 new:=fun pos=>yO
 len:=by
  intro pins s σ H xs us Q I r h;obtain⟨a,l,rfl,ha,_,q⟩:=h;obtain⟨u,rfl,ru⟩:=jM r;cases ru;refine PL I (.inl ha) fun t s' I'=>⟨.int l.length,H,I',⟨t,by rw[aa]⟩,q⟩
 set:=by
  intro pins s σ H x vs v us Q I rx rv h;obtain⟨d,l,k,y,z,rfl,rfl,e,_,ky,hz,q⟩:=h;cases rx;cases (show y=.int k from ky);obtain⟨u,u',rfl,ru,ru'⟩:=rv.two;obtain⟨z1,hd,ps,rel,dd⟩:=Mg I.hok e;refine vV dd.typeIs hd (KF (knd:=gj X.prog X.w) (k:=Sum.inl k) (Cz (k:=Sum.inl k) ru) dd (by rw[←rel.length]; exact z1) (fun r hr=>?_) fun hr h' dd' sb=>?_)
  ·have t1:=rel.val (Sum.inl k)
   rw[qe,hr] at t1;rcases q with ⟨r',e1,q⟩ | ⟨e1,_⟩
   ·rw[e1] at t1
    exact⟨r',H,I.tok _,t1,q⟩
   ·rw[e1] at t1
    exact (show False from t1).elim
  ·have t1:=rel.val (Sum.inl k)
   rw[qe,hr] at t1;rcases q with ⟨r',e1,_⟩ | ⟨_,q⟩
   ·rw[e1] at t1
    exact (show False from t1).elim
   ·refine⟨z,_,rV I (ob:=NW d (l++[(k,.int k,z)])) (by rw[e]; exact True.intro) sb (let ⟨o,_,_,g,_⟩:=dd'; ⟨o,g⟩) ?_,ru',q⟩
    refine Il ?_ hd ?_ dd'
    ·rw[aa,ai,cx]
     lia
    ·rw[aM]
     exact Paired.snoc rel ⟨rfl,ru'⟩
def Rv:V→Addr
 | .ref a=>a
 | _=>0
def OH {κ:Type}[DecidableEq κ](obj:Addr→List (κ × V × V)→HO)(key:Hp→V→κ→Prop)(td ty tx:TE):TE:=fun σ H Q =>
 td σ H fun x H1=>∃ a l,x=.ref a∧H1 a=some (obj a l)∧ty σ H1 fun y H2=>tx σ H2 fun z H3=>Lv obj key x [y,z] H3 Q
theorem JC {X:Cx}{κ:Type}[DecidableEq κ]{obj:Addr→List (κ × V × V)→HO}{key:Hp→V→κ→Prop}{o e f:Expr}{apos cpos:Pos}{td ty tx:TE}(K:Kd X κ obj key)(ho:PE X o td)(he:PE X e ty)(hf:PE X f tx)(m:M2 X o "setdefault" apos e f cpos):PE X (.Call (.Attribute o "setdefault" apos) [e,f] [] cpos) (OH obj key td ty tx):=by
 intro pins s σ H Q I h;refine wpAny_Call_method m.base m.few m.line PySem.F.plainAttrs_dict PySem.F.slot_dict_setdefault PySem.F.type_dict_setdefault (thn (ho pins s σ H _ I h) fun u s1 ⟨x,H1,I1,rx,a,l,ex,d,q1⟩=>?_);subst ex;obtain rfl:u=Value.ref a:=rx;obtain⟨t1,t2⟩:=K.ty I1 d;refine⟨t1,t2,?_⟩;rw[m.trees];refine Calls.callWith_builtin rfl (Calls.evalArgs_plain (Calls.spliced_cons (thn (he pins s1 σ H1 _ I1 q1) fun iv s2 ⟨y,H2,I2,ry,q2⟩=>Calls.spliced_cons (thn (hf pins s2 σ H2 _ I2 q2) fun fv s3 ⟨z,H3,I3,rz,q3⟩=>Calls.spliced_nil ?_))));exact K.set pins s3 σ H3 (.ref a) [y,z] _ _ Q I3 rfl (.cons ry (.cons rz .nil)) q3
abbrev Km (acc:LH)(c:Nat):Obj:={ cls:=.type "list",dict:=none,data:=.seq acc.toArray c,slots:=#[] }
structure E7 (prog:Program)(w:World)(A:Around)(S I:Addr)(n:Nat)(St En:List Value→Heap→Prop):Prop where
 keep:∀ {acc:LH} {h h':Heap},St acc h→(∀ b o,b≠S→h.get? b=some o→h'.get? b=some o)→St acc h'
 item:∀ {s:Shared} {acc:LH} {Q:Option Value→Shared→Prop} {E:LN},acc.length < n→(∃ o,s.heap.get? S=some o)→St acc s.heap →
  (∀ v h' tk,St (acc++[v]) h'→(∀ o,s.heap.get? S=some o→h'.get? S=some o)→Q (some v) { s with heap:=h',toks:=tk })→wpAny (model prog w) A (pyNext (.ref I)) Q E s
 done:∀ {s:Shared} {acc:LH} {Q:Option Value→Shared→Prop} {E:LN},acc.length=n→St acc s.heap →
  (∀ h' tk,En acc h'→(∀ o,s.heap.get? S=some o→h'.get? S=some o)→Q none { s with heap:=h',toks:=tk })→wpAny (model prog w) A (pyNext (.ref I)) Q E s
section
variable {prog:Program}{w:World}{A:Around}{S I v:Addr}{n:Nat}{St En:List Value→Heap→Prop}{R:Result→Shared→Prop}{res:Value}
theorem vQ (W:E7 prog w A.in1 S I n St En)(hn:n≤sizeLine) :
  ∀ (k:Nat) (s:Shared) (acc:LH) (c:Nat),n - acc.length=k→acc.length≤n→St acc s.heap→s.heap.get? S=some (Km acc c) →
  (∀ h' tk acc' c',acc'.length=n→En acc' h'→h'.get? S=some (Km acc' c')→R (.ok (.ret res)) { s with heap:=h',toks:=tk }) →
  codeAny (model prog w) A (.builtin "list.extend.loop" ⟨[.ref S,.ref I,res],[]⟩) R s:=by
 intro k
 induction k with
 | zero =>
  intro s acc c e1 e2 st hS hR;refine codeAny_builtin F.entry_extend_loop ?_;rw[Around.under_plainId F.plain_extend_loop _];show wpAny _ A.in1 (pyNext (.ref I) >>= _) _ _ s;refine af (W.done (by lia) st fun h' tk en sk=>?_);exact aA (hR h' tk acc c (by lia) en (sk _ hS))
 | succ k ih =>
  intro s acc c e1 e2 st hS hR;refine codeAny_builtin F.entry_extend_loop ?_;rw[Around.under_plainId F.plain_extend_loop _];show wpAny _ A.in1 (pyNext (.ref I) >>= _) _ _ s;refine af (W.item (by lia) ⟨_,hS⟩ st fun x h' tk st' sk=>?_);have hS':=sk _ hS;show wpAny _ A.in1 (updateSeq S (·.push x) >>= _) _ _ _;obtain⟨c1,hS2⟩:∃ c1,(h'.update S (Obj.mapSeq (·.push x))).get? S=some (Km (acc++[x]) c1):=by
   have q:=PySem.IsL.update hS' (·.push x);rw[List.push_toArray] at q;exact⟨_,q⟩
  refine af (rn hS' rfl (aA ⟨plainId_quiet F.plain_extend_loop _,ih _ (acc++[x]) c1 (by rw[ai,cx]; lia) (by rw[ai,cx]; lia) (W.keep st' fun b o hb q=>(ip _ _ (Ne.symm hb)).trans q) hS2 ?_⟩)
   (by show acc.toArray.size≤sizeLine; rw[aI]; lia) (by show (acc.toArray.push x).size≤sizeLine+1; rw[Array.size_push,aI]; lia))
  intro h2 tk2 acc2 c2 q1 q2 q3;exact hR h2 tk2 acc2 c2 q1 q2 q3
theorem zB {T:String}{s:Shared}{c:Nat}(W:E7 prog w A.in1 S I n St En)(hn:n≤sizeLine)(ty:s.TypeIs (.ref v) T)(t1:(Value.type T == Value.type "list")=false)(t2:(Value.type T == Value.type "tuple")=false)(ne:S≠v)(hS:s.heap.get? S=some (Km [] c))(it:∀ {Q:LN} {E:LN},(∀ h' tk,St [] h'→(∀ o,s.heap.get? S=some o→h'.get? S=some o)→Q (.ref I) { s with heap:=h',toks:=tk })→wpAny (model prog w) A.in1 (pyIter (.ref v)) Q E s)(hint:∀ {s':Shared} {Q:Bool→Shared→Prop} {E:LN},St [] s'.heap→(∀ b tk,Q b { s' with toks:=tk })→wpAny (model prog w) A.in1 (Builtin.List.listLengthHint (.ref v)) Q E s')(hR:∀ h' tk acc' c',acc'.length=n→En acc' h'→h'.get? S=some (Km acc' c')→R (.ok (.ret res)) { s with heap:=h',toks:=tk }) :
  wpAny (model prog w) A.in1 (Builtin.List.listExtendWith (.ref S) (.ref v) res)
   (fun fin s'=>match fin with | .done f=>R (.ok f) s' | .again c'=>c'.quiet=true∧codeAny (model prog w) A c' R s') (fun e s'=>R (.error e) s') s:=by
 unfold Builtin.List.listExtendWith;refine af (wpAny_typeOf ty ?_);rw[show Builtin.List.listSameRef (.ref S) (.ref v)=false by simp[Builtin.List.listSameRef,ne],t1,t2];simp only[Bool.or_false,iq,nQ];refine af (it fun h1 tk1 st1 sk1=>?_);refine af (dR (hint st1 fun b tk2=>?_));have hS1:=sk1 _ hS;refine wpAny_ite_split (fun _=>?_) (fun _=>?_)
 ·refine af (nM (af ?_))
  show wpAny _ A.in1 (updateSeq S (·.push .none) >>= fun _=>updateSeq S (·.pop)) _ _ _;have q1:=PySem.IsL.update hS1 (·.push Value.none);have q2:=PySem.IsL.update q1 (·.pop);obtain⟨c2,q3⟩:∃ c2,((h1.update S (Obj.mapSeq (·.push Value.none))).update S (Obj.mapSeq (·.pop))).get? S=some (Km [] c2):=⟨_,q2⟩;refine af (rn hS1 rfl (rn q1 rfl ?_ (by simp[sizeLine_eq]) (by simp[sizeLine_eq])) (by simp[sizeLine_eq]) (by simp[sizeLine_eq]));refine aA ⟨plainId_quiet F.plain_extend_loop _,?_⟩;refine vQ W hn n _ [] c2 rfl (aZ _) (W.keep st1 fun b o hb q=>?_) q3 ?_
  ·exact (ip _ _ (Ne.symm hb)).trans ((ip _ _ (Ne.symm hb)).trans q)
  ·intro h2 tk2 acc2 c2 p1 p2 p3
   exact hR h2 tk2 acc2 c2 p1 p2 p3
 ·refine aA ⟨plainId_quiet F.plain_extend_loop _,vQ W hn n _ [] c rfl (aZ _) st1 hS1 ?_⟩
  intro h2 tk2 acc2 c2 p1 p2 p3;exact hR h2 tk2 acc2 c2 p1 p2 p3
variable {E:LN}{s:Shared}
end
section
variable {prog:Program}{w:World}{A:Around}{I v:Addr}{n:Nat}{St En:List Value→Heap→Prop}{E:LN}{s:Shared}
theorem xw {T:String}{Q:List Value→Shared→Prop}(W:E7 prog w A.in1 s.heap.objs.size I n St En)(hn:n≤sizeLine)(ty:s.TypeIs (.ref v) T)(t1:(Value.type T == Value.type "list")=false)(t2:(Value.type T == Value.type "tuple")=false)(it:∀ {s':Shared} {Q:LN} {E:LN},(∀ b o,s.heap.get? b=some o→s'.heap.get? b=some o)→s'.heap.objs.size=s.heap.objs.size+1 →
   (∀ h' tk,St [] h'→(∀ o,s'.heap.get? s.heap.objs.size=some o→h'.get? s.heap.objs.size=some o)→Q (.ref I) { s' with heap:=h',toks:=tk })→wpAny (model prog w) A.in1 (pyIter (.ref v)) Q E s')(hint:∀ {s':Shared} {Q:Bool→Shared→Prop} {E:LN},St [] s'.heap→(∀ b tk,Q b { s' with toks:=tk })→wpAny (model prog w) A.in1 (Builtin.List.listLengthHint (.ref v)) Q E s')(hQ:∀ h' tk acc,acc.length=n→En acc h'→s.heap.objs.size < h'.objs.size→Q acc { s with heap:=h',toks:=tk }):wpAny (model prog w) A (collect (.ref v)) Q E s:=by
 have hv:v < s.heap.objs.size:=by obtain⟨o,e,_⟩:=ty; exact aX e
 unfold collect;refine af (wpAny_runValue (codeAny_builtin F.entry_proto_collect ?_));rw[Around.under_plainId F.plain_proto_collect _];show wpAny _ A.in1 (newList [] >>= fun l=>again (.builtin "list.__iadd__" ⟨[l,.ref v],[]⟩)) _ _ s;refine af (gL ?_);refine aA ⟨plainId_quiet F.plain_list_iadd _,codeAny_builtin F.entry_list_iadd ?_⟩;rw[Around.under_plainId F.plain_list_iadd _];show wpAny _ A.in1 (Builtin.List.listExtendWith (.ref s.heap.objs.size) (.ref v) (.ref s.heap.objs.size)) _ _ _;have hS:(s.heap.push { cls:=.type "list",data:=.seq ([]:LH).toArray }).get? s.heap.objs.size=some (Km [] 0):=br _ rfl;have oth:∀ b o,s.heap.get? b=some o→(s.heap.push { cls:=.type "list",data:=.seq ([]:LH).toArray }).get? b=some o:=fun b o q=>ak _ q
 have fin:∀ {h':Heap} {tk:Nat} {acc:LH} {c':Nat},acc.length=n→En acc h'→h'.get? s.heap.objs.size=some (Km acc c') →
   wpAny (model prog w) A (match Value.ref s.heap.objs.size with
    | Value.ref a=>do
     match (← load a).data with
      | Data.seq xs _=>pure xs.toList
      | _=>unsupported "internal:collect"
    | _=>unsupported "internal:collect") Q E { s with heap:=h',toks:=tk }:=by
  intro h' tk acc c' p1 p2 p3;show wpAny _ A (load s.heap.objs.size >>= _) _ _ _;refine af (wpAny_load p3 (aA ?_));exact hQ h' tk acc p1 p2 (aX p3)
 refine du (zB (R:=fun r s'=>∃ h' tk acc c',r=.ok (.ret (.ref s.heap.objs.size))∧s'={ s with heap:=h',toks:=tk }∧acc.length=n∧En acc h'∧h'.get? s.heap.objs.size=some (Km acc c'))
  (s:={ s with heap:=s.heap.push { cls:=.type "list",data:=.seq ([]:LH).toArray } }) (c:=0) W hn (by obtain⟨o,e,q⟩:=ty; exact⟨o,oth _ _ e,q⟩) t1 t2 (dC hv) hS (fun {Q' E'} k=>it oth (by simp) k) hint
  fun h' tk acc' c' p1 p2 p3=>⟨h',tk,acc',c',rfl,rfl,p1,p2,p3⟩) (fun f s' q=>?_) (fun e s' q=>?_)
 ·cases f with
  | done f =>
   obtain⟨h',tk,acc,c',e,rfl,p1,p2,p3⟩:=q;cases e;exact fin p1 p2 p3
  | again c =>
   refine⟨q.1,codeAny_mono q.2 fun r s'' hr=>?_⟩;obtain⟨h',tk,acc,c',rfl,rfl,p1,p2,p3⟩:=hr;exact fin p1 p2 p3
 ·obtain⟨_,_,_,_,e,_⟩:=q
  cases e
end
section
variable {X:Cx}
end
section
variable {prog:Program}{w:World}{A:Around}
end
section
variable {X:Cx}
end
abbrev Zr (h:Heap)(z:Addr)(f:Value)(g:Bool)(TI TO:Addr):Prop:=h.get? z=some { cls:=.type "zip",dict:=none,data:=.fields #[f,.bool g,.bool false,.ref TI,.ref TO],slots:=#[] }
abbrev Fl (h:Heap)(l:Addr):Heap:=h.push { cls:=.type "list_iterator",data:=.fields #[.ref l,.int 0 0] }
section
variable {prog:Program}{w:World}{A:Around}{E:LN}{s:Shared}
theorem Oe {a:Addr}{o:Obj}{Q:Option Obj→Shared→Prop}(e:s.heap.get? a=some o)(h:Q (some o) s):wpAny (model prog w) A (loadIfAlive a) Q E s:=by
 intro Γ p hΓ;unfold loadIfAlive;rw[Sem.wp_loadIfAlive,e];exact h
theorem vL {z t0 TI TO:Addr}{g:Bool}{ot:Obj}{Q:Bool→Shared→Prop}(hz:Zr s.heap z (rawInt t0) g TI TO)(ht:s.heap.get? t0=some ot)(h:∀ h',Zr h' z (rawInt t0) true TI TO→(∀ c o,c≠z→s.heap.get? c=some o→h'.get? c=some o)→h'.objs.size=s.heap.objs.size→Q false { s with heap:=h' }) :
  wpAny (model prog w) A (Builtin.SmallTypes.ownedTupleIsFree (.ref z)) Q E s:=by
 unfold Builtin.SmallTypes.ownedTupleIsFree;refine af (d8 hz rfl (x:=rawInt t0) rfl ?_);show wpAny _ _ (loadIfAlive ((t0:Int).toNat) >>= _) _ _ _;rw[bC];refine af (Oe ht ?_);simp only[Option.isNone_some,iq,nQ];refine af (d8 hz rfl (x:=.bool g) rfl ?_);cases g with
 | true =>
  simp only[bne_self_eq_false,iq,nQ];exact aA (h _ hz (fun _ _ _ q=>q) rfl)
 | false =>
  rw[if_pos (by decide)];refine af (ie hz (by simp) fun h1 hz1 sb=>aA ?_);exact h h1 hz1 (fun c o q e=>(sb.2 c q).trans e) sb.1
theorem Ae:typeLookup (.type "zip") "__len__" = pure none:=by rw[typeLookup_type,builtinLookup_eq_fast]; kernel_rfl
theorem xP:typeLookup (.type "zip") "__length_hint__" = pure none:=by rw[typeLookup_type,builtinLookup_eq_fast]; kernel_rfl
theorem Dh {z:Addr}{Q:Bool→Shared→Prop}(ty:s.TypeIs (.ref z) "zip")(k:∀ b tk,Q b { s with toks:=tk }):wpAny (model prog w) A (Builtin.List.listLengthHint (.ref z)) Q E s:=by
 unfold Builtin.List.listLengthHint;refine af (wpAny_specialOf ty Ae ?_);show wpAny _ _ (specialOf (Value.ref z) (Str.ofString "__length_hint__") >>= _) _ _ _;refine af (wpAny_specialOf ty xP ?_);exact aA (k true s.toks)
theorem Df {z TI TO:Addr}{f:Value}{g:Bool}{Q:LN}(hz:Zr s.heap z f g TI TO)(h:Q (.ref z) s):wpAny (model prog w) A (pyIter (.ref z)) Q E s:=by
 have ty:s.TypeIs (.ref z) "zip":=⟨_,hz,rfl⟩;refine wpAny_pyIter_slot ty F.slot_zip_iter (fm F.slot_zip_iter ty F.entry_zip_iter ?_ (F.args_zip_iter_1 _));show wpAny _ _ (ret (.ref z)) _ _ s;exact aA ⟨_,rfl,"zip",_,ty,F.slot_zip_next.lookup,h⟩
end
section
variable {prog:Program}{w:World}{A:Around}
end
section
variable {X:Cx}{pins:LD}{σ:St}{H H':Hp}{s:Shared}{h':Heap}
theorem Inv.many {t':Nat}(I:Inv X pins σ H s)(old:∀ b u,s.heap.get? b=some u→h'.get? b=some u)(ag:∀ b,b < s.heap.objs.size→H' b=H b)(new:∀ b o,s.heap.objs.size≤b→H' b=some o→eZ X.prog X.w H' h' b o):Inv X pins σ H' { s with heap:=h',toks:=t' }:=by
 have ag':∀ b o,H b=some o→H' b=some o:=fun b o e=>(ag b (I.hok.lt e)).trans e
 refine I.un ⟨fun b u q _ _ _=>old b u q,fun b u q _ _ _=>⟨u.slots,old b u q⟩,fun b u q e _=>(ag b (aX q)).trans e,fun b u q _=>⟨u,old b u q⟩,fun b xs q=>ag' b _ q,fun b u v q=>ag' b _ q,fun b ps q=>⟨#[],by rw[ag' b _ q]; simp⟩⟩ ?_;intro b o e;rcases rh b s.heap.objs.size with lt | ge
 ·rw[ag b lt] at e
  exact (I.hok b o e).stay (fun c v _ q=>old c v q) (fun c q=>ag' c _ q) fun c xs q=>ag' c _ q
 ·exact new b o ge e
end
open Classical in
noncomputable def zH (H:Hp)(S:Addr)(Ts:LI)(rows:LB):Hp:=fun b =>
 if b=S then some (.lst (Ts.map V.ref)) else if h:∃ (j:Nat) (r:LG),Ts[j]? = some b∧rows[j]? = some r then some (.tup h.choose_spec.choose) else H b
theorem Mn {H:Hp}{S:Addr}{Ts:LI}{rows:LB}(nd:(S :: Ts).Nodup){j:Nat}{t:Addr}{r:LG}(e:Ts[j]? = some t)(er:rows[j]? = some r):zH H S Ts rows t=some (.tup r):=by
 have nd':=dz.mp nd;have nS:t≠S:=fun q=>nd'.1 (q ▸ ae e)
 have hex:∃ (j:Nat) (r:LG),Ts[j]? = some t∧rows[j]? = some r:=⟨j,r,e,er⟩;unfold zH;rw[if_neg nS,dif_pos hex];obtain⟨p1,p2⟩:=hex.choose_spec.choose_spec
 have:hex.choose=j:=(List.getElem?_inj (aN.mp p1).1 nd'.2).mp (p1.trans e.symm)
 have er':rows[hex.choose]? = some r:=by rw[this]; exact er
 exact congrArg (fun z=>some (HO.tup z)) (aW (p2.symm.trans er'))
theorem Fk {H:Hp}{S:Addr}{Ts:LI}{rows:LB}{b:Addr}(h1:b≠S)(h2:b ∉ Ts):zH H S Ts rows b=H b:=by
 unfold zH;rw[if_neg h1,dif_neg];rintro⟨j,r,e,_⟩;exact h2 (ae e)
section
variable {X:Cx}
end
end L2
namespace L2
open PySem PySem.Spec PyProof.Rows PySem.W
section
def zo {α:Type}(lt:Nat→Nat→Bool):KasT α→α
 | .ret a=>a
 | .ask i j k=>zo lt (k (lt i j))
def qr (p q:Int × Int):Bool:=if p.1=q.1 then (if p.2=q.2 then false else decide (p.2 < q.2)) else decide (p.1 < q.1)
inductive iE (h:Heap):List Value→List (Int × Int)→Prop where
 | nil:iE h [] []
 | cons {a:Addr} {o:Obj} {n:Nat} {x y:Int} {t u:Tok} {vs:LH} {ps:LC}:h.get? a=some o→o.cls=.type "tuple"→o.data=.seq #[.int x t,.int y u] n→iE h vs ps→iE h (.ref a :: vs) ((x,y) :: ps)
theorem iE.len {h:Heap}{vs:LH}{ps:LC}(H:iE h vs ps):vs.length=ps.length:=by
 induction H with
 | nil=>rfl
 | cons _ _ _ _ ih=>rw[bq,bq,ih]
theorem iE.at {h:Heap}{vs:LH}{ps:LC}(H:iE h vs ps):∀ (i:Nat),i < ps.length→∃ (a:Addr) (o:Obj) (n:Nat) (t u:Tok) (p:Int × Int),vs[i]? = some (.ref a)∧ps[i]? = some p∧h.get? a=some o∧o.cls=.type "tuple"∧o.data=.seq #[.int p.1 t,.int p.2 u] n:=by
 induction H with
 | nil=>intro i hi; exact absurd hi (rZ _)
 | @cons a o n x y t u vs ps e c d _ ih =>
  intro i hi;cases i with
  | zero=>exact⟨a,o,n,t,u,(x,y),rfl,rfl,e,c,d⟩
  | succ i=>exact ih i (by simpa using hi)
theorem iE.keep {h h':Heap}{vs:LH}{ps:LC}(H:iE h vs ps)(k:∀ (a:Addr) (o:Obj),.ref a ∈ vs→o.cls=.type "tuple"→h.get? a=some o→h'.get? a=some o):iE h' vs ps:=by
 induction H with
 | nil=>exact .nil
 | @cons a o n x y t u vs ps e c d _ ih=>exact .cons (k a o (by simp) c e) c d (ih fun a' o' m=>k a' o' (by simp[m]))
theorem iE.firsts {h:Heap}{vs:LH}{ps:LC}(H:iE h vs ps):∃ fs,KatTups h vs fs∧fs.length=vs.length∧∀ v ∈ fs,∃ (x:Int) (t:Tok),v=.int x t:=by
 induction H with
 | nil=>exact⟨[],KatTups.nil,rfl,fun v hv=>by cases hv⟩
 | @cons a o n x y t u vs ps e c d _ ih =>
  obtain⟨fs,h1,h2,h3⟩:=ih;refine⟨.int x t :: fs,KatTups.cons e c d rfl h1,by rw[bq,bq,h2],fun v hv=>?_⟩;rcases aQ.mp hv with rfl | hv
  ·exact⟨x,t,rfl⟩
  ·exact h3 v hv
variable {prog:Program}{w:World}{A:Around}{E:LN}{s:Shared}
theorem Kl {a b:Addr}{oa ob:Obj}{n m:Nat}{p q:Int × Int}{t u t' u':Tok}{Q:Bool→Shared→Prop}(ha:s.heap.get? a=some oa)(da:oa.data=.seq #[.int p.1 t,.int p.2 u] n)(hb:s.heap.get? b=some ob)(db:ob.data=.seq #[.int q.1 t',.int q.2 u'] m)(k:Q (qr p q) s) :
  wpAny (model prog w) A (keyLt' (tuples' true) (.ref a) (.ref b)) Q E s:=by
 refine kat_lt ha da hb db ?_;show KatLex prog w A true false Q [(.int p.1 t,.int q.1 t'),(.int p.2 u,.int q.2 u')] 0 s;unfold qr at k;refine kat_cons (Dm ?_)
 by_cases h1:p.1=q.1
 ·rw[if_pos h1] at k
  rw[beq_iff_eq.mpr h1];refine kat_yes (kat_cons (Dm ?_))
  by_cases h2:p.2=q.2
  ·rw[if_pos h2] at k
   rw[beq_iff_eq.mpr h2];exact kat_yes (kat_nil k)
  ·rw[if_neg h2] at k
   rw[beq_eq_false_iff_ne.mpr h2];exact kat_no (kat_one _ _ (lt_int k))
 ·rw[if_neg h1] at k
  rw[beq_eq_false_iff_ne.mpr h1];exact kat_no (oneLt_int k)
end
end L2
namespace L2
open PySem PySem.Spec PyProof.Rows PySem.W
section
def jx {α:Type}(lt:Nat→Nat→Bool)(n:Nat):KasT α→(α→Prop)→Prop
 | .ret a,Q=>Q a
 | .ask i j k,Q=>i < n∧j < n∧jx lt n (k (lt i j)) Q
theorem jL {α β:Type}{lt:Nat→Nat→Bool}{n:Nat}{f:α→KasT β}{Q:β→Prop}:∀ t:KasT α,jx lt n t (fun a=>jx lt n (f a) Q)→jx lt n (t.bind f) Q
 | .ret _,h=>h
 | .ask i j k,h=>⟨h.1,h.2.1,jL (k (lt i j)) h.2.2⟩
theorem gJ {α:Type}{lt:Nat→Nat→Bool}{n:Nat}{Q Q':α→Prop}(m:∀ a,Q a→Q' a):∀ t:KasT α,jx lt n t Q→jx lt n t Q'
 | .ret a,h=>m a h
 | .ask i j k,h=>⟨h.1,h.2.1,gJ m (k (lt i j)) h.2.2⟩
theorem Cy {α:Type}{lt:Nat→Nat→Bool}{n:Nat}{Q:α→Prop}:∀ t:KasT α,jx lt n t Q→Q (zo lt t)
 | .ret _,h=>h
 | .ask i j k,h=>Cy (k (lt i j)) h.2.2
theorem Cw {α:Type}{cmp:Nat→Nat→(Bool→Shared→Prop)→Shared→Prop}{lt:Nat→Nat→Bool}{n:Nat}{s:Shared}{Q:α→Shared→Prop}{Q':α→Prop}(hc:∀ (i j:Nat) (C:Bool→Shared→Prop),i < n→j < n→C (lt i j) s→cmp i j C s) :
  ∀ t:KasT α,jx lt n t Q'→Q (zo lt t) s→KasT.kasWp cmp t Q s
 | .ret a,_,q=>q
 | .ask i j k,h,q=>hc i j _ h.1 h.2.1 (Cw hc (k (lt i j)) h.2.2 q)
theorem Co {a b:Int × Int}:qr a b=true↔a.1 < b.1 ∨ (a.1=b.1∧a.2 < b.2):=by
 unfold qr
 by_cases h1:a.1=b.1
 ·rw[if_pos h1]
  by_cases h2:a.2=b.2
  ·rw[if_pos h2]
   constructor
   ·intro z; cases z
   ·intro z; lia
  ·rw[if_neg h2,cy]
   lia
 ·rw[if_neg h1,cy]
  lia
def q9 (a b:Int × Int):Prop:=qr b a=false
theorem rQ {a b:Int × Int}:q9 a b↔a.1 < b.1 ∨ (a.1=b.1∧a.2≤b.2):=by
 unfold q9;rw[←Bool.not_eq_true,Co]
 lia
theorem q9.refl (a:Int × Int):q9 a a:=rQ.mpr (by lia)
theorem q9.trans {a b c:Int × Int}(h:q9 a b)(h':q9 b c):q9 a c:=by
 rw[rQ] at *
 lia
theorem q9.anti {a b:Int × Int}(h:q9 a b)(h':q9 b a):a=b:=by
 rw[rQ] at *;exact Prod.ext (by lia) (by lia)
theorem qr.le {a b:Int × Int}(h:qr a b=true):q9 a b:=by
 rw[Co] at h;rw[rQ]
 lia
variable (key:Nat→Int × Int)
def Kp (p:Array Nat)(k:Nat):Int × Int:=key (p.getD k 0)
abbrev L0 (i j:Nat):Bool:=qr (key i) (key j)
def Gd (n:Nat)(p:Array Nat):Prop:=p.toList.Perm (List.range n)
theorem Gd.size {n:Nat}{p:Array Nat}(h:Gd n p):p.size=n:=by
 have:=h.length_eq
 rw[b9,js] at this;exact this
theorem Gd.lt {n:Nat}{p:Array Nat}(h:Gd n p){k:Nat}(hk:k < n):p.getD k 0 < n:=by
 have hk':k < p.size:=by rw[h.size]; exact hk
 have e:p.getD k 0=p[k]:=by simp[hk']
 rw[e];exact dX.mp (h.mem_iff.mp (by simp))
theorem Gd.of {n:Nat}{p q:Array Nat}(h:Gd n p)(e:q.Perm p):Gd n q:=List.Perm.trans (Array.perm_iff_toList_perm.mp e) h
theorem ui (p:Array Nat)(k:Nat):Kp key p k=key (p[k]?.getD 0):=by
 unfold Kp;rw[Array.getD_eq_getD_getElem?]
theorem uh {p:Array Nat}{i j:Nat}(hj:j≤p.size)(k:Nat):Kp key (kas_rev p i j) k=if i≤k∧k < j then Kp key p (i+j - 1 - k) else Kp key p k:=by
 unfold kas_rev;rw[ui,getElem?_mirror_all hj]
 by_cases h:i≤k∧k < j
 ·rw[if_pos h,if_pos h,ui]
 ·rw[if_neg h,if_neg h,ui]
theorem IJ {p:Array Nat}{k l:Nat}(hk:k < p.size)(hl:l≤k)(i:Nat):Kp key (bubble p k (k - l)) i=if i=l then Kp key p k else if l < i∧i≤k then Kp key p (i - 1) else Kp key p i:=by
 have e:k - (k - l)=l:=by lia
 rw[ui,getElem?_bubble hk _ (by lia),e]
 by_cases h:i=l
 ·rw[if_pos h,if_pos h,ui]
 ·rw[if_neg h,if_neg h]
  by_cases h2:l < i∧i≤k
  ·rw[if_pos h2,if_pos h2,ui]
  ·rw[if_neg h2,if_neg h2,ui]
def Fd (p:Array Nat)(m:Nat):Prop:=∀ k,1≤k→k < m→q9 (Kp key p (k - 1)) (Kp key p k)
def Ox (p:Array Nat)(m:Nat):Prop:=∀ k,1≤k→k < m→q9 (Kp key p k) (Kp key p (k - 1))
theorem Fd.all {p:Array Nat}{m:Nat}(h:Fd key p m):∀ (d i:Nat),i+d < m→q9 (Kp key p i) (Kp key p (i+d))
 | 0,i,_=>.refl _
 | d+1,i,hd=>(Fd.all h d i (by lia)).trans (h (i+d+1) (by lia) hd)
theorem Fd.le {p:Array Nat}{m i j:Nat}(h:Fd key p m)(hij:i≤j)(hj:j < m):q9 (Kp key p i) (Kp key p j):=by
 have:=h.all key (j - i) i (by lia)
 rwa[show i+(j - i)=j by lia] at this
theorem AS {n:Nat}{p:Array Nat}(hp:Gd n p):∀ (f a:Nat),1≤a→a+f≤n→jx (L0 key) n (kas_asc p f a) fun m=>a≤m∧m≤a+f∧(∀ k,a≤k→k < m→q9 (Kp key p (k - 1)) (Kp key p k))∧(m < a+f→qr (Kp key p m) (Kp key p (m - 1))=true)
 | 0,a,_,_=>⟨au _,au _,(fun k h1 h2=>absurd h1 (by lia)),fun h=>absurd h (by lia)⟩
 | f+1,a,h1,h2=>by
  refine⟨hp.lt (by lia),hp.lt (by lia),?_⟩;show jx _ _ (if qr (Kp key p a) (Kp key p (a - 1))=true then .ret a else kas_asc p f (a+1)) _
  by_cases c:qr (Kp key p a) (Kp key p (a - 1))=true
  ·rw[if_pos c]
   exact⟨au _,by lia,(fun k h1 h2=>absurd h1 (by lia)),fun _=>c⟩
  ·rw[if_neg c]
   refine gJ (fun m hm=>?_) _ (AS hp f (a+1) (by lia) (by lia));obtain⟨m1,m2,m3,m4⟩:=hm;refine⟨by lia,by lia,fun k k1 k2=>?_,fun h=>m4 (by lia)⟩
   by_cases e:k=a
   ·subst e
    exact kc.mpr c
   ·exact m3 k (by lia) k2
theorem rS {n:Nat}:∀ (f:Nat) (p:Array Nat) (a q:Nat),Gd n p→a+f≤n→q+1≤a→Ox key p a→(∀ k,a≤k+1+q→k < a→Kp key p k=Kp key p (a - 1)) →
  jx (L0 key) n (kas_desc f p a q) fun r=>Gd n r.1∧a≤r.2.1∧r.2.1≤a+f∧Ox key r.1 r.2.1∧r.2.2+1≤r.2.1∧∀ k,r.2.1≤k+1+r.2.2→k < r.2.1→Kp key r.1 k=Kp key r.1 (r.2.1 - 1)
 | 0,p,a,q,hp,h1,h2,dn,eq=>⟨hp,au _,au _,dn,h2,eq⟩
 | f+1,p,a,q,hp,h1,h2,dn,eq=>by
  refine⟨hp.lt (by lia),hp.lt (by lia),?_⟩;show jx _ _ (if qr (Kp key p a) (Kp key p (a - 1))=true then (if q > 0 then kas_desc f (kas_rev p (a - (q+1)) a) (a+1) 0 else kas_desc f p (a+1) 0) else .ask (p.getD (a - 1) 0) (p.getD a 0) fun d=>if d=true then .ret (p,a,q) else kas_desc f p (a+1) (q+1)) _
  by_cases c:qr (Kp key p a) (Kp key p (a - 1))=true
  ·rw[if_pos c]
   have dn1:Ox key p (a+1):=fun k k1 k2=>by
    by_cases e:k=a
    ·subst e; exact qr.le c
    ·exact dn k k1 (by lia)
   by_cases hq:q > 0
   ·rw[if_pos hq]
    have same:∀ k,Kp key (kas_rev p (a - (q+1)) a) k=Kp key p k:=fun k=>by
     rw[uh key (by rw[hp.size]; lia)]
     split
     ·rw[eq k (by lia) (by lia),eq _ (by lia) (by lia)]
     ·rfl
    refine gJ (fun r hr=>?_) _ (rS f (kas_rev p (a - (q+1)) a) (a+1) 0 (hp.of (mirror_perm _ _ _ _)) (by lia) (by lia) (fun k k1 k2=>by rw[same,same]; exact dn1 k k1 k2) (fun k k1 k2=>by
     have:k=a+1 - 1:=by lia
     rw[this]))
    obtain⟨r1,r2,r3,r4⟩:=hr;exact⟨r1,by lia,by lia,r4⟩
   ·rw[if_neg hq]
    refine gJ (fun r hr=>?_) _ (rS f p (a+1) 0 hp (by lia) (by lia) dn1 (fun k k1 k2=>by
     have:k=a+1 - 1:=by lia
     rw[this]))
    obtain⟨r1,r2,r3,r4⟩:=hr;exact⟨r1,by lia,by lia,r4⟩
  ·rw[if_neg c]
   refine⟨hp.lt (by lia),hp.lt (by lia),?_⟩;show jx _ _ (if qr (Kp key p (a - 1)) (Kp key p a)=true then .ret (p,a,q) else kas_desc f p (a+1) (q+1)) _
   by_cases c2:qr (Kp key p (a - 1)) (Kp key p a)=true
   ·rw[if_pos c2]
    exact⟨hp,au _,by show a≤_; lia,dn,h2,eq⟩
   ·rw[if_neg c2]
    have e0:Kp key p a=Kp key p (a - 1):=q9.anti (kc.mpr c2) (kc.mpr c);refine gJ (fun r hr=>?_) _ (rS f p (a+1) (q+1) hp (by lia) (by lia) (fun k k1 k2=>?_) fun k k1 k2=>?_)
    ·obtain⟨r1,r2,r3,r4⟩:=hr
     exact⟨r1,by lia,by lia,r4⟩
    ·by_cases e:k=a
     ·subst e; rw[e0]; exact .refl _
     ·exact dn k k1 (by lia)
    ·show _=Kp key p (a+1 - 1)
     rw[Nat.add_sub_cancel]
     by_cases e:k=a
     ·rw[e]
     ·rw[eq k (by lia) (by lia),e0]
def QY (n:Nat)(r:Nat × Array Nat):Prop:=Gd n r.2∧1≤r.1∧r.1≤n∧Fd key r.2 r.1
theorem zk {n a:Nat}{p:Array Nat}(hp:Gd n p)(h1:1≤a)(h2:a≤n)(dn:Ox key p a):jx (L0 key) n (kas_tail3 a n p) (QY key n):=by
 have hr:Gd n (kas_rev p 0 a):=hp.of (mirror_perm _ _ _ _);refine jL _ (gJ (fun m hm=>?_) _ (AS key hr (n - a) a h1 (by lia)));obtain⟨m1,m2,m3,_⟩:=hm;refine⟨hr,by show 1≤m; lia,by show m≤n; lia,fun k k1 k2=>?_⟩
 by_cases hk:k < a
 ·rw[uh key (by rw[hp.size]; exact h2),uh key (by rw[hp.size]; exact h2),if_pos ⟨by lia,by lia⟩,if_pos ⟨by lia,by lia⟩]
  have:=dn (0+a - 1 - (k - 1)) (by lia) (by lia)
  rw[show 0+a - 1 - (k - 1) - 1=0+a - 1 - k by lia] at this;exact this
 ·exact m3 k (by lia) k2
theorem qQ {n a:Nat}{p:Array Nat}(hp:Gd n p)(h1:1≤a)(h2:a+1≤n)(dn:Ox key p (a+1)):jx (L0 key) n (kas_descPart a n p) (QY key n):=by
 refine jL _ (gJ (fun r hr=>?_) _ (rS key (n - (a+1)) p (a+1) 0 hp (by lia) (by lia) dn (fun k k1 k2=>by
  have:k=a+1 - 1:=by lia
  rw[this])))
 obtain⟨p',a',q'⟩:=r;obtain⟨r1,r2,r3,r4,r5,r6⟩:=hr;have r1':Gd n p':=r1;have r2':a+1≤a':=r2;have r3':a'≤a+1+(n - (a+1)):=r3;have r4':Ox key p' a':=r4;have r5':q'+1≤a':=r5;have r6':∀ k,a'≤k+1+q'→k < a'→Kp key p' k=Kp key p' (a' - 1):=r6;show jx _ _ (if q' > 0 then kas_tail3 a' n (kas_rev p' (a' - (q'+1)) a') else kas_tail3 a' n p') _
 by_cases hq:q' > 0
 ·rw[if_pos hq]
  have same:∀ k,Kp key (kas_rev p' (a' - (q'+1)) a') k=Kp key p' k:=fun k=>by
   rw[uh key (by rw[r1'.size]; lia)]
   split
   ·rw[r6' k (by lia) (by lia),r6' _ (by lia) (by lia)]
   ·rfl
  exact zk key (r1'.of (mirror_perm _ _ _ _)) (by lia) (by lia) fun k k1 k2=>by rw[same,same]; exact r4' k k1 k2
 ·rw[if_neg hq]
  exact zk key r1' (by lia) (by lia) r4'
theorem HG {n:Nat}{p:Array Nat}(hp:Gd n p)(hn:1≤n):jx (L0 key) n (kas_count n p) (QY key n):=by
 refine jL _ (gJ (fun m hm=>?_) _ (AS key hp (n - 1) 1 (au _) (by lia)));obtain⟨m1,m2,m3,m4⟩:=hm;have up:Fd key p m:=fun k k1 k2=>m3 k k1 k2
 show jx _ _ (if (m == n)=true then .ret (m,p) else if m > 1 then .ask (p.getD 0 0) (p.getD (m - 1) 0) fun c=>if c=true then .ret (m,p) else kas_descPart m n (kas_rev p 0 m) else kas_descPart m n p) _
 by_cases e:(m == n)=true
 ·rw[if_pos e]
  exact⟨hp,m1,by show m≤n; lia,up⟩
 ·rw[if_neg e]
  have ne:m≠n:=fun z=>e (by rw[z]; simp)
  have lt:=m4 (by lia)
  by_cases h1:m > 1
  ·rw[if_pos h1]
   refine⟨hp.lt (by lia),hp.lt (by lia),?_⟩;show jx _ _ (if qr (Kp key p 0) (Kp key p (m - 1))=true then .ret (m,p) else kas_descPart m n (kas_rev p 0 m)) _
   by_cases c:qr (Kp key p 0) (Kp key p (m - 1))=true
   ·rw[if_pos c]
    exact⟨hp,m1,by show m≤n; lia,up⟩
   ·rw[if_neg c]
    have c':q9 (Kp key p (m - 1)) (Kp key p 0):=kc.mpr c;have all:∀ k,k < m→Kp key p k=Kp key p 0:=fun k hk=>q9.anti ((up.le key (by lia) (by lia)).trans c') (up.le key (aZ _) hk)
    have same:∀ k,Kp key (kas_rev p 0 m) k=Kp key p k:=fun k=>by
     rw[uh key (by rw[hp.size]; lia)]
     split
     ·rw[all _ (by lia),all k (by lia)]
     ·rfl
    refine qQ key (hp.of (mirror_perm _ _ _ _)) m1 (by lia) fun k k1 k2=>?_
    rw[same,same]
    by_cases ek:k=m
    ·subst ek; exact qr.le lt
    ·rw[all k (by lia),all (k - 1) (by lia)]; exact .refl _
  ·rw[if_neg h1]
   have em:m=1:=by lia
   subst em;refine qQ key hp (by lia) (by lia) fun k k1 k2=>?_
   have:k=1:=by lia
   subst this;exact qr.le lt
theorem tM {n k:Nat}{p:Array Nat}(hp:Gd n p)(hk:k < n)(up:Fd key p k):∀ (f l r:Nat),l≤r→r≤k→r - l≤f→(∀ i,i < l→q9 (Kp key p i) (Kp key p k))→(∀ i,r≤i→i < k→q9 (Kp key p k) (Kp key p i)) →
  jx (L0 key) n (kas_place p k f l r) fun m=>m≤k∧(∀ i,i < m→q9 (Kp key p i) (Kp key p k))∧∀ i,m≤i→i < k→q9 (Kp key p k) (Kp key p i)
 | 0,l,r,h1,h2,h3,a,b=>⟨by lia,a,fun i i1 i2=>b i (by lia) i2⟩
 | f+1,l,r,h1,h2,h3,a,b=>by
  show jx _ _ (if l ≥ r then .ret l else .ask (p.getD k 0) (p.getD ((l+r) / 2) 0) fun c=>if c=true then kas_place p k f l ((l+r) / 2) else kas_place p k f ((l+r) / 2+1) r) _
  by_cases c:l ≥ r
  ·rw[if_pos c]
   exact⟨by lia,a,fun i i1 i2=>b i (by lia) i2⟩
  ·rw[if_neg c]
   refine⟨hp.lt hk,hp.lt (by lia),?_⟩;show jx _ _ (if qr (Kp key p k) (Kp key p ((l+r) / 2))=true then kas_place p k f l ((l+r) / 2) else kas_place p k f ((l+r) / 2+1) r) _
   by_cases d:qr (Kp key p k) (Kp key p ((l+r) / 2))=true
   ·rw[if_pos d]
    exact tM hp hk up f l ((l+r) / 2) (by lia) (by lia) (by lia) a fun i i1 i2=>(qr.le d).trans (up.le key i1 i2)
   ·rw[if_neg d]
    have d':q9 (Kp key p ((l+r) / 2)) (Kp key p k):=kc.mpr d;exact tM hp hk up f ((l+r) / 2+1) r (by lia) h2 (by lia) (fun i hi=>(up.le key (by lia) (by lia)).trans d') b
theorem HH {n:Nat}:∀ (f:Nat) (p:Array Nat) (k:Nat),Gd n p→1≤k→k+f=n→Fd key p k→jx (L0 key) n (kas_bin f p k) fun p'=>Gd n p'∧Fd key p' n
 | 0,p,k,hp,_,hk,up=>⟨hp,by rw[show n=k by lia]; exact up⟩
 | f+1,p,k,hp,h1,hk,up=>by
  refine jL _ (gJ (fun l hl=>?_) _ (tM key hp (by lia) up k 0 k (aZ _) (au _) (by lia) (fun i hi=>absurd hi (by lia)) fun i i1 i2=>absurd i1 (by lia)));obtain⟨l1,l2,l3⟩:=hl;have hks:k < p.size:=by rw[hp.size]; lia
  refine HH f (bubble p k (k - l)) (k+1) (hp.of (bubble_perm _ _ _)) (by lia) (by lia) fun i i1 i2=>?_
  rw[IJ key hks l1,IJ key hks l1]
  by_cases e1:i=l
  ·rw[if_pos e1,if_neg (by lia),if_neg (by lia)]
   exact l2 _ (by lia)
  ·by_cases e2:i - 1=l
   ·rw[if_pos e2,if_neg e1,if_pos ⟨by lia,by lia⟩,e2]
    exact l3 l (au _) (by lia)
   ·rw[if_neg e1,if_neg e2]
    by_cases e3:l < i
    ·rw[if_pos ⟨by lia,by lia⟩,if_pos ⟨by lia,by lia⟩]
     exact up (i - 1) (by lia) (by lia)
    ·rw[if_neg (by lia),if_neg (by lia)]
     exact up i i1 (by lia)
theorem Cu {n:Nat}(hn:1≤n):jx (L0 key) n (kas_sort n) fun p=>Gd n p∧Fd key p n:=by
 refine jL _ (gJ (fun r hr=>?_) _ (HG key (p:=List.toArray (List.range n)) (by show List.Perm _ _; simp) hn));obtain⟨m,p⟩:=r;obtain⟨r1,r2,r3,r4⟩:=hr;have r1':Gd n p:=r1;have r2':1≤m:=r2;have r3':m≤n:=r3;have r4':Fd key p m:=r4;show jx _ _ (if m < n then kas_bin (n - max m 1) p (max m 1) else .ret p) _
 by_cases h:m < n
 ·rw[if_pos h,Nat.max_eq_left r2']
  exact HH key (n - m) p m r1' r2' (by lia) r4'
 ·rw[if_neg h]
  have e:m=n:=by lia
  rw[e] at r4';exact⟨r1',r4'⟩
end
end L2
namespace L2
open PySem PySem.Spec PyProof.Rows PySem.W
section
def AD (ps:LC):LJ:=(zo (fun i j=>qr (ps.getD i (0,0)) (ps.getD j (0,0))) (kas_sort ps.length)).toList
def Du (ps:LC):LC:=if ps.length < 2 then ps else (AD ps).map fun i=>ps.getD i (0,0)
theorem G8 {ps:LC}(h:1≤ps.length):(AD ps).Perm (List.range ps.length):=(Cy _ (Cu (fun i=>ps.getD i (0,0)) h)).1
theorem w6 {ps:LC}(h:1≤ps.length):(∀ i ∈ AD ps,i < ps.length)∧(AD ps).length=ps.length:=by
 have:=G8 h
 exact⟨fun i hi=>dX.mp (this.mem_iff.mp hi),by rw[this.length_eq,b9]⟩
def kF (ps:LC)(vs:LH):LH:=if ps.length < 2 then vs else (AD ps).map fun i=>vs.getD i Value.none
theorem sx {vs:LH}{ps:LC}(hl:vs.length=ps.length):(kF ps vs).length=ps.length:=by
 unfold kF
 by_cases c:ps.length < 2
 ·rw[if_pos c]; exact hl
 ·rw[if_neg c,aa]
  exact (w6 (by lia)).2
theorem OQ (vs:LH):Array.map (fun x=>x.snd) (vs.toArray.zip vs.toArray)=vs.toArray:=by
 apply Array.ext'
 simp;exact List.map_snd_zip (au _)
variable {prog:Program}{w:World}{A:Around}{E:LN}{s:Shared}
theorem Ap {a:Addr}{vs:LH}{ps:LC}{n:Nat}{P:PySem.Fin→Shared→Prop}(e:s.heap.get? a=some (seqObj "list" vs.toArray n))(H:iE s.heap vs ps)(hl:vs.length < 64)(k:P (Fin.done (Flow.ret Value.none)) { s with heap:=sortedHeap s.heap a vs (kF ps vs).toArray }):wpAny (model prog w) A (Builtin.«list.sort» { pos:=[Value.ref a] }) P E s:=by
 rw[list_sort_plain];have hlp:=H.len;refine af (listItems_at e rfl ?_);refine af (listUpdate_at e rfl ?_ (by rw[aI]; exact cf (bo (by lia))) (by simp));obtain⟨ep,e1⟩:∃ ep,(s.heap.update a (Obj.mapSeq fun _=>#[])).get? a=some (seqObj "list" #[] ep):=⟨_,get?_update_seq e fun _=>#[]⟩;refine af (seqEpoch_at e1 rfl ?_);refine af (wpAny_newTuple ?_ (by simp only[List.toList_toArray]; exact cf (bo (by lia))));refine af (wpAny_newList ?_ (by simp));refine dR ?_;have e2:(((s.heap.update a (Obj.mapSeq fun x=>#[])).push (seqObj "tuple" vs.toArray 0)).push (seqObj "list" #[] 0)).get? a=some (seqObj "list" #[] ep):=ak _ (ak _ e1);have keep:iE (((s.heap.update a (Obj.mapSeq fun x=>#[])).push (seqObj "tuple" vs.toArray 0)).push (seqObj "list" #[] 0)) vs ps:=H.keep fun b o _ ho' eb=>by
  have nb:b≠a:=fun z=>by
   rw[z,e] at eb;have eo:=aW eb;rw[←eo] at ho';have ho2:(Value.type "list")=Value.type "tuple":=ho';exact absurd ho2 (by decide)
  exact ak _ (ak _ (j9 _ nb.symm eb))
 by_cases c:vs.toArray.size < 2
 ·have c':ps.length < 2:=by rw[←hlp]; simpa using c
  have es:kF ps vs=vs:=by unfold kF; rw[if_pos c']
  rw[es] at k;rw[if_pos c,if_pos c];refine af (aA ?_);refine af (aA ?_);refine af (seqEpoch_at e2 rfl ?_);refine af (listUpdate_at e2 rfl ?_ (by simp) ?_)
  ·show wpAny _ _ (if (ep != ep)=true then _ else ret Value.none) P E _
   rw[bne_self_eq_false,if_neg ba];refine aA ?_;have hX:Array.map (fun x=>x.snd) (arrOf (SortSt.mk' general' (vs.toArray.zip vs.toArray) #[] 7 none))=vs.toArray:=OQ vs;rw[hX];exact k
  ·have hX:Array.map (fun x=>x.snd) (arrOf (SortSt.mk' general' (vs.toArray.zip vs.toArray) #[] 7 none))=vs.toArray:=OQ vs
   rw[hX,aI];exact Nat.le_succ_of_le (cf (bo (by lia)))
 ·have c':¬ ps.length < 2:=by rw[←hlp]; simpa using c
  rw[if_neg c,if_neg c];obtain⟨fs,f1,f2,f3⟩:=keep.firsts;refine af (kat_kind (T:=.type "int") f1 (by lia) (fun v hv=>?_) (by decide) ?_)
  ·obtain⟨x,t,rfl⟩:=f3 v hv
   exact fun A Q E s' _ q=>wpAny_typeOf rfl q
  ·have h2e:∃ S:Shared,S={ s with heap:=(((s.heap.update a (Obj.mapSeq fun x=>#[])).push (seqObj "tuple" vs.toArray 0)).push (seqObj "list" #[] 0)) }:=⟨_,rfl⟩
   obtain⟨S,hS⟩:=h2e;have eS:S.heap.get? a=some (seqObj "list" #[] ep):=by rw[hS]; exact e2
   have kS:iE S.heap vs ps:=by rw[hS]; exact keep
   have kk:P (Fin.done (Flow.ret Value.none)) { S with heap:=S.heap.update a (Obj.mapSeq fun _=>(kF ps vs).toArray) }:=by rw[hS]; exact k
   show wpAny (model prog w) A _ P E { s with heap:=(((s.heap.update a (Obj.mapSeq fun x=>#[])).push (seqObj "tuple" vs.toArray 0)).push (seqObj "list" #[] 0)) };rw[←hS];clear hS k keep e2 e1 f1 f3;have run:=kat_run (prog:=prog) (w:=w) (A:=A) (E:=E) (s:=S) (vs:=vs) (ks:=vs) (κ:=tuples' true) rfl (by lia) hl (Q:=fun st s'=>Array.map (fun x=>x.snd) (arrOf st)=(kF ps vs).toArray∧failedOf st=none∧s'=S) (G:=fun p s'=>p=zo (fun i j=>qr (ps.getD i (0,0)) (ps.getD j (0,0))) (kas_sort vs.length)∧s'=S) (fun p st' s' hp ha hf hg=>?_) ?_
   ·refine af (du run (fun r s' hr=>?_) fun _ _ h=>h)
    obtain⟨⟨⟩,st⟩:=r;obtain⟨r1,r2,rfl⟩:=hr;refine af (seqEpoch_at eS rfl ?_);refine af (listUpdate_at eS rfl ?_ (by simp) ?_)
    ·show wpAny _ _ (match failedOf st with | some e=>_ | x=>if (ep != ep)=true then _ else ret Value.none) P E _
     rw[r2];show wpAny _ _ (if (ep != ep)=true then _ else ret Value.none) P E _;rw[bne_self_eq_false,if_neg ba];refine aA ?_;have r1':Array.map (fun x=>x.snd) (arrOf st)=(kF ps vs).toArray:=r1;rw[r1'];exact kk
    ·show (Array.map (fun x=>x.snd) (arrOf st)).size≤_
     have r1':Array.map (fun x=>x.snd) (arrOf st)=(kF ps vs).toArray:=r1;rw[r1',aI,sx hlp];exact Nat.le_succ_of_le (cf (bo (by lia)))
   ·obtain⟨rfl,rfl⟩:=hg
    refine⟨?_,hf,rfl⟩;have hi:((fun x:Keyed=>x.snd) ∘ kas_item (vs.toArray.zip vs.toArray))=fun i=>vs.getD i Value.none:=funext fun i=>by
     show (kas_item (vs.toArray.zip vs.toArray) i).2=_;rw[kat_item rfl i]
    rw[ha,Array.map_map,hi];unfold kF AD;rw[if_neg c',hlp]
    apply Array.ext'
    simp
   ·refine Cw (n:=vs.length) (lt:=fun i j=>qr (ps.getD i (0,0)) (ps.getD j (0,0))) (fun i j C hi hj hC=>?_) _ (by rw[hlp]; exact Cu (fun i=>ps.getD i (0,0)) (by lia)) ⟨rfl,rfl⟩
    obtain⟨a1,o1,n1,t1,u1,p1,x1,x2,x3,x4,x5⟩:=kS.at i (by lia);obtain⟨a2,o2,n2,t2,u2,p2,y1,y2,y3,y4,y5⟩:=kS.at j (by lia);show wpAny _ _ (keyLt' (tuples' true) (vs.getD i Value.none) (vs.getD j Value.none)) C _ S;have g1:vs.getD i Value.none=.ref a1:=by rw[aR,x1]; rfl
    have g2:vs.getD j Value.none=.ref a2:=by rw[aR,y1]; rfl
    have g3:ps.getD i (0,0)=p1:=by rw[aR,x2]; rfl
    have g4:ps.getD j (0,0)=p2:=by rw[aR,y2]; rfl
    have hC':C (qr (ps.getD i (0,0)) (ps.getD j (0,0))) S:=hC;rw[g3,g4] at hC';rw[g1,g2];exact Kl x3 x5 y3 y5 hC'
end
end L2
namespace L2
open PySem PySem.Spec PyProof.Rows PySem.W
section
variable {prog:Program}{w:World}{A:Around}{E:LN}{s:Shared}
theorem qJ {vs:LH}{ps:LC}{Q:PySem.Fin→Shared→Prop}(H:iE s.heap vs ps)(hl:vs.length < 64)(k:Q (Fin.done (Flow.ret (Value.ref s.heap.objs.size))) { s with heap:=sortedHeap (s.heap.push (seqObj "list" vs.toArray 0)) s.heap.objs.size vs (kF ps vs).toArray }) :
  wpAny (model prog w) A (do let l ← newList vs; let _ ← holding [l] (call (Value.builtin "list.sort") [l]); ret l) Q E s:=by
 refine af (wpAny_newList ?_ (cf (bo (by lia))));have e:(s.heap.push (seqObj "list" vs.toArray 0)).get? s.heap.objs.size=some (seqObj "list" vs.toArray 0):=br _ rfl;refine af (dR (fm slot_list_sort ⟨_,e,rfl⟩ entry_list_sort ?_ (args_list_sort _)));exact Ap e (H.keep fun b o _ _ eb=>ak _ eb) hl ⟨_,rfl,aA k⟩
theorem wC {l:Addr}{vs:LH}{ps:LC}{Q:LN}(isl:s.heap.IsList l vs.toArray)(H:iE s.heap vs ps)(hl:vs.length < 64)(k:Q (.ref (s.heap.objs.size+1)) { s with heap:=sortedAll s.heap vs (kF ps vs).toArray }):wpAny (model prog w) A (call (Value.builtin "sorted") [Value.ref l]) Q E s:=by
 refine call_function_tree kind_sorted plain_sorted entry_sorted (args_sorted1 _) ?_;unfold Builtin.sorted;refine af (wpAny_of_eq (show checkCount "sorted" 1 1 1=pure () from rfl) ?_);refine af (collect_list isl ?_ (cf (bo (by lia))));have z:((s.heap.push (seqObj "list" #[] 0)).update s.heap.objs.size (Obj.mapSeq fun x=>x++vs.toArray)).objs.size=s.heap.objs.size+1:=by rw[Heap.size_update,dw]
 refine qJ (s:={ s with heap:=(s.heap.push (seqObj "list" #[] 0)).update s.heap.objs.size (Obj.mapSeq fun x=>x++vs.toArray) }) (H.keep fun b o _ _ eb=>?_) hl ?_
 ·exact j9 _ (dC (aX eb)) (ak _ eb)
 ·show Q (.ref ((s.heap.push (seqObj "list" #[] 0)).update s.heap.objs.size (Obj.mapSeq fun x=>x++vs.toArray)).objs.size) { s with heap:=sortedHeap (((s.heap.push (seqObj "list" #[] 0)).update s.heap.objs.size (Obj.mapSeq fun x=>x++vs.toArray)).push (seqObj "list" vs.toArray 0)) ((s.heap.push (seqObj "list" #[] 0)).update s.heap.objs.size (Obj.mapSeq fun x=>x++vs.toArray)).objs.size vs (kF ps vs).toArray }
  rw[z];exact k
end
abbrev Da (h:Heap)(t:Addr)(a b:Value):Prop:=h.get? t=some { cls:=.type "tuple",data:=.seq #[a,b] }
theorem ur (a b:Value):checkTypeCall "zip" ⟨[a,b],[]⟩=pure ():=by kernel_rfl
theorem xf (a b:Value):checkBuiltinCall "zip.__new__" ⟨[.type "zip",a,b],[]⟩=pure ():=by kernel_rfl
theorem Bf (a b c:Value):argsOk "object.__init__" ⟨[a,b,c],[]⟩:=by
 unfold argsOk;rw[signature?_of (id:="object.__init__") (n:=['_','_','t','i','n','i','_','_']) (o:=['t','c','e','j','b','o']) (by kernel_rfl) F.owner_object]
 kernel_rfl
abbrev Qc (h:Heap)(l m:Addr):Heap:=(Fl (Fl h l) m).push { cls:=.type "tuple",data:=.seq #[.ref h.objs.size,.ref (Fl h l).objs.size] }
abbrev Qb (h:Heap)(l m:Addr):Heap:=(Qc h l m).push { cls:=.type "tuple",data:=.seq #[.none,.none] }
abbrev Mo (h:Heap)(l m:Addr):Heap:=(Qb h l m).push { cls:=.type "zip",data:=.fields #[.none,.bool false,.bool false,.ref (Fl (Fl h l) m).objs.size,.ref (Qc h l m).objs.size] }
theorem Af (l m:Addr)(xs ys:LU) :
  Meets (Builtin.«zip.__new__» ⟨[.type "zip",.ref l,.ref m],[]⟩) (fun _ R s=>s.heap.IsList l xs∧s.heap.IsList m ys∧R (.ok (.ret (.ref (Qb s.heap l m).objs.size))) { s with heap:=Mo s.heap l m }) :=
 .of_wp fun prog w A R s h=>by
  obtain⟨hp,g,d,tk,os⟩:=s;obtain⟨h1,h2,h⟩:=h;have hsub:=sub_zip;have k1:Heap.IsList (Shared.heap ⟨hp,g,d,tk,os⟩) l xs:=h1;have k2:Heap.IsList (Shared.heap ⟨hp.push { cls:=.type "list_iterator",data:=.fields #[.ref l,.int 0 0] },g,d,tk,os⟩) m ys:=Heap.IsList.push h2 _
  wp_walk using oM k1,oM k2
  exact⟨_,rfl,h⟩
structure YS (h:Heap)(b:Nat)(l m:Addr)(i:Nat)(f:Value)(g:Bool):Prop where
 z:Zr h (b+4) f g (b+2) (b+3)
 ti:Da h (b+2) (.ref b) (.ref (b+1))
 to:∃ x y,Da h (b+3) x y
 i1:h.IsListIter b l i
 i2:h.IsListIter (b+1) m i
section
variable {prog:Program}{w:World}{A:Around}{E:LN}{s:Shared}
theorem Fh {l m:Addr}{xs ys:LU}{Q:LN}(h1:s.heap.IsList l xs)(h2:s.heap.IsList m ys)(h:∀ h',YS h' s.heap.objs.size l m 0 .none false→h'.objs.size=s.heap.objs.size+5→(∀ c o,s.heap.get? c=some o→h'.get? c=some o)→Q (.ref (s.heap.objs.size+4)) { s with heap:=h' }) :
  wpAny (model prog w) A (call (.type "zip") [.ref l,.ref m]) Q E s:=by
 refine callType_new F.called_zip (by decide) (ur _ _) (xf _ _) (fun obj=>Bf obj _ _) F.entry_zip_new (Af l m xs ys) ⟨h1,h2,?_⟩;have e1:(Fl s.heap l).objs.size=s.heap.objs.size+1:=dw ..;have e2:(Fl (Fl s.heap l) m).objs.size=s.heap.objs.size+2:=by rw[dw,e1]
 have e4:(Qc s.heap l m).objs.size=s.heap.objs.size+3:=by rw[dw,e2]
 have e5:(Qb s.heap l m).objs.size=s.heap.objs.size+4:=by rw[dw,e4]
 have e6:(Mo s.heap l m).objs.size=s.heap.objs.size+5:=by rw[dw,e5]
 have g6:(Mo s.heap l m).get? (Qb s.heap l m).objs.size=some _:=br _ rfl;have g5:(Mo s.heap l m).get? (Qc s.heap l m).objs.size=some _:=ak _ (br _ rfl);have g4:(Mo s.heap l m).get? (Fl (Fl s.heap l) m).objs.size=some _:=ak _ (ak _ (br _ rfl));have g2:(Mo s.heap l m).get? (Fl s.heap l).objs.size=some _:=ak _ (ak _ (ak _ (br _ rfl)));have g1:(Mo s.heap l m).get? s.heap.objs.size=some _:=ak _ (ak _ (ak _ (ak _ (br _ rfl))));show _∧_;rw[e2,e4,e5] at g6;rw[e4] at g5;rw[e1,e2] at g4;rw[e1] at g2;rw[e5];exact⟨⟨_,g6,rfl⟩,h _ ⟨g6,g4,⟨_,_,g5⟩,⟨_,g1,rfl,rfl⟩,⟨_,g2,rfl,rfl⟩⟩ e6 fun c o q =>
  ak _ (ak _ (ak _ (ak _ (ak _ q))))⟩
theorem Di {b l m t0:Addr}{i:Nat}{g:Bool}{ot:Obj}{xs ys:LU}{x y:Value}{Q:Option Value→Shared→Prop}(hz:YS s.heap b l m i (rawInt t0) g)(ht:s.heap.get? t0=some ot)(bl:l < b)(bm:m < b)(h1:s.heap.IsList l xs)(h2:s.heap.IsList m ys)(hx:xs[i]? = some x)(hy:ys[i]? = some y)(hQ:∀ h',YS h' b l m (i+1) (rawInt t0) true→Da h' s.heap.objs.size x y→(∀ c o,(c < b ∨ b+5≤c)→s.heap.get? c=some o→h'.get? c=some o)→Q (some (.ref s.heap.objs.size)) { s with heap:=h' }) :
  wpAny (model prog w) A (pyNext (.ref (b+4))) Q E s:=by
 obtain⟨z,ti,⟨q1,q2,to⟩,i1,i2⟩:=hz;have hT:s.TypeIs (.ref (b+4)) "zip":=⟨_,z,rfl⟩;unfold pyNext;refine af (wpAny_attempt (hJ (name:=Str.ofString "__next__") hT F.slot_zip_next (fm F.slot_zip_next hT F.entry_zip_next ?_ (F.args_zip_next_1 _))));show wpAny _ _ (field (.ref (b+4)) 2 >>= _) _ _ _;refine af (d8 z rfl (x:=.bool false) rfl ?_);show wpAny _ _ (field (.ref (b+4)) 3 >>= _) _ _ _;refine af (d8 z rfl (x:=.ref (b+2)) rfl ?_);refine af (iY ti rfl ?_);show wpAny _ _ (Builtin.SmallTypes.ownedTupleIsFree (.ref (b+4)) >>= _) _ _ _;refine af (vL z ht fun h0 z0 k0 e0=>?_);simp only[iq,nQ];rw[←n9];show wpAny _ _ (forIn [Value.ref b,Value.ref (b+1)] _ _ >>= _) _ _ _;refine af ?_;simp only[jC,uB];refine af (af (dR ?_));show wpAny _ _ (Builtin.SmallTypes.nextOf (.ref b) >>= _) _ _ _;have ne:∀ {x y:Nat},x≠y→(b+x:Nat)≠b+y:=fun q e=>q (jr e)
 have lo:∀ {c:Nat} (k:Nat),c < b→c≠b+k:=fun k q=>bZ (aH q (cS b k))
 refine af (jX (i1.at fun o e=>k0 _ o (ne (x:=0) (by decide)) e) (h1.at fun o e=>k0 _ o (lo 4 bl) e) hx fun ha ia sa=>aA ?_);refine aA ?_;refine af (af (dR ?_));show wpAny _ _ (Builtin.SmallTypes.nextOf (.ref (b+1)) >>= _) _ _ _;have ka:∀ c o,c≠b+4→c≠b→s.heap.get? c=some o→ha.get? c=some o:=fun c o q q' e=>(sa.2 c q').trans (k0 c o q e)
 refine af (jX (i2.at fun o e=>ka _ o (ne (by decide)) (ne (y:=0) (by decide)) e) (h2.at fun o e=>ka _ o (lo 4 bm) (bZ bm) e) hy fun hb ib sb=>aA ?_);refine aA (aA ?_);show wpAny _ _ (newTuple [x,y] >>= fun t=>ret t) _ _ _;refine af (wpAny_newTuple (aA ⟨_,rfl,aA ?_⟩));have kb:∀ c o,c≠b+4→c≠b→c≠b+1→s.heap.get? c=some o→hb.get? c=some o:=fun c o q q' q'' e=>(sb.2 c q'').trans (ka c o q q' e)
 have sz:hb.objs.size=s.heap.objs.size:=by rw[sb.1,sa.1]; exact e0
 show Q (some (.ref hb.objs.size)) _;have up:∀ c o,hb.get? c=some o→(hb.push { cls:=.type "tuple",data:=.seq #[x,y] }).get? c=some o:=fun c o e=>ak _ e
 have tn:Da (hb.push { cls:=.type "tuple",data:=.seq #[x,y] }) hb.objs.size x y:=br _ rfl;rw[sz] at tn ⊢;refine hQ _ ⟨up _ _ ?_,up _ _ (kb _ _ (ne (by decide)) (ne (y:=0) (by decide)) (ne (by decide)) ti),⟨q1,q2,up _ _ (kb _ _ (ne (by decide)) (ne (y:=0) (by decide)) (ne (by decide)) to)⟩,?_,ib.at fun o e=>up _ o e⟩ tn fun c o lc e=>up _ _ (kb _ _ ?_ ?_ ?_ e)
 ·exact (sb.2 _ (ne (by decide))).trans ((sa.2 _ (ne (y:=0) (by decide))).trans z0)
 ·exact ia.at fun o e=>up _ o ((sb.2 _ (ne (x:=0) (by decide))).trans e)
 all_goals
  rcases lc with lc | lc
  ·first | exact lo 4 lc | exact bZ lc | exact lo 1 lc
  ·first
    | exact dC (aH (mJ (by decide) b) lc)
    | exact dC (aH (Nat.lt_add_of_pos_right (by decide)) lc)
theorem Cd {t:Addr}{a b x:Value}{k:Nat}{Q:Unit→Shared→Prop}(ht:Da s.heap t a b)(h:∀ h',h'.get? t=some { cls:=.type "tuple",data:=.seq ((#[a,b]:LU).setIfInBounds k x) }→Heap.SameBut t s.heap h'→Q () { s with heap:=h' }) :
  wpAny (model prog w) A (updateSeq t (·.setIfInBounds k x)) Q E s:=by
 refine rn ht rfl (h _ ?_ (Heap.SameBut.update ..));rw[kz _ ht rfl];simp[Obj.mapSeq]
theorem Dj {b l m:Addr}{i:Nat}{g:Bool}{xs ys:LU}{x y:Value}{Q:Option Value→Shared→Prop}(hz:YS s.heap b l m i .none g)(gf:g=false)(bl:l < b)(bm:m < b)(h1:s.heap.IsList l xs)(h2:s.heap.IsList m ys)(hx:xs[i]? = some x)(hy:ys[i]? = some y)(hQ:∀ h',YS h' b l m (i+1) (rawInt s.heap.objs.size) false→Da h' s.heap.objs.size x y→(∀ c o,(c < b ∨ b+5≤c)→s.heap.get? c=some o→h'.get? c=some o)→Q (some (.ref s.heap.objs.size)) { s with heap:=h' }) :
  wpAny (model prog w) A (pyNext (.ref (b+4))) Q E s:=by
 subst gf;have ne:∀ {x y:Nat},x≠y→(b+x:Nat)≠b+y:=fun q e=>q (jr e)
 have lo:∀ {c:Nat} (k:Nat),c < b→c≠b+k:=fun k q=>bZ (aH q (cS b k))
 obtain⟨z,ti,⟨q1,q2,to⟩,i1,i2⟩:=hz;have hT:s.TypeIs (.ref (b+4)) "zip":=⟨_,z,rfl⟩;unfold pyNext;refine af (wpAny_attempt (hJ (name:=Str.ofString "__next__") hT F.slot_zip_next (fm F.slot_zip_next hT F.entry_zip_next ?_ (F.args_zip_next_1 _))));show wpAny _ _ (field (.ref (b+4)) 2 >>= _) _ _ _;refine af (d8 z rfl (x:=.bool false) rfl ?_);show wpAny _ _ (field (.ref (b+4)) 3 >>= _) _ _ _;refine af (d8 z rfl (x:=.ref (b+2)) rfl ?_);refine af (iY ti rfl ?_);show wpAny _ _ (Builtin.SmallTypes.ownedTupleIsFree (.ref (b+4)) >>= _) _ _ _;refine af ?_;unfold Builtin.SmallTypes.ownedTupleIsFree;refine af (d8 z rfl (x:=.none) rfl (aA ?_));simp only[if_true];refine af (nM ?_);refine af (d8 z rfl (x:=.ref (b+3)) rfl ?_);refine af (ie z (by simp) fun h0 z0 s0=>?_)
 replace z0:Zr h0 (b+4) .ellipsis false (b+2) (b+3):=z0
 refine af ?_;simp only[List.zipIdx_cons,List.zipIdx_nil,jC,uB];have k0:∀ c o,c≠b+4→s.heap.get? c=some o→h0.get? c=some o:=fun c o q e=>(s0.2 c q).trans e
 refine af (af (wpAny_onRaise ?_));show wpAny _ _ (Builtin.SmallTypes.nextOf (.ref b) >>= _) _ _ _;refine af (jX (i1.at fun o e=>k0 _ o (ne (x:=0) (by decide)) e) (h1.at fun o e=>k0 _ o (lo 4 bl) e) hx fun ha ia sa=>aA ?_);have ta:Da ha (b+3) q1 q2:=(sa.2 _ (ne (y:=0) (by decide))).trans (k0 _ _ (ne (by decide)) to);refine af (iY ta rfl ?_);refine af (Cd ta fun hb tb sb=>?_)
 replace tb:Da hb (b+3) x q2:=tb
 refine af (wpAny_letGo (aA ?_));have kb:∀ c o,c≠b+4→c≠b→c≠b+3→s.heap.get? c=some o→hb.get? c=some o:=fun c o p1 p2 p3 e=>(sb.2 c p3).trans ((sa.2 c p2).trans (k0 c o p1 e))
 refine af (af (wpAny_onRaise ?_));show wpAny _ _ (Builtin.SmallTypes.nextOf (.ref (b+1)) >>= _) _ _ _;refine af (jX (i2.at fun o e=>kb _ o (ne (by decide)) (ne (y:=0) (by decide)) (ne (by decide)) e) (h2.at fun o e=>kb _ o (lo 4 bm) (bZ bm) (lo 3 bm) e) hy fun hc ic sc=>aA ?_);have tc:Da hc (b+3) x q2:=(sc.2 _ (ne (by decide))).trans tb;refine af (iY tc rfl ?_);refine af (Cd tc fun hf tf sf=>?_)
 replace tf:Da hf (b+3) x y:=tf
 refine af (wpAny_letGo (aA (aA ?_)));have kf:∀ c o,c≠b+4→c≠b→c≠b+3→c≠b+1→s.heap.get? c=some o→hf.get? c=some o:=fun c o p1 p2 p3 p4 e=>(sf.2 c p3).trans ((sc.2 c p4).trans (kb c o p1 p2 p3 e))
 have sz:hf.objs.size=s.heap.objs.size:=by rw[sf.1,sc.1,sb.1,sa.1,s0.1]
 refine af (iY tf rfl ?_);refine af (wpAny_newTuple ?_);have zf:Zr hf (b+4) .ellipsis false (b+2) (b+3) :=
  (sf.2 _ (ne (by decide))).trans ((sc.2 _ (ne (by decide))).trans ((sb.2 _ (ne (by decide))).trans ((sa.2 _ (ne (y:=0) (by decide))).trans z0)))
 show wpAny _ _ (Builtin.SmallTypes.ownedTupleHandOut (.ref (b+4)) (.ref hf.objs.size) >>= _) _ _ _;refine af ?_;unfold Builtin.SmallTypes.ownedTupleHandOut;have zg:Zr (hf.push { cls:=.type "tuple",data:=.seq #[x,y] }) (b+4) .ellipsis false (b+2) (b+3):=ak _ zf;refine af (ie zg (by simp) fun hg zg sg=>?_)
 replace zg:Zr hg (b+4) (rawInt hf.objs.size) false (b+2) (b+3):=zg
 refine ie zg (by simp) fun hh zh sh=>?_
 replace zh:Zr hh (b+4) (rawInt hf.objs.size) false (b+2) (b+3):=zh
 have lt5:b+4 < hf.objs.size:=aX zf;have up:∀ c o,c≠b+4→hf.get? c=some o→hh.get? c=some o:=fun c o q e=>(sh.2 c q).trans ((sg.2 c q).trans (ak _ e))
 have tn:Da hh hf.objs.size x y:=(sh.2 _ (dC lt5)).trans ((sg.2 _ (dC lt5)).trans (br _ rfl));refine aA ⟨_,rfl,aA ?_⟩;show Q (some (.ref hf.objs.size)) _;rw[sz] at tn zh ⊢;refine hQ _ ⟨zh,up _ _ (ne (by decide)) (kf _ _ (ne (by decide)) (ne (y:=0) (by decide)) (ne (by decide)) (ne (by decide)) ti),⟨x,y,up _ _ (ne (by decide)) tf⟩,?_,?_⟩ tn fun c o lc e=>up _ _ ?_ (kf _ _ ?_ ?_ ?_ ?_ e)
 ·exact ia.at fun o e=>up _ o (ne (x:=0) (by decide)) ((sf.2 _ (ne (x:=0) (by decide))).trans ((sc.2 _ (ne (x:=0) (by decide))).trans ((sb.2 _ (ne (x:=0) (by decide))).trans e)))
 ·exact ic.at fun o e=>up _ o (ne (by decide)) ((sf.2 _ (ne (by decide))).trans e)
 all_goals
  rcases lc with lc | lc
  ·first | exact lo 4 lc | exact bZ lc | exact lo 1 lc | exact lo 3 lc
  ·first
    | exact dC (aH (mJ (by decide) b) lc)
    | exact dC (aH (Nat.lt_add_of_pos_right (by decide)) lc)
theorem Fi {b l m:Addr}{i:Nat}{f:Value}{g:Bool}{xs:LU}{Q:Option Value→Shared→Prop}(hh:A.handled=none)(hz:YS s.heap b l m i f g)(hf:(f=.none∧g=false) ∨ ∃ (t0:Addr) (ot:Obj),f=rawInt t0∧s.heap.get? t0=some ot)(bl:l < b)(h1:s.heap.IsList l xs)(hx:xs[i]? = none)(hQ:∀ h',(∀ c o,(c < b ∨ b+5≤c)→s.heap.get? c=some o→h'.get? c=some o)→Q none { s with heap:=h' }) :
  wpAny (model prog w) A (pyNext (.ref (b+4))) Q E s:=by
 have ne:∀ {x y:Nat},x≠y→(b+x:Nat)≠b+y:=fun q e=>q (jr e)
 have lo:∀ {c:Nat} (k:Nat),c < b→c≠b+k:=fun k q=>bZ (aH q (cS b k))
 have far:∀ {c:Nat} (k:Nat),k < 5→c < b ∨ b+5≤c→c≠b+k:=fun k hk q=>q.elim (lo k) fun q=>dC (aH (mJ hk b) q)
 obtain⟨z,ti,⟨q1,q2,to⟩,i1,i2⟩:=hz;have hT:s.TypeIs (.ref (b+4)) "zip":=⟨_,z,rfl⟩;unfold pyNext;refine af (wpAny_attempt (hJ (name:=Str.ofString "__next__") hT F.slot_zip_next (fm F.slot_zip_next hT F.entry_zip_next ?_ (F.args_zip_next_1 _))));have fin:∀ {h':Heap} {e:Addr},(∃ o,h'.get? e=some o∧o.cls=.type "StopIteration")→(∀ c o,(c < b ∨ b+5≤c)→s.heap.get? c=some o→h'.get? c=some o) →
   wpAny (model prog w) A (do if ← isInstance (.ref e) (.type "StopIteration") then pure none else throw (.ref e)) Q E { s with heap:=h' }:=by
  intro h' e ⟨o,he,hc⟩ hk;refine af (wpAny_isInstance (T:="StopIteration") (b:=true) ⟨o,he,hc⟩ isSubtype_stop ?_);exact aA (hQ _ hk)
 show wpAny _ _ (field (.ref (b+4)) 2 >>= _) _ _ _;refine af (d8 z rfl (x:=.bool false) rfl ?_);show wpAny _ _ (field (.ref (b+4)) 3 >>= _) _ _ _;refine af (d8 z rfl (x:=.ref (b+2)) rfl ?_);refine af (iY ti rfl ?_);show wpAny _ _ (Builtin.SmallTypes.ownedTupleIsFree (.ref (b+4)) >>= _) _ _ _;rcases hf with ⟨rfl,rfl⟩ | ⟨t0,ot,rfl,ht⟩
 ·refine af ?_
  unfold Builtin.SmallTypes.ownedTupleIsFree;refine af (d8 z rfl (x:=.none) rfl (aA ?_));simp only[if_true];refine af (nM ?_);refine af (d8 z rfl (x:=.ref (b+3)) rfl ?_);refine af (ie z (by simp) fun h0 z0 s0=>?_)
  replace z0:Zr h0 (b+4) .ellipsis false (b+2) (b+3):=z0
  refine af ?_;simp only[List.zipIdx_cons,List.zipIdx_nil,jC,uB];refine af (af (wpAny_onRaise ?_));show wpAny _ _ (Builtin.SmallTypes.nextOf (.ref b) >>= _) _ _ _;refine af (wpAny_nextOf_list_end hh (i1.at fun o e=>(s0.2 _ (ne (x:=0) (by decide))).trans e) (h1.at fun o e=>(s0.2 _ (lo 4 bl)).trans e) hx fun ha e sa he=>?_);obtain⟨oe,he1,he2⟩:=he;have za:Zr ha (b+4) .ellipsis false (b+2) (b+3):=sa _ _ (ne (y:=0) (by decide)) z0;have nez:e≠b+4:=fun q=>by subst q; rw[za] at he1; cases he1; simp at he2
  refine ie za (by simp) fun hb zb sb=>?_
  exact fin ⟨oe,(sb.2 _ nez).trans he1,he2⟩ fun c o q e=>(sb.2 _ (far 4 (by decide) q)).trans (sa _ _ (far 0 (by decide) q) ((s0.2 _ (far 4 (by decide) q)).trans e))
 ·refine af (vL z ht fun h0 z0 k0 e0=>?_)
  simp only[iq,nQ];rw[←n9];show wpAny _ _ (forIn [Value.ref b,Value.ref (b+1)] _ _ >>= _) _ _ _;refine af ?_;simp only[jC,uB];refine af (af (dR ?_));show wpAny _ _ (Builtin.SmallTypes.nextOf (.ref b) >>= _) _ _ _;refine af (wpAny_nextOf_list_end hh (i1.at fun o e=>k0 _ o (ne (x:=0) (by decide)) e) (h1.at fun o e=>k0 _ o (lo 4 bl) e) hx fun ha e sa he=>?_);exact fin he fun c o q e=>sa _ _ (far 0 (by decide) q) (k0 _ _ (far 4 (by decide) q) e)
end
def uo (b:Nat)(xs ys:LU)(Ts:LI)(h:Heap):Prop :=
 Ts.Nodup∧∀ (j:Nat) (t:Addr),Ts[j]? = some t→b+6≤t∧∃ x y,xs[j]? = some x∧ys[j]? = some y∧Da h t x y
def PP (h0:Heap)(b:Nat)(l m:Addr)(xs ys:LU)(acc:LH)(h:Heap):Prop :=
 ∃ f g Ts,acc=Ts.map Value.ref∧YS h b l m Ts.length f g∧((f=.none∧g=false) ∨ ∃ t0:Addr,f=rawInt t0∧t0 ∈ Ts)∧(∀ c o,h0.get? c=some o→h.get? c=some o)∧uo b xs ys Ts h
def PQ (h0:Heap)(b:Nat)(xs ys:LU)(acc:LH)(h:Heap):Prop :=
 ∃ Ts,acc=Ts.map Value.ref∧(∀ c o,h0.get? c=some o→h.get? c=some o)∧uo b xs ys Ts h
theorem uo.stay {b:Nat}{xs ys:LU}{Ts:LI}{h h':Heap}(q:uo b xs ys Ts h)(k:∀ c o,b+6≤c→h.get? c=some o→h'.get? c=some o):uo b xs ys Ts h' :=
 ⟨q.1,fun j t e=>by
  obtain⟨p1,x,y,p2,p3,p5⟩:=q.2 j t e
  exact⟨p1,x,y,p2,p3,k _ _ p1 p5⟩⟩
section
variable {prog:Program}{w:World}{A:Around}
theorem Dk {h0:Heap}{l m:Addr}{xs ys:LU}(hh:A.handled=none)(h1:h0.IsList l xs)(h2:h0.IsList m ys)(e1:ys.size=xs.size) :
  E7 prog w A (h0.objs.size+5) (h0.objs.size+4) xs.size (PP h0 h0.objs.size l m xs ys) (PQ h0 h0.objs.size xs ys):=by
 have bl:l < h0.objs.size:=by obtain⟨_,e,_⟩:=h1; exact aX e
 have bm:m < h0.objs.size:=by obtain⟨_,e,_⟩:=h2; exact aX e
 generalize hb:h0.objs.size=b at bl bm ⊢;have old6:∀ {c:Nat} {o:Obj},h0.get? c=some o→c < b:=fun e=>hb ▸ aX e
 have neS:∀ {k:Nat},k < 5→(b+k:Nat)≠b+5:=fun q e=>bZ q (jr e)
 have lo6:∀ {c:Nat},c < b→c≠b+5:=fun q=>bZ (aH q (cS b 5))
 have hi6:∀ {c:Nat},b+6≤c→c≠b+5:=fun q=>dC (aH (mJ (by decide) b) q)
 refine⟨?_,?_,?_⟩
 ·rintro acc h h' ⟨f,g,Ts,ea,⟨z,ti,⟨q1,q2,to⟩,i1,i2⟩,hf,old,hd⟩ k
  refine⟨f,g,Ts,ea,⟨k _ _ (neS (by decide)) z,k _ _ (neS (by decide)) ti,⟨q1,q2,k _ _ (neS (by decide)) to⟩,i1.at fun o e=>k _ o (neS (k:=0) (by decide)) e,i2.at fun o e=>k _ o (neS (by decide)) e⟩,hf,fun c o e=>k c o (lo6 (old6 e)) (old c o e),hd.stay fun c o q e=>k c o (hi6 q) e⟩
 ·rintro s acc Q E lt ⟨oS,eS⟩ ⟨f,g,Ts,ea,hz,hf,old,hd⟩ k
  have el:acc.length=Ts.length:=by rw[ea,aa]
  rw[el] at lt;have x1:xs[Ts.length]? = some (xs[Ts.length]'lt):=Array.getElem?_eq_getElem lt;have y1:ys[Ts.length]? = some (ys[Ts.length]'(by lia)):=Array.getElem?_eq_getElem (by lia);have k1:s.heap.IsList l xs:=h1.at fun o e=>old _ o e
  have k2:s.heap.IsList m ys:=h2.at fun o e=>old _ o e
  have lS:b+5 < s.heap.objs.size:=aX eS;have tnew:∀ t ∈ Ts,t < s.heap.objs.size:=fun t ht=>by
   obtain⟨j,hj⟩:=aP.mp ht;obtain⟨_,_,_,_,_,q⟩:=hd.2 j t hj;exact aX q
  have next:∀ {h':Heap} {f':Value} {g':Bool} (tk:Nat),YS h' b l m (Ts.length+1) f' g'→(∃ t0:Addr,f'=rawInt t0∧t0 ∈ Ts++[s.heap.objs.size])→Da h' s.heap.objs.size (xs[Ts.length]'lt) (ys[Ts.length]'(by lia)) →
    (∀ c o,(c < b ∨ b+5≤c)→s.heap.get? c=some o→h'.get? c=some o)→Q (some (.ref s.heap.objs.size)) { s with heap:=h',toks:=tk }:=by
   intro h' f' g' tk z' f1 tn kk;refine k _ h' tk ⟨f',g',Ts++[s.heap.objs.size],by rw[ea,aM]; rfl,by rw[ai,cx]; exact z',.inr f1,fun c o e=>kk c o (.inl (old6 e)) (old c o e),?_,?_⟩ fun o e=>kk _ o (.inr (au _)) e
   ·rw[gM]
    refine⟨hd.1,by simp,fun p hp q hq e=>?_⟩;rw[aw] at hq;exact de _ (hq ▸ e ▸ tnew p hp)
   ·intro j t e
    rcases rh j Ts.length with lj | lj
    ·rw[be lj] at e
     obtain⟨p1,x,y,p2,p3,p5⟩:=hd.2 j t e;exact⟨p1,x,y,p2,p3,kk _ _ (.inr (Nat.le_of_succ_le p1)) p5⟩
    ·rw[aV lj] at e
     rcases rh j (Ts.length+1) with lj' | lj'
     ·obtain rfl:j=Ts.length:=by lia
      rw[il] at e;cases e;exact⟨lS,_,_,x1,y1,tn⟩
     ·rw[cP (by rw[cx]; lia)] at e
      cases e
  rcases hf with ⟨rfl,rfl⟩ | ⟨t0,rfl,ht0⟩
  ·exact Dj hz rfl bl bm k1 k2 x1 y1 fun h' z' tn kk=>next s.toks z' ⟨_,rfl,by simp⟩ tn kk
  ·obtain⟨j,hj⟩:=aP.mp ht0
   obtain⟨_,_,_,_,_,q⟩:=hd.2 j t0 hj;exact Di hz q bl bm k1 k2 x1 y1 fun h' z' tn kk=>next s.toks z' ⟨t0,rfl,cW _ ht0⟩ tn kk
 ·rintro s acc Q E lt ⟨f,g,Ts,ea,hz,hf,old,hd⟩ k
  have el:acc.length=Ts.length:=by rw[ea,aa]
  rw[el] at lt;refine Fi hh hz ?_ bl (h1.at fun o e=>old _ o e) (Array.getElem?_eq_none (by lia)) fun h' kk=>?_
  ·rcases hf with q | ⟨t0,q,ht0⟩
   ·exact .inl q
   ·obtain⟨j,hj⟩:=aP.mp ht0
    obtain⟨_,_,_,_,_,q'⟩:=hd.2 j t0 hj;exact .inr ⟨t0,_,q,q'⟩
  ·exact k h' s.toks ⟨Ts,ea,fun c o e=>kk c o (.inl (old6 e)) (old c o e),hd.stay fun c o q e=>kk c o (.inr (Nat.le_of_succ_le q)) e⟩ fun o e=>kk _ o (.inr (au _)) e
end
end L2
namespace L2
open PySem PySem.Spec PyProof.Rows PySem.W
section
variable {X:Cx}
def PsV (K:LM)(H:Hp)(vs:LG)(ps:LC):Prop:=vs.length=ps.length∧∀ (i:Nat) (v:V) (p:Int × Int),vs[i]? = some v→ps[i]? = some p→∃ a,v=.ref a∧H a=some (.tup [.int p.1,.int p.2])
def ow (ps:LC)(vs:LG):LG:=if ps.length < 2 then vs else (AD ps).map fun i=>vs.getD i .non
theorem BA {K:LM}{H:Hp}{vs:LG}{ps:LC}(h:PsV K H vs ps)  : PsV K H (ow ps vs) (Du ps):=by
 unfold ow Du
 by_cases c:ps.length < 2
 ·rw[if_pos c,if_pos c]; exact h
 ·rw[if_neg c,if_neg c]
  refine⟨by rw[aa,aa],fun i v p e1 e2=>?_⟩;rw[aq] at e1 e2;obtain⟨j,ej,rfl⟩:=cc.mp e1;obtain⟨j',ej',rfl⟩:=cc.mp e2;rw[ej] at ej';cases ej';have lj:=(w6 (by lia)).1 j (ae ej);have l1:j < vs.length:=by rw[h.1]; exact lj
  refine h.2 j _ _ (ax l1 |>.trans ?_) (ax lj |>.trans ?_)
  ·rw[aR,ax l1]; rfl
  ·rw[aR,ax lj]; rfl
theorem xR {ps:LC}{vs:LG}{its:LH}(r:cN vs its)(hl:vs.length=ps.length)  : cN (ow ps vs) (kF ps its):=by
 unfold ow kF
 by_cases c:ps.length < 2
 ·rw[if_pos c,if_pos c]; exact r
 ·rw[if_neg c,if_neg c]
  have key:∀ l:LJ,(∀ i ∈ l,i < ps.length)→cN (l.map fun i=>vs.getD i .non) (l.map fun i=>its.getD i Value.none):=by
   intro l
   induction l with
   | nil=>exact fun _=>.nil
   | cons i l ih =>
    intro hi;have li:=hi i aK;have l1:vs[i]? = some (vs[i]'(by lia)):=ax (by lia);obtain⟨u,eu,ru⟩:=r.get l1;refine .cons ?_ (ih fun j hj=>hi j (aC _ hj));show cY (vs.getD i V.non) (its.getD i Value.none);rw[aR,aR,l1,eu];exact ru
  exact key _ (w6 (by lia)).1
theorem yL {pins:LD}{σ:St}{H:Hp}{s:Shared}(I:Inv X pins σ H s):∀ {vs:LG} {its:LH} {ps:LC},cN vs its→PsV X.K H vs ps→iE s.heap its ps
 | [],_,[],.nil,_=>.nil
 | [],_,_ :: _,_,h=>absurd h.1 (by simp)
 | _ :: _,_,[],_,h=>absurd h.1 (by simp)
 | v :: vs,_,p :: ps,.cons r rs,h=>by
  obtain⟨a,rfl,ha⟩:=h.2 0 v p rfl rfl;obtain⟨iv,rv,ht,_⟩:=I.tuple (dy.of (K:=X.K) ha);cases r;cases rv with
  | cons r1 rv =>
   cases rv with
   | cons r2 rv =>
    cases rv;obtain⟨t,rfl⟩:=r1;obtain⟨u,rfl⟩:=r2;obtain⟨o,e1,e2,n,e3⟩:=ht;exact .cons e1 e2 e3 (yL I rs ⟨by simpa using h.1,fun i v' p' h1 h2=>h.2 (i+1) v' p' (by simpa using h1) (by simpa using h2)⟩)
theorem xx:iV X (.builtin "sorted") (fun xs H Q=>∃ (p:Addr) (vs:LG) (ps:LC),xs=[.ref p]∧bh X.K H p vs∧PsV X.K H vs ps∧ps.length≤60∧∀ l,H l=none→Q (.ref l) (upd H l (.lst (ow ps vs)))):=by
 intro pins s σ H xs us Q I r h;obtain⟨p,vs,ps,rfl,hq,hp,h6,q⟩:=h;obtain⟨u,rfl,rx⟩:=jM r;cases rx;obtain⟨its,rv,pl,hz⟩:=I.list hq;have hlen:=rv.length;have hl:=hp.1;refine wC pl.isList (yL I rv hp) (by lia) ?_;obtain⟨e,he⟩:=sortedAll_at s.heap its (kF ps its).toArray;have hn:H (s.heap.objs.size+1)=none:=I.hok.fresh (gu _);have vv:=xR rv hl;refine⟨.ref (s.heap.objs.size+1),_,I.laid (t':=s.toks) (fun b o z=>sortedAll_old z) (gu _) ?_,rfl,q _ hn⟩;refine⟨?_,(kF ps its),e,vv,he⟩;rw[vv.length,sx (by lia)];exact cf (bo (by lia))
end
end L2
namespace L2
open PySem PySem.Spec PyProof.Rows PySem.W
section
theorem sN {h:Heap}{a b:Addr}{vs:LH}{out:LU}{o:Obj}(n:b≠a)(e:h.get? b=some o):(sortedHeap h a vs out).get? b=some o :=
 j9 _ n.symm (ak _ (ak _ (j9 _ n.symm e)))
theorem ut {h:Heap}{a:Addr}{vs:LH}{out:LU}{n:Nat}(e:h.get? a=some (seqObj "list" vs.toArray n)):∃ c,(sortedHeap h a vs out).get? a=some (seqObj "list" out c):=by
 have e1:=get?_update_seq e (fun _=>#[]);have e2:((h.update a (Obj.mapSeq fun _=>#[])).push (seqObj "tuple" vs.toArray 0)).get? a=_:=ak _ e1;have e3:(((h.update a (Obj.mapSeq fun _=>#[])).push (seqObj "tuple" vs.toArray 0)).push (seqObj "list" #[] 0)).get? a=_:=ak _ e2;exact⟨_,get?_update_seq e3 fun _=>out⟩
noncomputable def zS (H:Hp)(S:Addr)(L:LG)(Ts:LI)(rows:LB):Hp:=fun b=>if b=S then some (.lst L) else zH H S Ts rows b
theorem Oy {H:Hp}{S:Addr}{L:LG}{Ts:LI}{rows:LB}:zS H S L Ts rows S=some (.lst L):=by
 unfold zS;rw[if_pos rfl]
theorem Fj {H:Hp}{S b:Addr}{L:LG}{Ts:LI}{rows:LB}(h:b≠S):zS H S L Ts rows b=zH H S Ts rows b:=by
 unfold zS;rw[if_neg h]
variable {X:Cx}
inductive Lg (K:LM)(Q:VK)(vs:LG)(H1:Hp):Prop | mk (a b:Addr) (xs ys:LF) (_:vs=[.ref a,.ref b]) (_:bh K H1 a (xs.map V.int)) (_:bh K H1 b (ys.map V.int)) (_:ys.length=xs.length) (_:xs.length≤60) (_:∀ (S:Addr) (L:LG) (H':Hp),(∀ c o,H1 c=some o→H' c=some o)→H1 S=none→H' S=some (.lst L)→PsV K H' L (Du (xs.zip ys))→Q (.ref S) H'):Lg K Q vs H1
def RH (K:LM)(ta:TA):TE:=fun σ H Q=>ta σ H fun vs H1=>Lg K Q vs H1
theorem pU:bootBuiltins "sorted" = some (.builtin "sorted"):=by decide +kernel
theorem xS:∀ l:LI,cN (l.map V.ref) (l.map Value.ref)
 | []=>.nil
 | _ :: l=>.cons rfl (xS l)
theorem tP:∀ {xs:LF} {us:LH},cN (xs.map V.int) us→∀ (j:Nat) (u:Value),us[j]? = some u→∃ x t,xs[j]? = some x∧u=.int x t
 | [],_,.nil,_,_,h=>by cases h
 | x :: xs,_,.cons r rs,0,u,h=>by
  cases h;obtain⟨t,e⟩:=r;exact⟨x,t,rfl,e⟩
 | _ :: xs,_,.cons _ rs,j+1,u,h=>tP rs j u (by simpa using h)
theorem Ly {h:Heap}:∀ {Ts:LI} {ps:LC},Ts.length=ps.length→(∀ (j:Nat) (t:Addr) (p:Int × Int),Ts[j]? = some t→ps[j]? = some p→∃ t1 t2,Da h t (.int p.1 t1) (.int p.2 t2))→iE h (Ts.map Value.ref) ps
 | [],[],_,_=>.nil
 | t :: Ts,(x,y) :: ps,hl,hh=>by
  obtain⟨t1,t2,e⟩:=hh 0 t (x,y) rfl rfl;exact .cons e rfl rfl (Ly (by simpa using hl) fun j t' p' h1 h2=>hh (j+1) t' p' (by simpa using h1) (by simpa using h2))
 | [],_ :: _,hl,_=>by cases hl
 | _ :: _,[],hl,_=>by cases hl
theorem w5 {a b:Expr}{ta:TA}{p p' pos pos':Pos}(hc:X.calm=true)(hg:Gl X "zip")(hm:X.mg "zip" = none)(hg':Gl X "sorted")(hm':X.mg "sorted" = none)(ha:PA X [a,b] ta)(hs:starEach [a,b] X.env=(false,eval a X.env) :: starEach [b] X.env:=by rfl)(hpl:(backTo pos (starEach [b] X.env)).any (·.1)=false:=by rfl)(hs2:starEach [Expr.Call (.Name "zip" p) [a,b] [] pos] X.env=[(false,eval (.Call (.Name "zip" p) [a,b] [] pos) X.env)]:=by rfl) :
  PE X (.Call (.Name "sorted" p') [.Call (.Name "zip" p) [a,b] [] pos] [] pos') (RH X.K ta):=by
 intro pins s σ H Q I h;refine jE (mf I hg' hm' pU ?_);refine PyProof.Rows.callWith_builtin1 ?_ hs2 rfl;rw[hs2];show wpAny _ _ (spliced ((false,eval (.Call (.Name "zip" p) [a,b] [] pos) X.env) :: backTo pos' [])) _ _ _;refine Calls.spliced_cons ?_;refine jE (mf I hg hm zQ (eE (thn (ha pos pins s σ H _ I h) fun us s1 ⟨vs,H1,I1,r1,q1⟩=>?_) hs hpl));obtain⟨l,m,xs,ys,rfl,hx,hy,e1,h6,q⟩:=q1;cases r1 with
 | cons ru r1 =>
 cases r1 with
 | cons rv r1 =>
 cases r1;cases ru;cases rv;obtain⟨ix,rx,px,zx⟩:=I1.list hx;obtain⟨iy,ry,py,zy⟩:=I1.list hy;refine Fh px.isList py.isList fun h1 zs1 sz1 k1=>?_
 refine Calls.spliced_nil ?_;have hh:X.A.handled=none:=I1.ok.hd hc;have lx:ix.toArray.size=xs.length:=by rw[aI,←rx.length,aa]
 have ly:iy.toArray.size=ix.toArray.size:=by rw[lx,aI,←ry.length,aa,e1]
 have W:=Dk (prog:=X.prog) (w:=X.w) (A:=X.A.in1.in1) (h0:=s1.heap) hh px.isList py.isList ly;have ty:Shared.TypeIs { s1 with heap:=h1 } (.ref (s1.heap.objs.size+4)) "zip":=⟨_,zs1.z,rfl⟩;have W':E7 X.prog X.w X.A.in1.in1 (Shared.heap { s1 with heap:=h1 }).objs.size (s1.heap.objs.size+4) ix.toArray.size (PP s1.heap s1.heap.objs.size l m ix.toArray iy.toArray) (PQ s1.heap s1.heap.objs.size ix.toArray iy.toArray):=by
  show E7 _ _ _ h1.objs.size _ _ _ _;rw[sz1];exact W
 refine call_function_tree kind_sorted plain_sorted entry_sorted (args_sorted1 _) ?_;unfold Builtin.sorted;refine af (wpAny_of_eq (show checkCount "sorted" 1 1 1=pure () from rfl) ?_);refine af (xw W' (by rw[lx]; exact cf (bo (by lia))) ty (by decide) (by decide) ?_ ?_ ?_)
 ·intro s' Q' E' old sz k
  refine Df (old _ _ zs1.z) (k s'.heap s'.toks ⟨.none,false,[],rfl,⟨old _ _ zs1.z,old _ _ zs1.ti,let ⟨u1,u2,e⟩:=zs1.to; ⟨u1,u2,old _ _ e⟩,zs1.i1.at fun o e=>old _ o e,zs1.i2.at fun o e=>old _ o e⟩,.inl ⟨rfl,rfl⟩,fun c o e=>old _ _ (k1 c o e),eP,fun j t e=>by simp at e⟩ fun o e=>e)
 ·intro s' Q' E' st k
  obtain⟨_,_,_,_,z,_⟩:=st;exact Dh ⟨_,z.z,rfl⟩ k
 ·intro h' tk acc ea en szl
  obtain⟨Ts,rfl,old,nd,hd⟩:=en;have lT:Ts.length=xs.length:=by rw[←lx,←ea,aa]
  have lP:(xs.zip ys).length=xs.length:=by rw[List.length_zip]; lia
  have prs:iE h' (Ts.map Value.ref) (xs.zip ys):=Ly (by lia) fun j t pp ej ep=>by
   obtain⟨_,u1,u2,p1,p2,p3⟩:=hd j t ej;rw[List.getElem?_toArray] at p1 p2;obtain⟨x,t1,ex,rfl⟩:=tP rx j u1 p1;obtain⟨y,t2,ey,rfl⟩:=tP ry j u2 p2;rw[dM] at ep;obtain⟨g1,g2⟩:=ep;rw[ex] at g1;rw[ey] at g2;cases g1;cases g2;exact⟨t1,t2,p3⟩
  refine qJ (s:={ s1 with heap:=h',toks:=tk }) prs (by rw[aa]; lia) ?_;show EP X pins σ Q (.ref h'.objs.size) _;have szl':s1.heap.objs.size+5 < h'.objs.size:=by
   have:h1.objs.size < h'.objs.size:=szl
   rw[sz1] at this;exact this
  have inT:∀ t ∈ Ts,s1.heap.objs.size+6≤t∧t < h'.objs.size:=fun t ht=>by
   obtain⟨j,hj⟩:=aP.mp ht;obtain⟨g,_,_,_,_,e⟩:=hd j t hj;exact⟨g,aX e⟩
  have ndS:(h'.objs.size :: Ts).Nodup:=dz.mpr ⟨fun mm=>de _ (inT _ mm).2,nd⟩;have lR:((xs.zip ys).map fun p=>[V.int p.1,V.int p.2]).length=Ts.length:=by rw[aa,lP,lT]
  have lTP:(Ts.map V.ref).length=(xs.zip ys).length:=by rw[aa,lP,lT]
  have oth:∀ b,b < s1.heap.objs.size→zS H1 h'.objs.size (ow (xs.zip ys) (Ts.map V.ref)) Ts ((xs.zip ys).map fun p=>[V.int p.1,V.int p.2]) b=H1 b:=fun b lt=>by
   have n1:b≠h'.objs.size:=bZ (Nat.lt_trans (aH lt (cS _ 5)) szl');rw[Fj n1];exact Fk n1 fun mm=>de _ (aH (aH lt (cS _ 6)) (inT _ mm).1)
  have tup:∀ (j:Nat) (t:Addr) (p:Int × Int),Ts[j]? = some t→(xs.zip ys)[j]? = some p→zS H1 h'.objs.size (ow (xs.zip ys) (Ts.map V.ref)) Ts ((xs.zip ys).map fun p=>[V.int p.1,V.int p.2]) t=some (.tup [V.int p.1,V.int p.2]):=fun j t p ej ep=>by
   rw[Fj (bZ (inT t (ae ej)).2)];exact Mn ndS ej (by rw[aq,ep]; rfl)
  have pl:(h'.push (seqObj "list" (Ts.map Value.ref).toArray 0)).get? h'.objs.size=some (seqObj "list" (Ts.map Value.ref).toArray 0):=br _ rfl;have old2:∀ c o,c≠h'.objs.size→h'.get? c=some o→(sortedHeap (h'.push (seqObj "list" (Ts.map Value.ref).toArray 0)) h'.objs.size (Ts.map Value.ref) (kF (xs.zip ys) (Ts.map Value.ref)).toArray).get? c=some o:=fun c o n e=>sN n (ak _ e)
  refine⟨.ref h'.objs.size,zS H1 h'.objs.size (ow (xs.zip ys) (Ts.map V.ref)) Ts ((xs.zip ys).map fun p=>[V.int p.1,V.int p.2]),Inv.many (s:=s1) (t':=tk) I1 (fun c o e=>old2 c o (bZ (Nat.lt_trans (aH (aX e) (cS _ 5)) szl')) (old c o e)) oth ?_,rfl,q _ _ _ (fun c o e=>(oth c (I1.hok.lt e)).trans e) (I1.hok.fresh (aE (cS _ 5) (cf szl'))) Oy (BA ⟨lTP,fun j v p e1' e2'=>?_⟩)⟩
  ·intro b o ge eb
   by_cases hbS:b=h'.objs.size
   ·subst hbS
    rw[Oy] at eb;cases eb;have vv:=xR (xS Ts) lTP;obtain⟨c,he⟩:=ut (out:=(kF (xs.zip ys) (Ts.map Value.ref)).toArray) pl;refine⟨?_,kF (xs.zip ys) (Ts.map Value.ref),c,vv,he⟩;rw[vv.length,sx (by rw[aa,lT,lP])];exact cf (bo (by lia))
   ·by_cases hbT:b ∈ Ts
    ·obtain⟨j,hj⟩:=aP.mp hbT
     have lj:j < (xs.zip ys).length:=by rw[lP,←lT]; exact (aN.mp hj).1
     have ep:(xs.zip ys)[j]? = some ((xs.zip ys)[j]'lj):=ax lj;rw[tup j b _ hj ep] at eb;cases eb;obtain⟨_,u1,u2,p1,p2,p3⟩:=hd j b hj;rw[List.getElem?_toArray] at p1 p2;obtain⟨x,t1,ex,rfl⟩:=tP rx j u1 p1;obtain⟨y,t2,ey,rfl⟩:=tP ry j u2 p2;obtain⟨g1,g2⟩:=dM.mp ep;rw[ex] at g1;rw[ey] at g2;have ex':=aW g1;have ey':=aW g2;refine⟨by simp[sizeLine_eq],[.int x t1,.int y t2],.cons ⟨t1,by rw[ex']⟩ (.cons ⟨t2,by rw[ey']⟩ .nil),_,old2 b _ hbS p3,rfl,_,rfl⟩
    ·rw[Fj hbS,Fk hbS hbT,I1.hok.fresh ge] at eb
     cases eb
  ·rw[aq] at e1'
   obtain⟨t,et,rfl⟩:=cc.mp e1';exact⟨t,rfl,tup j t p et e2'⟩
end
structure KM where
 a:Int
 b:Bool
 c:Int
 d:Int
 e:Int
 f:Int
 ws:LA
 deriving DecidableEq
section
variable {prog:Program}{w:World}{A:Around}{E:LN}{s:Shared}
theorem EQ {b:Bool}{Q:Int→Shared→Prop}(h:Q (if b=true then 1 else 0) { s with toks:=s.toks+1 }):wpAny (model prog w) A (pyHash (.bool b)) Q E s:=by
 refine PySem.W.pyHash_slot (T:="bool") rfl PySem.F.slot_bool_hash entry_int_hash (args_int_hash _) (beq_builtin_none _) (.inl rfl) ?_;cases b
 ·exact (show wpAny _ _ (do ret (← mkInt 0)) _ _ s from af (Fa (aA ⟨_,_,rfl,h⟩)))
 ·exact (show wpAny _ _ (do ret (← mkInt 1)) _ _ s from af (Fa (aA ⟨_,_,rfl,h⟩)))
inductive gP (prog:Program)(w:World)(h:Heap):List (LF)→List Value→Prop where
 | nil:gP prog w h [] []
 | cons {k:LF} {ks:LA} {c:Addr} {vs:LH} (i:IsTupleKey (intKind prog w) h k c) (r:gP prog w h ks vs):gP prog w h (k :: ks) (.ref c :: vs)
def mZ (prog:Program)(w:World)(h:Heap)(ks:LA)(a:Addr):Prop:=∃ o items n,h.get? a=some o∧o.cls=.type "tuple"∧o.data=.seq items n∧gP prog w h ks items.toList
theorem gP.inj {h:Heap}{x y:LA}{vs:LH}(hx:gP prog w h x vs)(hy:gP prog w h y vs):x=y:=by
 induction hx generalizing y with
 | nil=>cases hy; rfl
 | cons i _ ih =>
  cases hy with
  | cons i' r'=>rw[i.inj i',ih r']
theorem gP.stay {h h':Heap}{x:LA}{vs:LH}{d:Addr}{o:Obj}{es:Array DictEntry}{ep:Nat}(m:gP prog w h x vs)(ho:h.get? d=some o)(hd:o.data=.dict es ep)(sb:Heap.SameBut d h h'):gP prog w h' x vs:=by
 induction m with
 | nil=>exact .nil
 | cons i _ ih=>exact .cons (i.keeps ho hd sb) ih
theorem mZ.inj {h:Heap}{a:Addr}{x y:LA}(mx:mZ prog w h x a)(my:mZ prog w h y a):x=y:=by
 obtain⟨o,items,n,ho,_,hd,hi⟩:=mx;obtain⟨o',items',n',ho',_,hd',hi'⟩:=my;obtain rfl:o=o':=aW (ho.symm.trans ho');rw[hd] at hd'
 injection hd' with h1 _
 subst h1;exact hi.inj hi'
theorem mZ.stay {h h':Heap}{k:LA}{a d:Addr}{o:Obj}{es:Array DictEntry}{ep:Nat}(m:mZ prog w h k a)(ho:h.get? d=some o)(hd:o.data=.dict es ep)(sb:Heap.SameBut d h h'):mZ prog w h' k a:=by
 obtain⟨o',items,n,ho',hc,hd',hi⟩:=m;have hne:a≠d:=by
  rintro rfl;obtain rfl:o'=o:=aW (ho'.symm.trans ho);rw[hd] at hd'; exact nomatch hd'
 exact⟨o',items,n,(sb.2 a hne).trans ho',hc,hd',hi.stay ho hd sb⟩
def Mq (prog:Program)(w:World)(k:LF):Int:=tupleKeyHash (intKind prog w) k
def Lb (prog:Program)(w:World)(ks:LA):Int:=reduceHash (Builtin.Tuple.tupleHashOf (ks.map (Mq prog w)))
def oQ (ks:LA):Nat:=(ks.map fun k=>k.length+1).sum
def oJ (prog:Program)(w:World)(h:Heap)(k:KM)(a:Addr):Prop :=
 ∃ o n q t0 t2 t3 t4 t5,h.get? a=some o∧o.cls=.type "tuple"∧o.data=.seq #[.int k.a t0,.bool k.b,.int k.c t2,.int k.d t3,.int k.e t4,.int k.f t5,.ref q] n∧mZ prog w h k.ws q
theorem KM.ext' {x y:KM}(ha:x.a=y.a)(hb:x.b=y.b)(hc:x.c=y.c)(hd:x.d=y.d)(he:x.e=y.e)(hf:x.f=y.f)(hw:x.ws=y.ws):x=y:=by
 cases x; cases y;simp_all
theorem oJ.one {h:Heap}{a:Addr}{x y:KM}(mx:oJ prog w h x a)(my:oJ prog w h y a):x=y:=by
 obtain⟨o,n,q,t0,t2,t3,t4,t5,e,_,d,i⟩:=mx;obtain⟨o',n',q',u0,u2,u3,u4,u5,e',_,d',i'⟩:=my;rw[e] at e';cases e';rw[d] at d'
 injection d' with z _
 have z':=congrArg Array.toList z;simp only[List.cons.injEq,Value.int.injEq,Value.bool.injEq,Value.ref.injEq,and_true] at z';obtain⟨⟨z1,_⟩,z2,⟨z3,_⟩,⟨z4,_⟩,⟨z5,_⟩,⟨z6,_⟩,z7⟩:=z';subst z7;exact KM.ext' z1 z2 z3 z4 z5 z6 (i.inj i')
theorem oJ.stay {h h':Heap}{k:KM}{a d:Addr}{o:Obj}{es:Array DictEntry}{ep:Nat}(m:oJ prog w h k a)(ho:h.get? d=some o)(hd:o.data=.dict es ep)(sb:Heap.SameBut d h h'):oJ prog w h' k a:=by
 obtain⟨o',n,q,t0,t2,t3,t4,t5,e,c,dd,i⟩:=m;have ne:a≠d:=fun z=>by
  subst z;rw[e] at ho;cases ho;rw[dd] at hd;cases hd
 exact⟨o',n,q,t0,t2,t3,t4,t5,(sb.2 a ne).trans e,c,dd,i.stay ho hd sb⟩
def HI (prog:Program)(w:World)(k:KM):Int:=reduceHash (Builtin.Tuple.tupleHashOf [hashInt k.a,if k.b=true then 1 else 0,hashInt k.c,hashInt k.d,hashInt k.e,hashInt k.f,Lb prog w k.ws])
end
section
variable (prog:Program)(w:World)
def oK (h:Heap)(v:Value)(z:Int)(d r:Nat):Prop :=
 ∀ (A:Around) (E:LN) (s:Shared) (Q:Int→Shared→Prop),s.heap=h→A.units+r < cLine→Q z { s with toks:=s.toks+d }→wpAny (model prog w) A (pyHash v) Q E s
inductive wc (h:Heap)(r:Nat):List Value→List Int→Nat→Prop where
 | nil:wc h r [] [] 0
 | cons {v:Value} {z:Int} {d e:Nat} {vs:LH} {zs:LF}:oK prog w h v z d r→wc h r vs zs e→wc h r (v :: vs) (z :: zs) (d+e)
variable {prog w}
theorem AX {h:Heap}{r:Nat}{vs:LH}{zs:LF}{d:Nat}(H:wc prog w h r vs zs d):∀ (A:Around) (E:LN) (s:Shared) (b:Array Int) (Q:Array Int→Shared→Prop),s.heap=h→A.units+r < cLine →
  (∀ b',b'.toList=b.toList++zs→Q b' { s with toks:=s.toks+d })→wpAny (model prog w) A (forIn vs b fun x acc=>do let z ← pyHash x; pure PUnit.unit; pure (ForInStep.yield (acc.push z))) Q E s:=by
 induction H with
 | nil=>exact fun A E s b Q _ _ q=>aA (q b (by simp))
 | @cons v z d e vs zs hv _ ih =>
  intro A E s b Q hh hu q;rw[jC];refine af (af (hv A E s _ hh hu ?_));refine af (aA (aA ?_));refine ih A E { s with toks:=s.toks+d } (b.push z) Q hh hu fun b' hb=>?_
  have:=q b' (by rw[hb]; simp)
  rw[←Nat.add_assoc] at this;exact this
theorem zu {h:Heap}{a:Addr}{o:Obj}{items:LU}{n r d:Nat}{zs:LF}(e:h.get? a=some o)(c:o.cls=.type "tuple")(dt:o.data=.seq items n)(H:wc prog w h r items.toList zs d) :
  oK prog w h (.ref a) (reduceHash (Builtin.Tuple.tupleHashOf zs)) (d+1) (r+1):=by
 intro A E s Q hh hu q;subst hh;refine PySem.W.pyHash_slot (T:="tuple") ⟨o,e,c⟩ PySem.F.slot_tuple_hash PySem.F.entry_tuple_hash (PySem.F.args_tuple_hash_1 _) (beq_builtin_none _) (.inr (by lia)) ?_;refine (show wpAny _ _ (Builtin.Tuple.tupleItemsOf (.ref a) >>= _) _ _ s from af (wpAny_tupleItemsOf e dt (af ?_)));rw[←n9];refine AX H A.in1 E s #[] _ rfl (by rw[Around.in1_units]; lia) fun b hb=>?_
 have eb:b.toList=zs:=by simpa using hb
 show wpAny _ _ (retInt (Builtin.Tuple.tupleHashOf b.toList)) _ _ _;rw[eb];exact af (Fa (aA ⟨_,_,rfl,q⟩))
theorem mT (h:Heap)(i:Int)(t:Tok)(r:Nat):oK prog w h (.int i t) (hashInt i) 1 r:=fun _ _ _ _ _ _ q=>wpAny_pyHash_int q
theorem KO (h:Heap)(b:Bool)(r:Nat):oK prog w h (.bool b) (if b=true then 1 else 0) 1 r:=fun _ _ _ _ _ _ q=>EQ q
theorem HR {h:Heap}{k:LF}{c:Addr}(i:IsTupleKey (intKind prog w) h k c):oK prog w h (.ref c) (Mq prog w k) (k.length+1) 0:=fun A E s Q hh hu q=>by
 subst hh;exact wpAny_pyHash_tuple (knd:=intKind prog w) (by lia) i q
theorem EO {h:Heap}{ks:LA}{vs:LH}(H:gP prog w h ks vs):wc prog w h 0 vs (ks.map (Mq prog w)) (oQ ks):=by
 induction H with
 | nil=>exact .nil
 | @cons k ks c vs i _ ih =>
  have e:oQ (k :: ks)=(k.length+1)+oQ ks:=by unfold oQ; simp
  rw[e,aS];exact .cons (HR i) ih
theorem zw {h:Heap}{ks:LA}{a:Addr}(m:mZ prog w h ks a):oK prog w h (.ref a) (Lb prog w ks) (oQ ks+1) 1:=by
 obtain⟨o,items,n,e,c,d,i⟩:=m;exact zu e c d (EO i)
theorem KN {h:Heap}{k:KM}{a:Addr}(m:oJ prog w h k a):oK prog w h (.ref a) (HI prog w k) (oQ k.ws+1+6+1) 2:=by
 obtain⟨o,n,q,t0,t2,t3,t4,t5,e,c,d,i⟩:=m;have H:=zu (r:=1) e c d (.cons (mT h k.a t0 1) (.cons (KO h k.b 1) (.cons (mT h k.c t2 1) (.cons (mT h k.d t3 1) (.cons (mT h k.e t4 1) (.cons (mT h k.f t5 1) (.cons (zw i) .nil)))))));have en:1+(1+(1+(1+(1+(1+(oQ k.ws+1+0))))))+1=oQ k.ws+1+6+1:=by lia
 rw[en] at H;exact H
def qv (k:LF):PyData:=.tuple (k.map .int)
def N8 (k:KM):PyData:=.tuple [.int k.a,.bool k.b,.int k.c,.int k.d,.int k.e,.int k.f,.tuple (k.ws.map qv)]
theorem zp {h:Heap}{k:LF}{vs:LH}(H:ItemsAre (intKind prog w) k vs):∃ as,ReadsAll h vs (k.map .int) as:=by
 induction H with
 | nil=>exact⟨_,.nil⟩
 | @cons i v ks vs hv _ ih =>
  obtain⟨as,p⟩:=ih
  have:∃ t,v=.int i t:=Value.isInt_shape hv
  obtain⟨t,rfl⟩:=this;exact⟨_,.cons (.int i t) p⟩
theorem Do {h:Heap}{k:LF}{c:Addr}(i:IsTupleKey (intKind prog w) h k c):∃ as,Reads h (.ref c) (qv k) as:=by
 obtain⟨o,items,n,e,c,d,hi⟩:=i;obtain⟨as,p⟩:=zp (h:=h) hi;exact⟨_,.tuple e c d p⟩
theorem Ai {h:Heap}{ks:LA}{vs:LH}(H:gP prog w h ks vs):∃ as,ReadsAll h vs (ks.map qv) as:=by
 induction H with
 | nil=>exact⟨_,.nil⟩
 | cons i _ ih =>
  obtain⟨as,p⟩:=Do i;obtain⟨bs,q⟩:=ih;exact⟨_,.cons p q⟩
theorem zl {h:Heap}{k:KM}{a:Addr}(m:oJ prog w h k a):∃ as,Reads h (.ref a) (N8 k) as:=by
 obtain⟨o,n,q,t0,t2,t3,t4,t5,e,c,d,o',items,n',e',c',d',hi⟩:=m;obtain⟨as,p⟩:=Ai hi;exact⟨_,.tuple e c d (.cons (.int _ _) (.cons (.bool _) (.cons (.int _ _) (.cons (.int _ _) (.cons (.int _ _) (.cons (.int _ _) (.cons (.tuple e' c' d' p) .nil)))))))⟩
theorem KS:∀ a b:LF,PyData.eqv (qv a) (qv b)=decide (a=b):=by
 intro a b;unfold qv;simp only[PyData.eqv]
 induction a generalizing b with
 | nil=>cases b <;> simp[PyData.eqvAll]
 | cons x a ih =>
  cases b with
  | nil=>simp[PyData.eqvAll]
  | cons y b =>
   simp only[aS,PyData.eqvAll,PyData.eqv,ih b,List.cons.injEq]
   by_cases h:x=y <;> by_cases h2:a=b <;> simp[h,h2]
theorem zD:∀ a b:LA,PyData.eqvAll (a.map qv) (b.map qv)=decide (a=b)
 | [],[]=>rfl
 | [],_ :: _=>rfl
 | _ :: _,[]=>rfl
 | x :: a,y :: b=>by
  simp only[aS,PyData.eqvAll,KS,zD a b,List.cons.injEq]
  by_cases h:x=y <;> by_cases h2:a=b <;> simp[h,h2]
theorem N0 (x y:KM):PyData.eqv (N8 x) (N8 y)=decide (x=y):=by
 cases x with | mk a b c d e f ws =>
 cases y with | mk a' b' c' d' e' f' ws' =>
 unfold N8;simp only[PyData.eqv,PyData.eqvAll,zD,KM.mk.injEq]
 by_cases h1:a=a' <;> by_cases h2:b=b' <;> by_cases h3:c=c' <;> by_cases h4:d=d' <;> by_cases h5:e=e' <;> by_cases h6:f=f' <;> by_cases h7:ws=ws' <;> simp[h1,h2,h3,h4,h5,h6,h7]
theorem KC (k:LF):(qv k).canLay0=true∧(qv k).depth≤1:=by
 have h:PyData.canLayAll0 (k.map .int)=true∧PyData.depthAll (k.map .int)=0:=by
  induction k with
  | nil=>exact⟨rfl,rfl⟩
  | cons x k ih=>simp only[aS,PyData.canLayAll0,PyData.canLay0,PyData.depthAll,PyData.depth,ih.1,ih.2,ck,Nat.max_self,and_self]
 unfold qv;simp only[PyData.canLay0,PyData.depth,h.1,h.2,true_and];exact au _
theorem HD (k:KM):(N8 k).canLay0=true∧(N8 k).depth≤3:=by
 have h:PyData.canLayAll0 (k.ws.map qv)=true∧PyData.depthAll (k.ws.map qv)≤1:=by
  induction k.ws with
  | nil=>exact⟨rfl,aZ _⟩
  | cons x ws ih =>
   obtain⟨h1,h2⟩:=KC x;simp only[aS,PyData.canLayAll0,PyData.depthAll,h1,ih.1,ck,true_and]
   have:=ih.2
   lia
 unfold N8;simp only[PyData.canLay0,PyData.canLayAll0,PyData.depth,PyData.depthAll,h.1,ck,true_and]
 have:=h.2
 lia
theorem PJ {A:Around}{E:LN}{s:Shared}{x y:KM}{a b:Addr}{Q:Bool→Shared→Prop}(hu:A.units+8 < cLine)(mx:oJ prog w s.heap x a)(my:oJ prog w s.heap y b)(q:Q (decide (x=y)) s):wpAny (model prog w) A (eqBool (.ref a) (.ref b)) Q E s:=by
 obtain⟨as,rx⟩:=zl mx;obtain⟨bs,ry⟩:=zl my;have l:=HD x;have H:=PySem.SeqAt.eqAt_reads _ _ A s _ _ _ _ rx ry l.1 (HD y).1 (bU (xG (Nat.min_le_left _ _) _) (by have:=l.2; lia));rw[N0] at H;exact H prog w E Q q
def mv (h:Heap)(n:Nat)(v:Value):Prop:=∀ (M:Model) (A:Around) (E:LN) (s:Shared) (Q:Bool→Shared→Prop),s.heap=h→Q true s→wpAny M A (eqIsQuiet n v) Q E s
theorem qk {h:Heap}{a:Addr}{o:Obj}{items:LU}{m n:Nat}(e:h.get? a=some o)(c:o.cls=.type "tuple")(dt:o.data=.seq items m)(H:∀ v ∈ items.toList,mv h n v):mv h (n+1) (.ref a):=by
 intro M A E s Q hh q;subst hh;have T:s.TypeIs (.ref a) "tuple":=⟨o,e,c⟩;unfold eqIsQuiet;refine af (wpAny_specialOf T PySem.F.slot_tuple_eq.lookup (show wpAny _ _ (isInstance (.ref a) (.type "tuple") >>= _) _ _ s from af (wpAny_isInstance T isSubtype_tuple_tuple ?_)));rw[if_neg (by decide)];refine af (iY e dt (af (show wpAny _ _ (forIn items _ _) _ _ s from ?_)));rw[←n9];refine wpAny_forIn_list _ (fun left r s1=>r.1=none∧s1=s∧∀ v ∈ left,mv s.heap n v) _ ?_ ?_ _ _ ⟨rfl,rfl,H⟩
 ·rintro v left r s1 ⟨_,rfl,al⟩
  refine af (al v (aK ..) _ _ _ _ _ rfl ?_);rw[if_neg (by decide)];exact aA ⟨rfl,rfl,fun u hu=>al u (aC _ hu)⟩
 ·rintro⟨r1,_⟩ s1 ⟨hr,rfl,_⟩
  cases (show r1=none from hr);exact aA q
theorem i9 {h:Heap}{v:Value}(n:Nat)(c:carriedByValue v=true):mv h n v:=fun M A E s Q _ q=>by
 rw[eqIsQuiet_byValue n c];exact aA q
theorem Eb {h:Heap}{k:LF}{c:Addr}(n:Nat)(i:IsTupleKey (intKind prog w) h k c):mv h (n+1) (.ref c):=by
 obtain⟨o,items,m,e,cl,d,hi⟩:=i;exact qk e cl d fun v hv=>i9 n (hi.byValue v hv)
theorem Ax {h:Heap}{ks:LA}{vs:LH}(n:Nat)(H:gP prog w h ks vs):∀ v ∈ vs,mv h (n+1) v:=by
 induction H with
 | nil=>intro v hv; cases hv
 | cons i _ ih =>
  intro v hv;rcases aQ.mp hv with rfl | hv
  ·exact Eb n i
  ·exact ih v hv
theorem Gr {h:Heap}{k:KM}{a:Addr}(m:oJ prog w h k a):mv h 8 (.ref a):=by
 obtain⟨o,n,q,t0,t2,t3,t4,t5,e,c,d,o',items,n',e',c',d',hi⟩:=m;refine qk e c d fun v hv=>?_
 simp only[aQ,k8,or_false] at hv;rcases hv with rfl | rfl | rfl | rfl | rfl | rfl | rfl
 ·exact i9 7 rfl
 ·exact i9 7 rfl
 ·exact i9 7 rfl
 ·exact i9 7 rfl
 ·exact i9 7 rfl
 ·exact i9 7 rfl
 ·exact qk (n:=6) e' c' d' (Ax 5 hi)
def AT (prog:Program)(w:World):HeapKind prog w KM where
 is:=oJ prog w
 hash:=HI prog w
 draws k:=oQ k.ws+1+6+1
 room A:=A.units+8 < cLine
 inj:=oJ.one
 keeps:=oJ.stay
 pyHash hu m q:=KN m _ _ _ _ rfl (by lia) q
 eqBool:=PJ
 quiet m q:=Gr m _ _ _ _ _ rfl q
end
section
variable {P:Program}{w:World}{H:Hp}{h:Heap}{a:Addr}
abbrev E6:List (KM × Addr × V)→List (KM × Addr × Value)→Prop:=Paired fun p q=>p.1=q.1∧p.2.1=q.2.1∧cY p.2.2 q.2.2
def P2 (P:Program)(w:World)(a:Addr)(xs:List (KM × Addr × V))(h:Heap):Prop :=
 xs.length≤sizeLine∧(a == sysModules)=false∧∃ ys,E6 xs ys∧∃ o es ep,h.get? a=some o∧o.ExactDict∧o.data=.dict es ep∧es.toList=ys.map (entryOfKey (AT P w))∧(ys.map (·.1)).Nodup
def Q7 (P:Program)(w:World)(a:Addr)(xs:List (KM × Addr × V)):HO:=.ext (P2 P w a xs)
def Ot (H:Hp)(vs:LG)(ws:LA):Prop:=vs.length=ws.length∧∀ (i:Nat) (v:V) (k:LF),vs[i]? = some v→ws[i]? = some k→∃ c,v=.ref c∧H c=some (.tup (k.map V.int))
def uk (H:Hp)(x:KM × Addr):Prop:=∃ q vs,H x.2=some (.tup [.int x.1.a,.bl x.1.b,.int x.1.c,.int x.1.d,.int x.1.e,.int x.1.f,.ref q])∧H q=some (.tup vs)∧Ot H vs x.1.ws
theorem Mp (ok:nK P w H h){k:LF}(e:H a=some (.tup (k.map V.int))):IsTupleKey (intKind P w) h k a:=by
 obtain⟨_,its2,r2,o2,p1,p2,n2,p3⟩:=(show eZ P w H h a _ from ok a _ e);exact⟨o2,_,n2,p1,p2,p3,zr r2⟩
theorem Bu (ok:nK P w H h):∀ {vs:LG} {us:LH} {ws:LA},cN vs us→Ot H vs ws→gP P w h ws us
 | [],_,[],.nil,_=>.nil
 | [],_,_ :: _,_,q=>absurd q.1 (by simp)
 | _ :: _,_,[],_,q=>absurd q.1 (by simp)
 | v :: vs,_,k :: ws,.cons r rs,q=>by
  obtain⟨c,rfl,hc⟩:=q.2 0 v k rfl rfl;cases (show _=Value.ref c from r);exact .cons (Mp ok hc) (Bu ok rs ⟨by simpa using q.1,fun i v' k' h1 h2=>q.2 (i+1) v' k' (by simpa using h1) (by simpa using h2)⟩)
theorem L8 {k:KM}(ok:nK P w H h)(e:uk H (k,a)):oJ P w h k a:=by
 obtain⟨b,vs,e,eb,ew⟩:=e;obtain⟨_,its,r,o,q1,q2,n,q3⟩:=(show eZ P w H h a _ from ok a _ e);obtain⟨_,its2,r2,o2,p1,p2,n2,p3⟩:=(show eZ P w H h b _ from ok b _ eb);cases r with
 | cons s1 r =>
 cases r with
 | cons s2 r =>
 cases r with
 | cons s3 r =>
 cases r with
 | cons s4 r =>
 cases r with
 | cons s5 r =>
 cases r with
 | cons s6 r =>
 cases r with
 | cons s7 r =>
  cases r;obtain⟨t0,rfl⟩:=(show ∃ t,_=Value.int k.a t from s1);cases (show _=Value.bool k.b from s2);obtain⟨t2,rfl⟩:=(show ∃ t,_=Value.int k.c t from s3);obtain⟨t3,rfl⟩:=(show ∃ t,_=Value.int k.d t from s4);obtain⟨t4,rfl⟩:=(show ∃ t,_=Value.int k.e t from s5);obtain⟨t5,rfl⟩:=(show ∃ t,_=Value.int k.f t from s6);cases (show _=Value.ref b from s7);exact⟨o,n,b,t0,t2,t3,t4,t5,q1,q2,q3,o2,_,n2,p1,p2,p3,Bu ok r2 ew⟩
theorem L9 {xs:List (KM × Addr × V)}(q:P2 P w a xs h):eZ P w H h a (Q7 P w a xs):=by
 obtain⟨z,d,ys,r,o,es,ep,g1,g2⟩:=q;refine⟨⟨z,d,ys,r,o,es,ep,g1,g2⟩,⟨o,g1⟩,fun h1 h2 q k=>?_⟩;obtain⟨z,d,ys,r,o,es,ep,g1,g2⟩:=q;exact⟨z,d,ys,r,o,es,ep,k _ g1,g2⟩
theorem E6.at {k:KM}{xs:List (KM × Addr × V)}{ys:List (KM × Addr × Value)}(r:E6 xs ys):ux ((xs.find? fun x=>decide (x.1=k)).map (·.2.2)) ((atKey ys k).map (·.2)):=by
 induction r with
 | nil=>exact True.intro
 | @cons p q ps qs g t ih =>
  obtain⟨g1,_,g3⟩:=g
  by_cases e:p.1=k
  ·have e':q.1=k:=g1.symm.trans e
   rw[show atKey (q :: qs) k=some q.2 by simp[atKey,e'],show ((p :: ps).find? fun x=>decide (x.1=k))=some p by simp[e]];exact g3
  ·have e':¬ q.1=k:=fun z=>e (g1.trans z)
   rw[show atKey (q :: qs) k=atKey qs k by simp[atKey,e'],show ((p :: ps).find? fun x=>decide (x.1=k))=ps.find? fun x=>decide (x.1=k) by simp[e]];exact ih
theorem Cv {xs:List (KM × Addr × V)}(ok:nK P w H h)(e:H a=some (Q7 P w a xs))(ks:∀ x ∈ xs,uk H (x.1,x.2.1)) :
  xs.length≤sizeLine∧(a == sysModules)=false∧∃ ys,E6 xs ys∧h.DictOfH (AT P w) a ys:=by
 obtain⟨⟨z,d,ys,r,o,es,ep,g1,g2,g3,g4,g5⟩,_⟩:=(show eZ P w H h a _ from ok a _ e);refine⟨z,d,ys,r,o,es,ep,g1,g2,g3,g4,fun y hy=>?_,g5⟩
 have:∀ {l:List (KM × Addr × V)} {m:List (KM × Addr × Value)},E6 l m→(∀ x ∈ l,uk H (x.1,x.2.1))→∀ y ∈ m,uk H (y.1,y.2.1):=by
  intro l m q
  induction q with
  | nil=>intro _ y hy; cases hy
  | cons g t ih =>
   intro al y hy;rcases aQ.mp hy with q | q
   ·subst q
    have:=al _ aK
    rw[g.1,g.2.1] at this;exact this
   ·exact ih (fun x hx=>al x (aC _ hx)) y q
 exact L8 ok (this r ks y hy)
end
def kL (l:List (KM × V × V)):List (KM × Addr × V):=l.map fun x=>(x.1,Rv x.2.1,x.2.2)
def KG (P:Program)(w:World)(a:Addr)(l:List (KM × V × V)):HO:=Q7 P w a (kL l)
def rc (H:Hp)(y:V)(k:KM):Prop:=∃ a,y=.ref a∧uk H (k,a)
theorem CA {H:Hp}{l:List (KM × V × V)}(h:∀ z ∈ l,rc H z.2.1 z.1):∀ x ∈ kL l,uk H (x.1,x.2.1):=by
 intro x hx;obtain⟨z,hz,rfl⟩:=bg.mp hx;obtain⟨a,e,q⟩:=h z hz;show uk H (z.1,Rv z.2.1);rw[e];exact q
theorem CM (k:KM):∀ l:List (KM × V × V),((kL l).find? fun x=>decide (x.1=k)).map (·.2.2)=KL l k
 | []=>rfl
 | x :: l=>by
  by_cases e:x.1=k
  ·simp[kL,KL,e]
  ·rw[show KL (x :: l) k=KL l k by simp[KL,e],←CM k l]
   simp[kL,e]
theorem Ps {X:Cx}(hu:X.A.units+9 < cLine):Kd X KM (KG X.prog X.w) rc where
 ty:=by
  intro pins σ H s a l I e;obtain⟨⟨_,_,ys,_,o,es,ep,g1,g2,_⟩,_⟩:=(show eZ X.prog X.w H s.heap a _ from I.hok a _ e);refine⟨⟨o,g1,g2.1⟩,fun b q=>?_⟩;cases q;exact⟨o,g1,g2.2.1⟩
 new:=fun pos pins s σ H Q I h=>by
  refine wpAny_Dict_empty ⟨.ref s.heap.objs.size,_,I.laid (o:=KG X.prog X.w s.heap.objs.size []) (t':=s.toks) (fun _ _ q=>ak _ q) (au _) (L9 ?_),rfl,h _ (I.hok.fresh (au _))⟩;exact⟨aZ _,beq_eq_false_iff_ne.mpr (Ne.symm (bZ I.big)),[],.nil,_,#[],0,br _ rfl,⟨rfl,rfl,rfl⟩,rfl,rfl,eP⟩
 len:=by
  intro pins s σ H xs us Q I r h;obtain⟨a,l,rfl,ha,ks,q⟩:=h;obtain⟨u,rfl,ru⟩:=jM r;cases ru;obtain⟨z,hd,ys,rel,dd⟩:=Cv I.hok ha (CA ks);have el:ys.length=l.length:=by rw[←Paired.length rel,kL,aa]
  refine NX hd dd (by rw[←Paired.length rel]; exact z) fun t t'=>⟨.int l.length,H,I.tok _,⟨t,by rw[el]⟩,q⟩
 set:=by
  intro pins s σ H x vs v us Q I rx rv h;obtain⟨d,l,k,y,z,rfl,rfl,e,ks,⟨a,ey,ek⟩,hz,q⟩:=h;cases rx;cases ey;obtain⟨u,u',rfl,ru,ru'⟩:=rv.two;cases ru;obtain⟨z1,hd,ys,rel,dd⟩:=Cv I.hok e (CA ks);have t1:=E6.at (k:=k) rel;rw[CM] at t1;refine vV dd.typeIs hd (KK (knd:=AT X.prog X.w) (k:=k) (by show X.A.units+1+8 < cLine; lia) (L8 I.hok ek) dd (by rw[←Paired.length rel]; exact z1) (fun r hr=>?_) fun hr h' dd' sb=>?_)
  ·rw[hr] at t1
   rcases q with ⟨r',e1,q⟩ | ⟨e1,_⟩
   ·rw[e1] at t1
    exact⟨r',H,I.tok _,t1,q⟩
   ·rw[e1] at t1
    exact (show False from t1).elim
  ·rw[hr] at t1
   rcases q with ⟨r',e1,_⟩ | ⟨_,q⟩
   ·rw[e1] at t1
    exact (show False from t1).elim
   ·obtain⟨o,es,ep,g1,g2,g3,g4,g5,g6⟩:=dd'
    refine⟨z,_,rV I (ob:=KG X.prog X.w d (l++[(k,.ref a,z)])) (by rw[e]; exact True.intro) sb ⟨o,g1⟩ (L9 ⟨?_,hd,_,?_,o,es,ep,g1,g2,g3,g4,g6⟩),ru',q⟩
    ·rw[kL,aa,ai,cx]
     lia
    ·rw[kL,aM]
     exact Paired.snoc rel ⟨rfl,rfl,ru'⟩
section
variable {prog:Program}{w:World}{A:Around}{E:LN}{s:Shared}
end
section
variable {X:Cx}
end
section
variable {X:Cx}{e st:Expr}{te ts:TE}{pos p2:Pos}
inductive Fy (K:LM)(Q:VK)(x:V)(y:V)(H2:Hp):Prop | mk (a:Addr) (u v:V) (i:Int) (_:x=.ref a) (_:y=.int i) (_:bh K H2 a [u,v]) (_:((i=1∧∀ p,H2 p=none→Q (.ref p) (upd H2 p (.lst [u,v]))) ∨ (i=-1∧∀ p,H2 p=none→Q (.ref p) (upd H2 p (.lst [v,u]))))):Fy K Q x y H2
def Qp (K:LM)(te ts:TE):TE:=fun σ H Q=>te σ H fun x H1=>ts σ H1 fun y H2=>Fy K Q x y H2
theorem yM (u v:Value):slicePick #[u,v] none none (some 1)=#[u,v]∧slicePick #[u,v] none none (some (-1))=#[v,u]:=by
 have h:sliceRange (sliceBounds none none (some (-1)) 2).1 (sliceBounds none none (some (-1)) 2).2.1 (sliceBounds none none (some (-1)) 2).2.2=[1,0]:=by decide +kernel
 have h1:sliceRange (sliceBounds none none (some 1) 2).1 (sliceBounds none none (some 1) 2).2.1 (sliceBounds none none (some 1) 2).2.2=[0,1]:=by decide +kernel
 refine⟨?_,?_⟩
 ·show ((sliceRange (sliceBounds none none (some 1) 2).1 (sliceBounds none none (some 1) 2).2.1 (sliceBounds none none (some 1) 2).2.2).filterMap (#[u,v][·]?)).toArray=_
  rw[h1]
  rfl
 show ((sliceRange (sliceBounds none none (some (-1)) 2).1 (sliceBounds none none (some (-1)) 2).2.1 (sliceBounds none none (some (-1)) 2).2.2).filterMap (#[u,v][·]?)).toArray=_;rw[h]
 rfl
theorem Ee (he:PE X e te)(hs:PE X st ts):PE X (.Subscript e (.Slice none none (some st) p2) pos) (Qp X.K te ts):=by
 intro pins s σ H Q I h;refine Subscript_ (thn (he pins s σ H _ I h) fun v s1 ⟨x,H1,I1,r1,q1⟩=>?_);refine wpAny_Slice ?_;rw[evalPart_none,evalPart_some];refine aA (aA (thn (hs pins s1 σ H1 _ I1 q1) fun u s3 ⟨y,H3,I3,r3,q3⟩=>?_));obtain⟨a,v1,v2,i,rfl,rfl,hx,q⟩:=q3;obtain⟨tk,rfl⟩:=r3;cases r1;have I4:Inv X pins σ H3 { s3 with heap:=s3.heap.push { cls:=.type "slice",data:=.fields #[.none,.none,.int i tk] } }:=I3.kept (t':=s3.toks) fun b ob q=>ak _ q
 obtain⟨its,r,ht,hz⟩:=I4.list hx;obtain⟨w1,w2,rfl,rw1,rw2⟩:∃ w1 w2,its=[w1,w2]∧cY v1 w1∧cY v2 w2:=by
  cases r with
  | cons a1 r =>
   cases r with
   | cons a2 r =>
    cases r;exact⟨_,_,rfl,a1,a2⟩
 have sl:({ s3 with heap:=s3.heap.push { cls:=.type "slice",data:=.fields #[.none,.none,.int i tk] } }:Shared).heap.IsSliceOf s3.heap.objs.size .none .none (.int i tk):=Heap.IsSliceOf.new ..;show wpAny (model X.prog X.w) X.A (subscriptTail e (.Slice none none (some st) p2) (.ref a) (.ref s3.heap.objs.size)) (EP X pins σ Q) X.xe { s3 with heap:=s3.heap.push { cls:=.type "slice",data:=.fields #[.none,.none,.int i tk] } };refine tail_any (ops:=[.ref a,.ref s3.heap.objs.size]) ht.isList.typeIs Aq.lookup ?_ (by with_unfolding_all rfl);rcases q with ⟨rfl,q⟩ | ⟨rfl,q⟩
 ·refine oP ht.isList sl .none .none (.int 1 tk) (by simp) ?_ (by show 2≤sizeLine; decide)
  rw[show ([w1,w2]:LH).toArray=#[w1,w2] from rfl,(yM w1 w2).1];refine⟨.ref _,_,I4.laid (t':=s3.toks) (o:=.lst [v1,v2]) (fun b ob q=>ak _ q) (au _) ?_,rfl,q _ (I4.hok.fresh (au _))⟩;exact⟨(by show 2≤sizeLine; decide),[w1,w2],0,.cons rw1 (.cons rw2 .nil),br _ rfl⟩
 ·refine oP ht.isList sl .none .none (.int (-1) tk) (by simp) ?_ (by show 2≤sizeLine; decide)
  rw[show ([w1,w2]:LH).toArray=#[w1,w2] from rfl,(yM w1 w2).2];refine⟨.ref _,_,I4.laid (t':=s3.toks) (o:=.lst [v2,v1]) (fun b ob q=>ak _ q) (au _) ?_,rfl,q _ (I4.hok.fresh (au _))⟩;exact⟨(by show 2≤sizeLine; decide),[w2,w1],0,.cons rw2 (.cons rw1 .nil),br _ rfl⟩
end
end L2
namespace Q6
open M11 (Bn)
def sm (f:Nat→Rat):Nat→Rat
 | 0=>0
 | n+1=>sm f n+f n
theorem yC {f g:Nat→Rat}:∀ n,(∀ k,k < n→f k=g k)→sm f n=sm g n
 | 0,_=>rfl
 | n+1,h=>by
  show sm f n+f n=sm g n+g n;rw[yC n fun k hk=>h k (by lia),h n (by lia)]
theorem ox (f:Nat→Rat)(c:Rat):∀ n,sm f n * c=sm (fun k=>f k * c) n
 | 0=>by show (0:Rat) * c=0; grind
 | n+1=>by
  show (sm f n+f n) * c=sm (fun k=>f k * c) n+f n * c;rw[←ox f c n]
  grind
theorem FZ (f:Nat→Rat)(n:Nat):∀ m,sm f (n+m)=sm f n+sm (fun k=>f (n+k)) m
 | 0=>by show sm f n=sm f n+0; grind
 | m+1=>by
  show sm f (n+m)+f (n+m)=sm f n+(sm (fun k=>f (n+k)) m+f (n+m));rw[FZ f n m]
  grind
theorem oX:∀ (l:LF) (f:Nat→Rat),(∀ (k:Nat) (x:Int),l[k]? = some x→(x:Rat)=f k)→((l.sum:Int):Rat)=sm f l.length
 | [],f,_=>rfl
 | a :: l,f,h=>by
  rw[gW,bq,Bl,FZ,Rat.intCast_add,h 0 a rfl,oX l (fun k=>f (1+k)) fun k x e=>by rw[Bl]; exact h (k+1) x (by rw[List.getElem?_cons_succ]; exact e)];show f 0+_=(0+f 0)+_
  grind
theorem mq {b:Int}(h:0 < b):(b:Rat)≠0:=fun e=>by
 have:b=0:=Rat.intCast_inj.mp (by rw[e]; rfl)
 lia
structure Va (n s:Nat)(f:Nat→Rat)(ts:LF)(b:Int):Prop where
 len:ts.length=n
 pos:0 < b
 bot:b.natAbs≤2 ^ (2 * (s / 10))
 tops:∀ x ∈ ts,Bn (8 * s) x
 val:∀ (k:Nat) (x:Int),ts[k]? = some x→(x:Rat)=f k * (b:Rat)
theorem pq {x c d:Nat}(h:x≤2 ^ (2 * (c / 10)))(l:c≤d):x≤2 ^ (2 * (d / 10)):=aE h (cH (by decide) (by lia))
theorem AQ {b e:Int}{c d:Nat}(h:b.natAbs≤2 ^ (2 * (c / 10)))(l:e.natAbs≤2 ^ (2 * (d / 10))):(b * e).natAbs≤2 ^ (2 * ((c+d) / 10)):=by
 rw[nZ];refine aE (bP h l) ?_;rw[←uy];exact cH (by decide) (by lia)
theorem le_bn {b:Int}{c:Nat}(h:b.natAbs≤2 ^ (2 * (c / 10))):Bn (2 * (c / 10)+1) b:=bU h (Nat.pow_lt_pow_right (by decide) (by lia))
variable {n c d:Nat}{f g:Nat→Rat}{ts us:LF}{b e:Int}
theorem Va.more (S:Va n c f ts b)(h:c≤d):Va n d f ts b:=⟨S.len,S.pos,pq S.bot h,fun x hx=>(S.tops x hx).mono (by lia),S.val⟩
theorem Va.congr (S:Va n c f ts b)(h:∀ k,k < n→f k=g k):Va n c g ts b:=⟨S.len,S.pos,S.bot,S.tops,fun k x e=>by
 rw[←h k (by rw[←S.len]; exact (aN.mp e).1)]
 exact S.val k x e⟩
theorem Va.lower (S:Va n c f ts b):Va n c f (ts.map fun t=>t.fdiv (M11.foldG b ts)) (b.fdiv (M11.foldG b ts)):=by
 obtain⟨h1,h2⟩:=M11.lowerR_pos (ts:=ts) S.pos;obtain⟨g1,g2,g3⟩:=M11.foldG_spec ts b S.pos;have h1':0 < b.fdiv (M11.foldG b ts):=h1;have h2':b.fdiv (M11.foldG b ts)≤b:=h2;refine⟨by rw[aa]; exact S.len,h1,?_,fun x hx=>?_,fun k x e=>?_⟩
 ·have:=S.bot
  have p0:=S.pos;refine aE (?_:_≤b.natAbs) S.bot
  lia
 ·obtain⟨t,ht,hl⟩:=M11.lowerR_le (ts:=ts) S.pos x hx
  exact (S.tops t ht).le hl
 ·rw[aq] at e
  obtain⟨t,et,rfl⟩:=cc.mp e;obtain⟨t',e1,e2⟩:=M11.fdiv_of_dvd g1 (g3 t (ae et));obtain⟨b',e3,e4⟩:=M11.fdiv_of_dvd g1 g2;have v:=S.val k t et;have nz:=mq g1;rw[e2,e4];generalize M11.foldG b ts=q at *;rw[e1,e3,bR,bR] at v
  grind
theorem nc {F:Int→Int→Int}{k:Nat}{z:Int}(h:(List.zipWith F ts us)[k]? = some z):∃ x y,ts[k]? = some x∧us[k]? = some y∧z=F x y:=by
 rw[ug] at h;cases hx:ts[k]? with
 | none=>rw[hx] at h; cases h
 | some x =>
  cases hy:us[k]? with
  | none=>rw[hx,hy] at h; cases h
  | some y=>rw[hx,hy] at h; exact⟨x,y,rfl,rfl,(aW h).symm⟩
theorem iO {z:Int}{l:LF}(h:z ∈ l):∃ k:Nat,l[k]? = some z:=aP.mp h
theorem Va.mul (S:Va n c f ts b)(T:Va n d g us e):Va n (c+d) (fun k=>f k * g k) (List.zipWith (fun x y=>x * y) ts us) (b * e):=by
 refine⟨by rw[cg,S.len,T.len,Bk],gw S.pos T.pos,AQ S.bot T.bot,fun z hz=>?_,fun k z hz=>?_⟩
 ·obtain⟨k,hk⟩:=iO hz
  obtain⟨x,y,h1,h2,rfl⟩:=nc hk;exact ((S.tops x (ae h1)).mul (T.tops y (ae h2))).mono (by lia)
 ·obtain⟨x,y,h1,h2,rfl⟩:=nc hz
  have v1:=S.val k x h1;have v2:=T.val k y h2;rw[bR,bR,v1,v2]
  grind
theorem Va.add (S:Va n c f ts b)(T:Va n d g us e):Va n (c+d+1) (fun k=>f k+g k) (List.zipWith (fun x y=>x * e+y * b) ts us) (b * e):=by
 refine⟨by rw[cg,S.len,T.len,Bk],gw S.pos T.pos,pq (AQ S.bot T.bot) (by lia),fun z hz=>?_,fun k z hz=>?_⟩
 ·obtain⟨k,hk⟩:=iO hz
  obtain⟨x,y,h1,h2,rfl⟩:=nc hk;have z1:=((S.tops x (ae h1)).mul (le_bn T.bot)).mono (m:=8 * (c+d)+1) (by lia);have z2:=((T.tops y (ae h2)).mul (le_bn S.bot)).mono (m:=8 * (c+d)+1) (by lia);exact (z1.add z2).mono (by lia)
 ·obtain⟨x,y,h1,h2,rfl⟩:=nc hz
  have v1:=S.val k x h1;have v2:=T.val k y h2;rw[Rat.intCast_add,bR,bR,bR,v1,v2]
  grind
theorem Va.many {p q:Int}(hq:0 < q)(hp:Bn 80 p)(hq':q.natAbs≤2 ^ 2)(S:Va n c f ts b):Va n (c+10) (fun k=>f k * ((p:Rat) / (q:Rat))) (M11.manyR p q ts b).1 (M11.manyR p q ts b).2:=by
 obtain⟨m1,m2,m3,m4⟩:=M11.manyR_spec (a:=p) (ts:=ts) hq S.pos;obtain⟨h1,h2,h3⟩:=M11.foldG_spec ts q hq;have p1:0 < M11.G p b:=m6.mpr (cZ p (by have:=S.pos; lia));refine⟨by rw[M11.manyR_len]; exact S.len,m1,?_,fun x hx=>?_,fun k x hx=>?_⟩
 ·have h5:(M11.manyR p q ts b).2.natAbs≤(q * b).natAbs:=by lia
  refine aE h5 ?_;rw[nZ];refine aE (bP hq' S.bot) ?_;rw[←uy];exact cH (by decide) (by lia)
 ·obtain⟨t,ht,hl⟩:=m4 x hx
  exact (Bn.le (hp.mul (S.tops t ht)) hl).mono (by lia)
 ·unfold M11.manyR at hx
  rw[aq] at hx;obtain⟨t,et,rfl⟩:=cc.mp hx;obtain⟨p',ea,fa⟩:=M11.fdiv_of_dvd p1 (jd p b);obtain⟨b',eb,fb⟩:=M11.fdiv_of_dvd p1 (gi p b);obtain⟨q',ec,fc⟩:=M11.fdiv_of_dvd h1 h2;obtain⟨t',ed,fd⟩:=M11.fdiv_of_dvd h1 (h3 t (ae et));have v:=S.val k t et;have n1:=mq h1;have n2:=mq p1;have n3:=mq hq;have n4:=mq S.pos;show ((p.fdiv (M11.G p b) * t.fdiv (M11.foldG q ts):Int):Rat)=f k * (p / q) * ((q.fdiv (M11.foldG q ts) * b.fdiv (M11.G p b):Int):Rat);rw[fa,fb,fc,fd,bR,bR];clear fa fb fc fd hx m1 m2 m3 m4 h2 h3 et hp hq';generalize M11.G p b=D at *;generalize M11.foldG q ts=E at *;have ea':(p:Rat)=D * p':=by rw[ea,bR]
  have eb':(b:Rat)=D * b':=by rw[eb,bR]
  have ec':(q:Rat)=E * q':=by rw[ec,bR]
  have ed':(t:Rat)=E * t':=by rw[ed,bR]
  clear ea eb ec ed;have n5:(q':Rat)≠0:=by rw[ec'] at n3; grind
  have n6:(b':Rat)≠0:=by rw[eb'] at n4; grind
  rw[ed',eb'] at v;rw[ea',ec'];clear ea' eb' ec' ed' n3 n4;have w:(t':Rat)=f k * D * b' / E:=by grind
  rw[w]
  grind
theorem Va.lst {F:Nat→Int}(hb:0 < b)(hb':b.natAbs≤2 ^ (2 * (c / 10)))(hl:ts.length=n)(ht:∀ (k:Nat) (x:Int),ts[k]? = some x→x=F k∧Bn (8 * c) x∧((F k:Int):Rat)=f k * (b:Rat)):Va n c f ts b :=
 ⟨hl,hb,hb',fun x hx=>by
  obtain⟨k,hk⟩:=iO hx
  exact (ht k x hk).2.1,fun k x hk=>by
  obtain⟨rfl,_,h⟩:=ht k x hk
  exact h⟩
theorem Va.diag {us:LF}(S:Va n c f ts b)(hl:us.length=n * n)(hu:∀ (i j:Nat) (x:Int),i < n→j < n→us[i * n+j]? = some x→if i=j then ts[i]? = some x else x=0):Va (n * n) c (fun k=>if k / n=k % n then f (k / n) else 0) us b:=by
 have key:∀ (k:Nat) (x:Int),us[k]? = some x→k / n < n∧k % n < n∧(if k / n=k % n then ts[k / n]? = some x else x=0):=fun k x h=>by
  have hk:k < n * n:=by rw[←hl]; exact (aN.mp h).1
  have n0:0 < n:=by
   rcases nV n with z | z
   ·subst z; lia
   ·exact z
  have h1:k / n < n:=uA hk;have h2:k % n < n:=nU _ n0;refine⟨h1,h2,hu (k / n) (k % n) x h1 h2 ?_⟩;rw[gs,mI];exact h
 refine⟨hl,S.pos,S.bot,fun x hx=>?_,fun k x hk=>?_⟩
 ·obtain⟨k,hk⟩:=iO hx
  obtain⟨_,_,h⟩:=key k x hk
  split at h
  ·exact S.tops x (ae h)
  ·subst h; exact Nat.pow_pos (by decide)
 ·obtain⟨_,_,h⟩:=key k x hk
  split at h
  ·rename_i z
   rw[if_pos z];exact S.val _ x h
  ·rename_i z
   rw[if_neg z,h];show ((0:Int):Rat)=0 * _
   grind
theorem Va.turn {us:LF}(S:Va (n * n) c f ts b)(hl:us.length=n * n)(hu:∀ (i j:Nat) (x:Int),i < n→j < n→us[i * n+j]? = some x→ts[j * n+i]? = some x):Va (n * n) c (fun k=>f (k % n * n+k / n)) us b:=by
 have key:∀ (k:Nat) (x:Int),us[k]? = some x→ts[k % n * n+k / n]? = some x:=fun k x h=>by
  have hk:k < n * n:=by rw[←hl]; exact (aN.mp h).1
  have n0:0 < n:=by
   rcases nV n with z | z
   ·subst z; lia
   ·exact z
  refine hu (k / n) (k % n) x (uA hk) (nU _ n0) ?_;rw[gs,mI];exact h
 refine⟨hl,S.pos,S.bot,fun x hx=>?_,fun k x hk=>S.val _ x (key k x hk)⟩;obtain⟨k,hk⟩:=iO hx;exact S.tops x (ae (key k x hk))
theorem CS {ws rs:LF}{F G:Nat→Rat}{q:Rat}(hl:ws.length=rs.length)(h1:∀ (k:Nat) (x:Int),ws[k]? = some x→(x:Rat)=F k)(h2:∀ (k:Nat) (x:Int),rs[k]? = some x→(x:Rat)=G k * q) :
  (((List.zipWith (fun a b=>a * b) ws rs).sum:Int):Rat)=sm (fun k=>F k * G k) ws.length * q:=by
 rw[ox,oX _ (fun k=>F k * G k * q) fun k z hz=>?_,cg,←hl,Bk];obtain⟨x,y,e1,e2,rfl⟩:=nc hz;rw[bR,h1 k x e1,h2 k y e2]
 grind
theorem Ik {ws rs:LF}{u v:Nat}(hl:ws.length≤16)(h1:∀ x ∈ ws,Bn u x)(h2:∀ x ∈ rs,Bn v x):Bn (u+v+5) (List.zipWith (fun a b=>a * b) ws rs).sum:=by
 refine M11.bn_sum (n:=u+v) 4 _ (by rw[cg]; show _≤16; lia) fun z hz=>?_
 obtain⟨k,hk⟩:=iO hz;obtain⟨x,y,e1,e2,rfl⟩:=nc hk;exact (h1 x (ae e1)).mul (h2 y (ae e2))
theorem Va.near {M:LA}(S:Va n c f ts b)(hn:n≤16)(hM:M.length=n)(hr:∀ x ∈ M,x.length=n∧∀ z ∈ x,z.natAbs≤2 * 10 ^ 21) :
  Va n (c+10) (fun k=>sm (fun v=>(((M.getD k []).getD v 0:Int):Rat) * f v) n) (M.map fun w=>(List.zipWith (fun a b=>a * b) w ts).sum) b:=by
 refine⟨by rw[aa]; exact hM,S.pos,pq S.bot (by lia),fun x hx=>?_,fun k x hx=>?_⟩
 ·obtain⟨w,hw,rfl⟩:=bg.mp hx
  refine (Ik (u:=74) (by rw[(hr w hw).1]; exact hn) (fun z hz=>bU ((hr w hw).2 z hz) (by decide)) S.tops).mono (by lia)
 ·rw[aq] at hx
  obtain⟨w,ew,rfl⟩:=cc.mp hx;have lw:=(hr w (ae ew)).1;have eM:M.getD k []=w:=by rw[aR,ew]; rfl
  rw[CS (ws:=w) (rs:=ts) (F:=fun v=>((w.getD v 0:Int):Rat)) (G:=f) (by rw[lw,S.len]) (fun v y e=>by rw[aR,e]; rfl) S.val,lw,eM]
theorem Va.rows {us:LF}(S:Va (n * n) c f ts b)(hn:n≤16)(hl:us.length=n)(hu:∀ (i:Nat) (x:Int),us[i]? = some x→x=((ts.drop (n * i)).take n).sum) :
  Va n (c+1) (fun k=>sm (fun j=>f (k * n+j)) n) us b:=by
 refine⟨hl,S.pos,pq S.bot (by lia),fun x hx=>?_,fun k x hx=>?_⟩
 ·obtain⟨k,hk⟩:=iO hx
  rw[hu k x hk];exact (M11.bn_sum (n:=8 * c) 4 _ (by rw[bB]; show _≤16; lia) fun z hz=>S.tops z (mw (gc hz))).mono (by lia)
 ·have hk:k < n:=by rw[←hl]; exact (aN.mp hx).1
  have le:n * k+n≤n * n:=by
   have:=g9 n (show k+1≤n from hk)
   rw[mY] at this;exact this
  rw[hu k x hx,ox,oX _ (fun j=>f (k * n+j) * (b:Rat)) fun j y e=>?_]
  ·rw[bB,df,S.len,d6 (by lia)]
  ·refine S.val _ y ?_
   have hj:j < n:=by
    have:=(aN.mp e).1
    rw[bB] at this
    lia
   rw[fX hj,List.getElem?_drop] at e;rw[gs k n];exact e
theorem Va.thn {vs:LF}{rw' cl:Nat→LF}(S:Va (n * n) c f ts b)(T:Va (n * n) d g us e)(hn:n≤16)(hl:vs.length=n * n)(hr:∀ i,i < n→(rw' i).length=n∧∀ (v:Nat) (x:Int),(rw' i)[v]? = some x→ts[i * n+v]? = some x)(hc:∀ j,j < n→(cl j).length=n∧∀ (v:Nat) (x:Int),(cl j)[v]? = some x→us[v * n+j]? = some x)(hv:∀ (i j:Nat) (x:Int),i < n→j < n→vs[i * n+j]? = some x→x=(List.zipWith (fun a b=>a * b) (cl j) (rw' i)).sum):Va (n * n) (c+d+1) (fun k=>sm (fun v=>f (k / n * n+v) * g (v * n+k % n)) n) vs (b * e):=by
 have key:∀ (k:Nat) (x:Int),vs[k]? = some x→k / n < n∧k % n < n∧x=(List.zipWith (fun a b=>a * b) (cl (k % n)) (rw' (k / n))).sum:=fun k x h=>by
  have hk:k < n * n:=by rw[←hl]; exact (aN.mp h).1
  have n0:0 < n:=by
   rcases nV n with z | z
   ·subst z; lia
   ·exact z
  have h1:k / n < n:=uA hk;have h2:k % n < n:=nU _ n0;refine⟨h1,h2,hv (k / n) (k % n) x h1 h2 ?_⟩;rw[gs,mI];exact h
 refine⟨hl,gw S.pos T.pos,pq (AQ S.bot T.bot) (by lia),fun x hx=>?_,fun k x hx=>?_⟩
 ·obtain⟨k,hk⟩:=iO hx
  obtain⟨h1,h2,rfl⟩:=key k x hk;obtain⟨l1,m1⟩:=hr _ h1;obtain⟨l2,m2⟩:=hc _ h2;refine (Ik (u:=8 * d) (v:=8 * c) (by lia) (fun z hz=>?_) fun z hz=>?_).mono (by lia)
  ·obtain⟨v,ev⟩:=iO hz
   exact T.tops z (ae (m2 v z ev))
  ·obtain⟨v,ev⟩:=iO hz
   exact S.tops z (ae (m1 v z ev))
 ·obtain⟨h1,h2,rfl⟩:=key k x hx
  obtain⟨l1,m1⟩:=hr _ h1;obtain⟨l2,m2⟩:=hc _ h2;rw[CS (F:=fun v=>g (v * n+k % n) * (e:Rat)) (G:=fun v=>f (k / n * n+v)) (q:=(b:Rat)) (by rw[l1,l2]) (fun v x ev=>T.val _ x (m2 v x ev)) fun v x ev=>S.val _ x (m1 v x ev),l2,bR,ox,ox];refine yC n fun v _=>?_
  grind
structure IsFr (q:Rat)(p:Int × Int):Prop where
 pos:0 < p.2
 cop:Int.gcd p.1 p.2=1
 val:(p.1:Rat)=q * (p.2:Rat)
theorem IsFr.uniq {q:Rat}{p p':Int × Int}(h:IsFr q p)(h':IsFr q p'):p=p':=by
 have e:p.1 * p'.2=p'.1 * p.2:=by
  refine Rat.intCast_inj.mp ?_;rw[bR,bR,h.val,h'.val]
  grind
 have n1:p.2≠0:=by have:=h.pos; lia
 have n2:p'.2≠0:=by have:=h'.pos; lia
 have:=M11.low_eq n1 n2 e
 rw[M11.low_self h.pos h.cop,M11.low_self h'.pos h'.cop] at this;exact this
theorem pE {q:Rat}{t b:Int}(hb:b≠0)(hq:(t:Rat)=q * (b:Rat)):IsFr q (M11.low t b):=by
 refine⟨M11.low_pos hb,M11.low_cop hb,?_⟩;have e:=congrArg (fun z:Int=>(z:Rat)) (M11.low_cross (t:=t) hb);rw[bR,bR,hq] at e;have nb:(b:Rat)≠0:=fun z=>hb (Rat.intCast_inj.mp (by rw[z]; rfl))
 grind
theorem IsFr.plus {q r:Rat}{p s:Int × Int}(h:IsFr q p)(h':IsFr r s):IsFr (q+r) (M11.low (p.1 * s.2+s.1 * p.2) (p.2 * s.2)):=by
 refine pE (rk (gw h.pos h'.pos)) ?_;rw[Rat.intCast_add,bR,bR,bR,h.val,h'.val]
 grind
theorem IsFr.times {q r:Rat}{p s:Int × Int}(h:IsFr q p)(h':IsFr r s):IsFr (q * r) (M11.low (p.1 * s.1) (p.2 * s.2)):=by
 refine pE (rk (gw h.pos h'.pos)) ?_;rw[bR,bR,h.val,h'.val]
 grind
theorem kU (x:Int):IsFr (x:Rat) (x,1):=⟨by show (0:Int) < 1; decide,by show Int.gcd x 1=1; exact Int.gcd_one_right x,by show (x:Rat)=x * ((1:Int):Rat); rw[iB]; grind⟩
theorem Va.total (S:Va n c f ts b):IsFr (sm f n) (M11.low ts.sum b):=by
 refine pE (by have:=S.pos; lia) ?_;rw[ox,oX ts _ fun k x e=>S.val k x e,S.len]
end Q6
namespace TM
open PySem L2
abbrev Rw:=List Int × Int
def dot (w r:LF):Int:=(List.zipWith (fun a b=>a * b) w r).sum
inductive Lf where
 | one
 | hue (c:Int)
 | same
 | tie
 | all
inductive Un where
 | near
 | rows
 | on
 | turned
 | many (a b:Int)
inductive Bi where
 | both
 | thn
 | meet
 | plus
inductive Te where
 | lf (k:Lf)
 | un (k:Un) (t:Te)
 | bi (k:Bi) (t u:Te)
def Lf.word:Lf→Str
 | .one=>"one"
 | .hue _=>"hue"
 | .same=>"same"
 | .tie=>"tie"
 | .all=>"all"
def Lf.rest:Lf→LW
 | .hue c=>[.int c]
 | _=>[]
def Un.word:Un→Str
 | .near=>"near"
 | .rows=>"rows"
 | .on=>"on"
 | .turned=>"turned"
 | .many _ _=>"many"
def Un.rest:Un→LW
 | .many a b=>[.tuple [.int a,.int b]]
 | _=>[]
def Bi.word:Bi→Str
 | .both=>"both"
 | .thn=>"then"
 | .meet=>"meet"
 | .plus=>"plus"
def Te.word:Te→Str
 | .lf k=>k.word
 | .un k _=>k.word
 | .bi k _ _=>k.word
def Te.rest:Te→LW
 | .lf k=>k.rest
 | .un k _=>k.rest
 | .bi _ _ _=>[]
def Te.dat:Te→PyData
 | .lf k=>.tuple (.str k.word :: k.rest)
 | .un k t=>.tuple (.str k.word :: (k.rest++[t.dat]))
 | .bi k t u=>.tuple [.str k.word,t.dat,u.dat]
def Te.size:Te→Nat
 | .lf _=>1
 | .un _ t=>t.size+1
 | .bi _ t u=>t.size+u.size+1
def Te.pre:Te→List Te
 | .lf k=>[.lf k]
 | .un k t=>.un k t :: t.pre
 | .bi k t u=>.bi k t u :: (u.pre++t.pre)
structure Br (a b:Int):Prop where
 top:a.natAbs≤2 * 10 ^ 21
 pos:0 < b
 bot:b≤2 ^ 2
 cop:Int.gcd a b=1
def Lf.tab:Lf→Bool
 | .one=>false
 | .hue _=>false
 | _=>true
def Te.ok:Te→Bool→Prop
 | .lf k,s=>k.tab=s
 | .un .near t,s=>s=false∧t.ok false
 | .un .rows t,s=>s=false∧t.ok true
 | .un .on t,s=>s=true∧t.ok false
 | .un .turned t,s=>s=true∧t.ok true
 | .un (.many a b) t,s=>Br a b∧t.ok s
 | .bi .both t u,s=>s=false∧t.ok false∧u.ok false
 | .bi .thn t u,s=>s=true∧t.ok true∧u.ok true
 | .bi .meet t u,s=>s=true∧t.ok true∧u.ok true
 | .bi .plus t u,s=>t.ok s∧u.ok s
open Q6 (sm)
def iZ (hs:LF)(M:LA):Te→Nat→Rat
 | .lf .one=>fun _=>1
 | .lf (.hue c)=>fun k=>if hs.getD k 0=c then 1 else 0
 | .lf .same=>fun k=>if k / hs.length=k % hs.length then 1 else 0
 | .lf .tie=>fun k=>(((M.getD (k / hs.length) []).getD (k % hs.length) 0:Int):Rat)
 | .lf .all=>fun _=>1
 | .un .near t=>fun k=>sm (fun v=>(((M.getD k []).getD v 0:Int):Rat) * iZ hs M t v) hs.length
 | .un .rows t=>fun k=>sm (fun j=>iZ hs M t (k * hs.length+j)) hs.length
 | .un .on t=>fun k=>if k / hs.length=k % hs.length then iZ hs M t (k / hs.length) else 0
 | .un .turned t=>fun k=>iZ hs M t (k % hs.length * hs.length+k / hs.length)
 | .un (.many a b) t=>fun k=>iZ hs M t k * ((a:Rat) / (b:Rat))
 | .bi .both t u=>fun k=>iZ hs M t k * iZ hs M u k
 | .bi .thn t u=>fun k=>sm (fun x=>iZ hs M t (k / hs.length * hs.length+x) * iZ hs M u (x * hs.length+k % hs.length)) hs.length
 | .bi .meet t u=>fun k=>iZ hs M t k * iZ hs M u k
 | .bi .plus t u=>fun k=>iZ hs M t k+iZ hs M u k
def many (n:Nat)(s:Bool):Nat:=if s=true then n * n else n
structure Ff (n:Nat)(hs:LF)(M:LA):Prop where
 hl:hs.length=n
 ml:M.length=n
 row:∀ x ∈ M,x.length=n∧∀ z ∈ x,z.natAbs≤2 * 10 ^ 21
 few:n≤16
theorem EW {z:Int}(h:z.natAbs≤2 * 10 ^ 21):M11.Bn 80 z:=bU h (by decide)
end TM
namespace My
open PySem L2 PyProof.Rows
variable {K:LM}{X:Cx}{H H' H0 H1 H2 H3:Hp}{C CN D N S a aT d f fA fB fC fD fE fF fG fI fK fL fM fN fO fP fQ fS fT fV fW fa l p p' r t' wA:Addr}{L l' pre vals vs xs ys:LG}{c i j k m nS s s' u:Nat}{hs ns os ts us x:LF}{b x' y y' z:Int}{st:Stmt}{rs:LI}{te tl:TE}{Q:Hp→Prop}{σ:L2.St}{fd fdA fdB fdC fdD fdE fdF fdG fdI fdK fdL fdM fdN fdO fdP fdQ fdS fdT fdV fdW:FuncData}{M M' T T' ws:LA}{e tg:Expr}{ks ks':List KM}{q:Rat}{v v':V}{g:Nat→Rat}{tb:TS}{ps:LC}{Ts:List (LA)}{o:HO}{Pz:Int→Prop}{tw:Nat→Nat→Nat}{R:Nat→Nat→Int}{dn dn':Nat→Nat→Prop}{zs:LJ}{fs:List (Nat→Rat)}{pr:Int × Int}{es:LL}{pos:Pos}{wi:TI}{gg:TG}{name:Str}{h:Bool→Nat→Int}{kvs:List (iX × V)}{tt:TT}{hi lo:Option Int}{ds:LW}{cdv ct doc kV oc ocS pm:Value}{an od odS:LR}{osl slS:Array (LV)}{mg:LO}{w:World}{loose:LK}{XP:(LO)→Heap→Prop}{YP:World→Heap→Prop}
def top (i:Nat):Stmt:=PySem.Challenge.pw_evenkin_k82_papers_of_pairs_looked_at.main.body.getD i (.Pass ⟨0,0,0,0⟩)
abbrev DU:Stmt:=top 1
abbrev qM:Stmt:=top 2
abbrev DJ:Stmt:=top 3
abbrev sV:Stmt:=top 4
abbrev ve:Stmt:=top 5
abbrev lQ:Stmt:=top 6
abbrev qL:Stmt:=top 7
abbrev vh:Stmt:=top 8
abbrev i8:Stmt:=top 13
abbrev BY:Stmt:=top 15
abbrev wN:Stmt:=top 16
abbrev jK:Stmt:=top 17
abbrev lO:Stmt:=top 18
abbrev rF:Stmt:=top 19
abbrev rK:Stmt:=top 20
abbrev lV:Stmt:=top 21
abbrev o0:Stmt:=top 22
abbrev rJ:Stmt:=top 23
abbrev B5:Stmt:=top 24
abbrev rH:Stmt:=top 25
abbrev Op:Stmt:=top 27
abbrev Qf:Stmt:=top 28
abbrev wS:Stmt:=top 31
abbrev Gb:Stmt:=top 32
abbrev jn:Stmt:=top 33
abbrev kN:Stmt:=top 34
abbrev kJ:Stmt:=top 35
abbrev kK:Stmt:=top 36
abbrev B0:Stmt:=top 37
abbrev jN:Stmt:=top 38
abbrev vg:Stmt:=top 39
abbrev kM:Stmt:=top 40
abbrev oZ:Stmt:=top 41
abbrev rG:Stmt:=top 42
abbrev Jo:Stmt:=top 43
abbrev sU:Stmt:=top 45
abbrev B3:Stmt:=top 46
abbrev kI:Stmt:=top 47
abbrev BZ:Stmt:=top 48
abbrev wI:Stmt:=top 49
abbrev wP:Stmt:=top 51
abbrev nk:Stmt:=top 53
abbrev oz:Stmt:=top 54
abbrev rE:Stmt:=top 55
abbrev vd:Stmt:=top 56
abbrev wM:Stmt:=top 57
abbrev B4:Stmt:=top 58
abbrev mO:Stmt:=top 59
abbrev Jn:Stmt:=top 60
abbrev DH:Stmt:=top 61
abbrev vf:Stmt:=top 62
abbrev wJ:Stmt:=top 63
abbrev oy:Stmt:=top 64
abbrev wR:Stmt:=top 65
abbrev jH:Stmt:=top 66
abbrev wK:Stmt:=top 67
abbrev B6:Stmt:=top 68
abbrev qK:Stmt:=top 69
abbrev wO:Stmt:=top 70
abbrev iN:Stmt:=top 71
abbrev pd:Stmt:=top 72
abbrev wQ:Stmt:=top 73
section
variable {K:LM}
def cT (s:Stmt)(i:Nat):Stmt:=(iS s).getD i (.Pass ⟨0,0,0,0⟩)
def dq (s:Stmt):Expr:=match s with
 | .Assign _ v _=>v
 | .Return (some v) _=>v
 | _=>.Constant .none 0 ⟨0,0,0,0⟩
def cz (e:Expr):Scope:=match e with
 | .ListComp _ _ sc _=>sc
 | _=>{ kind:=.function,names:=[],isGenerator:=false,isCoroutine:=false }
def uF (e:Expr)(i:Nat):Expr:=match e with
 | .Tuple es _ _=>es.getD i (.Constant .none 0 ⟨0,0,0,0⟩)
 | _=>.Constant .none 0 ⟨0,0,0,0⟩
theorem pB (h:X.K=K:=by rfl):Ol X (O4 K):=by subst h; exact bM
theorem Same.sq (e:Same H H')(h:bh K H a xs):bh K H' a xs:=(Same.keep (ok:=any) e).seq trivial h
theorem fq {α:Type}{xs:List α}{x:α}(h:xs[i]? = some x):xs.take (i+1)=xs.take i++[x]:=by
 rw[List.take_succ,h]
 rfl
theorem bI {α β:Type}{f:α→β}{xs:List α}{y:β}(h:(xs.map f)[i]? = some y):∃ x,xs[i]? = some x∧y=f x:=by
 rw[aq] at h;obtain⟨x,h1,h2⟩:=cc.mp h;exact⟨x,h1,h2.symm⟩
def ju (t u:TS):TS:=fun D σ H=>∃ J:LQ,t { D with nx:=J } σ H∧∀ σ' H',J σ' H'→u D σ' H'
theorem dH {rest:List Stmt}{t u:TS}(h1:PS X st t)(h2:xN X rest u):xN X (st :: rest) (ju t u):=by
 intro pins s σ H D I h;obtain⟨J,h,k⟩:=h;refine Dl (thn (h1 pins s σ H { D with nx:=J } I h) fun f s1 q=>?_);cases f with
 | next =>
  obtain⟨σ',H',I',q⟩:=q;exact h2 pins s1 σ' H' D I' (k σ' H' q)
 | ret v=>exact q
 | brk=>exact q
 | cont=>exact q
def dI (ns:LF):PyData:=.list (ns.map .int)
theorem zj:∀ ns:LF,PyData.canLayAll0 (ns.map .int)=true∧PyData.depthAll (ns.map .int)=0
 | []=>⟨rfl,rfl⟩
 | n :: ns=>by
  obtain⟨h1,h2⟩:=zj ns;refine⟨?_,?_⟩
  ·rw[aS]
   simp only[PyData.canLayAll0,PyData.canLay0,h1,ck]
  ·rw[aS]
   simp only[PyData.depthAll,PyData.depth,h2,Nat.max_self]
theorem iQ (ns:LF):(dI ns).canLay0=true∧(dI ns).depth≤1:=by
 obtain⟨h1,h2⟩:=zj ns;unfold dI;exact⟨by simp only[PyData.canLay0,h1],by simp only[PyData.depth,h2]; exact au _⟩
theorem zI {ok:Addr→Prop}:∀ ns:LF,DAs K ok H (ns.map V.int) (ns.map .int)
 | []=>.nil
 | n :: ns=>.cons (.int n) (zI ns)
theorem Is {ok:Addr→Prop}(n:ok a)(h:bh K H a (ns.map V.int)):DA K ok H (.ref a) (dI ns):=.lst n h (zI ns)
theorem zE:∀ a b:LF,PyData.eqvAll (a.map .int) (b.map .int)=decide (a=b)
 | [],[]=>rfl
 | [],b :: bs=>rfl
 | a :: as,[]=>rfl
 | a :: as,b :: bs=>by
  rw[aS,aS];simp only[PyData.eqvAll,PyData.eqv,zE as bs]
  by_cases h:a=b
  ·subst h
   by_cases h2:as=bs
   ·subst h2; simp
   ·simp[h2]
  ·simp[h]
theorem xo (a b:LF):PyData.eqv (dI a) (dI b)=decide (a=b):=by
 unfold dI;simp only[PyData.eqv];exact zE a b
end
section
variable {P:Program}{w:World}{K:LM}{mg:LO}{base:Heap}
theorem ij (h:X.K=K:=by rfl):Ol X (O5 K):=by subst h; exact aJ
theorem fJ (h:rs[j]? = some r):lF (rs.map V.ref) (j:Int)=some (.ref r):=cX (by rw[aq,h]; rfl)
theorem getD_some {α:Type}{xs:List α}{x d:α}(h:xs[j]? = some x):xs.getD j d=x:=by rw[aR,h]; rfl
theorem dg {α:Type}{xs:List α}{x y:α}(h:(xs++[x])[i]? = some y):xs[i]? = some y ∨ (i=xs.length∧y=x):=by
 by_cases hi:i < xs.length
 ·rw[be hi] at h
  exact .inl h
 ·rw[aV (by lia)] at h
  cases e:i - xs.length with
  | zero=>rw[e] at h; cases h; exact .inr ⟨by lia,rfl⟩
  | succ j=>rw[e] at h; cases h
theorem bW {α:Type}{l:List α}(h:i < l.length):∃ x,l[i]? = some x:=⟨l[i],ax h⟩
theorem cq {α:Type}{l:List α}{x:α}(h:l[i]? = some x):i < l.length:=(aN.mp h).1
theorem fi {x:Int}(h1:-(2 ^ 64) < x)(h2:x < 2 ^ 64):IN x y:=.inl ⟨h1,h2⟩
structure lE (mg:LO):Prop where
 abs:mg "abs" = none
 len:mg "len" = none
 sum:mg "sum" = none
 zip:mg "zip" = none
 range:mg "range" = none
 enum:mg "enumerate" = none
 isi:mg "isinstance" = none
 verr:mg "ValueError" = none
 int:mg "int" = none
 bool:mg "bool" = none
 list:mg "list" = none
 tuple:mg "tuple" = none
def De (i j:Int):Prop:=∃ n,n≤1000000∧M11.Bn n i∧M11.Bn n j
theorem gO:pY X (binaryOp .Mult) (rI De fun i j=>.int (i * j)) :=
 LT fun _ _ _ _ _ _ _ hc q=>mul_int q (by
  obtain⟨n,h,a,b⟩:=hc
  have e:(2:Nat) ^ 20=1048576:=by decide
  exact IntMulOk.of_bits (aE (C4 a) (by lia)) (aE (C4 b) (by lia)))
def ou (l:Int × Int):HO:=.tup [.int l.1,.int l.2]
inductive Ln (vs:LG)(H:Hp)(Q:VK):Prop | mk (a b:Int) (_:vs=[.int a,.int b]) (_:Q (.int (M11.G a b)) H):Ln vs H Q
def Qe:Sp:=fun vs H Q _=>Ln vs H Q
theorem Bc (pre ks:LG):jc (pre++ks) (some ((pre.length:Nat):Int)) none=ks:=by
 unfold jc;rw[HT.sIx_nat,HT.sIx_none,ai,d6 (by lia),List.drop_left];exact dE (by lia)
theorem jT (x:V)(xs:LG):lF (x :: xs) 0=some x:=cX (xs:=x :: xs) (j:=0) rfl
theorem g8 (x y:V)(xs:LG):lF (x :: y :: xs) 1=some y:=cX (xs:=x :: y :: xs) (j:=1) rfl
theorem iP (vs:LG)(hlen:vs.length=xs.length)(hm:xs.length≤900)(hD:H1 D=none)(hxs:bh K H1 a xs)(hs:∀ (i:Nat) (x v:V) (H':Hp),xs[i]? = some x→vs[i]? = some v→Same H1 H'→te (σ++[some x]) H' fun u H3=>u=v∧Same H' H3)(hd:∀ H',Same H1 H'→H' D=some (.lst vs)→Q H')(mono:∀ σ H Q Q',(∀ v H1,Q v H1→Q' v H1)→te σ H Q→te σ H Q') :
  ∃ W:Nat→Nat→List V→Hp→Prop,(∃ m,W 0 m [] (upd H1 D (.lst []))) ∧
   ∀ i m ys H',W i m ys H'→H' D=some (.lst ys)∧(((uC K a).stop i H'∧Q H') ∨ ((uC K a).go i H'∧∀ z H2,(uC K a).yld i H' z H2→te (σ++[some z]) H2 fun v H3=>H3 D=some (.lst ys)∧ys.length < sizeLine∧∃ m',m' < m∧W (i+1) m' (ys++[v]) (upd H3 D (.lst (ys++[v]))))):=by
 refine mh (xs:=xs) (fun i ys H'=>ys=vs.take i∧Same H1 H'∧H' D=some (.lst ys)) ⟨by rw[List.take_zero],Same.upd hD,ao⟩ (fun i ys H' _ ⟨_,sm,eD⟩=>⟨Same.sq sm hxs,eD⟩) ?_ ?_ mono
 ·rintro i x ys H4 hx ⟨rfl,s4,eD⟩
  have hi:i < vs.length:=by rw[hlen]; exact (aN.mp hx).1
  have hv:vs[i]? = some vs[i]:=ax hi;refine mono _ _ _ _ ?_ (hs i x vs[i] H4 hx hv s4);rintro u H5 ⟨rfl,s5⟩;refine⟨s5 _ _ eD,bo (by rw[bB]; lia),by rw[fq hv],fun b o e=>?_,ao⟩;rw[aO (aU e hD)];exact s5 _ _ (s4 _ _ e)
 ·rintro ys H4 ⟨rfl,s4,eD⟩
  rw[←hlen,cF] at eD;exact hd H4 s4 eD
theorem Jg (σ:L2.St)(a b:LS)(x y:V):((σ++[a,b]).set σ.length (some x)).set (σ.length+1) (some y)=σ++[some x,some y]:=by
 rw[iH _ _ (au _),il,iH _ _ (gu _)]
 have:σ.length+1 - σ.length=1:=by lia
 rw[this]
 rfl
theorem AR {b:Addr}{Q:VK}{n:Nat}(vs:LG)(hn:σ.length=n)(hx:bh K H1 a xs)(hy:bh K H1 b ys)(hlx:xs.length=vs.length)(hly:ys.length=vs.length)(hm:vs.length≤900)(hs:∀ (i:Nat) (x y v:V) (H':Hp),xs[i]? = some x→ys[i]? = some y→vs[i]? = some v→Same H1 H'→te (σ++[some x,some y]) H' fun u H3=>u=v∧Same H' H3)(hd:∀ D H',Same H1 H'→H' D=some (.lst vs)→Q (.ref D) H')(mono:∀ σ H Q Q',(∀ v H1,Q v H1→Q' v H1)→te σ H Q→te σ H Q'):Ow 2 (Om K a b) (g2 K n) An te σ H1 Q:=by
 subst hn;intro D hD;refine⟨fun i m zs H'=>m=vs.length - i∧i≤vs.length∧zs=vs.take i∧Same H1 H'∧H' D=some (.lst zs),⟨vs.length,by simp,aZ _,by rw[List.take_zero],Same.upd hD,ao⟩,?_⟩;rintro i m zs H2 ⟨rfl,hi,rfl,s2,eD⟩;refine⟨eD,?_⟩
 by_cases hlt:i < vs.length
 ·have ex:xs[i]? = some xs[i]:=ax (by lia)
  have ey:ys[i]? = some ys[i]:=ax (by lia);have ev:vs[i]? = some vs[i]:=ax hlt;refine .inr ⟨⟨xs,ys,_,_,Same.sq s2 hx,Same.sq s2 hy,ex,ey⟩,?_⟩;rintro z H3 ⟨t,x,y,rfl,ht,rfl,hx',hy'⟩ os los;have hx1:=hx' xs (Same.sq s2 hx);have hy1:=hy' ys (Same.sq s2 hy)
  match os,los with
  | [o1,o2],_ =>
   have s3:Same H2 (L2.upd H2 t (.tup [x,y])):=Same.upd ht;refine⟨t,[x,y],rfl,dy.of ao,rfl,x,[y],rfl,y,[],rfl,rfl,⟨[some x,some y],Jg σ o1 o2 x y,rfl⟩,?_⟩
   dsimp only[An]
   rw[if_pos rfl,Jg σ o1 o2 x y];refine mono _ _ _ _ ?_ (hs i x y vs[i] _ hx1 hy1 ev (s2.trans s3));rintro u H5 ⟨rfl,s5⟩;refine⟨s5 _ _ (s3 _ _ eD),bo (by rw[bB]; lia),vs.length - (i+1),by lia,rfl,hlt,by rw[fq ev],fun c o e=>?_,ao⟩;rw[aO (aU e hD)];exact s5 _ _ (s3 _ _ (s2 _ _ e))
 ·have:i=vs.length:=by lia
  subst this;rw[cF] at eD ⊢;exact .inl ⟨⟨xs,ys,Same.sq s2 hx,Same.sq s2 hy,.inl (by lia)⟩,hd D H2 s2 eD⟩
theorem vO (b:Int)(a c:LF):M11.foldG b (a++c)=M11.foldG (M11.foldG b a) c:=by
 unfold M11.foldG;rw[iL]
theorem zA (h:0 < b)(ts:LF):(M11.foldG b ts).natAbs≤b.natAbs:=by
 obtain⟨h1,h2,_⟩:=M11.foldG_spec ts b h
 have:=Int.le_of_dvd h h2
 lia
structure xJ (H:Hp)(rs:LI)(X:LB):Prop where
 len:rs.length=X.length
 row:∀ (i:Nat) (r:Addr) (x:LG),rs[i]? = some r→X[i]? = some x→H r=some (.lst x)
theorem xJ.mono {X:LB}(g:xJ H rs X)(s:Same H H'):xJ H' rs X:=⟨g.len,fun i r x h1 h2=>s _ _ (g.row i r x h1 h2)⟩
def eI (H:Hp)(a:Addr)(X:LB):Prop:=∃ rs:LI,H a=some (.lst (rs.map V.ref))∧xJ H rs X
theorem eI.mono {X:LB}(g:eI H a X)(s:Same H H'):eI H' a X:=by
 obtain⟨rs,h,r⟩:=g;exact⟨rs,s _ _ h,r.mono s⟩
def Q0 (H H':Hp)(u:V)(x:LG):Prop:=∃ p,u=.ref p∧H' p=some (.lst x)∧H p=none
def lB (H1:Hp)(D:Addr)(X:LB)(i:Nat)(ys:LG)(H':Hp):Prop:=∃ rs:LI,ys=rs.map V.ref∧rs.length=i∧Same H1 H'∧H' D=some (.lst ys)∧(∀ r ∈ rs,r≠D)∧(∀ (j:Nat) (r:Addr) (x:LG),rs[j]? = some r→X[j]? = some x→H' r=some (.lst x))∧rs.Nodup∧∀ r ∈ rs,H1 r=none
theorem lB.start {X:LB}(hD:H1 D=none):lB H1 D X 0 [] (upd H1 D (.lst [])):=⟨[],rfl,rfl,Same.upd hD,ao,(fun r h=>by cases h),(fun j r x h _=>by cases h),eP,(fun r h=>by cases h)⟩
theorem lB.step {H4 H5:Hp}{X:LB}{u:V}{x:LG}(hD:H1 D=none)(g:lB H1 D X i ys H4)(hx:X[i]? = some x)(hu:Q0 H4 H5 u x)(s5:Same H4 H5)(hm:i < 900) :
  H5 D=some (.lst ys)∧ys.length < sizeLine∧lB H1 D X (i+1) (ys++[u]) (upd H5 D (.lst (ys++[u]))):=by
 obtain⟨rs,rfl,lr,s4,eD,nD,hr,nd,n1⟩:=g;obtain⟨p,rfl,hp,hn⟩:=hu;have npD:p≠D:=fun z=>by rw[z,eD] at hn; cases hn
 refine⟨s5 _ _ eD,bo (by rw[aa]; lia),rs++[p],by rw[aM]; rfl,by rw[ai,lr]; rfl,fun b o e=>?_,ao,fun r h=>?_,fun j r y h1 h2=>?_,?_,fun r h=>?_⟩
 ·rw[aO (aU e hD)]
  exact s5 _ _ (s4 _ _ e)
 ·rcases bu.mp h with z | z
  ·exact nD r z
  ·rw[aw.mp z]; exact npD
 ·rcases dg h1 with z | ⟨e,z⟩
  ·rw[aO (nD r (ae z))]
   exact s5 _ _ (hr j r y z h2)
  ·subst z
   rw[e,lr,hx] at h2;cases h2;rw[aO npD];exact hp
 ·refine gM.mpr ⟨nd,dz.mpr ⟨k8,eP⟩,fun a ha b hb e=>?_⟩
  rw[aw.mp hb] at e;subst e;obtain⟨j,hj⟩:=aP.mp ha;obtain⟨y,ey⟩:=bW (l:=X) (i:=j) (by have:=cq hj; have:=cq hx; lia);rw[hr j a y hj ey] at hn;cases hn
 ·rcases bu.mp h with z | z
  ·exact n1 r z
  ·rw[aw.mp z]; exact s4.free hn
def mz (H H':Hp)(D:Addr)(X:LB):Prop:=∃ rs:LI,H' D=some (.lst (rs.map V.ref))∧xJ H' rs X∧H D=none∧rs.Nodup∧∀ r ∈ rs,r≠D∧H r=none
theorem mz.at {X:LB}(g:mz H H' D X):eI H' D X:=let ⟨rs,h1,h2,_⟩:=g; ⟨rs,h1,h2⟩
theorem mz.mono {X:LB}(g:mz H0 H' D X)(s:Same H' H2):mz H0 H2 D X:=let ⟨rs,h,r,a,n,b⟩:=g; ⟨rs,s _ _ h,r.mono s,a,n,b⟩
theorem mz.back {X:LB}(g:mz H1 H' D X)(s:Same H0 H1):mz H0 H' D X:=let ⟨rs,h,r,a,n,b⟩:=g; ⟨rs,h,r,s.free a,n,fun x hx=>⟨(b x hx).1,s.free (b x hx).2⟩⟩
theorem lB.doneN {X:LB}(hD:H1 D=none)(g:lB H1 D X X.length ys H'):Same H1 H'∧mz H1 H' D X:=by
 obtain⟨rs,rfl,lr,s4,eD,nD,hr,nd,n1⟩:=g;exact⟨s4,rs,eD,⟨lr,hr⟩,hD,nd,fun r h=>⟨nD r h,n1 r h⟩⟩
theorem lB.done {X:LB}(g:lB H1 D X X.length ys H'):Same H1 H'∧eI H' D X:=by
 obtain⟨rs,rfl,lr,s4,eD,nD,hr,_⟩:=g;exact⟨s4,rs,eD,lr,hr⟩
inductive BU (vs:LG)(H:Hp)(Q:VK):Prop | mk (a:Addr) (X:LB) (j:Nat) (_:vs=[.ref a,.int (j:Int)]) (_:eI H a X) (_:X.length≤900) (_:(∀ x ∈ X,j < x.length)) (_:∀ D H',Same H H'→H D=none→H' D=some (.lst (X.map fun x=>(x[j]?).getD .non))→Q (.ref D) H'):BU vs H Q
def Lq:Sp:=fun vs H Q _=>BU vs H Q
theorem OV:bJ ["rows","place"] ["rows","place"] (aB DU):=by constructor<;>first|rfl|decide +kernel
theorem Pq:cw (aB DU) ["rows","place"] (cz (dq (cT DU 0))) ["row"]:=by constructor<;>first|rfl|decide +kernel
theorem Na (F:Fun K "column_of" "column_of" DU f fd):bK P w K mg base cI 1 f fd ["rows","place"] Lq:=by
 refine F.o OV fun cdv A outer s H vs Q E hr h=>?_
 ·obtain⟨a,X,j,rfl,⟨rs,ha,R⟩,hX,hj,q⟩:=h
  refine⟨_,ar (bt (gE rfl Pq rfl (cU (pv 0)) fun _ _ _=>aG (ij (K:=K)) (pv 2) (pv 1))),?_⟩;refine⟨_,rfl,a,rfl,⟨_,bh.of ha⟩,fun D hD=>?_⟩;refine iP (X.map fun x=>(x[j]?).getD .non) (by rw[aa,aa,R.len]) (by rw[aa,R.len]; exact hX) hD (bh.of ha) ?_ ?_ ?_
  ·intro i x v H' hx hv s'
   obtain⟨r,hr,rfl⟩:=bI hx;obtain⟨y,hy,rfl⟩:=bI hv;obtain⟨z,hz⟩:=bW (hj y (ae hy));refine⟨_,rfl,_,rfl,r,_,_,z,rfl,rfl,bh.of (s' _ _ (R.row i r y hr hy)),cX hz,?_,Same.refl _⟩;rw[hz]
   rfl
  ·intro H' s' eD
   exact q D H' s' hD eD
  ·rintro σ H' Q1 Q2 hq ⟨v,e,v',e',a1,a2,a3,a4,a5,a6,a7,a8,g⟩
   exact⟨v,e,v',e',a1,a2,a3,a4,a5,a6,a7,a8,hq _ _ g⟩
def ol (X:LB)(n:Nat):LB:=(List.range n).map fun j=>X.map fun x=>(x[j]?).getD .non
inductive yu (vs:LG)(H:Hp)(Q:VK):Prop | mk (a:Addr) (X:LB) (n:Nat) (_:vs=[.ref a]) (_:eI H a X) (_:X.length≤900) (_:n≤900) (_:(∀ x ∈ X,x.length=n)) (_:(X=[]→n=0)) (_:∀ D H',Same H H'→H D=none→eI H' D (ol X n)→Q (.ref D) H'):yu vs H Q
def wy:Sp:=fun vs H Q _=>yu vs H Q
theorem F6:bJ ["rows","width"] ["rows"] (aB qM):=by constructor<;>first|rfl|decide +kernel
theorem NK:cw (aB qM) ["rows","width"] (cz (dq (cT qM 1))) ["place"]:=by constructor<;>first|rfl|decide +kernel
theorem JZ (B:lE mg)(F:Fun K "columns_of" "columns_of" qM f fd)(DC:Dn K mg "column_of" DU ["rows","place"] fC fdC)(GC:bK P w K mg base cI 1 fC fdC ["rows","place"] Lq):bK P w K mg base cI 2 f fd ["rows"] wy:=by
 refine F.o F6 fun cdv A outer s H vs Q E hr h=>?_
 ·obtain⟨a,X,n,rfl,⟨rs,ha,R⟩,hX,hn,hw,h0,q⟩:=h
  refine⟨_,dH (d7 1 F6.nd (pi (Gs (pv 0) fun _=>rfl) (bQ bT (by rfl) B.len bE (ad (aG aJ (pv 0) aj) ah)) aj))
   (ar (bt (gE rfl NK rfl (dB rfl B.range (ad (pv 1) ah)) fun _ _ _=>bw DC GC hr rfl (ad (pv 0) (ad (pv 2) ah))))),?_⟩
  show let ω1:TS:=_;ju _ ω1 _ _ _;intro ω1
  let ψ1:LQ:=fun σ H1=>σ=[some (.ref a),some (.int (n:Int))]∧H1=H
  refine⟨ψ1,?_,?_⟩
  ·refine⟨_,rfl,!(rs.map V.ref).isEmpty,.inl ⟨_,bh.of ha,rfl⟩,?_⟩
   have lr:=R.len
   match rs,X,lr with
   | [],[],_ =>
    refine oG ⟨?_,rfl⟩;rw[h0 rfl]
    rfl
   | r :: rs,x :: X,_ =>
    refine re ?_;refine⟨_,rfl,a,_,_,.ref r,rfl,rfl,bh.of ha,cX (j:=0) rfl,r,_,rfl,.inl (bh.of (R.row 0 r x rfl rfl)),?_,rfl⟩;rw[hw x aK]
    rfl
  ·rintro σ H1 ⟨rfl,rfl⟩
   refine⟨_,rfl,(n:Int),rfl,by lia,by lia,fun D hD=>?_⟩;rw[bC];have lc:(ol X n).length=n:=by unfold ol; rw[aa,b9]
   refine kQ (n:=n) (lB H1 D (ol X n)) (lB.start hD) (fun i ys H' _ ⟨_,_,_,_,eD,_⟩=>eD) ?_ ?_ ?_
   ·rintro i ys H' hi g
    have e0:((0:Int)+(i:Nat))=(i:Int):=by lia
    rw[e0];have s':Same H1 H':=let ⟨_,_,_,z,_⟩:=g; z;refine⟨_,rfl,_,rfl,a,X,i,rfl,⟨rs,s' _ _ ha,R.mono s'⟩,hX,fun x hx=>by rw[hw x hx]; exact hi,fun p H3 s3 np ep=>?_⟩;refine g.step hD ?_ ⟨p,rfl,ep,np⟩ s3 (by lia);unfold ol;rw[aq,cD hi]
    rfl
   ·intro ys H' g
    obtain⟨s',gg⟩:=lB.done (X:=ol X n) (by rw[lc]; exact g);exact q D H' s' hD gg
   ·rintro σ H' Q1 Q2 hq ⟨v,e,v',e',a1,a2,a3,a4,a5,a6,a7,g⟩
    exact⟨v,e,v',e',a1,a2,a3,a4,a5,a6,a7,fun D H3 s3 n3 e3=>hq _ _ (g D H3 s3 n3 e3)⟩
inductive uS (vs:LG)(H:Hp)(Q:VK):Prop | mk (a:Addr) (X:LB) (_:vs=[.ref a]) (_:eI H a X) (_:X.flatten.length≤900) (_:∀ D H',Same H H'→H D=none→H' D=some (.lst X.flatten)→Q (.ref D) H'):uS vs H Q
def lJ:Sp:=fun vs H Q _=>uS vs H Q
theorem wG:bJ ["rows","things","row"] ["rows"] (aB lQ):=by constructor<;>first|rfl|decide +kernel
theorem vP {X:LB}{x:LG}(h:X[i]? = some x):(X.take (i+1)).flatten=(X.take i).flatten++x:=by
 rw[fq h,gq];simp
theorem KR (X:LB)(i:Nat):(X.take i).flatten.length≤X.flatten.length:=by
 have:=congrArg (fun l=>(List.flatten l).length) (fj i X)
 simp only[gq,ai] at this
 lia
theorem Ho (F:Fun K "in_one_list" "in_one_list" lQ f fd):bK P w K mg base cI 1 f fd ["rows"] lJ:=by
 refine F.o wG fun cdv A outer s H vs Q E hr h=>?_
 ·obtain⟨a,X,rfl,⟨rs,ha,R⟩,hX,q⟩:=h
  refine⟨_,am (d7 1 wG.nd (cC ah))
   (am (di PassesOwn.never rfl (cU (pv 0)) (iK 2 wG.nd)
    (ar (fg (i0 bp PySem.F.slot_list_extend PySem.F.type_list_extend Ex (pv 1) (ad (pv 2) ah)))))
   (ar (bt (pv 1)))),?_⟩
  show let ω1:TS:=_;let ω2:TS:=_;let ω3:TS:=bL (ig _ _ ω2) ω1;bL _ ω3 _ _ _;intro ω1 ω2 ω3;refine⟨aZ _,fun D hD=>?_⟩;have aD:a≠D:=aU ha hD
  let π1:LP:=fun i σ H'=>∃ (o2:LS),σ=[some (.ref a),some (.ref D),o2]∧Same H H'∧H' D=some (.lst (X.take i).flatten)
  refine⟨_,rfl,a,rfl,⟨_,bh.of (by rw[aO aD]; exact ha)⟩,gZ (xs:=rs.map V.ref) π1 ⟨none,rfl,Same.upd hD,by rw[ao]; rfl⟩ (fun i σ H' _ ⟨_,_,s',_⟩=>bh.of (s' _ _ ha)) ?_ ?_⟩
  ·rintro i x σ H1 hx ⟨o2,rfl,s1,e1⟩
   obtain⟨r,hr,rfl⟩:=bI hx;obtain⟨y,hy⟩:=bW (l:=X) (i:=i) (by rw[←R.len]; exact cq hr);have er:=s1 _ _ (R.row i r y hr hy);have fl:=KR X (i+1);rw[vP hy,ai] at fl;refine⟨_,rfl,.inl ⟨rfl,_,bh.of e1⟩,_,rfl,?_⟩;refine⟨D,r,_,_,rfl,rfl,e1,er,cf (bo (by lia)),?_⟩;refine⟨_,rfl,fun b o e=>?_,?_⟩
   ·rw[aO (aU e hD)]
    exact s1 _ _ e
   ·rw[ao,vP hy]
  ·rintro σ H1 ⟨o2,rfl,s1,e1⟩
   rw[aa,R.len,cF] at e1;exact⟨_,rfl,q D H1 s1 hD e1⟩
def je (xs:LG)(n:Nat):LB:=(List.range n).map fun i=>(xs.drop (n * i)).take n
inductive yr (K:LM)(vs:LG)(H:Hp)(Q:VK):Prop | mk (a:Addr) (xs:LG) (n:Nat) (_:vs=[.ref a,.int (n:Int)]) (_:bh K H a xs) (_:xs.length=n * n) (_:n≤16) (_:∀ D H',Same H H'→mz H H' D (je xs n)→Q (.ref D) H'):yr K vs H Q
def ww (K:LM):Sp:=fun vs H Q _=>yr K vs H Q
theorem MN:bJ ["things","size"] ["things","size"] (aB qL):=by constructor<;>first|rfl|decide +kernel
theorem NI:cw (aB qL) ["things","size"] (cz (dq (cT qL 0))) ["place"]:=by constructor<;>first|rfl|decide +kernel
theorem N9 {n:Nat}(hx:xs.length=n * n)(hi:i < n):jc xs (some ((n:Int) * (i:Int))) (some ((n:Int) * ((i:Int)+1)))=(xs.drop (n * i)).take n:=by
 have h1:n * (i+1)≤n * n:=g9 n hi;have e1:(n:Int) * (i:Int)=((n * i:Nat):Int):=by push_cast; rfl
 have e2:(n:Int) * ((i:Int)+1)=((n * (i+1):Nat):Int):=by push_cast; rfl
 have h2:n * (i+1)=n * i+n:=mY n i;unfold jc;rw[e1,e2,HT.sIx_nat,HT.sIx_nat,hx,d6 h1,d6 (show n * i≤n * n by lia)]
 congr 1
 lia
theorem F1 (h:X.K=K:=by rfl):Qm X (O0 K):=by subst h; exact nj
theorem JX (B:lE mg)(F:Fun K "in_square" "in_square" qL f fd):bK P w K mg base cI 1 f fd ["things","size"] (ww K):=by
 refine F.o MN fun cdv A outer s H vs Q E hr h=>?_
 ·obtain⟨a,xs,n,rfl,ha,hx,hn,q⟩:=h
  refine⟨_,ar (bt (gE rfl NI rfl (dB rfl B.range (ad (pv 1) ah)) fun _ _ _=>jP (F1 (K:=K)) (pv 0) (jh (aY dY (pv 1) (pv 2))) (jh (aY dY (pv 1) (aY dZ (pv 2) aj))))),?_⟩;refine⟨_,rfl,(n:Int),rfl,by lia,by lia,fun D hD=>?_⟩;rw[bC];have lc:(je xs n).length=n:=by unfold je; rw[aa,b9]
  refine kQ (n:=n) (lB H D (je xs n)) (lB.start hD) (fun i ys H' _ ⟨_,_,_,_,eD,_⟩=>eD) ?_ ?_ ?_
  ·rintro i ys H' hi g
   have e0:((0:Int)+(i:Nat))=(i:Int):=by lia
   rw[e0];have s':Same H H':=let ⟨_,_,_,z,_⟩:=g; z;refine⟨_,rfl,_,rfl,_,rfl,_,_,rfl,rfl,fi (by lia) (by lia),_,rfl,_,rfl,_,rfl,_,_,rfl,rfl,_,_,rfl,rfl,fi (by lia) (by lia),_,rfl,a,xs,rfl,s'.seq ha,fun p hp=>?_⟩;have st:=g.step (u:=.ref p) (x:=(xs.drop (n * i)).take n) hD (by unfold je; rw[aq,cD hi]; rfl) ⟨p,rfl,ao,hp⟩ (Same.upd hp) (by lia);rw[←N9 hx hi] at st;exact st
  ·intro ys H' g
   obtain⟨s',gg⟩:=lB.doneN (X:=je xs n) hD (by rw[lc]; exact g);exact q D H' s' gg
  ·rintro σ H' Q1 Q2 hq ⟨v1,e1,v2,e2,v3,e3,i1,j1,f1,f2,c1,l1,e4,v5,e5,v6,e6,i2,j2,f3,f4,i3,j3,f5,f6,c2,h1,e7,a1,x1,e8,q1,g⟩
   exact⟨v1,e1,v2,e2,v3,e3,i1,j1,f1,f2,c1,l1,e4,v5,e5,v6,e6,i2,j2,f3,f4,i3,j3,f5,f6,c2,h1,e7,a1,x1,e8,q1,fun p hp=>hq _ _ (g p hp)⟩
def gI (M:LA):LB:=M.map fun x=>x.map V.int
theorem jb (h:M[i]? = some x):(gI M)[i]? = some (x.map V.int):=by unfold gI; rw[aq,h]; rfl
theorem dJ (M:LA):(gI M).length=M.length:=by unfold gI; rw[aa]
end
section
variable {K:LM}
end
section
variable {P:Program}{w:World}{K:LM}{mg:LO}{base:Heap}
structure qa (mg:LO):Prop where
 len:mg "len" = none
 range:mg "range" = none
 int:mg "int" = none
 sorted:mg "sorted" = none
 enum:mg "enumerate" = none
 sum:mg "sum" = none
 zip:mg "zip" = none
 list:mg "list" = none
 isi:mg "isinstance" = none
 bool:mg "bool" = none
 max:mg "max" = none
def C2 (ns:LF)(z:Int):Int:=(ns[z.toNat]?).getD 0
inductive yv (K:LM)(vs:LG)(H:Hp)(Q:VK):Prop | mk (a:Addr) (ns:LF) (z:Int) (_:vs=[.ref a,.int z]) (_:bh K H a (ns.map V.int)) (_:0≤z) (_:∀ x,x=C2 ns z→Q (.int x) H):yv K vs H Q
def wB (K:LM):Sp:=fun vs H Q _=>yv K vs H Q
theorem MQ:bJ ["_law_script","_law_k"] ["_law_script","_law_k"] (aB nk):=by constructor<;>first|rfl|decide +kernel
theorem J1 (B:qa mg)(F:Fun K "_law_cell_at" "_law_cell_at" nk f fd):bK P w K mg base cI 1 f fd ["_law_script","_law_k"] (wB K):=by
 refine F.o MQ fun cdv A outer s H vs Q E hr h=>?_
 ·obtain⟨a,ns,z,rfl,hS,h0,k⟩:=h
  refine⟨_,am (cK (bF Ch (pv 1) (bQ bT (by rfl) B.len bE (ad (pv 0) ah)) (bG _)) (ar (bt (aG aJ (pv 0) (pv 1)))) bX)
   (ar (bt aj)),?_⟩
  show let ω1:TS:=_;let ω2:TS:=_;bL (eK _ ω2 _) ω1 _ _ _;intro ω1 ω2;refine⟨_,rfl,_,rfl,a,_,rfl,.inl hS,_,_,rfl,rfl,_,rfl,?_⟩
  by_cases hz:z < ((ns.map V.int).length:Int)
  ·refine dO hz ?_
   obtain⟨j,rfl⟩:=bc h0;have hj:j < ns.length:=by rw[aa] at hz; lia
   refine⟨_,rfl,_,rfl,a,_,_,.int ns[j],rfl,rfl,hS,cX (by simp[hj]),k _ (by unfold C2; rw[bC,ax hj]; rfl)⟩
  ·refine cr hz (k _ ?_)
   unfold C2;rw[aa] at hz;rw[cP (by lia)]
   rfl
def Drawn (b:Int)(n:Nat)(ds:LF):Prop:=ds.length=n∧∀ d ∈ ds,0≤d∧d < b
inductive uV (vs:LG)(H:Hp)(Q:VK):Prop | mk (c:Int) (n:Nat) (b:Int) (fr:Bool) (_:vs=[.int c,.int (n:Int),.int b,.bl fr]) (_:n≤100) (_:b < 10000) (_:(0 < b ∨ n=0)) (_:∀ p ds H',Drawn b n ds→Same H H'→H p=none→H' p=some (.lst (ds.map V.int))→Q (.ref p) H'):uV vs H Q
def oW:Sp:=fun vs H Q _=>uV vs H Q
abbrev Np:LK:=["_law_cell_here","_law_many","_law_base","_law_free","_law_found","_law_rest","_law_k","_law_number"]
theorem lN:bJ Np ["_law_cell_here","_law_many","_law_base","_law_free"] (aB oz):=by constructor<;>first|rfl|decide +kernel
theorem Hr (B:qa mg)(F:Fun K "_law_draws" "_law_draws" oz f fd):bK P w K mg base cI 1 f fd ["_law_cell_here","_law_many","_law_base","_law_free"] oW:=by
 refine F.o lN fun cdv A outer s H vs Q E hr h=>?_
 ·obtain⟨c,n,b,fr,rfl,hn,hb1,hb0,q⟩:=h
  refine⟨_,am (d7 4 lN.nd (cC ah))
   (am (d7 5 lN.nd (pv 0))
   (am (di PassesOwn.never rfl (dB rfl B.range (ad (pv 1) ah)) (iK 6 lN.nd)
    (ar (cK (PW.pt (lZ (Az (pv 3)) (lZ (bF qN (pv 5) aj (bG _)) (ke (bF qN (pv 5) (yN sr aj) (bG _))))))
     (am (fg (i0 bp bO bN dk (pv 4) (ad (aY cJ (pv 5) (pv 2)) ah)))
     (ar (d7 5 lN.nd (aY fZ (pv 5) (pv 2)))))
     (am (d7 7 lN.nd (aY cJ (aY dZ (pv 0) (aY dY aj (pv 6))) aj))
     (am (d7 7 lN.nd (aY cJ (aY dZ (aY dY (pv 7) (pv 7)) (pv 6)) aj))
     (ar (fg (i0 bp bO bN dk (pv 4) (ad (aY cJ (aY cJ (aY dY (pv 7) (pv 7)) aj) (pv 2)) ah)))))))))
   (ar (bt (pv 4))))),?_⟩
  show let ω1:TS:=_;let ω2:TS:=_;let ω3:TS:=bL _ ω2;let ω4:TS:=_;let ω5:TS:=bL _ ω4;let ω6:TS:=bL _ ω5;let ω7:TS:=(eK _ ω3 ω6);let ω8:TS:=bL (ig _ _ ω7) ω1;let ω9:TS:=bL _ ω8;bL _ ω9 _ _ _;intro ω1 ω2 ω3 ω4 ω5 ω6 ω7 ω8 ω9;refine⟨aZ _,fun R hR=>?_⟩;refine⟨_,rfl,?_⟩;refine⟨_,rfl,(n:Int),rfl,by lia,by lia,eV (n:=n) (fun i σ H'=>∃ (rest:Int) (o6 o7:LS) (ds:LF),σ=[some (.int c),some (.int (n:Int)),some (.int b),some (.bl fr),some (.ref R),some (.int rest),o6,o7]∧Same H H'∧H' R=some (.lst (ds.map V.int))∧Drawn b i ds) ?_ ?_ ?_⟩
  ·exact⟨c,none,none,[],rfl,Same.upd hR,ao,rfl,fun d hd=>by cases hd⟩
  ·rintro i σ H' hi ⟨rest,o6,o7,ds,rfl,s1,eR,lD,bD⟩
   have hb:0 < b:=hb0.resolve_right (by lia);have app:∀ x:Int,0≤x→x < b→Same H (upd H' R (.lst (ds.map V.int++[.int x])))∧upd H' R (.lst (ds.map V.int++[.int x])) R=some (.lst ((ds++[x]).map V.int))∧Drawn b (i+1) (ds++[x]):=by
    intro x h1 h2;refine⟨fun b' o e=>by rw[aO (aU e hR)]; exact s1 _ _ e,by rw[ao,aM]; rfl,by rw[ai,cx,lD],fun d hd=>?_⟩;rcases bu.mp hd with q' | q'
    ·exact bD d q'
    ·rw[aw] at q'
     subst q';exact⟨h1,h2⟩
   have sm:(ds.map V.int).length < sizeLine:=bo (by rw[aa,lD]; lia);have z0:(0:Int)≤0+(i:Int):=by lia
   have z1:(0:Int)+(i:Int) < 100:=by lia
   by_cases ht:fr=true∧rest≠0∧rest≠-1
   ·obtain⟨rfl,hr0,hr1⟩:=ht
    refine⟨_,rfl,_,rfl,re ?_⟩;refine⟨_,rfl,rfl,_,rfl,qT (fun z=>hr0 (V.int.inj z)) ?_⟩;refine⟨_,rfl,_,rfl,rfl,_,rfl,qT (fun z=>hr1 (V.int.inj z)) ?_⟩;obtain⟨g1,g2,g3⟩:=app (rest % b) (cB _ (by lia)) (cp _ hb);refine⟨_,rfl,.inl ⟨rfl,_,bh.of eR⟩,_,rfl,_,rfl,_,_,rfl,rfl,hb,R,_,_,rfl,rfl,eR,sm,?_⟩;refine⟨_,rfl,_,rfl,_,_,rfl,rfl,⟨hb,by lia⟩,?_⟩;exact⟨_,_,_,_,rfl,g1,g2,g3⟩
   ·have test:∀ k:Bool→Hp→Prop,k false H'→MD (tB (Fw 3)) (MD (Fx (Lh Qy (Fw 5) (tC (.int 0)))) (Fx (Lh Qy (Fw 5) (Rm (rU fun i=>V.int (-i)) (tC (.int 1)))))) [some (.int c),some (.int (n:Int)),some (.int b),some (.bl fr),some (.ref R),some (.int rest),some (.int (0+(i:Int))),o7] H' k:=by
     intro k hk;cases fr with
     | false=>exact⟨_,rfl,_,rfl,oG hk⟩
     | true =>
      refine⟨_,rfl,_,rfl,re ?_⟩
      by_cases hr0:rest=0
      ·exact⟨_,rfl,rfl,_,rfl,qS (by rw[hr0]) hk⟩
      ·refine⟨_,rfl,rfl,_,rfl,qT (fun z=>hr0 (V.int.inj z)) ?_⟩
       have hr1:rest=-1:=Classical.byContradiction fun z=>ht ⟨rfl,hr0,z⟩
       subst hr1;exact⟨_,rfl,_,rfl,rfl,_,rfl,hk⟩
    refine test _ (oG ?_);refine⟨_,rfl,_,rfl,_,_,rfl,rfl,fi (by decide) (by decide),_,_,rfl,rfl,_,_,rfl,rfl,(by show (0:Int) < 2147483629; decide),?_⟩;have b1:=cB (c+7919 * (0+(i:Int))) (b:=2147483629) (by decide);have b2:=cp (c+7919 * (0+(i:Int))) (b:=2147483629) (by decide);obtain⟨x,ex⟩:∃ x,x=(c+7919 * (0+(i:Int))) % 2147483629:=⟨_,rfl⟩;rw[←ex] at b1 b2;refine⟨_,rfl,_,rfl,_,_,rfl,rfl,fi (by show _ < (c+7919 * (0+(i:Int))) % 2147483629; rw[←ex]; lia) (by show (c+7919 * (0+(i:Int))) % 2147483629 < _; rw[←ex]; lia),_,rfl,_,_,rfl,rfl,_,_,rfl,rfl,(by show (0:Int) < 2147483629; decide),?_⟩;have c1:=cB (x * x+(0+(i:Int))) (b:=2147483629) (by decide);have c2:=cp (x * x+(0+(i:Int))) (b:=2147483629) (by decide);obtain⟨y,ey⟩:∃ y,y=(x * x+(0+(i:Int))) % 2147483629:=⟨_,rfl⟩;rw[←ey] at c1 c2;rw[ex] at ey;obtain⟨g1,g2,g3⟩:=app (y * y % 2147483587 % b) (cB _ (by lia)) (cp _ hb);refine⟨_,rfl,.inl ⟨rfl,_,bh.of eR⟩,_,rfl,_,rfl,_,_,rfl,rfl,fi (by rw[←ey]; lia) (by rw[←ey]; lia),_,_,rfl,rfl,(by show (0:Int) < 2147483587; decide),_,rfl,_,_,rfl,rfl,hb,R,_,_,rfl,rfl,eR,sm,?_⟩;rw[ey] at g1 g2 g3;exact⟨_,_,_,_,rfl,g1,g2,g3⟩
  ·rintro σ H' ⟨rest,o6,o7,ds,rfl,s1,eR,dD⟩
   exact⟨_,rfl,q R ds H' dD s1 hR eR⟩
def mG:Nat:=10 ^ 21
structure dj (H:Hp)(rs:LI)(M:LA):Prop where
 len:rs.length=M.length
 row:∀ (i:Nat) (r:Addr) (x:LF),rs[i]? = some r→M[i]? = some x→H r=some (.lst (x.map V.int))
 nd:rs.Nodup
def ent (M:LA)(i j:Nat):Int:=((M[i]?.getD [])[j]?).getD 0
structure Sq (n:Nat)(M:LA):Prop where
 len:M.length=n
 row:∀ (i:Nat) (x:LF),M[i]? = some x→x.length=n∧∀ z ∈ x,z.natAbs≤mG
 sym:∀ i j:Nat,i < n→j < n→ent M i j=ent M j i
def put (M:LA)(i j:Nat)(z:Int):LA:=M.set i ((M[i]?.getD []).set j z)
theorem pK (M:LA)(n i j a b:Nat)(z:Int)(hl:M.length=n)(hr:∀ (i:Nat) (x:LF),M[i]? = some x→x.length=n)(hi:i < n)(hj:j < n):ent (put M i j z) a b=if a=i∧b=j then z else ent M a b:=by
 unfold ent put
 by_cases ha:a=i
 ·subst ha
  rw[dG (by lia)];have hx:∃ x,M[a]? = some x:=⟨M[a]'(by lia),by simp[hl,hi]⟩;obtain⟨x,hx⟩:=hx;have lx:=hr a x hx;rw[hx];simp only[kZ]
  by_cases hb:b=j
  ·subst hb
   rw[dG (by lia)];simp
  ·rw[eg (Ne.symm hb),if_neg fun z=>hb z.2]
 ·rw[eg (Ne.symm ha),if_neg fun z=>ha z.1]
theorem wX {n:Nat}(hl:M.length=n)(hz:z.natAbs≤mG)(hr:∀ (i:Nat) (x:LF),M[i]? = some x→x.length=n∧∀ z ∈ x,z.natAbs≤mG) :
  (put M i j z).length=n∧∀ (k:Nat) (x:LF),(put M i j z)[k]? = some x→x.length=n∧∀ z ∈ x,z.natAbs≤mG:=by
 unfold put;refine⟨by rw[cR]; exact hl,fun k x hx=>?_⟩
 by_cases hk:k=i
 ·subst hk
  by_cases hlt:k < M.length
  ·rw[dG hlt] at hx
   have hx:=aW hx;have hy:M[k]? = some M[k]:=by simp[hlt]
   have hh:=hr k _ hy;subst hx;rw[hy];simp only[kZ,cR];refine⟨hh.1,fun y hy'=>?_⟩;rcases ff hy' with q | q
   ·exact hh.2 y q
   ·rw[q]; exact hz
  ·rw[cP (by rw[cR]; lia)] at hx
   cases hx
 ·rw[eg (Ne.symm hk)] at hx
  exact hr k x hx
theorem Sq.put {n:Nat}(S:Sq n M)(hi:i < n)(hj:j < n)(hz:z.natAbs≤mG):Sq n (put (put M i j z) j i z):=by
 obtain⟨l1,r1⟩:=wX (i:=i) (j:=j) S.len hz S.row;obtain⟨l2,r2⟩:=wX (i:=j) (j:=i) l1 hz r1;refine⟨l2,r2,fun a b ha hb=>?_⟩;have hr:=fun (i:Nat) (x:LF) h=>(S.row i x h).1
 have hr1:=fun (k:Nat) (x:LF) h=>(r1 k x h).1
 rw[pK _ n j i a b z l1 hr1 hj hi,pK _ n j i b a z l1 hr1 hj hi,pK _ n i j a b z S.len hr hi hj,pK _ n i j b a z S.len hr hi hj]
 have:=S.sym a b ha hb
 by_cases h1:a=j∧b=i
 ·rw[if_pos h1]
  by_cases h2:b=j∧a=i
  ·rw[if_pos h2]
  ·rw[if_neg h2,if_pos ⟨h1.2,h1.1⟩]
 ·rw[if_neg h1]
  by_cases h2:a=i∧b=j
  ·rw[if_pos h2,if_pos ⟨h2.2,h2.1⟩]
  ·rw[if_neg h2,if_neg fun q=>h2 ⟨q.2,q.1⟩,if_neg fun q=>h1 ⟨q.2,q.1⟩]
   exact this
theorem dj.put (R:dj H rs M)(hr:rs[i]? = some r)(hx:M[i]? = some x) :
  dj (upd H r (.lst ((x.set j z).map V.int))) rs (put M i j z):=by
 unfold My.put;refine⟨by rw[cR]; exact R.len,fun k r' x' h1 h2=>?_,R.nd⟩
 by_cases hk:k=i
 ·subst hk
  rw[hr] at h1; cases h1;rw[dG (aN.mp hx).1,hx] at h2;cases h2;exact ao
 ·rw[eg (Ne.symm hk)] at h2
  have ne:r'≠r:=fun e=>by
   subst e;obtain⟨p1,q1⟩:=aN.mp h1;obtain⟨p2,q2⟩:=aN.mp hr;exact hk ((List.getElem_inj R.nd).mp (q1.trans q2.symm))
  rw[aO ne];exact R.row k r' x' h1 h2
theorem dj.keep (R:dj H rs M)(k:∀ r ∈ rs,∀ o,H r=some o→H' r=some o):dj H' rs M :=
 ⟨R.len,fun i r x h1 h2=>k r (ae h1) _ (R.row i r x h1 h2),R.nd⟩
theorem dj.snoc (R:dj H rs M)(k:∀ r ∈ rs,∀ o,H r=some o→H' r=some o)(hl:H' l=some (.lst (x.map V.int)))(hn:l ∉ rs):dj H' (rs++[l]) (M++[x]):=by
 refine⟨by rw[ai,ai,R.len]; rfl,fun i r y h1 h2=>?_,?_⟩
 ·by_cases hi:i < rs.length
  ·rw[be hi] at h1
   rw[be (by rw[←R.len]; exact hi)] at h2;exact k r (ae h1) _ (R.row i r y h1 h2)
  ·rw[aV (by lia)] at h1
   rw[aV (by rw[←R.len]; lia),←R.len] at h2;cases e:i - rs.length with
   | zero=>rw[e] at h1 h2; cases h1; cases h2; exact hl
   | succ j=>rw[e] at h1; cases h1
 ·rw[gM]
  refine⟨R.nd,by simp,fun a ha b hb e=>?_⟩;rw[aw.mp hb] at e;exact hn (e ▸ ha)
theorem dj.get (R:dj H rs M)(h:i < rs.length):∃ r x,rs[i]? = some r∧M[i]? = some x∧H r=some (.lst (x.map V.int)):=by
 have h1:rs[i]? = some rs[i]:=by simp[h]
 have h':i < M.length:=by rw[←R.len]; exact h
 have h2:M[i]? = some M[i]:=by simp[h']
 exact⟨_,_,h1,h2,R.row i _ _ h1 h2⟩
theorem iu {n:Nat}(h:j < n):AV n (j:Int)=some j:=by
 unfold AV;rw[if_pos (by lia),if_pos (by lia)];simp
theorem qc (k:Nat):(List.replicate k [V.int 0]).flatten=(List.replicate k (0:Int)).map V.int:=by
 induction k with
 | zero=>rfl
 | succ k ih=>rw[cQ,bV,ih,cQ,aS]; rfl
theorem BB (n:Nat):Sq n (List.replicate n (List.replicate n 0)):=by
 refine⟨cO,fun i x hx=>?_,fun i j hi hj=>?_⟩
 ·rw[eA] at hx
  split at hx
  ·cases hx
   refine⟨cO,fun z hz=>?_⟩;rw[jz hz];exact aZ _
  ·cases hx
 ·unfold ent
  rw[eA,eA,if_pos hi,if_pos hj];simp only[kZ,eA,if_pos hi,if_pos hj]
def kC (n u:Nat):Nat:=u * (2 * n+1 - u) / 2
theorem Ft:∀ n,n < 9→∀ u,u < n→kC n u+(n - u)=kC n (u+1)∧kC n u+(n - u)≤n * (n+1) / 2:=by decide
inductive sA (K:LM)(vs:LG)(H:Hp)(Q:VK):Prop | mk (n:Nat) (d:Addr) (y:Int) (ds:LF) (_:vs=[.int (n:Int),.ref d,.int y]) (_:n≤8) (_:bh K H d (ds.map V.int)) (_:Drawn 210 (n * (n+1) / 2) ds) (_:∀ (p:Addr) (rs:LI) (M:LA) (H':Hp),Same H H'→H p=none→(∀ r ∈ rs,H r=none∧r≠p)→H' p=some (.lst (rs.map V.ref))→dj H' rs M→Sq n M→Q (.ref p) H'):sA K vs H Q
def yd (K:LM):Sp:=fun vs H Q _=>sA K vs H Q
abbrev Kg:LK:=["_law_many","_law_draws_here","_law_way","_law_rows","_law_u","_law_at","_law_v","_law_weight"]
theorem ii:bJ Kg ["_law_many","_law_draws_here","_law_way"] (aB rE):=by constructor<;>first|rfl|decide +kernel
theorem QB:(10:Int) ^ (20:Int).toNat=100000000000000000000:=by decide
theorem Eh (B:qa mg)(F:Fun K "_law_square" "_law_square" rE f fd):bK P w K mg base cI 1 f fd ["_law_many","_law_draws_here","_law_way"] (yd K):=by
 refine F.o ii fun cdv A outer s H vs Q E hr h=>?_
 ·obtain⟨k,d,y,ds,rfl,hk,hS,⟨lD,bD⟩,q⟩:=h
  refine⟨_,am (d7 3 ii.nd (cC ah))
   (am (di PassesOwn.never rfl (dB rfl B.range (ad (pv 0) ah)) (iK 4 ii.nd)
    (ar (fg (i0 bp bO bN dk (pv 3) (ad (aY mR (cC (ad aj ah)) (pv 0)) ah)))))
   (am (d7 5 ii.nd aj)
   (am (di PassesOwn.never rfl (dB rfl B.range (ad (pv 0) ah)) (iK 4 ii.nd)
    (ar (di PassesOwn.never rfl (qo rfl B.range (ad (pv 4) (ad (pv 0) ah))) (iK 6 ii.nd)
     (am (d7 7 ii.nd (aY dY (aY cJ (aG aJ (pv 1) (pv 5)) aj) (gy nH (by rfl) B.int boot_int (ad (fh Ch (pv 4) (pv 6) (bG _)) ah))))
     (dH (cK (bF cE (pv 2) aj (bG _)) (ar (d7 7 ii.nd (aY mQ (aY cJ (aG aJ (pv 1) (pv 5)) aj) aj))) bX)
     (dH (cK (bF cE (pv 2) aj (bG _)) (ar (d7 7 ii.nd (aY dZ (aY dY (aY mQ (aY cJ (aG aJ (pv 1) (pv 5)) aj) aj) (aY M3 aj aj)) (aY cJ (aG aJ (pv 1) (pv 5)) aj)))) bX)
     (am (gx (pv 7) (jv (aG aJ (pv 3) (pv 4)) (pv 6) gH))
     (am (gx (pv 7) (jv (aG aJ (pv 3) (pv 6)) (pv 4) gH))
     (ar (d7 5 ii.nd (aY dZ (pv 5) aj)))))))))))
   (ar (bt (pv 3)))))),?_⟩
  show let ω1:TS:=_;let ω2:TS:=_;let ω3:TS:=bL _ ω2;let ω4:TS:=bL _ ω3;let ω5:TS:=_;let ω6:TS:=ju (eK _ ω5 _) ω4;let ω7:TS:=_;let ω8:TS:=ju (eK _ ω7 _) ω6;let ω9:TS:=bL _ ω8;let ω10:TS:=(ig _ _ ω9);let ω11:TS:=bL (ig _ _ ω10) ω1;let ω12:TS:=bL _ ω11;let ω13:TS:=_;let ω14:TS:=bL (ig _ _ ω13) ω12;bL _ ω14 _ _ _;intro ω1 ω2 ω3 ω4 ω5 ω6 ω7 ω8 ω9 ω10 ω11 ω12 ω13 ω14;refine⟨aZ _,fun D hD=>?_⟩;refine⟨_,rfl,(k:Int),rfl,by lia,by lia,eV (n:=k) (fun i σ H'=>∃ (o4:LS) (rs:LI),σ=[some (.int (k:Int)),some (.ref d),some (.int y),some (.ref D),o4,none,none,none]∧rs.length=i∧Same H H'∧H' D=some (.lst (rs.map V.ref)) ∧
   dj H' rs (List.replicate i (List.replicate k 0))∧∀ r ∈ rs,H r=none∧r≠D) ⟨none,[],rfl,rfl,Same.upd hD,ao,⟨rfl,(fun i r x h _=>by cases h),eP⟩,(fun r hr=>by cases hr)⟩ ?_ ?_⟩
  ·rintro i σ H4 hlt ⟨o4,rs,rfl,l4,c4,eD,R4,o4⟩
   refine⟨_,rfl,.inl ⟨rfl,_,bh.of eD⟩,(by show 1≤sizeLine; decide),fun l1 hl1=>?_⟩;refine⟨_,rfl,l1,(k:Int),_,rfl,rfl,ao,by lia,by lia,cf (bo (by show 1 * (k:Int).toNat≤1000; lia)),fun l2 hl2=>?_⟩;have n21:l2≠l1:=(aU ao hl2).symm;have hl2':H4 l2=none:=by rw[aO n21] at hl2; exact hl2
   have sm:Same H4 (upd (upd H4 l1 (.lst [.int 0])) l2 (.lst (List.replicate (k:Int).toNat [V.int 0]).flatten)):=(Same.upd hl1).trans (Same.upd hl2);have el:upd (upd H4 l1 (.lst [.int 0])) l2 (.lst (List.replicate (k:Int).toNat [V.int 0]).flatten) l2=some (.lst ((List.replicate k (0:Int)).map V.int)):=by
    rw[ao,bC,qc]
   generalize upd (upd H4 l1 (.lst [.int 0])) l2 (.lst (List.replicate (k:Int).toNat [V.int 0]).flatten)=H5 at sm el ⊢;have l2D:l2≠D:=(aU eD hl2').symm;have l2r:l2 ∉ rs:=fun hm=>by
    obtain⟨j,hj,e⟩:=xH hm;obtain⟨r,x,g1,g2,g3⟩:=R4.get hj
    have:rs[j]? = some l2:=by rw[ax hj,e]
    rw[g1] at this;cases this;rw[g3] at hl2';cases hl2'
   refine⟨D,_,_,rfl,rfl,sm _ _ eD,bo (by rw[aa]; lia),?_⟩;refine⟨_,rs++[l2],rfl,by rw[ai,l4]; rfl,fun b o e=>?_,by rw[aM]; exact ao,?_,?_⟩
   ·rw[aO (aU e hD)]
    exact sm _ _ (c4 _ _ e)
   ·have R5:dj H5 (rs++[l2]) (List.replicate i (List.replicate k 0)++[List.replicate k 0]):=R4.snoc (fun r _ o e=>sm r o e) el l2r
    rw[←List.replicate_succ'] at R5;refine R5.keep fun r hr o e=>?_
    have:r≠D:=by
     rcases bu.mp hr with z | z
     ·exact (o4 r z).2
     ·rw[aw.mp z]; exact l2D
    rw[aO this];exact e
   ·intro r hr
    rcases bu.mp hr with z | z
    ·exact o4 r z
    ·rw[aw.mp z]
     exact⟨c4.free hl2',l2D⟩
  ·rintro σ H4 ⟨o4,rs,rfl,l4,c4,eD,R4,o4⟩
   refine⟨_,rfl,(k:Int),rfl,by lia,by lia,eV (n:=k) (fun u σ H'=>∃ (o4 o6 o7:LS) (M:LA),σ=[some (.int (k:Int)),some (.ref d),some (.int y),some (.ref D),o4,some (.int (kC k u:Nat)),o6,o7]∧Same H H'∧H' D=some (.lst (rs.map V.ref)) ∧
    dj H' rs M∧Sq k M) ⟨_,_,_,_,by rw[show kC k 0=0 by simp[kC]]; rfl,c4,eD,R4,BB k⟩ ?_ ?_⟩
   ·rintro u σ H5 hu ⟨o4',o6,o7,M,rfl,c5,eD5,R5,S5⟩
    obtain⟨tr1,tr2⟩:=Ft k (by lia) u hu;refine⟨_,rfl,_,rfl,(0+(u:Nat):Int),(k:Int),rfl,⟨by lia,by lia,by lia,by lia⟩,?_⟩;have eu:((k:Int) - (0+(u:Nat):Int)).toNat=k - u:=by lia
    rw[eu]
    let π1:LP:=fun v σ H'=>∃ (o6 o7:LS) (M:LA),σ=[some (.int (k:Int)),some (.ref d),some (.int y),some (.ref D),some (.int (0+(u:Nat):Int)),some (.int ((kC k u+v:Nat):Int)),o6,o7]∧Same H H'∧H' D=some (.lst (rs.map V.ref))∧          dj H' rs M∧Sq k M
    refine eV (lo:=(0+(u:Nat):Int)) (n:=k - u) π1 ⟨_,_,M,rfl,c5,eD5,R5,S5⟩ ?_ ?_
    ·rintro v σ H6 hv ⟨o6,o7,M,rfl,c6,eD6,R6,S6⟩
     have lat:kC k u+v < ds.length:=by rw[lD]; lia
     have hat:lF (ds.map V.int) ((kC k u+v:Nat):Int)=some (.int (ds[kC k u+v]'lat)):=cX (by rw[aq,ax lat]; rfl);obtain⟨d0,d1⟩:=bD _ (E5 lat);generalize ds[kC k u+v]'lat=x at hat d0 d1;have hS6:=c6.seq hS;refine⟨_,rfl,_,rfl,d,_,_,_,rfl,rfl,hS6,hat,_,_,rfl,rfl,(by show (0:Int) < 2; decide),_,rfl,_,rfl,_,_,rfl,rfl,?_⟩;have wm:mG=1000000000000000000000:=by decide
     have hu':∀ b:Bool,(x % 2 * (if b=true then 1 else 0)).natAbs≤mG:=by
      intro b;rw[wm];cases b
      ·rw[if_neg (by decide)]; lia
      ·rw[if_pos rfl]; lia
     refine .inr ⟨_,rfl,_,_,rfl,rfl,fi (by show _ < x % 2; lia) (by show x % 2 < _; lia),?_⟩;have w0:=hu' (decide ((0+(u:Nat):Int) < (0+(u:Nat)+(v:Nat):Int)))
     let ψ1:LQ:=fun σ' H'=>∃ z:Int,z.natAbs≤mG∧σ'=[some (.int (k:Int)),some (.ref d),some (.int y),some (.ref D),some (.int (0+(u:Nat):Int)),some (.int ((kC k u+v:Nat):Int)),some (.int (0+(u:Nat)+(v:Nat):Int)),some (.int z)]∧H'=H6
     refine⟨ψ1,?_,?_⟩
     ·by_cases h1:y=1
      ·refine⟨_,rfl,rfl,_,rfl,dO (by rw[h1]) ?_⟩
       refine⟨_,rfl,_,rfl,d,_,_,_,rfl,rfl,hS6,hat,_,_,rfl,rfl,(by show (0:Int) < 7; decide),_,_,rfl,rfl,?_⟩;exact⟨x % 7 - 3,by rw[wm]; lia,rfl,rfl⟩
      ·refine⟨_,rfl,rfl,_,rfl,cr (fun z=>h1 (V.int.inj z)) ?_⟩
       exact⟨_,w0,rfl,rfl⟩
     rintro σ' H' ⟨w2,w2b,rfl,rfl⟩;refine⟨fun σ' H''=>∃ z:Int,z.natAbs≤mG∧σ'=[some (.int (k:Int)),some (.ref d),some (.int y),some (.ref D),some (.int (0+(u:Nat):Int)),some (.int ((kC k u+v:Nat):Int)),some (.int (0+(u:Nat)+(v:Nat):Int)),some (.int z)]∧H''=H',?_,?_⟩
     ·by_cases h1:y=2
      ·refine⟨_,rfl,rfl,_,rfl,dO (by rw[h1]) ?_⟩
       refine⟨_,rfl,_,rfl,d,_,_,_,rfl,rfl,hS6,hat,_,_,rfl,rfl,(by show (0:Int) < 5; decide),_,_,rfl,rfl,_,_,rfl,rfl,⟨by decide,by decide,by decide⟩,_,_,rfl,rfl,fi (by show _ < x % 5 - 2; lia) (by show x % 5 - 2 < _; lia),?_⟩;refine⟨_,rfl,_,rfl,d,_,_,_,rfl,rfl,hS6,hat,_,_,rfl,rfl,(by show (0:Int) < 3; decide),_,_,rfl,rfl,?_⟩;exact⟨(x % 5 - 2) * 10 ^ (20:Int).toNat+x % 3,by rw[wm,QB]; lia,rfl,rfl⟩
      ·refine⟨_,rfl,rfl,_,rfl,cr (fun z=>h1 (V.int.inj z)) ?_⟩
       exact⟨w2,w2b,rfl,rfl⟩
     rintro σ' H7 ⟨z,hz,rfl,rfl⟩;obtain⟨ru,xu,g1,g2,g3⟩:=R6.get (i:=u) (by lia);have hru:=o4 ru (ae g1);have lxu:=(S6.row u xu g2).1;have a1:lF (rs.map V.ref) (0+(u:Nat):Int)=some (.ref ru):=by rw[io]; exact cX (by rw[aq,g1]; rfl)
     have euv:(0+(u:Nat)+(v:Nat):Int)=((u+v:Nat):Int):=by lia
     refine⟨_,rfl,_,rfl,_,rfl,D,_,_,_,rfl,rfl,bh.of eD6,a1,_,rfl,ru,_,_,u+v,rfl,rfl,g3,by rw[euv,aa]; exact iu (by lia),?_⟩;rw[←im];have R8:=R6.put (j:=u+v) (z:=z) g1 g2;have c8:Same H (upd H7 ru (.lst ((xu.set (u+v) z).map V.int))):=fun b o e=>by rw[aO (aU e hru.1)]; exact c6 _ _ e
     have eD8:upd H7 ru (.lst ((xu.set (u+v) z).map V.int)) D=_:=(aO hru.2.symm).trans eD6;generalize upd H7 ru (.lst ((xu.set (u+v) z).map V.int))=H8 at R8 c8 eD8 ⊢;obtain⟨rv,xv,k1,k2,k3⟩:=R8.get (i:=u+v) (by lia);have hrv:=o4 rv (ae k1);have lxv:=((wX (i:=u) (j:=u+v) S6.len hz S6.row).2 (u+v) xv k2).1;have a2:lF (rs.map V.ref) (0+(u:Nat)+(v:Nat):Int)=some (.ref rv):=by rw[euv]; exact cX (by rw[aq,k1]; rfl)
     refine⟨_,rfl,_,rfl,_,rfl,D,_,_,_,rfl,rfl,bh.of eD8,a2,_,rfl,rv,_,_,u,rfl,rfl,k3,by rw[io,aa]; exact iu (by lia),?_⟩;rw[←im];refine⟨_,rfl,_,_,rfl,rfl,?_⟩;refine⟨some (.int (0+(u:Nat)+(v:Nat):Int)),some (.int z),_,?_,fun b o e=>?_,(aO hrv.2.symm).trans eD8,R8.put (j:=u) (z:=z) k1 k2,S6.put (by lia) (by lia) hz⟩
     ·rfl
     ·rw[aO (aU e hrv.1)]; exact c8 _ _ e
    ·rintro σ H6 ⟨o6,o7,M,rfl,c6,eD6,R6,S6⟩
     exact⟨_,_,_,M,by rw[tr1],c6,eD6,R6,S6⟩
   ·rintro σ H5 ⟨o4',o6,o7,M,rfl,c5,eD5,R5,S5⟩
    exact⟨_,rfl,q D rs M H5 c5 hD o4 eD5 R5 S5⟩
theorem ph {l:Expr}(hl:PE X l tl)(h:X.K=K:=by rfl):PI X tg l (Mc K tl):=by subst h; exact cU hl
structure IG (H:Hp)(p hA rA:Addr)(rs:LI)(n:Nat)(hs:LF)(M:LA):Prop where
 tup:H p=some (.tup [.ref hA,.ref rA])
 hue:H hA=some (.lst (hs.map V.int))
 rws:H rA=some (.lst (rs.map V.ref))
 row:dj H rs M
 len:hs.length=n
 pos:∀ z ∈ hs,0≤z∧z < 3
 sq:Sq n M
def QZ (H:Hp)(p hA rA:Addr)(rs:LI):Prop:=(∀ a ∈ p :: hA :: rA :: rs,H a=none)∧hA≠rA∧hA ∉ rs∧rA ∉ rs
inductive xZ (K:LM)(vs:LG)(H:Hp)(Q:VK):Prop | mk (a:Addr) (ns:LF) (t:Int) (n:Nat) (fr:Bool) (_:vs=[.ref a,.int t,.int (n:Int),.bl fr]) (_:bh K H a (ns.map V.int)) (_:0≤t) (_:n≤8) (_:∀ (p hA rA:Addr) (rs:LI) (hs:LF) (M:LA) (H':Hp),Same H H'→QZ H p hA rA rs→IG H' p hA rA rs n hs M→Q (.ref p) H'):xZ K vs H Q
def FG (K:LM):Sp:=fun vs H Q _=>xZ K vs H Q
abbrev LX:LK:=["_law_script","_law_at","_law_many","_law_free","_law_draws_here","_law_hues","_law_way","_law_square_here"]
abbrev C7:LK:=["_law_script","_law_at","_law_many","_law_free"]
theorem sQ:bJ LX C7 (aB vd):=by constructor<;>first|rfl|decide +kernel
theorem Nx:fk (aB vd) LX (cz (dq (cT vd 1))) "_law_draw":=by constructor<;>first|rfl|decide +kernel
theorem Iu (ns:LF)(n:Nat)(h:n≤ns.length):jc (ns.map V.int) none (some (n:Int))=(ns.take n).map V.int:=by
 unfold jc;rw[HT.sIx_none,HT.sIx_nat,List.drop_zero,aa,d6 h,Nat.sub_zero,pZ]
theorem JG (B:qa mg)(F:Fun K "_law_web" "_law_web" vd f fd)(DC:Dn K mg "_law_cell_at" nk ["_law_script","_law_k"] fC fdC)(GC:bK P w K mg base cI 1 fC fdC ["_law_script","_law_k"] (wB K))(DD:Dn K mg "_law_draws" oz ["_law_cell_here","_law_many","_law_base","_law_free"] fD fdD)(GD:bK P w K mg base cI 1 fD fdD ["_law_cell_here","_law_many","_law_base","_law_free"] oW)(DS:Dn K mg "_law_square" rE ["_law_many","_law_draws_here","_law_way"] fS fdS)(GS:bK P w K mg base cI 1 fS fdS ["_law_many","_law_draws_here","_law_way"] (yd K)):bK P w K mg base cI 2 f fd C7 (FG K):=by
 refine F.o sQ fun cdv A outer s H vs Q E hr h=>?_
 ·obtain⟨a,ns,t,n,fr,rfl,hS,ht,hn,q⟩:=h
  refine⟨_,am (d7 4 sQ.nd (bw DD GD hr rfl (ad (bw DC GC hr rfl (ad (pv 0) (ad (pv 1) ah))) (ad (aY dZ (pv 2) aj) (ad aj (ad (pv 3) ah))))))
   (am (pf (i:=5) sQ.nd rfl (Or.inl rfl) rfl Nx rfl (cU (jP nj (pv 4) rN (jh (pv 2)))) fun _ _ _=>aY dY (pv 8) (gy nH (by rfl) B.int boot_int (ad (fh G9 (aG (ij (K:=K)) (pv 4) (pv 2)) aj (bG _)) ah)))
   (am (d7 6 sQ.nd (aY cJ (bw DC GC hr rfl (ad (pv 0) (ad (aY dZ (pv 1) aj) ah))) aj))
   (am (d7 7 sQ.nd (bw DS GS hr rfl (ad (pv 2) (ad (bw DD GD hr rfl (ad (bw DC GC hr rfl (ad (pv 0) (ad (aY dZ (pv 1) aj) ah))) (ad (aY fZ (aY dY (pv 2) (aY dZ (pv 2) aj)) aj) (ad aj (ad (pv 3) ah))))) (ad (pv 6) ah)))))
   (ar (bt (dc (ad (pv 5) (ad (pv 7) ah)))))))),?_⟩
  show let ω1:TS:=_;let ω2:TS:=bL _ ω1;let ω3:TS:=bL _ ω2;let ω4:TS:=bL _ ω3;bL _ ω4 _ _ _;intro ω1 ω2 ω3 ω4;refine⟨_,rfl,_,rfl,a,ns,t,rfl,hS,ht,fun c1 _=>?_⟩;refine⟨_,rfl,_,_,rfl,rfl,_,rfl,c1,n+1,3,fr,rfl,by lia,by decide,.inl (by decide),fun d ds H1 hd s1 nd ed=>?_⟩;obtain⟨ld,bd⟩:=hd;refine⟨_,rfl,_,rfl,_,rfl,d,_,rfl,bh.of ed,fun p hp=>?_⟩;rw[Iu ds n (by lia)];have ep:upd H1 p (.lst ((ds.take n).map V.int)) p=some (.lst ((ds.take n).map V.int)):=ao;have s2:Same H (upd H1 p (.lst ((ds.take n).map V.int))):=s1.trans (Same.upd hp);have ed2:upd H1 p (.lst ((ds.take n).map V.int)) d=some (.lst (ds.map V.int)):=by rw[aO (aU ed hp)]; exact ed
  generalize upd H1 p (.lst ((ds.take n).map V.int))=H2 at ep s2 ed2 ⊢;refine⟨p,rfl,⟨_,bh.of ep⟩,fun D hD=>?_⟩;have hnl:n < ds.length:=by lia
  have hat:lF (ds.map V.int) (n:Int)=some (.int (ds[n]'hnl)):=cX (by rw[aq,ax hnl]; rfl);generalize ds[n]'hnl=x at hat;refine mh (K:=K) (xs:=(ds.take n).map V.int) (fun i ys H'=>∃ hs:LF,ys=hs.map V.int∧hs.length=i∧Same H2 H'∧H' D=some (.lst ys)∧∀ z ∈ hs,0≤z∧z < 3) ?_ ?_ ?_ ?_ ?_
  ·exact⟨[],rfl,rfl,Same.upd hD,ao,fun z hz=>by cases hz⟩
  ·rintro i ys H' _ ⟨hs,rfl,lt,s3,eD,_⟩
   exact⟨s3.seq (bh.of ep),eD⟩
  ·rintro i v ys H' hv ⟨hs,rfl,lt,s3,eD,hb⟩
   obtain⟨z,hz,rfl⟩:=bI hv;have zb:=bd z (gc (ae hz));have li:=(aN.mp hz).1;rw[bB] at li;refine⟨_,rfl,_,rfl,_,rfl,d,_,_,_,rfl,rfl,bh.of (s3 _ _ ed2),hat,_,_,rfl,rfl,.inr ⟨_,rfl,_,_,rfl,rfl,fi (by lia) (by lia),?_⟩⟩;refine⟨eD,bo (by rw[aa]; lia),hs++[z * (if decide (0 < x)=true then 1 else 0)],by rw[aM]; rfl,by rw[ai,lt]; rfl,fun b o e=>?_,ao,?_⟩
   ·rw[aO (aU e hD)]
    exact s3 _ _ e
   ·intro y hy
    rcases bu.mp hy with g | g
    ·exact hb y g
    ·rw[aw.mp g]
     split <;> lia
  ·rintro ys H3 ⟨hs,rfl,lt,s3,eD,hb⟩
   rw[aa,bB,d6 (by lia)] at lt;have c3:=s2.trans s3;have nD:H D=none:=s2.free hD;refine⟨_,rfl,_,rfl,_,_,rfl,rfl,a,ns,t+2,rfl,c3.seq hS,by lia,fun c2 _=>⟨_,_,rfl,rfl,(by show (0:Int) < 4; decide),?_⟩⟩;refine⟨_,rfl,_,rfl,_,rfl,_,_,rfl,rfl,a,ns,t+1,rfl,c3.seq hS,by lia,fun c4 _=>?_⟩;have en:(n:Int) * ((n:Int)+1) / 2=((n * (n+1) / 2:Nat):Int):=by
    rw[show (n:Int) * ((n:Int)+1)=((n * (n+1):Nat):Int) by push_cast; rfl]
    rfl
   have nb:n * (n+1) / 2≤100:=by
    have:n * (n+1)≤8 * 9:=bP hn (by lia)
    lia
   refine⟨_,rfl,_,rfl,_,_,rfl,rfl,_,_,rfl,rfl,fi (by lia) (by lia),_,_,rfl,rfl,⟨by decide,by decide⟩,?_⟩;refine⟨_,rfl,c4,n * (n+1) / 2,210,fr,?_,nb,by decide,.inl (by decide),fun d' ds' H4 hd' s4 nd' ed'=>?_⟩
   ·show [V.int c4,V.int ((n:Int) * ((n:Int)+1) / 2),_,_]=_
    rw[en]
   have c5:=c3.trans s4;refine⟨_,rfl,n,d',c2 % 4,ds',rfl,hn,bh.of ed',hd',fun R rs M H5 s5 nR nrs eR RR SR=>?_⟩;have eD5:=s5 _ _ (s4 _ _ eD);refine⟨_,rfl,_,rfl,(by show 2≤sizeLine; decide),fun p' hp'=>?_⟩;have c6:=c5.trans s5;have np:=fun {b:Addr} {o:HO} (e:H5 b=some o)=>aU e hp'
   have nDR:D≠R:=fun z=>by subst z; rw[s4 _ _ eD] at nR; cases nR
   refine q p' D R rs hs M _ (c6.trans (Same.upd hp')) ⟨?_,nDR,fun z=>?_,fun z=>(nrs _ z).2 rfl⟩ ⟨ao,by rw[aO (np eD5)]; exact eD5,by rw[aO (np eR)]; exact eR,RR.keep fun r hr o e=>by rw[aO (np e)]; exact e,lt,hb,SR⟩
   ·intro b hb'
    rcases aQ.mp hb' with rfl | hb'
    ·exact c6.free hp'
    ·rcases aQ.mp hb' with rfl | hb'
     ·exact nD
     ·rcases aQ.mp hb' with rfl | hb'
      ·exact c5.free nR
      ·exact c5.free (nrs b hb').1
   ·have:=(nrs _ z).1
    rw[s4 _ _ eD] at this;cases this
  ·rintro σ H' Q1 Q2 hq ⟨v1,e1,v2,e2,v3,e3,a1,a2,a3,a4,b1,b2,b3,b4,i1,i2,j1,j2,g⟩
   refine⟨v1,e1,v2,e2,v3,e3,a1,a2,a3,a4,b1,b2,b3,b4,i1,i2,j1,j2,?_⟩;rcases g with ⟨i,f1,m1,m2,f2,f3,f4,f5⟩ | ⟨i,f1,m1,m2,f2,f3,f4,f5⟩
   ·exact .inl ⟨i,f1,m1,m2,f2,f3,f4,hq _ _ f5⟩
   ·exact .inr ⟨i,f1,m1,m2,f2,f3,f4,hq _ _ f5⟩
structure K9 (mg:LO):Prop where
 len:mg "len" = none
 zip:mg "zip" = none
 list:mg "list" = none
 tuple:mg "tuple" = none
section
variable {κ:Type}[DecidableEq κ]
def cj (s:List κ)(k:κ):List κ:=if k ∈ s then s else s++[k]
def dm (s:List κ):List κ→LJ
 | []=>[]
 | k :: ks=>s.idxOf k :: dm (cj s k) ks
def jZ (ks:List κ):LJ:=dm [] ks
theorem kq (k:κ):∀ (ks s:List κ),dm s (ks++[k])=dm s ks++[(ks.foldl cj s).idxOf k]
 | [],s=>rfl
 | x :: ks,s=>by
  show s.idxOf x :: dm (cj s x) (ks++[k])=_;rw[kq k ks]
  rfl
theorem ma:∀ (ks s:List κ),(dm s ks).length=ks.length
 | [],_=>rfl
 | _ :: ks,s=>by simp[dm,ma ks]
theorem wE:∀ (ks s:List κ),(ks.foldl cj s).length≤s.length+ks.length
 | [],s=>au _
 | k :: ks,s=>by
  have:=wE ks (cj s k)
  have e:(cj s k).length≤s.length+1:=by
   unfold cj
   split
   ·lia
   ·rw[ai,cx]; lia
  rw[List.foldl_cons,bq]
  lia
theorem IL (k:κ):∀ (l:List (κ × V × V)) (o:Nat),(∀ (j:Nat) (x:κ × V × V),l[j]? = some x→x.2.2=.int ((o+j:Nat):Int)) →
  KL l k=if k ∈ l.map (·.1) then some (.int ((o+(l.map (·.1)).idxOf k:Nat):Int)) else none
 | [],_,_=>rfl
 | x :: l,o,h=>by
  have ih:=IL k l (o+1) fun j y e=>by rw[h (j+1) y (by simpa using e)]; congr 2; lia
  by_cases e:x.1=k
  ·have h0:=h 0 x rfl
   rw[show KL (x :: l) k=some x.2.2 by simp[KL,e],h0];simp[jB,e]
  ·rw[show KL (x :: l) k=KL l k by simp[KL,e],ih]
   by_cases m:k ∈ l.map (·.1)
   ·rw[aS,if_pos m,if_pos (aC _ m),jB,(by simpa using e:(x.1 == k)=false),cond_false]
    congr 3
    lia
   ·rw[aS,if_neg m,if_neg (by rw[aQ]; rintro (q | q); exact e q.symm; exact m q)]
end
def yf (K:LM){κ:Type}[DecidableEq κ](key:Hp→V→κ→Prop):Sp:=fun vs H Q _=>∃ (a:Addr) (ys:LG) (ks:List κ),vs=[.ref a]∧bh K H a ys∧ys.length=ks.length∧ks.length≤1000 ∧
 (∀ (j:Nat) (y:V) (k:κ),ys[j]? = some y→ks[j]? = some k→key H y k)∧∀ p H',Same H H'→H p=none→H' p=some (.lst ((jZ ks).map fun (n:Nat)=>V.int (n:Int)))→Q (.ref p) H'
abbrev QF:LK:=["marks","numbers","lots","mark"]
theorem BX:bJ QF ["marks"] (aB i8):=by constructor<;>first|rfl|decide +kernel
theorem Hh {κ:Type}[DecidableEq κ]{obj:Addr→List (κ × V × V)→HO}{key:Hp→V→κ→Prop}(kd:∀ X:Cx,X.prog=P→X.w=w→X.A.units+64 < cLine→Kd X κ obj key)(ks':∀ {H H':Hp} {y:V} {k:κ},Same H H'→key H y k→key H' y k)(B:K9 mg)(F:Fun K "numbered" "numbered" i8 f fd):bK P w K mg base cI 1 f fd ["marks"] (yf K key):=by
 refine F.ok BX (fun vs H Q E h=>?_) (fun cdv A outer s H vs Q E hr h=>?_)
 ·obtain⟨a,ys,ks,rfl,_⟩:=h
  rfl
 ·obtain⟨a,ys,ks,rfl,hy,hl,hz,hk,q⟩:=h
  have KD:=fun X e1 e2 e3=>kd X e1 e2 e3
  refine⟨_,am (d7 1 BX.nd ((kd _ rfl rfl hr.units).new _))
   (am (d7 2 BX.nd (cC ah))
   (am (di PassesOwn.never rfl (cU (pv 0)) (iK 3 BX.nd)
    (ar (fg (i0 bp bO bN dk (pv 2)
     (ad (JC (kd _ rfl rfl hr.units) (pv 1) (pv 3) (bQ (kd _ rfl rfl hr.units).len (by rfl) B.len bE (ad (pv 1) ah)) ⟨rfl,rfl,rfl,rfl⟩) ah)))))
   (ar (bt (pv 2))))),?_⟩
  show let ω1:TS:=_;let ω2:TS:=_;let ω3:TS:=bL (ig _ _ ω2) ω1;let ω4:TS:=bL _ ω3;bL _ ω4 _ _ _;intro ω1 ω2 ω3 ω4;intro N hN;refine⟨aZ _,fun R hR=>?_⟩;have nNR:N≠R:=aU ao hR;have hR0:H R=none:=by rw[aO nNR.symm] at hR; exact hR
  have sH:Same H (upd (upd H N (obj N [])) R (.lst [])):=(Same.upd hN).trans (Same.upd hR)
  let π1:LP:=fun i σ H'=>∃ (o:LS) (l:List (κ × V × V)),σ=[some (.ref a),some (.ref N),some (.ref R),o]∧Same H H'∧H' N=some (obj N l)∧H' R=some (.lst ((dm [] (ks.take i)).map fun (n:Nat)=>V.int (n:Int)))∧      l.map (·.1)=(ks.take i).foldl cj []∧(∀ (j:Nat) (x:κ × V × V),l[j]? = some x→x.2.2=.int (j:Int))∧∀ z ∈ l,key H z.2.1 z.1
  refine⟨_,rfl,a,rfl,⟨_,sH.seq hy⟩,gZ (K:=K) (a:=a) (xs:=ys) π1 ?_ ?_ ?_ ?_⟩
  ·exact⟨none,[],rfl,sH,by rw[aO nNR]; exact ao,ao,rfl,fun j x e=>by simp at e,fun z hz=>by cases hz⟩
  ·rintro i σ H' _ ⟨o,l,rfl,s1,_⟩
   exact s1.seq hy
  ·rintro i v σ H' hi ⟨o,l,rfl,s1,eN,eR,el,ev,ek⟩
   have li:i < ks.length:=by rw[←hl]; exact (aN.mp hi).1
   have hki:ks[i]? = some (ks[i]'li):=ax li;have kv:key H' v (ks[i]'li):=ks' s1 (hk i v _ hi hki);have kl:∀ z ∈ l,key H' z.2.1 z.1:=fun z hz=>ks' s1 (ek z hz)
   have tk:ks.take (i+1)=ks.take i++[ks[i]'li]:=by rw[List.take_succ,hki]; rfl
   have ll:l.length≤1000:=by
    have:=wE (ks.take i) []
    rw[←el,aa,bB] at this;simp at this
    lia
   have lr:((dm [] (ks.take i)).map fun (n:Nat)=>V.int (n:Int)).length≤1000:=by
    rw[aa,ma,bB]
    lia
   have num:=IL (ks[i]'li) l 0 fun j x e=>by rw[Nat.zero_add]; exact ev j x e
   rw[Nat.zero_add,el] at num;refine⟨_,rfl,.inl ⟨rfl,_,bh.of eR⟩,_,rfl,N,l,rfl,eN,_,rfl,_,rfl,N,l,rfl,eN,kl,N,l,ks[i]'li,v,_,rfl,rfl,eN,kl,kv,bo ll,?_⟩
   by_cases m:(ks[i]'li) ∈ (ks.take i).foldl cj []
   ·rw[if_pos m] at num
    refine .inl ⟨_,num,?_⟩;refine⟨R,_,_,rfl,rfl,eR,bo lr,?_⟩;refine⟨_,l,rfl,fun b ob e=>?_,?_,?_,?_,ev,ek⟩
    ·rw[aO (aU e hR0)]
     exact s1 _ _ e
    ·rw[aO nNR]
     exact eN
    ·rw[ao,tk,kq,aM]
     rfl
    ·rw[el,tk,iL]
     show _=cj _ _;rw[cj,if_pos m]
   ·rw[if_neg m] at num
    refine .inr ⟨num,?_⟩;have eR2:upd H' N (obj N (l++[(ks[i]'li,v,.int (l.length:Int))])) R=some (.lst ((dm [] (ks.take i)).map fun (n:Nat)=>V.int (n:Int))):=by rw[aO nNR.symm]; exact eR
    refine⟨R,_,_,rfl,rfl,eR2,bo lr,?_⟩;refine⟨_,_,rfl,fun b ob e=>?_,by rw[aO nNR]; exact ao,?_,?_,?_,?_⟩
    ·rw[aO (aU e hR0),aO (aU e hN)]
     exact s1 _ _ e
    ·have ll':((ks.take i).foldl cj []).length=l.length:=by rw[←el,aa]
     rw[ao,tk,kq,aM,List.idxOf_eq_length m,ll']
     rfl
    ·rw[aM,el,tk,iL]
     show _=cj _ _;rw[cj,if_neg m]
     rfl
    ·intro j x e
     rcases rh j l.length with lj | lj
     ·rw[be lj] at e
      exact ev j x e
     ·rw[aV lj] at e
      obtain rfl:j=l.length:=by
       have:=(aN.mp e).1
       rw[cx] at this
       lia
      rw[il] at e;cases e
      rfl
    ·intro z hz
     rcases bu.mp hz with q' | q'
     ·exact ek z q'
     ·cases aw.mp q'
      exact hk i v _ hi hki
  ·rintro σ H' ⟨o,l,rfl,s1,eN,eR,_⟩
   refine⟨_,rfl,q R H' s1 hR0 ?_⟩;rw[eR,hl,cF]
   rfl
end
section
variable {κ ι:Type}[DecidableEq κ][DecidableEq ι]
theorem zt {k:κ}{l:ι}:∀ (s:List κ) (t:List ι),s.length=t.length→(∀ p ∈ s.zip t,p.1=k↔p.2=l)→s.idxOf k=t.idxOf l∧(k ∈ s↔l ∈ t)
 | [],[],_,_=>⟨rfl,by simp⟩
 | [],_ :: _,h,_=>by simp at h
 | _ :: _,[],h,_=>by simp at h
 | x :: s,y :: t,h,hp=>by
  have h0:=hp (x,y) (by simp);obtain⟨h1,h2⟩:=zt s t (by simpa using h) fun p hm=>hp p (by rw[nW]; exact aC _ hm)
  by_cases e:x=k
  ·have e':y=l:=h0.mp e
   subst e e';simp[jB]
  ·have e':¬ y=l:=fun q=>e (h0.mpr q)
   refine⟨?_,?_⟩
   ·rw[jB,jB,(by simpa using e:(x == k)=false),(by simpa using e':(y == l)=false),cond_false,cond_false,h1]
   ·rw[aQ,aQ,h2]
    constructor
    ·rintro (q | q)
     ·exact absurd q.symm e
     ·exact .inr q
    ·rintro (q | q)
     ·exact absurd q.symm e'
     ·exact .inr q
theorem vy:∀ (ks:List κ) (ls:List ι) (s:List κ) (t:List ι),ks.length=ls.length→s.length=t.length→(∀ p ∈ s.zip t++ks.zip ls,∀ q ∈ s.zip t++ks.zip ls,p.1=q.1↔p.2=q.2)→dm s ks=dm t ls
 | [],[],_,_,_,_,_=>rfl
 | [],_ :: _,_,_,h,_,_=>by simp at h
 | _ :: _,[],_,_,h,_,_=>by simp at h
 | k :: ks,l :: ls,s,t,h,hs,hp=>by
  have hkl:(k,l) ∈ s.zip t++(k :: ks).zip (l :: ls):=by simp
  obtain⟨h1,h2⟩:=zt (k:=k) (l:=l) s t hs fun p hm=>hp p (cW _ hm) (k,l) hkl
  show s.idxOf k :: dm (cj s k) ks=t.idxOf l :: dm (cj t l) ls;rw[h1]
  congr 1
  have hz:∀ p ∈ (cj s k).zip (cj t l)++ks.zip ls,p ∈ s.zip t++(k :: ks).zip (l :: ls):=by
   intro p hm;rcases bu.mp hm with q | q
   ·unfold cj at q
    by_cases m:k ∈ s
    ·rw[if_pos m,if_pos (h2.mp m)] at q
     exact cW _ q
    ·rw[if_neg m,if_neg fun z=>m (h2.mpr z),List.zip_append hs] at q
     rcases bu.mp q with q | q
     ·exact cW _ q
     ·rw[nW,List.zip_nil_left,aw] at q
      rw[q];exact hkl
   ·refine bA _ ?_
    rw[nW];exact aC _ q
  refine vy ks ls _ _ (by simpa using h) ?_ fun p hm q hq=>hp p (hz p hm) q (hz q hq)
  unfold cj
  by_cases m:k ∈ s
  ·rw[if_pos m,if_pos (h2.mp m)]
   exact hs
  ·rw[if_neg m,if_neg fun z=>m (h2.mpr z),ai,ai,hs]
   rfl
theorem uX {k:κ}:∀ (ks s:List κ),k ∈ s→k ∈ ks.foldl cj s∧(ks.foldl cj s).idxOf k=s.idxOf k
 | [],_,h=>⟨h,rfl⟩
 | x :: ks,s,h=>by
  have m:k ∈ cj s x:=by
   unfold cj
   split
   ·exact h
   ·exact cW _ h
  obtain⟨h1,h2⟩:=uX ks (cj s x) m;refine⟨h1,h2.trans ?_⟩;unfold cj
  split
  ·rfl
  ·rw[List.idxOf_append,if_pos h]
theorem jp {k:κ}:∀ (ks s:List κ) (i:Nat),ks[i]? = some k→(dm s ks)[i]? = some ((ks.foldl cj s).idxOf k)∧k ∈ ks.foldl cj s
 | [],_,_,h=>by simp at h
 | x :: ks,s,i+1,h=>by
  have:=jp ks (cj s x) i (by simpa using h)
  simpa[dm] using this
 | x :: ks,s,0,h=>by
  cases h;have m:k ∈ cj s k:=by
   unfold cj
   split
   ·assumption
   ·simp
  obtain⟨h1,h2⟩:=uX ks _ m;refine⟨?_,h1⟩;show some (s.idxOf k)=some ((ks.foldl cj (cj s k)).idxOf k);rw[h2]
  congr 1
  unfold cj
  split
  ·rfl
  ·rename_i m'
   rw[List.idxOf_append,if_neg m',List.idxOf_eq_length m'];simp
theorem tE {ks:List κ}{ls:List ι}(h:ks.length=ls.length):jZ ks=jZ ls↔∀ (i j:Nat) (k k':κ) (l l':ι),ks[i]? = some k→ks[j]? = some k'→ls[i]? = some l→ls[j]? = some l'→(k=k'↔l=l'):=by
 constructor
 ·intro e i j k k' l l' h1 h2 h3 h4
  obtain⟨a1,b1⟩:=jp ks [] i h1;obtain⟨a2,b2⟩:=jp ks [] j h2;obtain⟨a3,b3⟩:=jp ls [] i h3;obtain⟨a4,b4⟩:=jp ls [] j h4;have e':dm [] ks=dm [] ls:=e;rw[e',a3] at a1;rw[e',a4] at a2;have c1:=aW a1;have c2:=aW a2;have inj:∀ {α:Type} [DecidableEq α] {s:List α} {x y:α},x ∈ s→s.idxOf x=s.idxOf y→x=y:=by
   intro α _ s x y hx q;have l1:=jy.mpr hx;have g1:s[s.idxOf x]=x:=nY l1;have g2:s[s.idxOf y]'(q ▸ l1)=y:=nY (q ▸ l1);rw[←g1,←g2]
   congr 1
  constructor
  ·rintro rfl
   exact inj b3 (c1.trans c2.symm)
  ·rintro rfl
   exact inj b1 (c1.symm.trans c2)
 ·intro hp
  refine vy ks ls [] [] h rfl ?_;intro p hm q hq;rw[List.zip_nil_left,List.nil_append] at hm hq;obtain⟨i,hi⟩:=aP.mp hm;obtain⟨j,hj⟩:=aP.mp hq;obtain⟨i1,i2⟩:=dM.mp hi;obtain⟨j1,j2⟩:=dM.mp hj;exact hp i j _ _ _ _ i1 j1 i2 j2
end
section
variable {P:Program}{w:World}{K:LM}{mg:LO}{base:Heap}
def nI (l:LJ):LF:=l.map fun (n:Nat)=>(n:Int)
theorem Nm {a b:LJ}(h:nI a=nI b):a=b:=zY (fun _ _ q=>Int.ofNat.inj q) |>.mp h
theorem Hx {l:LJ}:(nI l)[i]? = (l[i]?).map fun (n:Nat)=>(n:Int):=aq
theorem pj {κ:Type}[DecidableEq κ](ks:List κ):(jZ ks).length=ks.length:=ma ks []
theorem yS {κ:Type}[DecidableEq κ]{ks:List κ}{k k':κ}{a b:Nat}(h1:ks[i]? = some k)(h2:ks[j]? = some k')(h3:(jZ ks)[i]? = some a)(h4:(jZ ks)[j]? = some b):a=b↔k=k':=by
 obtain⟨a1,b1⟩:=jp ks [] i h1;obtain⟨a2,b2⟩:=jp ks [] j h2;have c1:some ((ks.foldl cj []).idxOf k)=some a:=a1.symm.trans h3;have c2:some ((ks.foldl cj []).idxOf k')=some b:=a2.symm.trans h4;cases c1;cases c2
 constructor
 ·intro q
  have l1:=jy.mpr b1;have g1:(ks.foldl cj [])[(ks.foldl cj []).idxOf k]=k:=nY l1;have g2:(ks.foldl cj [])[(ks.foldl cj []).idxOf k']'(q ▸ l1)=k':=nY (q ▸ l1);rw[←g1,←g2]
  congr 1
 ·rintro rfl
  rfl
theorem Et {κ:Type}[DecidableEq κ](ks:List κ):jZ (nI (jZ ks))=jZ ks:=by
 have ln:(nI (jZ ks)).length=ks.length:=by rw[nI,aa,pj]
 rw[tE ln];intro i j a b k k' h1 h2 h3 h4;rw[Hx] at h1 h2;obtain⟨x,hx,rfl⟩:=cc.mp h1;obtain⟨y,hy,rfl⟩:=cc.mp h2;rw[←yS h3 h4 hx hy];exact Int.ofNat_inj
def Dd (a b:LF):Prop:=∀ (i j:Nat) (l x y:Int),a[i]? = some l→a[j]? = some l→b[i]? = some x→b[j]? = some y→x=y
def xF (ls:LF):Prop:=ls=nI (jZ ls)
theorem vz {κ:Type}[DecidableEq κ](ks:List κ):xF (nI (jZ ks)):=by unfold xF; rw[Et]
theorem Ke {a b:LF}(ha:xF a)(hb:xF b)(l:a.length=b.length)(f:Dd a b)(g:Dd b a):a=b:=by
 rw[ha,hb]
 congr 1
 rw[tE l];intro i j k k' x x' h1 h2 h3 h4
 constructor
 ·rintro rfl
  exact f i j _ _ _ h1 h2 h3 h4
 ·rintro rfl
  exact g i j _ _ _ h3 h4 h1 h2
def prs (n:Nat):List (Nat × Nat):=(List.range n).flatMap fun i=>(List.range n).map fun j=>(i,j)
theorem jJ {n:Nat}:(i,j) ∈ prs n↔i < n∧j < n:=by
 unfold prs;simp
def Jf (n:Nat)(ls:LF):Nat:=(prs n).countP fun p=>decide (ls[p.1]? = ls[p.2]?)
theorem zK {α:Type}{p q:α→Bool}:∀ {l:List α},(∀ x ∈ l,p x=true→q x=true)→(∃ x ∈ l,q x=true∧p x=false)→l.countP p < l.countP q
 | [],_,⟨x,hx,_⟩=>by cases hx
 | y :: l,h,⟨x,hx,h1,h2⟩=>by
  have hl:∀ x ∈ l,p x=true→q x=true:=fun x hx=>h x (aC _ hx)
  have le:l.countP p≤l.countP q:=List.countP_mono_left hl;rw[List.countP_cons,List.countP_cons];rcases aQ.mp hx with rfl | hx
  ·rw[h1,h2]
   simp
   lia
  ·have:=zK hl ⟨x,hx,h1,h2⟩
   have hy:=h y aK
   by_cases e:p y=true
   ·rw[e,hy e]
    simp
    lia
   ·rw[if_neg e]
    split <;> lia
theorem Je {a b:LF}{n:Nat}(la:a.length=n)(lb:b.length=n)(na:xF a)(nb:xF b)(f:Dd a b)(ne:a≠b):Jf n a < Jf n b:=by
 unfold Jf;refine zK (fun p hp e=>?_) ?_
 ·obtain⟨i,j⟩:=p
  obtain⟨hi,hj⟩:=jJ.mp hp;have e':a[i]? = a[j]?:=by simpa using e
  obtain⟨x,hx⟩:=bW (l:=a) (i:=i) (by lia);obtain⟨y,hy⟩:=bW (l:=b) (i:=i) (by lia);obtain⟨z,hz⟩:=bW (l:=b) (i:=j) (by lia)
  have:b[i]? = b[j]?:=by rw[hy,hz,f i j x y z hx (by rw[←e',hx]) hy hz]
  simpa using this
 ·refine Classical.byContradiction fun no=>ne (Ke na nb (by lia) f fun i j l x y e1 e2 e3 e4=>?_)
  refine Classical.byContradiction fun nxy=>no ⟨(i,j),jJ.mpr ⟨by rw[←lb]; exact cq e1,by rw[←lb]; exact cq e2⟩,?_,?_⟩
  ·simp[e1,e2]
  ·simp[e3,e4,nxy]
theorem AL (n:Nat):xF (List.replicate n 0):=by
 have g:∀ m,dm [(0:Int)] (List.replicate m 0)=List.replicate m 0:=by
  intro m
  induction m with
  | zero=>rfl
  | succ m ih =>
   rw[cQ];show List.idxOf (0:Int) [0] :: dm (cj [0] 0) (List.replicate m 0)=_;rw[show cj [(0:Int)] 0=[0] from rfl,ih]
   rfl
 unfold xF;cases n with
 | zero=>rfl
 | succ n =>
  have:jZ (List.replicate (n+1) (0:Int))=List.replicate (n+1) 0:=by
   rw[cQ];show List.idxOf (0:Int) [] :: dm (cj [] 0) (List.replicate n 0)=_;rw[show cj ([]:LF) 0=[0] from rfl,g]
   rfl
  rw[this,nI,List.map_replicate]
  rfl
theorem No (l:LJ):(l.map fun (n:Nat)=>V.int (n:Int))=(nI l).map V.int:=by rw[nI,cu]; rfl
def K3 (K:LM)(H:Hp)(v:V)(us:LF)(M:LA):Prop :=
 ∃ (p h r:Addr) (rs:LI),v=.ref p∧dy K H p [.ref h,.ref r]∧bh K H h (us.map V.int)∧bh K H r (rs.map V.ref)∧rs.length=M.length∧∀ (j:Nat) (t:Addr) (ws:LF),rs[j]? = some t→M[j]? = some ws→bh K H t (ws.map V.int)
theorem K3.same (h:K3 K H v us M)(s:Same H H'):K3 K H' v us M:=by
 obtain⟨p,h1,r,rs,e,q1,q2,q3,q4,q5⟩:=h;exact⟨p,h1,r,rs,e,s.seqT q1,s.seq q2,s.seq q3,q4,fun j t ws e1 e2=>s.seq (q5 j t ws e1 e2)⟩
theorem EM {y:V}{k:Int}(_:Same H H')(h:HP H y k):HP H' y k:=h
theorem JN (B:K9 mg)(F:Fun K "numbered" "numbered" i8 f fd):bK P w K mg base cI 1 f fd ["marks"] (yf K HP):=Hh (obj:=NW) (fun _ _ _ _=>NQ) EM B F
theorem si (s:Same H H')(h:Ot H vs ws):Ot H' vs ws:=⟨h.1,fun i v k h1 h2=>by
 obtain⟨c,e,hc⟩:=h.2 i v k h1 h2
 exact⟨c,e,s _ _ hc⟩⟩
theorem vG {y:V}{k:KM}(s:Same H H')(h:rc H y k):rc H' y k:=by
 obtain⟨a,e,q,vs,h1,h2,h3⟩:=h;exact⟨a,e,q,vs,s _ _ h1,s _ _ h2,si s h3⟩
theorem JM (B:K9 mg)(F:Fun K "numbered" "numbered" i8 f fd):bK P w K mg base cI 1 f fd ["marks"] (yf K rc) :=
 Hh (P:=P) (w:=w) (base:=base) (key:=rc) (obj:=KG P w) (fun X e1 e2 e3=>by subst e1 e2; exact Ps (by lia)) vG B F
def mj (s:Stmt)(i:Nat):Stmt:=match s with
 | .For _ _ b _ _=>b.getD i (.Pass ⟨0,0,0,0⟩)
 | _=>.Pass ⟨0,0,0,0⟩
def pV (e:Expr)(i:Nat):Expr:=match e with
 | .Call _ es _ _=>es.getD i (.Constant .none 0 ⟨0,0,0,0⟩)
 | _=>.Constant .none 0 ⟨0,0,0,0⟩
def qU (n:Nat)(X:LB):Bool:=decide (X.length=n) && X.all fun x=>decide (x.length=n)
inductive yp (vs:LG)(H:Hp)(Q:VK):Prop | mk (a:Addr) (X:LB) (n:Nat) (_:vs=[.ref a,.int (n:Int)]) (_:eI H a X) (_:X.length≤900) (_:n≤900) (_:(∀ x ∈ X,x.length≤900)) (_:∀ H',Same H H'→Q (.bl (qU n X)) H'):yp vs H Q
def FV:Sp:=fun vs H Q _=>yp vs H Q
theorem MM:bJ ["rows","size"] ["rows","size"] (aB vh):=by constructor<;>first|rfl|decide +kernel
def Ob (e:Expr)(i:Nat):Expr:=match e with
 | .BoolOp _ es _=>es.getD i (.Constant .none 0 ⟨0,0,0,0⟩)
 | _=>.Constant .none 0 ⟨0,0,0,0⟩
theorem Iy:bootBuiltins "all" = some (.builtin "all"):=by decide +kernel
theorem all_map {α:Type}(f:α→Bool)(xs:List α):(xs.map f).all id=xs.all f:=by rw[List.all_map]; rfl
theorem Nt {α:Type}(f:α→Bool)(xs:List α):(xs.map fun x=>V.bl (f x))=(xs.map f).map V.bl:=by rw[cu]; rfl
def O2 (K:LM):List V→Hp→VK→Prop:=O3 K
theorem kY (h:X.K=K:=by rfl):iV X (.builtin "len") (O2 K):=by subst h; exact bT
structure P9 (mg:LO):Prop where
 len:mg "len" = none
 sum:mg "sum" = none
 zip:mg "zip" = none
 range:mg "range" = none
 all:mg "all" = none
theorem pM (a b:Nat):decide (V.int (a:Int)=V.int (b:Int))=decide (a=b):=by
 by_cases h:a=b
 ·subst h; simp
 ·rw[bH h,bH]
  intro z;exact h (Int.ofNat.inj (V.int.inj z))
theorem NH:cw (aB vh) ["rows","size"] (cz (pV (Ob (dq (cT vh 0)) 1) 0)) ["row"]:=by constructor<;>first|rfl|decide +kernel
theorem JW (B:P9 mg)(F:Fun K "is_square" "is_square" vh f fd):bK P w K mg base cI 1 f fd ["rows","size"] FV:=by
 refine F.o MM fun cdv A outer s H vs Q E hr h=>?_
 ·obtain⟨a,X,n,rfl,⟨rs,ha,R⟩,hX,hn,hw,q⟩:=h
  have lr:=R.len;refine⟨_,ar (bt (tu (fh cE (bQ bT (by rfl) B.len bE (ad (pv 0) ah)) (pv 1) (bG _))
   (tp (bQ (Iw rfl) (by rfl) B.all Iy (ad (gE rfl NH rfl (cU (pv 0)) fun _ _ _=>fh cE (bQ (kY (K:=K)) (by rfl) B.len bE (ad (pv 2) ah)) (pv 1) (bG _)) ah))))),?_⟩
  refine⟨_,rfl,a,_,rfl,.inl (bh.of ha),?_⟩;refine⟨_,rfl,rfl,_,rfl,?_⟩;rw[pM,aa,lr]
  by_cases hX':X.length=n
  ·refine dO hX' ?_
   refine⟨_,rfl,a,rfl,⟨_,bh.of ha⟩,fun D hD=>?_⟩;refine iP (X.map fun x=>V.bl (decide (x.length=n))) (by rw[aa,aa,lr]) (by rw[aa,lr]; exact hX) hD (bh.of ha) ?_ ?_ ?_
   ·intro i x v H' hx hv s'
    obtain⟨r,hr,rfl⟩:=bI hx;obtain⟨y,hy,rfl⟩:=bI hv;refine⟨_,rfl,r,_,rfl,.inl (bh.of (s' _ _ (R.row i r y hr hy))),_,rfl,rfl,?_,Same.refl _⟩;rw[pM]
   ·intro H' s' eD
    refine⟨D,X.map fun x=>decide (x.length=n),rfl,bh.of (by rw[eD,Nt]),?_⟩;rw[all_map]
    have:=q H' s'
    unfold qU at this;rw[cn hX',Bool.true_and] at this;exact this
   ·rintro σ H' Q1 Q2 hq ⟨v,e,p,ys,e1,e2,v2,e3,e4,g⟩
    exact⟨v,e,p,ys,e1,e2,v2,e3,e4,hq _ _ g⟩
  ·refine cr hX' ?_
   have:=q H (Same.refl _)
   unfold qU at this;rw[bH hX',uD] at this;exact this
theorem xm {b:Addr}{g:TG}{D:qB}(e:ys.length=xs.length)(Pv:LP)(h0:Pv 0 σ H)(hl:∀ i σ H,i≤xs.length→Pv i σ H→bh K H a xs∧bh K H b ys)(hs:∀ (i:Nat) (x y:V) (t:Addr) σ H,xs[i]? = some x→ys[i]? = some y→Pv i σ H→H t=none→g (.ref t) σ (upd H t (.tup [x,y])) fun σ2 H2=>tb { D with nx:=Pv (i+1),ct:=Pv (i+1),bk:=D.nx } σ2 H2)(hd:∀ σ H,Pv xs.length σ H→D.nx σ H) :
  ∃ W:Nat→Nat→L2.St→Hp→Prop,(∃ m,W 0 m σ H)∧∀ i m σ H,W i m σ H →
   ((Om K a b).stop i H∧D.nx σ H) ∨ ((Om K a b).go i H∧∃ N:LQ,(∀ σ' H',N σ' H'→∃ m',m' < m∧W (i+1) m' σ' H')∧∀ x H',(Om K a b).yld i H x H'→g x σ H' fun σ2 H2=>tb { D with nx:=N,ct:=N,bk:=D.nx } σ2 H2):=by
 refine⟨fun i m σ H=>m=xs.length - i∧i≤xs.length∧Pv i σ H,⟨xs.length,by simp,aZ _,h0⟩,?_⟩;rintro i m σ H ⟨rfl,hi,p⟩;obtain⟨q1,q2⟩:=hl i σ H hi p
 by_cases lt:i < xs.length
 ·have lt':i < ys.length:=by lia
  refine .inr ⟨⟨xs,ys,xs[i],ys[i],q1,q2,ax lt,ax lt'⟩,Pv (i+1),fun σ' H' p'=>⟨xs.length - (i+1),by lia,rfl,lt,p'⟩,fun x H' y=>?_⟩;obtain⟨t,x1,y1,rfl,ht,rfl,g1,g2⟩:=y;exact hs i x1 y1 t σ H (g1 xs q1) (g2 ys q2) p ht
 ·have ei:i=xs.length:=by lia
  subst ei;exact .inl ⟨⟨xs,ys,q1,q2,.inl (au _)⟩,hd σ H p⟩
theorem zR:bootBuiltins "tuple" = some (.type "tuple"):=by decide +kernel
structure xK (mg:LO):Prop where
 len:mg "len" = none
 zip:mg "zip" = none
 tuple:mg "tuple" = none
 sorted:mg "sorted" = none
 enum:mg "enumerate" = none
 sum:mg "sum" = none
def Aj (xs ys:LF):LA:=(Du (xs.zip ys)).map fun p=>[p.1,p.2]
theorem IQ (h:PsV K H L ps):Ot H L (ps.map fun p=>[p.1,p.2]):=by
 refine⟨by rw[aa]; exact h.1,fun i v k h1 h2=>?_⟩;obtain⟨p,hp,rfl⟩:=bI h2;obtain⟨a,e,ha⟩:=h.2 i v p h1 hp;exact⟨a,e,ha⟩
inductive ya (K:LM)(vs:LG)(H:Hp)(Q:VK):Prop | mk (a b:Addr) (xs ys:LF) (_:vs=[.ref a,.ref b]) (_:bh K H a (xs.map V.int)) (_:bh K H b (ys.map V.int)) (_:ys.length=xs.length) (_:xs.length≤8) (_:∀ (p:Addr) (L:LG) (H':Hp),Same H H'→H p=none→H' p=some (.tup L)→Ot H' L (Aj xs ys)→Q (.ref p) H'):ya K vs H Q
def FH (K:LM):Sp:=fun vs H Q _=>ya K vs H Q
theorem MI:bJ ["row","column"] ["row","column"] (aB BY):=by constructor<;>first|rfl|decide +kernel
theorem JH (B:xK mg)(F:Fun K "ways_between" "ways_between" BY f fd):bK P w K mg base cI 1 f fd ["row","column"] (FH K):=by
 refine F.o MI fun cdv A outer s H vs Q E hr h=>?_
 ·obtain⟨a,b,xs,ys,rfl,ha,hb,hl,h6,q⟩:=h
  refine⟨_,ar (bt (gy oo (by rfl) B.tuple zR (ad (w5 rfl rfl B.zip rfl B.sorted (ad (pv 0) (ad (pv 1) ah))) ah))),?_⟩;refine⟨_,rfl,_,rfl,a,b,xs,ys,rfl,ha,hb,hl,(by lia),fun S L H1 s1 nS eS pS=>⟨S,L,rfl,.inl ⟨bh.of eS,fun l hl'=>?_⟩⟩⟩;have s2:Same H1 (L2.upd H1 l (.tup L)):=Same.upd hl';exact q l L _ (Same.trans s1 s2) (Same.free s1 hl') ao (si s2 (IQ pS))
def tY (T:LA)(j:Nat):LF:=T.map fun r=>(r[j]?).getD 0
def nP (T:LA)(i:Nat):LF:=T[i]?.getD []
def xh (us:LF)(M T:LA)(u v:Nat):KM:=⟨ent T u v,decide (u=v),ent M u v,us[u]?.getD 0,us[v]?.getD 0,ent T v u,Aj (nP T u) (tY T v)⟩
def sW (us:LF)(M T:LA)(u m:Nat):List KM:=(List.range m).map (xh us M T u)
def q8 (us:LF)(M T:LA)(n m:Nat):List KM:=(List.range m).flatMap fun u=>sW us M T u n
def jw (us:LF)(M T:LA):List KM:=q8 us M T us.length us.length
theorem DY (us:LF)(M T:LA)(u m:Nat):sW us M T u (m+1)=sW us M T u m++[xh us M T u m]:=by
 unfold sW;rw[gn,aM]
 rfl
theorem qm (us:LF)(M T:LA)(n m:Nat):q8 us M T n (m+1)=q8 us M T n m++sW us M T m n:=by
 unfold q8;rw[gn,List.flatMap_append];simp
theorem yF (us:LF)(M T:LA)(u m:Nat):(sW us M T u m).length=m:=by
 unfold sW;rw[aa,b9]
theorem sZ (us:LF)(M T:LA)(n:Nat):∀ m,(q8 us M T n m).length=m * n
 | 0=>by simp[q8]
 | m+1=>by rw[qm,ai,sZ us M T n m,yF,ik]
theorem tI (us:LF)(M T:LA):(jw us M T).length=us.length * us.length:=sZ us M T _ _
def iD (n:Nat)(T:LA):Prop:=T.length=n∧∀ r ∈ T,r.length=n
theorem iD.row {n:Nat}(h:iD n T)(hi:i < n):T[i]? = some (nP T i)∧(nP T i).length=n:=by
 obtain⟨r,hr⟩:=bW (l:=T) (i:=i) (by rw[h.1]; exact hi);unfold nP;rw[hr];exact⟨rfl,h.2 r (ae hr)⟩
theorem iD.ent {n:Nat}(h:iD n T)(hi:i < n)(hj:j < n):(nP T i)[j]? = some (ent T i j):=by
 obtain⟨r,hr⟩:=bW (l:=nP T i) (i:=j) (by rw[(h.row hi).2]; exact hj);rw[hr];unfold My.ent;show _=some (((nP T i)[j]?).getD 0);rw[hr]
 rfl
theorem Iv (T:LA)(j:Nat):(tY T j).length=T.length:=by unfold tY; rw[aa]
theorem Oa {n:Nat}(h:iD n T):ol (gI T) n=gI ((List.range n).map (tY T)):=by
 unfold ol gI;rw[cu];refine dN fun j hj=>?_
 have hj:=dX.mp hj;show _=(tY T j).map V.int;unfold tY;rw[cu,cu];refine dN fun r hr=>?_
 obtain⟨z,hz⟩:=bW (l:=r) (i:=j) (by rw[h.2 r hr]; exact hj);show ((r.map V.int)[j]?).getD .non=V.int ((r[j]?).getD 0);rw[aq,hz]
 rfl
def fY (H:Hp)(ys:LG)(ks:List KM):Prop:=ys.length=ks.length∧∀ (j:Nat) (y:V) (k:KM),ys[j]? = some y→ks[j]? = some k→rc H y k
theorem fY.same (h:fY H ys ks)(s:Same H H'):fY H' ys ks:=⟨h.1,fun j y k h1 h2=>vG s (h.2 j y k h1 h2)⟩
theorem fY.nil:fY H [] []:=⟨rfl,fun j y k h=>by simp at h⟩
theorem fY.snoc {y:V}{k:KM}(h:fY H ys ks)(hk:rc H y k):fY H (ys++[y]) (ks++[k]):=by
 refine⟨by rw[ai,ai,h.1]; rfl,fun j y' k' h1 h2=>?_⟩;rcases dg h1 with z | ⟨e,z⟩
 ·rcases dg h2 with z2 | ⟨e2,_⟩
  ·exact h.2 j y' k' z z2
  ·have:=cq z
   rw[h.1] at this
   lia
 ·rcases dg h2 with z2 | ⟨_,z2⟩
  ·have:=cq z2
   rw[←h.1] at this
   lia
  ·rw[z,z2]
   exact hk
theorem fY.app {ys':LG}(h:fY H ys ks)(h':fY H ys' ks'):fY H (ys++ys') (ks++ks'):=by
 refine⟨by rw[ai,ai,h.1,h'.1],fun j y k h1 h2=>?_⟩
 by_cases hj:j < ys.length
 ·rw[be hj] at h1
  rw[be (by rw[←h.1]; exact hj)] at h2;exact h.2 j y k h1 h2
 ·rw[aV (by lia)] at h1
  rw[aV (by rw[←h.1]; lia),←h.1] at h2;exact h'.2 _ y k h1 h2
theorem HJ {l:LG}{y:V}{k:KM}(e:H D=some (.lst l))(h:rc H y k):rc (upd H D (.lst l')) y k:=by
 obtain⟨a,ea,q,vs,h1,h2,h3,h4⟩:=h;have ne:∀ {b:Addr} {xs:LG},H b=some (.tup xs)→b≠D:=fun h z=>by subst z; rw[e] at h; cases h
 refine⟨a,ea,q,vs,by rw[aO (ne h1)]; exact h1,by rw[aO (ne h2)]; exact h2,h3,fun i v k' e1 e2=>?_⟩;obtain⟨c,ec,hc⟩:=h4 i v k' e1 e2;exact⟨c,ec,by rw[aO (ne hc)]; exact hc⟩
theorem fY.upd {l:LG}(e:H D=some (.lst l))(h:fY H ys ks):fY (L2.upd H D (.lst l')) ys ks:=⟨h.1,fun j y k h1 h2=>HJ e (h.2 j y k h1 h2)⟩
structure Fc (K:LM)(H:Hp)(v:V)(n:Nat)(W:List Int × LA):Prop where
 wb:K3 K H v W.1 W.2
 len:W.1.length=n
 sq:iD n W.2
theorem Fc.same {n:Nat}{W:List Int × LA}(h:Fc K H v n W)(s:Same H H'):Fc K H' v n W:=⟨h.wb.same s,h.len,h.sq⟩
inductive uN (K:LM)(vs:LG)(H:Hp)(Q:VK):Prop | mk (v:V) (a:Addr) (n:Nat) (W:List Int × LA) (T:LA) (_:vs=[v,.ref a]) (_:Fc K H v n W) (_:eI H a (gI T)) (_:iD n T) (_:n≤8) (_:∀ (D:Addr) (ys:LG) (H':Hp),Same H H'→H D=none→H' D=some (.lst ys)→fY H' ys (jw W.1 W.2 T)→Q (.ref D) H'):uN K vs H Q
def BH (K:LM):Sp:=fun vs H Q _=>uN K vs H Q
abbrev Nj:LK:=["web","kinds","hues","columns","marks","u","row","v","column","turned_kind"]
theorem jG:bJ Nj ["web","kinds"] (aB wN):=by constructor<;>first|rfl|decide +kernel
theorem tV (R:xJ H rs (gI M)){n:Nat}(h:iD n M)(hi:i < n):∃ r,rs[i]? = some r∧H r=some (.lst ((nP M i).map V.int)):=by
 obtain⟨r,hr⟩:=bW (l:=rs) (i:=i) (by rw[R.len,dJ,h.1]; exact hi);exact⟨r,hr,R.row i r _ hr (jb (h.row hi).1)⟩
theorem ji {n:Nat}(h:iD n T)(hi:i < n)(hj:j < n):lF ((nP T i).map V.int) (j:Int)=some (.int (ent T i j)):=cX (by rw[aq,h.ent hi hj]; rfl)
theorem PF {n:Nat}(h:iD n T):∀ x ∈ gI T,x.length=n:=by
 intro x hx;obtain⟨r,hr,rfl⟩:=bg.mp hx;rw[aa];exact h.2 r hr
theorem Hj (B:xK mg)(F:Fun K "marks_of_pairs" "marks_of_pairs" wN f fd)(DC:Dn K mg "columns_of" qM ["rows"] fC fdC)(GC:bK P w K mg base cI 2 fC fdC ["rows"] wy)(DW:Dn K mg "ways_between" BY ["row","column"] fW fdW)(GW:bK P w K mg base cI 1 fW fdW ["row","column"] (FH K)):bK P w K mg base cI 3 f fd ["web","kinds"] (BH K):=by
 refine F.o jG fun cdv A outer s H vs Q E hr h=>?_
 ·obtain⟨v,a,n,⟨us,M⟩,T,rfl,hW,hT,hS,hn,q⟩:=h
  obtain⟨⟨p,hA,rA,rs,rfl,hp,hh,hR,lR,hrow⟩,lu,sM⟩:=hW;obtain⟨ts,ha,GT⟩:=hT;have lu':us.length=n:=lu;have sM':iD n M:=sM;refine⟨_,am (d7 2 jG.nd (aG bM (pv 0) aj))
   (am (d7 3 jG.nd (bw DC GC hr rfl (ad (pv 1) ah)))
   (am (d7 4 jG.nd (cC ah))
   (am (di PassesOwn.never rfl (rO rfl B.enum (ad (pv 1) ah)) (gp rfl (bY (iK 5 jG.nd) (bY (iK 6 jG.nd) eJ)))
    (ar (di PassesOwn.never rfl (rO rfl B.enum (ad (pv 3) ah)) (gp rfl (bY (iK 7 jG.nd) (bY (iK 8 jG.nd) eJ)))
     (am (d7 9 jG.nd (aG aJ (aG aJ (pv 1) (pv 7)) (pv 5)))
     (ar (fg (i0 bp bO bN dk (pv 4)
      (ad (dc (ad (aG aJ (pv 6) (pv 7)) (ad (fh cE (pv 5) (pv 7) (bG _)) (ad (aG aJ (aG aJ (aG bM (pv 0) aj) (pv 5)) (pv 7))
       (ad (aG aJ (pv 2) (pv 5)) (ad (aG aJ (pv 2) (pv 7)) (ad (pv 9) (ad (bw DW GW (hr.mono (by decide)) rfl (ad (pv 6) (ad (pv 8) ah))) ah)))))))) ah))))))))
   (ar (bt (pv 4)))))),?_⟩
  show let ω1:TS:=_;let ω2:TS:=_;let ω3:TS:=bL _ ω2;let ω4:TS:=(ig _ _ ω3);let ω5:TS:=bL (ig _ _ ω4) ω1;let ω6:TS:=bL _ ω5;let ω7:TS:=bL _ ω6;bL _ ω7 _ _ _;intro ω1 ω2 ω3 ω4 ω5 ω6 ω7;refine⟨_,rfl,p,_,_,_,rfl,rfl,hp,rfl,?_⟩;refine⟨_,rfl,a,gI T,n,rfl,⟨ts,ha,GT⟩,by rw[dJ,hS.1]; lia,by lia,PF hS,fun z=>by rw[←hS.1,←dJ,z]; rfl,fun C H1 s1 nC gC=>?_⟩;rw[Oa hS] at gC;obtain⟨cs,eC,GC1⟩:=gC;have lC:cs.length=n:=by rw[GC1.len,dJ,aa,b9]
  refine⟨aZ _,fun D hD=>?_⟩;have s2:Same H (L2.upd H1 D (.lst [])):=s1.trans (Same.upd hD);have e2:L2.upd H1 D (.lst []) D=some (.lst []):=ao;have s12:Same H1 (L2.upd H1 D (.lst [])):=Same.upd hD;have nD:H D=none:=s1.free hD;generalize L2.upd H1 D (.lst [])=H2 at s2 e2 s12 ⊢;have lts:(ts.map V.ref).length=n:=by rw[aa,GT.len,dJ,hS.1]
  let π1:LP:=fun i σ H'=>∃ (o5 o6 o7 o8 o9:LS) (ys:LG),σ=[some (.ref p),some (.ref a),some (.ref hA),some (.ref C),some (.ref D),o5,o6,o7,o8,o9]∧Same H H'∧(∀ b o,H1 b=some o→H' b=some o)∧H' D=some (.lst ys)∧fY H' ys (q8 us M T n i)
  refine⟨_,rfl,a,rfl,⟨_,bh.of (s2 _ _ ha)⟩,pH (K:=K) (xs:=ts.map V.ref) π1 ?_ ?_ ?_ ?_⟩
  ·exact⟨none,none,none,none,none,[],rfl,s2,s12,e2,.nil⟩
  ·rintro i σ H' _ ⟨o5,o6,o7,o8,o9,ys,rfl,s3,_⟩
   exact bh.of (s3 _ _ ha)
  ·rintro u x t σ H3 hx ⟨o5,o6,o7,o8,o9,ys,rfl,s3,s13,eD,kD⟩ ht
   obtain⟨r,hr',rfl⟩:=bI hx;have hu:u < n:=by rw[←lts]; exact cq hx
   obtain⟨r1,hr1,er⟩:=tV GT hS hu;rw[hr'] at hr1;cases hr1;refine⟨t,_,rfl,dy.of ao,rfl,_,_,rfl,_,_,rfl,rfl,?_⟩;have s4:Same H3 (L2.upd H3 t (.tup [.int (u:Int),.ref r])):=Same.upd ht;generalize L2.upd H3 t (.tup [.int (u:Int),.ref r])=H4 at s4 ⊢;have lcs:(cs.map V.ref).length=n:=by rw[aa,lC]
   let π2:LP:=fun j σ H'=>∃ (o7 o8 o9:LS) (ys:LG),σ=[some (.ref p),some (.ref a),some (.ref hA),some (.ref C),some (.ref D),some (.int (u:Int)),some (.ref r),o7,o8,o9]∧Same H H'∧(∀ b o,H1 b=some o→H' b=some o)∧H' D=some (.lst ys)∧fY H' ys (q8 us M T n u++sW us M T u j)
   refine⟨_,rfl,C,rfl,⟨_,bh.of (s4 _ _ (s13 _ _ eC))⟩,pH (K:=K) (xs:=cs.map V.ref) π2 ?_ ?_ ?_ ?_⟩
   ·refine⟨_,_,_,ys,rfl,s3.trans s4,fun b o e=>s4 _ _ (s13 _ _ e),s4 _ _ eD,?_⟩
    show fY H4 ys (_++[]);rw[fe];exact kD.same s4
   ·rintro j σ H' _ ⟨o7,o8,o9,ys,rfl,_,s5,_⟩
    exact bh.of (s5 _ _ eC)
   ·rintro j x t2 σ H5 hx ⟨o7,o8,o9,ys,rfl,s5,s15,eD5,kD5⟩ ht2
    obtain⟨c,hc,rfl⟩:=bI hx;have hj:j < n:=by rw[←lcs]; exact cq hx
    refine⟨t2,_,rfl,dy.of ao,rfl,_,_,rfl,_,_,rfl,rfl,?_⟩;have s6:Same H5 (L2.upd H5 t2 (.tup [.int (j:Int),.ref c])):=Same.upd ht2;generalize L2.upd H5 t2 (.tup [.int (j:Int),.ref c])=H6 at s6 ⊢;have t6:Same H H6:=s5.trans s6;have t16:∀ b o,H1 b=some o→H6 b=some o:=fun b o e=>s6 _ _ (s15 _ _ e)
    have eD6:=s6 _ _ eD5;have kD6:=kD5.same s6;obtain⟨r2,hr2,er2⟩:=tV GT hS hj;obtain⟨m,hm⟩:=bW (l:=rs) (i:=u) (by rw[lR,sM'.1]; exact hu);have em:=hrow u m _ hm (sM'.row hu).1;have ec:H1 c=some (.lst ((tY T j).map V.int)):=by
     refine GC1.row j c _ hc (jb ?_);rw[aq,cD hj]
     rfl
    obtain⟨hU,ehU⟩:=bW (l:=us) (i:=u) (by rw[lu']; exact hu);obtain⟨hV,ehV⟩:=bW (l:=us) (i:=j) (by rw[lu']; exact hj);refine⟨_,rfl,_,rfl,a,_,_,_,rfl,rfl,bh.of (t6 _ _ ha),fJ hr2,_,rfl,r2,_,_,_,rfl,rfl,bh.of (t6 _ _ er2),ji hS hj hu,?_⟩;refine⟨_,rfl,.inl ⟨rfl,_,bh.of eD6⟩,?_⟩;refine⟨_,rfl,_,rfl,r,_,_,_,rfl,rfl,bh.of (t6 _ _ er),ji hS hu hj,?_⟩;refine⟨_,rfl,_,rfl,rfl,?_⟩;refine⟨_,rfl,p,_,_,_,rfl,rfl,t6.seqT hp,rfl,_,rfl,rA,_,_,_,rfl,rfl,t6.seq hR,fJ hm,_,rfl,m,_,_,_,rfl,rfl,t6.seq em,ji sM' hu hj,?_⟩;refine⟨_,rfl,_,rfl,hA,_,_,_,rfl,rfl,t6.seq hh,cX (by rw[aq,ehU]; rfl),?_⟩;refine⟨_,rfl,_,rfl,hA,_,_,_,rfl,rfl,t6.seq hh,cX (by rw[aq,ehV]; rfl),?_⟩;refine⟨_,rfl,_,rfl,_,rfl,r,c,nP T u,tY T j,rfl,bh.of (t6 _ _ er),bh.of (t16 _ _ ec),by rw[Iv,hS.1,(hS.row hu).2],by rw[(hS.row hu).2]; exact hn,fun wp wL H7 s7 nw ew kw=>?_⟩;refine⟨(by show 7≤sizeLine; decide),fun tm htm=>?_⟩;rw[pM];have s8:Same H7 (L2.upd H7 tm (.tup [.int (ent T u j),.bl (decide (u=j)),.int (ent M u j),.int hU,.int hV,.int (ent T j u),.ref wp])):=Same.upd htm;have e8:L2.upd H7 tm (.tup [.int (ent T u j),.bl (decide (u=j)),.int (ent M u j),.int hU,.int hV,.int (ent T j u),.ref wp]) tm=some (.tup [.int (ent T u j),.bl (decide (u=j)),.int (ent M u j),.int hU,.int hV,.int (ent T j u),.ref wp]):=ao;generalize L2.upd H7 tm (.tup [.int (ent T u j),.bl (decide (u=j)),.int (ent M u j),.int hU,.int hV,.int (ent T j u),.ref wp])=H8 at s8 e8 ⊢;have key:rc H8 (.ref tm) (xh us M T u j):=by
     refine⟨tm,rfl,wp,wL,?_,s8 _ _ ew,si s8 kw⟩;show H8 tm=some (.tup [.int (ent T u j),.bl (decide (u=j)),.int (ent M u j),.int (us[u]?.getD 0),.int (us[j]?.getD 0),.int (ent T j u),.ref wp]);rw[ehU,ehV];exact e8
    have eD8:=s8 _ _ (s7 _ _ eD6);have kD8:=((kD6.same s7).same s8).snoc key;have ly:ys.length≤900:=by
     rw[kD5.1,ai,sZ,yF]
     have:u * n≤8 * 8:=bP (by lia) hn
     lia
    refine⟨D,_,_,rfl,rfl,eD8,bo (by lia),?_⟩;refine⟨_,_,_,ys++[.ref tm],rfl,fun b o e=>?_,fun b o e=>?_,ao,?_⟩
    ·rw[aO (aU e nD)]
     exact s8 _ _ (s7 _ _ (t6 _ _ e))
    ·rw[aO (aU e hD)]
     exact s8 _ _ (s7 _ _ (t16 _ _ e))
    ·rw[DY,←oN]
     exact kD8.upd eD8
   ·rintro σ H5 ⟨o7,o8,o9,ys,rfl,s5,s15,eD5,kD5⟩
    rw[lcs,←qm] at kD5;exact⟨_,_,_,_,_,ys,rfl,s5,s15,eD5,kD5⟩
  ·rintro σ H3 ⟨o5,o6,o7,o8,o9,ys,rfl,s3,s13,eD,kD⟩
   rw[lts] at kD;refine⟨_,rfl,q D ys H3 s3 nD eD ?_⟩;show fY H3 ys (q8 us M T us.length us.length);rw[lu'];exact kD
abbrev d9:=List Int × LA
def xE (K:LM)(H:Hp)(a:Addr)(Ws:List d9):Prop:=∃ vs:LG,H a=some (.lst vs)∧vs.length=Ws.length∧∀ (i:Nat) (v:V) (W:d9),vs[i]? = some v→Ws[i]? = some W→Fc K H v W.1.length W
theorem xE.same {Ws:List d9}(h:xE K H a Ws)(s:Same H H'):xE K H' a Ws:=by
 obtain⟨vs,h1,h2,h3⟩:=h;exact⟨vs,s _ _ h1,h2,fun i v W e1 e2=>(h3 i v W e1 e2).same s⟩
def zX (H:Hp)(b:Addr)(Ts:List (LA)):Prop:=∃ ts:LI,H b=some (.lst (ts.map V.ref))∧ts.length=Ts.length∧∀ (i:Nat) (t:Addr) (T:LA),ts[i]? = some t→Ts[i]? = some T→eI H t (gI T)
theorem zX.same {b:Addr}(h:zX H b Ts)(s:Same H H'):zX H' b Ts:=by
 obtain⟨ts,h1,h2,h3⟩:=h;exact⟨ts,s _ _ h1,h2,fun i t T e1 e2=>(h3 i t T e1 e2).mono s⟩
def uq (H:Hp)(t t':Addr):Prop:=∃ rs rs':LI,H t=some (.lst (rs.map V.ref))∧H t'=some (.lst (rs'.map V.ref))∧t≠t'∧t ∉ rs'∧∀ r ∈ rs,r≠t'∧r ∉ rs'
theorem uq.keep {t:Addr}(h:uq H t t')(a:∀ o,H t=some o→H' t=some o)(b:∀ o,H t'=some o→H' t'=some o):uq H' t t':=by
 obtain⟨rs,rs',h1,h2,h3⟩:=h;exact⟨rs,rs',a _ h1,b _ h2,h3⟩
def Bs (H:Hp)(ts:LI):Prop:=∀ (j k:Nat) (t t':Addr),j < k→ts[j]? = some t→ts[k]? = some t'→uq H t t'
def Of (H0 H:Hp)(b:Addr)(Ts:List (LA)):Prop:=H0 b=none∧∃ ts:LI,H b=some (.lst (ts.map V.ref))∧ts.length=Ts.length∧(∀ (i:Nat) (t:Addr) (T:LA),ts[i]? = some t→Ts[i]? = some T→mz H0 H t (gI T))∧Bs H ts
theorem Of.at {b:Addr}(h:Of H0 H b Ts):zX H b Ts:=by
 obtain⟨_,ts,h1,h2,h3,_⟩:=h;exact⟨ts,h1,h2,fun i t T e1 e2=>(h3 i t T e1 e2).at⟩
theorem Of.back {b:Addr}(h:Of H1 H b Ts)(s:Same H0 H1):Of H0 H b Ts:=by
 obtain⟨a,ts,h1,h2,h3,h4⟩:=h;exact⟨s.free a,ts,h1,h2,fun i t T e1 e2=>(h3 i t T e1 e2).back s,h4⟩
def cM (Ts:List (LA)):LF:=(Ts.map List.flatten).flatten
theorem nA (T:LA):(gI T).flatten=T.flatten.map V.int:=by
 unfold gI;rw[List.map_flatten]
theorem zT (Ts:List (LA)):(Ts.map fun T=>(gI T).flatten).flatten=(cM Ts).map V.int:=by
 unfold cM;rw[List.map_flatten,cu]
 congr 1
 exact dN fun T _=>nA T
theorem Ic {α:Type}{X:List (List α)}{x:List α}(h:x ∈ X):x.length≤X.flatten.length:=by
 induction X with
 | nil=>cases h
 | cons y X ih =>
  rw[bV,ai];rcases aQ.mp h with e | e
  ·rw[e]; lia
  ·have:=ih e; lia
inductive yo (vs:LG)(H:Hp)(Q:VK):Prop | mk (b:Addr) (Ts:List (LA)) (_:vs=[.ref b]) (_:zX H b Ts) (_:Ts.length≤900) (_:(cM Ts).length≤900) (_:∀ D H',Same H H'→H D=none→H' D=some (.lst ((cM Ts).map V.int))→Q (.ref D) H'):yo vs H Q
def FU:Sp:=fun vs H Q _=>yo vs H Q
theorem ML:bJ ["tables"] ["tables"] (aB jK):=by constructor<;>first|rfl|decide +kernel
theorem NG:cw (aB jK) ["tables"] (cz (pV (dq (cT jK 0)) 0)) ["kinds"]:=by constructor<;>first|rfl|decide +kernel
theorem JV (F:Fun K "kinds_in_all" "kinds_in_all" jK f fd)(DI:Dn K mg "in_one_list" lQ ["rows"] fI fdI)(GI:bK P w K mg base cI 1 fI fdI ["rows"] lJ):bK P w K mg base cI 2 f fd ["tables"] FU:=by
 refine F.o ML fun cdv A outer s H vs Q E hr h=>?_
 ·obtain⟨b,Ts,rfl,⟨ts,hb,lt,hT⟩,hl,hk,q⟩:=h
  refine⟨_,ar (bt (bw DI GI hr rfl (ad (gE rfl NG rfl (cU (pv 0)) fun _ _ _=>bw DI GI hr rfl (ad (pv 1) ah)) ah))),?_⟩;refine⟨_,rfl,b,rfl,⟨_,bh.of hb⟩,fun D hD=>?_⟩;have lX:(Ts.map fun T=>(gI T).flatten).length=(ts.map V.ref).length:=by rw[aa,aa,lt]
  refine mh (xs:=ts.map V.ref) (lB H D (Ts.map fun T=>(gI T).flatten)) (lB.start hD) (fun i ys H' _ ⟨_,_,_,s',eD,_⟩=>⟨bh.of (s' _ _ hb),eD⟩) ?_ ?_ ?_
  ·rintro i x ys H' hx g
   obtain⟨t,ht,rfl⟩:=bI hx;obtain⟨T,hT'⟩:=bW (l:=Ts) (i:=i) (by rw[←lt]; exact cq ht);have s':Same H H':=let ⟨_,_,_,z,_⟩:=g; z;have hi:i < ts.length:=cq ht;have lf:(gI T).flatten.length≤900:=by
    rw[nA,aa];exact aE (Ic (List.mem_map_of_mem (ae hT'))) hk
   refine⟨_,rfl,t,gI T,rfl,(hT i t T ht hT').mono s',lf,fun p H3 s3 np ep=>?_⟩;exact g.step hD (by rw[aq,hT']; rfl) ⟨p,rfl,ep,np⟩ s3 (by lia)
  ·intro ys H' g
   obtain⟨s',gg⟩:=lB.done (X:=Ts.map fun T=>(gI T).flatten) (by rw[lX]; exact g);refine⟨D,_,rfl,gg,by rw[zT,aa]; exact hk,fun D' H2 s2 n2 e2=>q D' H2 (s'.trans s2) (s'.free n2) ?_⟩;rw[e2,zT]
  ·rintro σ H' Q1 Q2 hq ⟨v,e,p,X,e1,e2,e3,g⟩
   exact⟨v,e,p,X,e1,e2,e3,fun D H3 s3 n3 e4=>hq _ _ (g D H3 s3 n3 e4)⟩
theorem Kr {b:Addr}{Q:VK}{n:Nat}(Pv:Addr→Nat→List V→Hp→Prop)(hn:σ.length=n)(hly:ys.length=xs.length)(h0:∀ D,H1 D=none→Pv D 0 [] (upd H1 D (.lst [])))(hl:∀ D i zs H',H1 D=none→i≤xs.length→Pv D i zs H'→bh K H' a xs∧bh K H' b ys∧H' D=some (.lst zs))(hs:∀ (D:Addr) (i:Nat) (x y:V) (t:Addr) zs H',H1 D=none→xs[i]? = some x→ys[i]? = some y→Pv D i zs H'→H' t=none→te (σ++[some x,some y]) (upd H' t (.tup [x,y])) fun u H3=>H3 D=some (.lst zs)∧zs.length < sizeLine∧Pv D (i+1) (zs++[u]) (upd H3 D (.lst (zs++[u]))))(hd:∀ D zs H',H1 D=none→Pv D xs.length zs H'→Q (.ref D) H')(mono:∀ σ H Q Q',(∀ v H1,Q v H1→Q' v H1)→te σ H Q→te σ H Q'):Ow 2 (Om K a b) (g2 K n) An te σ H1 Q:=by
 subst hn;intro D hD;refine⟨fun i m zs H'=>m=xs.length - i∧i≤xs.length∧Pv D i zs H',⟨xs.length,by simp,aZ _,h0 D hD⟩,?_⟩;rintro i m zs H2 ⟨rfl,hi,pv⟩;obtain⟨hx,hy,eD⟩:=hl D i zs H2 hD hi pv;refine⟨eD,?_⟩
 by_cases hlt:i < xs.length
 ·have ex:xs[i]? = some xs[i]:=ax (by lia)
  have ey:ys[i]? = some (ys[i]'(by lia)):=ax (by lia);refine .inr ⟨⟨xs,ys,_,_,hx,hy,ex,ey⟩,?_⟩;rintro z H3 ⟨t,x,y,rfl,ht,rfl,hx',hy'⟩ os los;have hx1:=hx' xs hx;have hy1:=hy' ys hy
  match os,los with
  | [o1,o2],_ =>
   refine⟨t,[x,y],rfl,dy.of ao,rfl,x,[y],rfl,y,[],rfl,rfl,⟨[some x,some y],Jg σ o1 o2 x y,rfl⟩,?_⟩
   dsimp only[An]
   rw[if_pos rfl,Jg σ o1 o2 x y];refine mono _ _ _ _ ?_ (hs D i x y t zs H2 hD hx1 hy1 pv ht);rintro u H5 ⟨e5,z5,p5⟩;exact⟨e5,z5,xs.length - (i+1),by lia,rfl,hlt,p5⟩
 ·have:i=xs.length:=by lia
  subst this;exact .inl ⟨⟨xs,ys,hx,hy,.inl (by lia)⟩,hd D zs H2 hD pv⟩
def dh (Ws:List d9)(Ts:List (LA)):List KM:=(List.zipWith (fun W T=>jw W.1 W.2 T) Ws Ts).flatten
def Rc (Ws:List d9)(Ts:List (LA)):Prop:=Ts.length=Ws.length∧Ws.length≤8∧∀ (i:Nat) (W:d9) (T:LA),Ws[i]? = some W→Ts[i]? = some T→W.1.length≤8∧iD W.1.length T
theorem qO:∀ (Ws:List d9) (Ts:List (LA)),(∀ (i:Nat) (W:d9) (T:LA),Ws[i]? = some W→Ts[i]? = some T→W.1.length≤8)→(dh Ws Ts).length≤64 * Ws.length
 | [],_,_=>by simp[dh]
 | _ :: _,[],_=>by simp[dh]
 | W :: Ws,T :: Ts,h=>by
  have ih:=qO Ws Ts fun i W' T' h1 h2=>h (i+1) W' T' h1 h2
  have h0:=h 0 W T rfl rfl;have e:dh (W :: Ws) (T :: Ts)=jw W.1 W.2 T++dh Ws Ts:=rfl
  have:W.1.length * W.1.length≤8 * 8:=bP h0 h0
  rw[e,ai,tI,bq]
  lia
def Q9 (H1:Hp)(D:Addr)(ms:List (List KM))(i:Nat)(zs:LG)(H':Hp):Prop:=∃ (rs:LI) (X:LB),zs=rs.map V.ref∧rs.length=i∧X.length=i∧Same H1 H'∧H' D=some (.lst zs)∧(∀ r ∈ rs,r≠D) ∧
 (∀ (j:Nat) (r:Addr) (x:LG),rs[j]? = some r→X[j]? = some x→H' r=some (.lst x))∧∀ (j:Nat) (x:LG) (k:List KM),X[j]? = some x→ms[j]? = some k→fY H' x k
theorem vE:∀ {X:LB} {ms:List (List KM)},X.length=ms.length→(∀ (j:Nat) (x:LG) (k:List KM),X[j]? = some x→ms[j]? = some k→fY H x k)→fY H X.flatten ms.flatten
 | [],[],_,_=>.nil
 | [],_ :: _,h,_=>by simp at h
 | _ :: _,[],h,_=>by simp at h
 | x :: X,k :: ms,h,hk=>by
  rw[bV,bV];exact (hk 0 x k rfl rfl).app (vE (by simpa using h) fun j x' k' h1 h2=>hk (j+1) x' k' h1 h2)
inductive sB (K:LM)(vs:LG)(H:Hp)(Q:VK):Prop | mk (a b:Addr) (Ws:List d9) (Ts:List (LA)) (_:vs=[.ref a,.ref b]) (_:xE K H a Ws) (_:zX H b Ts) (_:Rc Ws Ts) (_:∀ D H',Same H H'→H D=none→H' D=some (.lst ((jZ (dh Ws Ts)).map fun (n:Nat)=>V.int (n:Int)))→Q (.ref D) H'):sB K vs H Q
def sD (K:LM):Sp:=fun vs H Q _=>sB K vs H Q
abbrev Ck:LK:=["webs","tables","marks"]
theorem yD:bJ Ck ["webs","tables"] (aB lO):=by constructor<;>first|rfl|decide +kernel
theorem ze:cw (aB lO) Ck (cz (dq (cT lO 0))) ["web","kinds"]:=by constructor<;>first|rfl|decide +kernel
theorem Ei (B:xK mg)(F:Fun K "split_kinds" "split_kinds" lO f fd)(DM:Dn K mg "marks_of_pairs" wN ["web","kinds"] fM fdM)(GM:bK P w K mg base cI 3 fM fdM ["web","kinds"] (BH K))(DI:Dn K mg "in_one_list" lQ ["rows"] fI fdI)(GI:bK P w K mg base cI 1 fI fdI ["rows"] lJ)(DN:Dn K mg "numbered" i8 ["marks"] fN fdN)(GN:bK P w K mg base cI 1 fN fdN ["marks"] (yf K rc)):bK P w K mg base cI 4 f fd ["webs","tables"] (sD K):=by
 refine F.o yD fun cdv A outer s H vs Q E hr h=>?_
 ·obtain⟨a,b,Ws,Ts,rfl,⟨vs,ha,lv,hW⟩,⟨ts,hb,lt,hT⟩,⟨lT,l8,fit⟩,q⟩:=h
  refine⟨_,am (ql (i:=2) yD.nd rfl (Or.inl rfl) rfl ze rfl (oC rfl B.zip (ad (pv 0) (ad (pv 1) ah))) (wZ rfl ze) (fun _ _ _=>pe) fun _ _ _=>bw DM GM hr rfl (ad (pv 3) (ad (pv 4) ah)))
   (ar (bt (bw DN GN (hr.mono (by decide)) rfl (ad (bw DI GI (hr.mono (by decide)) rfl (ad (pv 2) ah)) ah)))),?_⟩
  show let ω1:TS:=_;bL _ ω1 _ _ _;intro ω1;refine⟨_,rfl,_,rfl,a,b,rfl,⟨_,bh.of ha⟩,⟨_,bh.of hb⟩,?_⟩;have lm:(List.zipWith (fun (W:d9) T=>jw W.1 W.2 T) Ws Ts).length=Ws.length:=by rw[cg,lT,Bk]
  refine Kr (K:=K) (xs:=vs) (ys:=ts.map V.ref) (fun D i zs H'=>Q9 H D (List.zipWith (fun (W:d9) T=>jw W.1 W.2 T) Ws Ts) i zs H') rfl (by rw[aa,lt,lv,lT]) ?_ ?_ ?_ ?_ ?_
  ·intro D hD
   exact⟨[],[],rfl,rfl,rfl,Same.upd hD,ao,(fun r h=>by cases h),(fun j r x h _=>by simp at h),fun j x k h _=>by simp at h⟩
  ·rintro D i zs H' hD _ ⟨rs,X,_,_,_,s',eD,_⟩
   exact⟨bh.of (s' _ _ ha),bh.of (s' _ _ hb),eD⟩
  ·rintro D i x y t zs H' hD hx hy ⟨rs,X,rfl,lr,lX,s',eD,nD,hr',hk⟩ ht
   obtain⟨ta,hta,rfl⟩:=bI hy;obtain⟨W,hW'⟩:=bW (l:=Ws) (i:=i) (by rw[←lv]; exact cq hx);obtain⟨T,hT'⟩:=bW (l:=Ts) (i:=i) (by rw[←lt]; exact cq hta);obtain⟨f1,f2⟩:=fit i W T hW' hT';have s2:Same H' (L2.upd H' t (.tup [x,.ref ta])):=Same.upd ht;generalize L2.upd H' t (.tup [x,.ref ta])=H2 at s2 ⊢;have s02:=s'.trans s2;refine⟨_,rfl,_,rfl,x,ta,W.1.length,W,T,rfl,(hW i x W hx hW').same s02,(hT i ta T hta hT').mono s02,f2,f1,fun p ys H3 s3 np ep kp=>?_⟩;have eD3:=s3 _ _ (s2 _ _ eD);have npD:p≠D:=fun z=>by rw[z,s2 _ _ eD] at np; cases np
   have hi:i < vs.length:=cq hx;refine⟨eD3,bo (by rw[aa]; lia),rs++[p],X++[ys],by rw[aM]; rfl,by rw[ai,lr]; rfl,by rw[ai,lX]; rfl,fun b' o e=>?_,ao,fun r h=>?_,fun j r x' h1 h2=>?_,fun j x' k h1 h2=>?_⟩
   ·rw[aO (aU e hD)]
    exact s3 _ _ (s2 _ _ (s' _ _ e))
   ·rcases bu.mp h with z | z
    ·exact nD r z
    ·rw[aw.mp z]; exact npD
   ·rcases dg h1 with z | ⟨e,z⟩
    ·rw[aO (nD r (ae z))]
     rcases dg h2 with z2 | ⟨e2,_⟩
     ·exact s3 _ _ (s2 _ _ (hr' j r x' z z2))
     ·have:=cq z
      lia
    ·rcases dg h2 with z2 | ⟨_,z2⟩
     ·have:=cq z2
      lia
     ·rw[z,z2,aO npD]
      exact ep
   ·rcases dg h1 with z | ⟨e,z⟩
    ·exact (((hk j x' k z h2).same s2).same s3).upd eD3
    ·rw[e,lX,ug,hW',hT'] at h2
     cases h2;rw[z];exact kp.upd eD3
  ·rintro D zs H' hD ⟨rs,X,rfl,lr,lX,s',eD,nD,hr',hk⟩
   have kf:=vE (by rw[lX,lm,lv]) hk;have lb:=qO Ws Ts fun i W T h1 h2=>(fit i W T h1 h2).1
   have lf:X.flatten.length≤900:=by
    rw[kf.1];show (dh Ws Ts).length≤900
    lia
   refine⟨_,rfl,D,X,rfl,⟨rs,eD,by rw[lr,lX],hr'⟩,lf,fun D2 H2 s2 n2 e2=>?_⟩;have k2:=kf.same s2;refine⟨D2,X.flatten,dh Ws Ts,rfl,bh.of e2,k2.1,by lia,k2.2,fun p H3 s3 n3 e3=>?_⟩;exact q p H3 ((s'.trans s2).trans s3) ((s'.trans s2).free n3) e3
  ·rintro σ H' Q1 Q2 hq ⟨v,e,v',e',x,ta,n,W,T,e1,e2,e3,e4,e5,g⟩
   exact⟨v,e,v',e',x,ta,n,W,T,e1,e2,e3,e4,e5,fun D ys H3 s3 n3 e6 k=>hq _ _ (g D ys H3 s3 n3 e6 k)⟩
def sP (Ws:List d9)(i:Nat):Nat:=((Ws[i]?).map fun W=>W.1.length).getD 0
def h9 (Ws:List d9)(i:Nat):Nat:=((Ws.take i).map fun W=>W.1.length * W.1.length).sum
def lI (xs:LF)(n:Nat):LA:=(List.range n).map fun i=>(xs.drop (n * i)).take n
def gN (ns:LF)(Ws:List d9)(i:Nat):LA:=lI ((ns.drop (h9 Ws i)).take (sP Ws i * sP Ws i)) (sP Ws i)
def iA (ns:LF)(Ws:List d9):List (LA):=(List.range Ws.length).map (gN ns Ws)
theorem Dv (xs:LF)(n:Nat):je (xs.map V.int) n=gI (lI xs n):=by
 unfold je lI gI;rw[cu];refine dN fun i _=>?_
 show _=((xs.drop (n * i)).take n).map V.int;rw[pZ,xO]
theorem qh {xs:LF}{n:Nat}(h:xs.length=n * n):iD n (lI xs n):=by
 refine⟨by unfold lI; rw[aa,b9],fun r hr=>?_⟩;obtain⟨i,hi,rfl⟩:=bg.mp hr;have hi:=dX.mp hi;have h1:n * (i+1)≤n * n:=g9 n hi;rw[mY] at h1;rw[bB,df,h]
 lia
theorem qq {Ws:List d9}{W:d9}(h:Ws[i]? = some W):h9 Ws (i+1)=h9 Ws i+W.1.length * W.1.length:=by
 unfold h9;rw[fq h,aM,List.sum_append];simp
theorem Ci (Ws:List d9)(i:Nat):h9 Ws i≤h9 Ws Ws.length:=by
 unfold h9;rw[cF]
 have:=congrArg (fun l=>(List.map (fun (W:d9)=>W.1.length * W.1.length) l).sum) (fj i Ws)
 simp only[aM,List.sum_append] at this
 lia
theorem mM {Ws:List d9}{W:d9}(h:Ws[i]? = some W):sP Ws i=W.1.length:=by unfold sP; rw[h]; rfl
theorem wl {Ws:List d9}(hl:ns.length=h9 Ws Ws.length){W:d9}(h:Ws[i]? = some W):((ns.drop (h9 Ws i)).take (sP Ws i * sP Ws i)).length=W.1.length * W.1.length:=by
 have h1:=qq h;have h2:=Ci Ws (i+1);rw[mM h,bB,df]
 lia
theorem qf {Ws:List d9}(hl:ns.length=h9 Ws Ws.length){W:d9}(h:Ws[i]? = some W):iD W.1.length (gN ns Ws i):=by
 have:=wl hl h
 unfold gN;rw[mM h] at this ⊢;exact qh this
theorem mK (ns:LF)(Ws:List d9):(iA ns Ws).length=Ws.length:=by unfold iA; rw[aa,b9]
theorem su {Ws:List d9}(h:(iA ns Ws)[i]? = some T):i < Ws.length∧T=gN ns Ws i:=by
 have hi:i < Ws.length:=by rw[←mK ns Ws]; exact cq h
 unfold iA at h;rw[aq,cD hi] at h;exact⟨hi,(aW h).symm⟩
theorem xW {Ws:List d9}(hl:ns.length=h9 Ws Ws.length)(l8:Ws.length≤8)(h6:∀ W ∈ Ws,W.1.length≤8):Rc Ws (iA ns Ws):=by
 refine⟨mK _ _,l8,fun i W T h1 h2=>⟨h6 W (ae h1),?_⟩⟩;obtain⟨_,rfl⟩:=su h2;exact qf hl h1
inductive sF (K:LM)(vs:LG)(H:Hp)(Q:VK):Prop | mk (a b:Addr) (ns:LF) (Ws:List d9) (_:vs=[.ref a,.ref b]) (_:bh K H a (ns.map V.int)) (_:xE K H b Ws) (_:ns.length=h9 Ws Ws.length) (_:Ws.length≤8) (_:(∀ W ∈ Ws,W.1.length≤8)) (_:∀ D H',Same H H'→Of H H' D (iA ns Ws)→Q (.ref D) H'):sF K vs H Q
def yq (K:LM):Sp:=fun vs H Q _=>sF K vs H Q
abbrev Kh:LK:=["kinds","webs","tables","first","web","size"]
theorem kG:bJ Kh ["kinds","webs"] (aB rF):=by constructor<;>first|rfl|decide +kernel
theorem KY {f:Nat}(h:f+m≤xs.length):jc xs (some (f:Int)) (some ((f+m:Nat):Int))=(xs.drop f).take m:=by
 unfold jc;rw[HT.sIx_nat,HT.sIx_nat,d6 h,d6 (show f≤xs.length by lia)]
 congr 1
 lia
theorem Jr {ts:LI}(h:x.map V.int=ts.map V.ref):x=[]:=by
 cases x with
 | nil=>rfl
 | cons a x=>cases ts with
  | nil=>cases h
  | cons t ts=>cases h
theorem El (B:xK mg)(F:Fun K "in_tables" "in_tables" rF f fd)(DQ:Dn K mg "in_square" qL ["things","size"] fQ fdQ)(GQ:bK P w K mg base cI 1 fQ fdQ ["things","size"] (ww K)):bK P w K mg base cI 2 f fd ["kinds","webs"] (yq K):=by
 refine F.o kG fun cdv A outer s H vs Q E hr h=>?_
 ·obtain⟨a,b,ns,Ws,rfl,ha,⟨vs,hb,lv,hW⟩,hl,l8,h6,q⟩:=h
  refine⟨_,am (d7 2 kG.nd (cC ah))
   (am (d7 3 kG.nd aj)
   (am (di PassesOwn.never rfl (cU (pv 1)) (iK 4 kG.nd)
    (am (d7 5 kG.nd (bQ bT (by rfl) B.len bE (ad (aG bM (pv 4) aj) ah)))
    (am (fg (i0 bp bO bN dk (pv 2)
     (ad (bw DQ GQ hr rfl (ad (jP nj (pv 0) (jh (pv 3)) (jh (aY dZ (pv 3) (aY dY (pv 5) (pv 5))))) (ad (pv 5) ah))) ah)))
    (ar (MY (i:=3) kG.nd rfl (Or.inl rfl) (aY dY (pv 5) (pv 5)) NS)))))
   (ar (bt (pv 2))))),?_⟩
  show let ω1:TS:=_;let ω2:TS:=_;let ω3:TS:=bL _ ω2;let ω4:TS:=bL _ ω3;let ω5:TS:=bL (ig _ _ ω4) ω1;let ω6:TS:=bL _ ω5;bL _ ω6 _ _ _;intro ω1 ω2 ω3 ω4 ω5 ω6;refine⟨aZ _,fun D hD=>?_⟩
  let π1:LP:=fun i σ H'=>∃ (o4 o5:LS) (ts:LI),σ=[some (.ref a),some (.ref b),some (.ref D),some (.int (h9 Ws i:Int)),o4,o5]∧Same H H'∧H' D=some (.lst (ts.map V.ref))∧ts.length=i∧(∀ (j:Nat) (t:Addr),ts[j]? = some t→t≠D∧∃ rs,H' t=some (.lst (rs.map V.ref))∧xJ H' rs (gI (gN ns Ws j))∧(∀ r ∈ rs,r≠D)∧H t=none∧rs.Nodup∧∀ r ∈ rs,r≠t∧H r=none)∧Bs H' ts
  refine⟨_,rfl,b,rfl,⟨_,bh.of (Same.upd hD _ _ hb)⟩,gZ (K:=K) (xs:=vs) π1 ?_ ?_ ?_ ?_⟩
  ·exact⟨none,none,[],rfl,Same.upd hD,ao,rfl,(fun j t h=>by simp at h),fun j k t t' _ h=>by simp at h⟩
  ·rintro i σ H' _ ⟨o4,o5,ts,rfl,s',_⟩
   exact bh.of (s' _ _ hb)
  ·rintro i x σ H1 hx ⟨o4,o5,ts,rfl,s1,eD,lt,hT,hAp⟩
   obtain⟨W,hW'⟩:=bW (l:=Ws) (i:=i) (by rw[←lv]; exact cq hx);have hi:i < vs.length:=cq hx;obtain⟨⟨p,hA,rA,rs,rfl,hp,hh,hR,lR,hrow⟩,_,_⟩:=hW i x W hx hW';have hn6:=h6 W (ae hW');have o1:=qq hW';have o2:=Ci Ws (i+1);refine⟨_,rfl,p,_,_,_,rfl,rfl,s1.seqT hp,rfl,hA,_,rfl,.inl (s1.seq hh),?_⟩;rw[aa];refine⟨_,rfl,.inl ⟨rfl,_,bh.of eD⟩,?_⟩;have en:(W.1.length:Int) * (W.1.length:Int)=((W.1.length * W.1.length:Nat):Int):=by push_cast; rfl
   refine⟨_,rfl,_,rfl,_,rfl,_,rfl,_,rfl,_,rfl,_,_,rfl,rfl,fi (by lia) (by lia),_,_,rfl,rfl,?_⟩;refine⟨_,rfl,a,_,rfl,s1.seq ha,fun c hc=>?_⟩;have ec:jc (ns.map V.int) (some (h9 Ws i:Int)) (some ((h9 Ws i:Int)+(W.1.length:Int) * (W.1.length:Int)))=((ns.drop (h9 Ws i)).take (W.1.length * W.1.length)).map V.int:=by
    rw[en,←Int.natCast_add,KY (by rw[aa]; lia),pZ,xO]
   rw[ec];have s2:Same H1 (L2.upd H1 c (.lst (((ns.drop (h9 Ws i)).take (W.1.length * W.1.length)).map V.int))):=Same.upd hc;have e2:L2.upd H1 c (.lst (((ns.drop (h9 Ws i)).take (W.1.length * W.1.length)).map V.int)) c=some (.lst (((ns.drop (h9 Ws i)).take (W.1.length * W.1.length)).map V.int)):=ao;generalize L2.upd H1 c (.lst (((ns.drop (h9 Ws i)).take (W.1.length * W.1.length)).map V.int))=H2 at s2 e2 ⊢;have tl:=wl hl hW';rw[mM hW'] at tl;refine⟨_,rfl,c,_,W.1.length,rfl,bh.of e2,by rw[aa]; exact tl,by lia,fun t H3 s3 gt=>?_⟩;rw[Dv] at gt;obtain⟨rs',et,gr,nt,nr⟩:=gt;have eD3:=s3 _ _ (s2 _ _ eD);have ntD:t≠D:=fun z=>by rw[z,s2 _ _ eD] at nt; cases nt
   have s02:=s1.trans s2;have nrD:∀ r ∈ rs',r≠D:=fun r hr' z=>by
    subst z;obtain⟨j,hj⟩:=aP.mp hr';have lj:j < (lI ((ns.drop (h9 Ws i)).take (W.1.length * W.1.length)) W.1.length).length:=by rw[←dJ,←gr.len]; exact cq hj
    obtain⟨y,hy⟩:=bW lj;have er:=gr.row j r _ hj (jb hy);rw[eD3] at er;have ey:=Jr (HO.lst.inj (aW er)).symm;have ly:=(qh tl).2 y (ae hy);rw[(qh tl).1] at lj;rw[ey] at ly;simp at ly
    lia
   refine⟨D,_,_,rfl,rfl,eD3,bo (by rw[aa]; lia),?_⟩;refine⟨_,rfl,_,rfl,_,rfl,_,_,rfl,rfl,fi (by lia) (by lia),_,_,rfl,rfl,?_⟩;refine⟨some (.ref p),some (.int (W.1.length:Int)),ts++[t],?_,fun b' o e=>?_,by rw[ao,aM]; rfl,by rw[ai,lt]; rfl,fun j t' h=>?_,fun j k t1 t2 jk h1 h2=>?_⟩
   ·rw[en,o1]
    rfl
   ·rw[aO (aU e hD)]
    exact s3 _ _ (s2 _ _ (s1 _ _ e))
   ·rcases dg h with z | ⟨e,z⟩
    ·obtain⟨n1,rs2,e3,g3,n3,n4⟩:=hT j t' z
     refine⟨n1,rs2,by rw[aO n1]; exact s3 _ _ (s2 _ _ e3),⟨g3.len,fun k r y h1 h2=>?_⟩,n3,n4⟩;rw[aO (n3 r (ae h1))];exact s3 _ _ (s2 _ _ (g3.row k r y h1 h2))
    ·subst z
     rw[e,lt];refine⟨ntD,rs',by rw[aO ntD]; exact et,?_,nrD,s02.free nt,nr.1,fun r hr'=>⟨(nr.2 r hr').1,s02.free (nr.2 r hr').2⟩⟩;unfold gN;rw[mM hW'];exact⟨gr.len,fun k r y h1 h2=>by rw[aO (nrD r (ae h1))]; exact gr.row k r y h1 h2⟩
   ·have old:∀ {j':Nat} {t0:Addr},ts[j']? = some t0→∀ o,H1 t0=some o→L2.upd H3 D (.lst (ts.map V.ref++[V.ref t])) t0=some o:=fun z o e=>by
     rw[aO (hT _ _ z).1]; exact s3 _ _ (s2 _ _ e)
    rcases dg h1 with z1 | ⟨e1,z1⟩
    ·rcases dg h2 with z2 | ⟨e2,z2⟩
     ·exact (hAp j k t1 t2 jk z1 z2).keep (old z1) (old z2)
     ·subst z2
      obtain⟨n1,rs2,e3,g3,n3,n4⟩:=hT j t1 z1;refine⟨rs2,rs',old z1 _ e3,by rw[aO ntD]; exact et,fun z=>?_,fun z=>?_,fun r hr'=>?_⟩
      ·rw[←z,s2 _ _ e3] at nt; cases nt
      ·have:=(nr.2 _ z).2; rw[s2 _ _ e3] at this; cases this
      ·obtain⟨a',ha'⟩:=aP.mp hr'
       obtain⟨y,hy⟩:=bW (l:=gI (gN ns Ws j)) (i:=a') (by rw[←g3.len]; exact cq ha');have er:=s2 _ _ (g3.row a' r y ha' hy);exact⟨(fun z=>by rw[←z,er] at nt; cases nt),fun z=>by have:=(nr.2 _ z).2; rw[er] at this; cases this⟩
    ·have:=cq h2
     rw[ai] at this;simp at this
     lia
  ·rintro σ H1 ⟨o4,o5,ts,rfl,s1,eD,lt,hT,hAp⟩
   refine⟨_,rfl,q D H1 s1 ⟨hD,ts,eD,by rw[mK,lt,lv],(fun i t T h1 h2=>?_),hAp⟩⟩;obtain⟨_,rfl⟩:=su h2;obtain⟨_,rs,e1,g,_,n1,n2⟩:=hT i t h1;exact⟨rs,e1,g,n1,n2⟩
def qX (Ws:List d9)(Ts:List (LA)):Bool:=(Ws.zip Ts).all fun p=>qU p.1.1.length (gI p.2)
def jU (Ws:List d9)(Ts:List (LA)):Bool:=qX Ws Ts && decide (jZ (dh Ws Ts)=jZ (cM Ts))
theorem kT {n:Nat}:qU n (gI T)=true↔iD n T:=by
 unfold qU iD;rw[cG,cy,dJ,qA]
 constructor
 ·rintro⟨h1,h2⟩
  refine⟨h1,fun r hr=>?_⟩
  have:=h2 _ (List.mem_map_of_mem (f:=fun x:LF=>x.map V.int) hr)
  simpa using this
 ·rintro⟨h1,h2⟩
  refine⟨h1,fun x hx=>?_⟩;obtain⟨r,hr,rfl⟩:=bg.mp hx;simpa using h2 r hr
theorem xn {n:Nat}:∀ {T:LA},(∀ r ∈ T,r.length=n)→T.flatten.length=T.length * n
 | [],_=>by simp
 | r :: T,h=>by
  rw[bV,ai,h r aK,xn fun r' hr=>h r' (aC _ hr),bq,ik]
  lia
theorem qR:∀ {Ws:List d9} {Ts:List (LA)},Ts.length=Ws.length→(∀ (i:Nat) (W:d9) (T:LA),Ws[i]? = some W→Ts[i]? = some T→W.1.length≤8∧iD W.1.length T)→(cM Ts).length≤64 * Ws.length
 | [],[],_,_=>by simp[cM]
 | [],_ :: _,h,_=>by simp at h
 | _ :: _,[],h,_=>by simp at h
 | W :: Ws,T :: Ts,h,hh=>by
  have ih:=qR (Ws:=Ws) (Ts:=Ts) (by simpa using h) fun i W' T' h1 h2=>hh (i+1) W' T' h1 h2
  obtain⟨h6,h0⟩:=hh 0 W T rfl rfl;have e:cM (T :: Ts)=T.flatten++cM Ts:=rfl
  have:W.1.length * W.1.length≤8 * 8:=bP h6 h6
  rw[e,ai,xn h0.2,h0.1,bq]
  lia
inductive sL (K:LM)(vs:LG)(H:Hp)(Q:VK):Prop | mk (a b:Addr) (Ws:List d9) (Ts:List (LA)) (_:vs=[.ref a,.ref b]) (_:xE K H a Ws) (_:zX H b Ts) (_:Ts.length=Ws.length) (_:Ws.length≤8) (_:(∀ W ∈ Ws,W.1.length≤8)) (_:(∀ T ∈ Ts,T.length≤900∧∀ r ∈ T,r.length≤900)) (_:∀ H',Same H H'→Q (.bl (jU Ws Ts)) H'):sL K vs H Q
def yA (K:LM):Sp:=fun vs H Q _=>sL K vs H Q
abbrev Kj:LK:=["webs","tables","web","kinds"]
theorem sT:bJ Kj ["webs","tables"] (aB rK):=by constructor<;>first|rfl|decide +kernel
theorem Er (B:xK mg)(F:Fun K "are_all_kin" "are_all_kin" rK f fd)(DQ:Dn K mg "is_square" vh ["rows","size"] fQ fdQ)(GQ:bK P w K mg base cI 1 fQ fdQ ["rows","size"] FV)(DS:Dn K mg "split_kinds" lO ["webs","tables"] fS fdS)(GS:bK P w K mg base cI 4 fS fdS ["webs","tables"] (sD K))(DN:Dn K mg "numbered" i8 ["marks"] fN fdN)(GN:bK P w K mg base cI 1 fN fdN ["marks"] (yf K HP))(DA:Dn K mg "kinds_in_all" jK ["tables"] fA fdA)(GA:bK P w K mg base cI 2 fA fdA ["tables"] FU):bK P w K mg base cI 5 f fd ["webs","tables"] (yA K):=by
 refine F.o sT fun cdv A outer s H vs Q E hr h=>?_
 ·obtain⟨a,b,Ws,Ts,rfl,hWs,hTs,lT,l8,h6,hTl,q⟩:=h
  have hWs0:=hWs;have hTs0:=hTs;obtain⟨vs,ha,lv,hW⟩:=hWs;obtain⟨ts,hb,lt,hT⟩:=hTs;refine⟨_,am (di PassesOwn.never rfl (oC rfl B.zip (ad (pv 0) (ad (pv 1) ah))) (gp rfl (bY (iK 2 sT.nd) (bY (iK 3 sT.nd) eJ)))
    (ar (cK (Gu (Az (bw DQ GQ (hr.mono (by decide)) rfl (ad (pv 3) (ad (bQ bT (by rfl) B.len bE (ad (aG bM (pv 2) aj) ah)) ah))))) (ar (bt vw)) bX)))
   (ar (bt (fh (oD hr.units) (bw DS GS hr rfl (ad (pv 0) (ad (pv 1) ah))) (bw DN GN (hr.mono (by decide)) rfl (ad (bw DA GA (hr.mono (by decide)) rfl (ad (pv 1) ah)) ah)) (bG _)))),?_⟩
  show let ω1:TS:=_;let ω2:TS:=_;let ω3:TS:=(eK _ ω2 _);bL (ig _ _ ω3) ω1 _ _ _;intro ω1 ω2 ω3;refine⟨_,rfl,_,rfl,a,b,rfl,⟨_,bh.of ha⟩,⟨_,bh.of hb⟩,?_⟩
  let π1:LP:=fun i σ H'=>∃ (o2 o3:LS),σ=[some (.ref a),some (.ref b),o2,o3]∧Same H H'∧∀ (j:Nat) (W:d9) (T:LA),j < i→Ws[j]? = some W→Ts[j]? = some T→iD W.1.length T
  refine xm (K:=K) (xs:=vs) (ys:=ts.map V.ref) (by rw[aa,lt,lv,lT]) π1 ?_ ?_ ?_ ?_
  ·exact⟨none,none,rfl,Same.refl _,fun j W T h=>absurd h (rZ _)⟩
  ·rintro i σ H' _ ⟨o2,o3,rfl,s1,_⟩
   exact⟨bh.of (s1 _ _ ha),bh.of (s1 _ _ hb)⟩
  ·rintro i x y t σ H1 hx hy ⟨o2,o3,rfl,s1,hq⟩ ht
   obtain⟨ta,hta,rfl⟩:=bI hy;obtain⟨W,hW'⟩:=bW (l:=Ws) (i:=i) (by rw[←lv]; exact cq hx);obtain⟨T,hT'⟩:=bW (l:=Ts) (i:=i) (by rw[←lt]; exact cq hta);refine⟨t,_,rfl,dy.of ao,rfl,_,_,rfl,_,_,rfl,rfl,?_⟩;have s2:Same H1 (L2.upd H1 t (.tup [x,.ref ta])):=Same.upd ht;generalize L2.upd H1 t (.tup [x,.ref ta])=H2 at s2 ⊢;have s02:=s1.trans s2;obtain⟨⟨p,hA,rA,rs,rfl,hp,hh,hR,lR,hrow⟩,_,_⟩:=hW i x W hx hW';obtain⟨t1,t2⟩:=hTl T (ae hT');have hn6:=h6 W (ae hW');refine⟨_,rfl,_,rfl,p,_,_,_,rfl,rfl,s02.seqT hp,rfl,hA,_,rfl,.inl (s02.seq hh),?_⟩;rw[aa];refine⟨ta,gI T,W.1.length,rfl,(hT i ta T hta hT').mono s02,by rw[dJ]; exact t1,by lia,fun x hx=>?_,fun H3 s3=>⟨_,rfl,?_⟩⟩
   ·obtain⟨r,hr',rfl⟩:=bg.mp hx
    rw[aa];exact t2 r hr'
   ·by_cases hs:iD W.1.length T
    ·rw[kT.mpr hs]
     refine oG ⟨_,_,rfl,s02.trans s3,fun j W2 T2 hj h1 h2=>?_⟩
     by_cases e:j=i
     ·subst e
      rw[hW'] at h1;rw[hT'] at h2;cases h1;cases h2;exact hs
     ·exact hq j W2 T2 (by lia) h1 h2
    ·have e:qU W.1.length (gI T)=false:=by
      cases z:qU W.1.length (gI T) with
      | false=>rfl
      | true=>exact absurd (kT.mp z) hs
     rw[e];refine re ?_
     have:=q H3 (s02.trans s3)
     have z:qX Ws Ts=false:=by
      unfold qX;rw[List.all_eq_false];exact⟨(W,T),ae (dM.mpr ⟨hW',hT'⟩),by rw[e]; decide⟩
     unfold jU at this;rw[z,uD] at this;exact this
  ·rintro σ H1 ⟨o2,o3,rfl,s1,hq⟩
   have fit:Rc Ws Ts:=⟨lT,l8,fun i W T h1 h2=>⟨h6 W (ae h1),hq i W T (by rw[lv]; exact cq h1) h1 h2⟩⟩;have kb:=qR lT fit.2.2;refine⟨_,rfl,_,rfl,a,b,Ws,Ts,rfl,hWs0.same s1,hTs0.same s1,fit,fun D H2 s2 n2 e2=>?_⟩;have s02:=s1.trans s2;refine⟨_,rfl,b,Ts,rfl,hTs0.same s02,by lia,by lia,fun D2 H3 s3 n3 e3=>?_⟩;refine⟨D2,_,cM Ts,rfl,bh.of e3,by rw[aa],by lia,fun j y k h1 h2=>?_,fun D3 H4 s4 n4 e4=>?_⟩
   ·obtain⟨z,hz,rfl⟩:=bI h1
    rw[hz] at h2;cases h2
    rfl
   ·rw[No] at e2 e4
    refine⟨_,_,Is (K:=K) (ok:=any) trivial (bh.of (s4 _ _ (s3 _ _ e2))),Is (K:=K) (ok:=any) trivial (bh.of e4),⟨(iQ _).1,(iQ _).1,aE (iQ _).2 (by decide)⟩,?_⟩;have ee:PyData.eqv (dI (nI (jZ (dh Ws Ts)))) (dI (nI (jZ (cM Ts))))=jU Ws Ts:=by
     rw[xo]
     have:qX Ws Ts=true:=by
      unfold qX;rw[qA];rintro⟨W,T⟩ hm;obtain⟨i,hi⟩:=aP.mp hm;obtain⟨g1,g2⟩:=dM.mp hi;exact kT.mpr (fit.2.2 i W T g1 g2).2
     unfold jU;rw[this,Bool.true_and];exact decide_eq_decide.mpr ⟨Nm,fun z=>by rw[z]⟩
    rw[ee];exact q H4 ((s02.trans s3).trans s4)
def og (Ws:List d9)(ns:LF):LF:=nI (jZ (dh Ws (iA ns Ws)))
def kE (Ws:List d9):Nat:=h9 Ws Ws.length
theorem vC:∀ {Ws:List d9} {Ts:List (LA)},Ts.length=Ws.length→(dh Ws Ts).length=(Ws.map fun W=>W.1.length * W.1.length).sum
 | [],[],_=>rfl
 | [],_ :: _,h=>by simp at h
 | _ :: _,[],h=>by simp at h
 | W :: Ws,T :: Ts,h=>by
  have e:dh (W :: Ws) (T :: Ts)=jw W.1 W.2 T++dh Ws Ts:=rfl;rw[e,ai,tI,vC (by simpa using h),aS,gW]
theorem ng (Ws:List d9)(ns:LF):(og Ws ns).length=kE Ws:=by
 unfold og kE h9;rw[nI,aa,pj,vC (mK _ _),cF]
theorem tj {n:Nat}(h:iD n T):∀ m,m≤n→(q8 us M T n m).map (·.a)=(T.take m).flatten
 | 0,_=>by simp[q8]
 | m+1,hm=>by
  rw[qm,aM,tj h m (by lia)];obtain⟨h1,h2⟩:=h.row (i:=m) (by lia);rw[fq h1,gq]
  congr 1
  show (sW us M T m n).map (·.a)=[nP T m].flatten;rw[bV,lq,fe];unfold sW;rw[cu]
  apply Bm
  intro j;rw[aq]
  by_cases hj:j < n
  ·rw[cD hj,h.ent (by lia) hj]
   rfl
  ·rw[cP (by rw[b9]; lia),cP (by lia)]
   rfl
theorem xi (h:iD us.length T):(jw us M T).map (·.a)=T.flatten:=by
 unfold jw;rw[tj h _ (au _),←h.1,cF]
theorem mS:∀ {Ws:List d9} {Ts:List (LA)},Ts.length=Ws.length→(∀ (i:Nat) (W:d9) (T:LA),Ws[i]? = some W→Ts[i]? = some T→iD W.1.length T)→(dh Ws Ts).map (·.a)=cM Ts
 | [],[],_,_=>rfl
 | [],_ :: _,h,_=>by simp at h
 | _ :: _,[],h,_=>by simp at h
 | W :: Ws,T :: Ts,h,hh=>by
  have e:dh (W :: Ws) (T :: Ts)=jw W.1 W.2 T++dh Ws Ts:=rfl;have e':cM (T :: Ts)=T.flatten++cM Ts:=rfl;rw[e,e',aM,xi (hh 0 W T rfl rfl),mS (by simpa using h) fun i W' T' h1 h2=>hh (i+1) W' T' h1 h2]
theorem qC:∀ {n m:Nat} {xs:LF},xs.length=n * m→((List.range m).map fun i=>(xs.drop (n * i)).take n).flatten=xs
 | n,0,xs,h=>by
  have:xs=[]:=List.eq_nil_of_length_eq_zero (by rw[h,Nat.mul_zero])
  rw[this]
  rfl
 | n,m+1,xs,h=>by
  rw[mY] at h;rw[gn,aM,gq];have e:((List.range m).map fun i=>(xs.drop (n * i)).take n)=(List.range m).map fun i=>((xs.take (n * m)).drop (n * i)).take n:=by
   refine dN fun i hi=>?_
   have hi:=dX.mp hi
   have:n * (i+1)≤n * m:=g9 n hi
   rw[mY] at this;rw[List.drop_take,List.take_take,d6 (by lia)]
  rw[e,qC (by rw[bB]; lia)];show xs.take (n * m)++[(xs.drop (n * m)).take n].flatten=xs;rw[bV,lq,fe,dE (l:=xs.drop (n * m)) (by rw[df]; lia),fj]
theorem uG {Ws:List d9}(hl:ns.length=kE Ws):∀ m,m≤Ws.length→cM ((List.range m).map (gN ns Ws))=ns.take (h9 Ws m)
 | 0,_=>by simp[cM,h9]
 | m+1,hm=>by
  obtain⟨W,hW⟩:=bW (l:=Ws) (i:=m) (by lia);have ih:=uG hl m (by lia);have tl:=wl hl hW;rw[gn,aM];have e:∀ (a:List (LA)) (T:LA),cM (a++[T])=cM a++T.flatten:=fun a T=>by
   unfold cM;rw[aM,gq];simp
  show cM (_++[gN ns Ws m])=_;rw[e,ih,qq hW,List.take_add]
  congr 1
  unfold gN lI;rw[mM hW] at tl ⊢;exact qC tl
theorem mi {Ws:List d9}(hl:ns.length=kE Ws):cM (iA ns Ws)=ns:=by
 unfold iA;rw[uG hl _ (au _)];exact dE (by rw[hl]; exact au _)
theorem wo {Ws:List d9}(hl:ns.length=kE Ws):Dd (og Ws ns) ns:=by
 have hk:(dh Ws (iA ns Ws)).map (·.a)=ns:=by
  rw[mS (mK _ _) fun i W T h1 h2=>?_,mi hl];obtain⟨_,rfl⟩:=su h2;exact qf hl h1
 intro i j l x y e1 e2 e3 e4;unfold og at e1 e2;rw[Hx] at e1 e2;obtain⟨a,ha,rfl⟩:=cc.mp e1;obtain⟨b,hb,eb⟩:=cc.mp e2;rw[←hk] at e3 e4;obtain⟨k,hk1,rfl⟩:=bI e3;obtain⟨k',hk2,rfl⟩:=bI e4;rw[(yS hk1 hk2 ha hb).mp (Int.ofNat.inj eb).symm]
inductive mt (Ws:List d9):List Int→Prop where
 | zero:mt Ws (List.replicate (kE Ws) 0)
 | step {ns:LF}:mt Ws ns→mt Ws (og Ws ns)
def K8 (Ws:List d9)(ns:LF):Prop:=mt Ws ns∧og Ws ns=ns
theorem mt.len {Ws:List d9}(h:mt Ws ns):ns.length=kE Ws:=by
 cases h with
 | zero=>exact cO
 | step=>exact ng _ _
theorem mt.norm {Ws:List d9}(h:mt Ws ns):xF ns:=by
 cases h with
 | zero=>exact AL _
 | step=>exact vz _
inductive qH (K:LM)(vs:LG)(H:Hp)(Q:VK):Prop | mk (a:Addr) (Ws:List d9) (_:vs=[.ref a]) (_:xE K H a Ws) (_:Ws.length≤8) (_:(∀ W ∈ Ws,W.1.length≤8)) (_:∀ D ns H',Same H H'→K8 Ws ns→Of H H' D (iA ns Ws)→Q (.ref D) H'):qH K vs H Q
def qi (K:LM):Sp:=fun vs H Q _=>qH K vs H Q
abbrev yZ:LK:=["webs","kinds","finer"]
theorem kH:bJ yZ ["webs"] (aB lV):=by constructor<;>first|rfl|decide +kernel
def Rs (e:Expr):Expr:=match e with
 | .BinOp _ _ r _=>r
 | _=>.Constant .none 0 ⟨0,0,0,0⟩
theorem EG:cw (aB lV) yZ (cz (pV (Rs (dq (cT lV 0))) 0)) ["web"]:=by constructor<;>first|rfl|decide +kernel
theorem pT:bootBuiltins "sum" = some (.builtin "sum"):=by decide +kernel
theorem IT:∀ {Ws:List d9},(∀ W ∈ Ws,W.1.length≤8)→kE Ws≤64 * Ws.length:=by
 intro Ws h;unfold kE h9;rw[cF]
 induction Ws with
 | nil=>simp
 | cons W Ws ih =>
  have:=ih fun W' h'=>h W' (aC _ h')
  have h0:=h W aK
  have:W.1.length * W.1.length≤8 * 8:=bP h0 h0
  rw[aS,gW,bq]
  lia
theorem xY:∀ l:LJ,(l.map fun (n:Nat)=>(n:Int)).sum=(l.sum:Int)
 | []=>rfl
 | n :: l=>by rw[aS,gW,gW,xY l]; push_cast; rfl
theorem AJ (B:xK mg)(F:Fun K "coarsest_tables" "coarsest_tables" lV f fd)(DS:Dn K mg "split_kinds" lO ["webs","tables"] fS fdS)(GS:bK P w K mg base cI 4 fS fdS ["webs","tables"] (sD K))(DT:Dn K mg "in_tables" rF ["kinds","webs"] fT fdT)(GT:bK P w K mg base cI 2 fT fdT ["kinds","webs"] (yq K)):bK P w K mg base cI 5 f fd ["webs"] (qi K):=by
 refine F.o kH fun cdv A outer s H vs Q E hr h=>?_
 ·obtain⟨a,Ws,rfl,hWs,l8,h6,q⟩:=h
  have hWs0:=hWs;obtain⟨vs,ha,lv,hW⟩:=hWs;have tb:=IT h6;refine⟨_,am (d7 1 kH.nd (aY mR (cC (ad aj ah)) (bQ (pQ rfl) (by rfl) B.sum pT (ad (gE rfl EG rfl (cU (pv 0)) fun _ _ _=>aY dY (bQ (kY (K:=K)) (by rfl) B.len bE (ad (aG (pB (K:=K)) (pv 3) aj) ah)) (bQ (kY (K:=K)) (by rfl) B.len bE (ad (aG (pB (K:=K)) (pv 3) aj) ah))) ah))))
   (am (d7 2 kH.nd (bw DS GS hr rfl (ad (pv 0) (ad (bw DT GT (hr.mono (by decide)) rfl (ad (pv 1) (ad (pv 0) ah))) ah))))
   (am (sY PassesOwn.never (bF (l5 hr.units) (pv 2) (pv 1) (bG _))
    (am (d7 1 kH.nd (pv 2))
    (ar (d7 2 kH.nd (bw DS GS hr rfl (ad (pv 0) (ad (bw DT GT (hr.mono (by decide)) rfl (ad (pv 1) (ad (pv 0) ah))) ah)))))))
   (ar (bt (bw DT GT (hr.mono (by decide)) rfl (ad (pv 1) (ad (pv 0) ah))))))),?_⟩
  show let ω1:TS:=_;let ω2:TS:=bL _ ω1;let ω3:TS:=bL _ ω2;bL _ ω3 _ _ _;intro ω1 ω2 ω3;refine⟨(by show 1≤sizeLine; decide),fun l1 hl1=>?_⟩;have s0:Same H (L2.upd H l1 (.lst [.int 0])):=Same.upd hl1;have e0:L2.upd H l1 (.lst [.int 0]) l1=some (.lst [.int 0]):=ao;generalize L2.upd H l1 (.lst [.int 0])=H0 at s0 e0 ⊢;refine⟨_,rfl,a,rfl,⟨_,bh.of (s0 _ _ ha)⟩,fun D hD=>?_⟩;refine iP (K:=K) (xs:=vs) (Ws.map fun W=>V.int ((W.1.length * W.1.length:Nat):Int)) (by rw[aa,lv]) (by lia) hD (bh.of (s0 _ _ ha)) ?_ ?_ ?_
  ·intro i x v H' hx hv s'
   obtain⟨W,hW',rfl⟩:=bI hv;obtain⟨⟨p,hA,rA,rs,rfl,hp,hh,hR,lR,hrow⟩,_,_⟩:=hW i x W hx hW';have hn6:=h6 W (ae hW');have s2:=s0.trans s';refine⟨_,rfl,p,_,_,_,rfl,rfl,s2.seqT hp,rfl,hA,_,rfl,.inl (s2.seq hh),_,rfl,p,_,_,_,rfl,rfl,s2.seqT hp,rfl,hA,_,rfl,.inl (s2.seq hh),?_⟩;rw[aa];refine⟨_,_,rfl,rfl,fi (by lia) (by lia),?_,Same.refl _⟩
   push_cast
   rfl
  ·intro H1 s1 eD
   have em:(Ws.map fun W=>V.int ((W.1.length * W.1.length:Nat):Int))=((Ws.map fun W=>W.1.length * W.1.length).map fun (n:Nat)=>(n:Int)).map V.int:=by rw[cu,cu]; rfl
   rw[em] at eD;refine⟨D,_,rfl,bh.of eD,?_⟩;have et:((Ws.map fun W=>W.1.length * W.1.length).map fun (n:Nat)=>(n:Int)).sum=(kE Ws:Int):=by
    rw[xY];unfold kE h9;rw[cF]
   rw[et];refine⟨l1,(kE Ws:Int),_,rfl,rfl,s1 _ _ e0,by lia,by lia,cf (bo (by show 1 * (kE Ws:Int).toNat≤1000; lia)),fun L hL=>?_⟩;rw[bC,qc];have c1:=s0.trans s1;have s2:Same H (L2.upd H1 L (.lst ((List.replicate (kE Ws) (0:Int)).map V.int))):=c1.trans (Same.upd hL);have e2:L2.upd H1 L (.lst ((List.replicate (kE Ws) (0:Int)).map V.int)) L=some (.lst ((List.replicate (kE Ws) (0:Int)).map V.int)):=ao;generalize L2.upd H1 L (.lst ((List.replicate (kE Ws) (0:Int)).map V.int))=H2 at s2 e2 ⊢;refine⟨_,rfl,_,rfl,_,rfl,L,a,_,Ws,rfl,bh.of e2,hWs0.same s2,cO,l8,h6,fun t H3 s3 g3=>?_⟩;have s03:=s2.trans s3;refine⟨a,t,Ws,_,rfl,hWs0.same s03,g3.at,xW cO l8 h6,fun F H4 s4 n4 e4=>?_⟩;rw[No] at e4;have s04:=s03.trans s4;refine⟨fun m σ H'=>∃ (L F:Addr) (ns:LF),σ=[some (.ref a),some (.ref L),some (.ref F)]∧Same H H'∧H' L=some (.lst (ns.map V.int))∧H' F=some (.lst ((og Ws ns).map V.int))∧mt Ws ns∧m=Jf (kE Ws) ns,⟨_,L,F,_,rfl,s04,s4 _ _ (s3 _ _ e2),e4,.zero,rfl⟩,?_⟩;rintro m σ H5 ⟨L',F',ns,rfl,s5,eL,eF,st,rfl⟩;refine⟨_,rfl,_,rfl,_,_,Is (K:=K) (ok:=any) trivial (bh.of eF),Is (K:=K) (ok:=any) trivial (bh.of eL),⟨(iQ _).1,(iQ _).1,aE (iQ _).2 (by decide)⟩,_,rfl,?_⟩;rw[xo]
   by_cases e:og Ws ns=ns
   ·refine qS e ?_
    refine⟨_,rfl,_,rfl,L',a,ns,Ws,rfl,bh.of eL,hWs0.same s5,st.len,l8,h6,fun D' H6 s6 g6=>?_⟩;exact q D' ns H6 (s5.trans s6) ⟨st,e⟩ (g6.back s5)
   ·refine qT e ?_
    refine⟨_,fun σ' H' z=>z,?_⟩;refine⟨_,rfl,_,rfl,_,rfl,_,rfl,F',a,_,Ws,rfl,bh.of eF,hWs0.same s5,ng _ _,l8,h6,fun t' H6 s6 g6=>?_⟩;have s06:=s5.trans s6;refine⟨a,t',Ws,_,rfl,hWs0.same s06,g6.at,xW (ng _ _) l8 h6,fun F2 H7 s7 n7 e7=>?_⟩;rw[No] at e7;exact⟨_,Je (ng _ _) st.len (vz _) st.norm (wo st.len) e,F',F2,_,rfl,s06.trans s7,s7 _ _ (s6 _ _ eF),e7,.step st,rfl⟩
  ·rintro σ H' Q1 Q2 hq ⟨v1,e1,a1,a2,a3,a4,b1,b2,b3,b4,p1,y1,c1,c2,v2,e2,a5,a6,a7,a8,b5,b6,b7,b8,p2,y2,c3,c4,i1,i2,f1,f2,f3,g⟩
   exact⟨v1,e1,a1,a2,a3,a4,b1,b2,b3,b4,p1,y1,c1,c2,v2,e2,a5,a6,a7,a8,b5,b6,b7,b8,p2,y2,c3,c4,i1,i2,f1,f2,f3,hq _ _ g⟩
theorem La {W W':d9}(h:Fc K H v W.1.length W)(h':Fc K H v' W'.1.length W')(e:H l=some (.lst [v,v'])):xE K H l [W,W']:=⟨[v,v'],e,rfl,fun i u U h1 h2=>by
 match i with
 | 0=>cases h1; cases h2; exact h
 | 1=>cases h1; cases h2; exact h'
 | i+2=>simp at h1⟩
theorem OF {b b':Addr}(h:eI H b (gI T))(h':eI H b' (gI T'))(e:H l=some (.lst [.ref b,.ref b'])):zX H l [T,T']:=⟨[b,b'],e,rfl,fun i u U h1 h2=>by
 match i with
 | 0=>cases h1; cases h2; exact h
 | 1=>cases h1; cases h2; exact h'
 | i+2=>simp at h1⟩
def IH (T:LA):Prop:=T.length≤900∧∀ r ∈ T,r.length≤900
inductive sK (K:LM)(vs:LG)(H:Hp)(Q:VK):Prop | mk (v v':V) (b b':Addr) (W W':d9) (T T':LA) (_:vs=[v,v',.ref b,.ref b']) (_:Fc K H v W.1.length W) (_:Fc K H v' W'.1.length W') (_:eI H b (gI T)) (_:eI H b' (gI T')) (_:W.1.length≤8) (_:W'.1.length≤8) (_:IH T) (_:IH T') (_:∀ H',Same H H'→Q (.bl (jU [W,W'] [T,T'])) H'):sK K vs H Q
def yz (K:LM):Sp:=fun vs H Q _=>sK K vs H Q
theorem F9:bJ ["web","other","kinds","kinds_there"] ["web","other","kinds","kinds_there"] (aB rJ):=by constructor<;>first|rfl|decide +kernel
theorem Ep (F:Fun K "are_kin" "are_kin" rJ f fd)(DA:Dn K mg "are_all_kin" rK ["webs","tables"] fA fdA)(GA:bK P w K mg base cI 5 fA fdA ["webs","tables"] (yA K)):bK P w K mg base cI 6 f fd ["web","other","kinds","kinds_there"] (yz K):=by
 refine F.o F9 fun cdv A outer s H vs Q E hr h=>?_
 ·obtain⟨v,v',b,b',W,W',T,T',rfl,hW,hW',hT,hT',h6,h6',hl,hl',q⟩:=h
  refine⟨_,ar (bt (bw DA GA hr rfl (ad (cC (ad (pv 0) (ad (pv 1) ah))) (ad (cC (ad (pv 2) (ad (pv 3) ah))) ah)))),?_⟩;refine⟨_,rfl,_,rfl,(by show 2≤sizeLine; decide),fun l1 h1=>?_⟩;refine⟨_,rfl,_,rfl,(by show 2≤sizeLine; decide),fun l2 h2=>?_⟩;have s1:Same H (L2.upd H l1 (.lst [v,v'])):=Same.upd h1;have e1:L2.upd H l1 (.lst [v,v']) l1=some (.lst [v,v']):=ao;generalize L2.upd H l1 (.lst [v,v'])=H1 at s1 e1 h2 ⊢;have s2:Same H1 (L2.upd H1 l2 (.lst [.ref b,.ref b'])):=Same.upd h2;have s12:=s1.trans s2;refine⟨l1,l2,[W,W'],[T,T'],rfl,La (hW.same s12) (hW'.same s12) (s2 _ _ e1),OF (hT.mono s12) (hT'.mono s12) ao,rfl,(by show 2≤8; decide),fun U h'=>?_,fun U h'=>?_,fun H' s'=>q H' (s12.trans s')⟩
  ·rcases aQ.mp h' with rfl | h'
   ·exact h6
   ·rw[aw.mp h']; exact h6'
  ·rcases aQ.mp h' with rfl | h'
   ·exact hl
   ·rw[aw.mp h']; exact hl'
theorem _root_.L2.PsV.same (h:PsV K H vs ps)(s:Same H H'):PsV K H' vs ps:=⟨h.1,fun i v p h1 h2=>by
 obtain⟨a,e,ha⟩:=h.2 i v p h1 h2
 exact⟨a,e,s _ _ ha⟩⟩
theorem _root_.L2.PsV.upd {l:LG}(e:H D=some (.lst l))(h:PsV K H vs ps):PsV K (L2.upd H D (.lst l')) vs ps:=⟨h.1,fun i v p h1 h2=>by
 obtain⟨a,ea,ha⟩:=h.2 i v p h1 h2
 exact⟨a,ea,by rw[aO fun z=>by subst z; rw[e] at ha; cases ha]; exact ha⟩⟩
theorem _root_.L2.PsV.nil:PsV K H [] []:=⟨rfl,fun i v p h=>by simp at h⟩
theorem _root_.L2.PsV.app {vs':LG}{ps':LC}(h:PsV K H vs ps)(h':PsV K H vs' ps'):PsV K H (vs++vs') (ps++ps'):=by
 refine⟨by rw[ai,ai,h.1,h'.1],fun j y k h1 h2=>?_⟩
 by_cases hj:j < vs.length
 ·rw[be hj] at h1
  rw[be (by rw[←h.1]; exact hj)] at h2;exact h.2 j y k h1 h2
 ·rw[aV (by lia)] at h1
  rw[aV (by rw[←h.1]; lia),←h.1] at h2;exact h'.2 _ y k h1 h2
theorem _root_.L2.PsV.one {t:Addr}{p:Int × Int}(h:H t=some (.tup [.int p.1,.int p.2])):PsV K H [.ref t] [p]:=⟨rfl,fun i v q h1 h2=>by
 cases i with
 | zero=>cases h1; cases h2; exact⟨t,rfl,h⟩
 | succ i=>simp at h1⟩
def oj (u m:Nat):LC:=(List.range m).map fun (v:Nat)=>((u:Int),(v:Int))
def kP (n m:Nat):LC:=(List.range m).flatMap fun u=>oj u n
theorem AA (u m:Nat):oj u (m+1)=oj u m++[((u:Int),(m:Int))]:=by
 unfold oj;rw[gn,aM]
 rfl
theorem oB (n m:Nat):kP n (m+1)=kP n m++oj m n:=by
 unfold kP;rw[gn,List.flatMap_append];simp
theorem nq (u m:Nat):(oj u m).length=m:=by unfold oj; rw[aa,b9]
theorem hZ (n:Nat):∀ m,(kP n m).length=m * n
 | 0=>by simp[kP]
 | m+1=>by rw[oB,ai,hZ n m,nq,ik]
inductive uL (K:LM)(vs:LG)(H:Hp)(Q:VK):Prop | mk (n:Nat) (_:vs=[.int (n:Int)]) (_:n≤16) (_:∀ D L H',Same H H'→H D=none→H' D=some (.lst L)→PsV K H' L (kP n n)→Q (.ref D) H'):uL K vs H Q
def wu (K:LM):Sp:=fun vs H Q _=>uL K vs H Q
abbrev Hv:LK:=["_law_many","_law_found","_law_u"]
theorem rC:bJ Hv ["_law_many"] (aB oy):=by constructor<;>first|rfl|decide +kernel
theorem Kw:cw (aB oy) Hv (cz (Rs (dq (mj (cT oy 1) 0)))) ["_law_v"]:=by constructor<;>first|rfl|decide +kernel
theorem Hf (B:qa mg)(F:Fun K "_law_pairs" "_law_pairs" oy f fd):bK P w K mg base cI 1 f fd ["_law_many"] (wu K):=by
 refine F.o rC fun cdv A outer s H vs Q E hr h=>?_
 ·obtain⟨n,rfl,hn,q⟩:=h
  refine⟨_,am (d7 1 rC.nd (cC ah))
   (am (di PassesOwn.never rfl (dB rfl B.range (ad (pv 0) ah)) (iK 2 rC.nd)
    (ar (d7 1 rC.nd (aY oE (pv 1) (gE rfl Kw rfl (dB rfl B.range (ad (pv 0) ah)) fun _ _ _=>dc (ad (pv 2) (ad (pv 3) ah)))))))
   (ar (bt (pv 1)))),?_⟩
  show let ω1:TS:=_;let ω2:TS:=_;let ω3:TS:=bL (ig _ _ ω2) ω1;bL _ ω3 _ _ _;intro ω1 ω2 ω3;refine⟨aZ _,fun D0 hD0=>?_⟩;refine⟨_,rfl,(n:Int),rfl,by lia,by lia,eV (n:=n) (fun i σ H'=>∃ (o2:LS) (D:Addr) (L:LG),σ=[some (.int (n:Int)),some (.ref D),o2]∧Same H H'∧H D=none∧H' D=some (.lst L)∧PsV K H' L (kP n i)) ?_ ?_ ?_⟩
  ·exact⟨none,D0,[],rfl,Same.upd hD0,hD0,ao,.nil⟩
  ·rintro i σ H1 hi ⟨o2,D,L,rfl,s1,nD,eD,pL⟩
   have e0:((0:Int)+(i:Nat))=(i:Int):=by lia
   rw[e0];refine⟨_,rfl,_,rfl,(n:Int),rfl,by lia,by lia,fun C hC=>?_⟩;rw[bC];refine kQ (n:=n) (fun j ys H'=>Same H1 H'∧H' C=some (.lst ys)∧PsV K H' ys (oj i j)) ⟨Same.upd hC,ao,.nil⟩ (fun j ys H' _ h=>h.2.1) ?_ ?_ ?_
   ·rintro j ys H2 hj ⟨s2,eC,pC⟩
    have e1:((0:Int)+(j:Nat))=(j:Int):=by lia
    rw[e1];refine⟨_,rfl,_,rfl,(by show 2≤sizeLine; decide),fun t ht=>?_⟩;have s3:Same H2 (L2.upd H2 t (.tup [.int (i:Int),.int (j:Int)])):=Same.upd ht;have e3:L2.upd H2 t (.tup [.int (i:Int),.int (j:Int)]) t=some (.tup [.int (i:Int),.int (j:Int)]):=ao;generalize L2.upd H2 t (.tup [.int (i:Int),.int (j:Int)])=H3 at s3 e3 ⊢;have ly:ys.length=j:=by rw[pC.1,nq]
    refine⟨s3 _ _ eC,bo (by lia),fun b o e=>?_,ao,?_⟩
    ·rw[aO (aU e hC)]
     exact s3 _ _ (s2 _ _ e)
    ·rw[AA]
     exact ((pC.same s3).app (L2.PsV.one (p:=((i:Int),(j:Int))) e3)).upd (s3 _ _ eC)
   ·rintro ys H2 ⟨s2,eC,pC⟩
    have lL:L.length=i * n:=by rw[pL.1,hZ]
    have ly:ys.length=n:=by rw[pC.1,nq]
    have:i * n≤16 * 16:=bP (by lia) hn
    refine⟨D,C,_,_,rfl,rfl,s2 _ _ eD,eC,cf (bo (by lia)),fun R hR=>?_⟩;have s3:Same H2 (L2.upd H2 R (.lst (L++ys))):=Same.upd hR;refine⟨_,R,L++ys,rfl,(s1.trans s2).trans s3,(s1.trans s2).free hR,ao,?_⟩;rw[oB];exact ((pL.same s2).app pC).same s3
   ·rintro σ H' Q1 Q2 hq ⟨v1,e1,v2,e2,z,g⟩
    exact⟨v1,e1,v2,e2,z,fun t ht=>hq _ _ (g t ht)⟩
  ·rintro σ H1 ⟨o2,D,L,rfl,s1,nD,eD,pL⟩
   exact⟨_,rfl,q D L H1 s1 nD eD pL⟩
theorem zF {ok:Addr→Prop}{d:PyData}(h:DA K ok H v d):∀ {vs:LG} {ds:LW},DAs K ok H vs ds→DAs K ok H (vs++[v]) (ds++[d])
 | _,_,.nil=>.cons h .nil
 | _,_,.cons a r=>.cons a (zF h r)
structure KD {κ:Type}[DecidableEq κ](D:κ→PyData):Prop where
 lay:∀ k,(D k).canLay0=true
 dep:∀ k,(D k).depth≤32
 eqv:∀ k k',PyData.eqv (D k) (D k')=decide (k=k')
theorem KD.layAll {κ:Type}[DecidableEq κ]{D:κ→PyData}(h:KD D):∀ ks:List κ,PyData.canLayAll0 (ks.map D)=true
 | []=>rfl
 | k :: ks=>by
  rw[aS];simp only[PyData.canLayAll0,h.lay k,h.layAll ks,ck]
theorem KD.any {κ:Type}[DecidableEq κ]{D:κ→PyData}(h:KD D)(k:κ)(ks:List κ):((ks.map D).any fun e=>PyData.eqv e (D k))=decide (k ∈ ks):=by
 induction ks with
 | nil=>simp
 | cons x ks ih =>
  rw[aS,iF,ih,h.eqv]
  by_cases e:x=k
  ·subst e; simp
  ·by_cases m:k ∈ ks
   ·simp[m]
   ·simp[e,m,Ne.symm e]
theorem KD.idx {κ:Type}[DecidableEq κ]{D:κ→PyData}(h:KD D)(k:κ)(ks:List κ):((ks.map D).findIdx fun e=>PyData.eqv e (D k))=ks.idxOf k:=by
 induction ks with
 | nil=>rfl
 | cons x ks ih =>
  rw[aS,List.findIdx_cons,ih,h.eqv,jB]
  by_cases e:x=k
  ·subst e; simp
  ·rw[(by simpa using e:(x == k)=false)]; simp[e]
def dP (a b:Int):PyData:=.tuple [.int a,.int b]
structure Lk where
 b:Bool
 c:Int
 d:Int
 e:Int
 f:Int
 ps:LC
 deriving DecidableEq
def Nv (us:LF)(M T:LA)(u v:Nat):Lk:=⟨decide (u=v),ent M u v,us[u]?.getD 0,us[v]?.getD 0,ent T v u,Du ((nP T u).zip (tY T v))⟩
def Fb (p:Int × Int):PyData:=dP p.1 p.2
def N7 (k:Lk):PyData:=.tuple [.bool k.b,.int k.c,.int k.d,.int k.e,.int k.f,.list (k.ps.map Fb)]
theorem xj:∀ ps:LC,PyData.canLayAll0 (ps.map Fb)=true∧PyData.depthAll (ps.map Fb)≤1
 | []=>⟨rfl,aZ _⟩
 | p :: ps=>by
  obtain⟨h1,h2⟩:=xj ps;rw[aS];have d1:(Fb p).depth≤1:=by simp[Fb,dP,PyData.depth,PyData.depthAll]
  have l1:(Fb p).canLay0=true:=rfl;simp only[PyData.canLayAll0,PyData.depthAll,h1,l1,ck,true_and]
  lia
theorem CP:∀ a b:LC,PyData.eqvAll (a.map Fb) (b.map Fb)=decide (a=b)
 | [],[]=>rfl
 | [],b :: bs=>rfl
 | a :: as,[]=>rfl
 | (a1,a2) :: as,(b1,b2) :: bs=>by
  rw[aS,aS];have e:PyData.eqv (Fb (a1,a2)) (Fb (b1,b2))=decide ((a1,a2)=(b1,b2)):=by
   simp only[Fb,dP,PyData.eqv,PyData.eqvAll]
   by_cases h1:a1=b1
   ·by_cases h2:a2=b2
    ·subst h1 h2; simp
    ·simp[h2]
   ·simp[h1]
  simp only[PyData.eqvAll,CP as bs,e]
  by_cases h:(a1,a2)=(b1,b2)
  ·rw[h]
   by_cases h2:as=bs
   ·subst h2; simp
   ·simp[h2]
  ·rw[bH h,uD,bH]
   intro z;exact h (List.cons.inj z).1
theorem zn:KD N7:=by
 refine⟨fun k=>?_,fun k=>?_,fun a b=>?_⟩
 ·obtain⟨h1,_⟩:=xj k.ps
  simp only[N7,PyData.canLay0,PyData.canLayAll0,h1,ck]
 ·obtain⟨_,h2⟩:=xj k.ps
  simp only[N7,PyData.depth,PyData.depthAll]
  lia
 ·obtain⟨a1,a2,a3,a4,a5,a6⟩:=a
  obtain⟨b1,b2,b3,b4,b5,b6⟩:=b;simp only[N7,PyData.eqv,PyData.eqvAll,CP];simp only[Lk.mk.injEq,Bool.decide_and];cases a1 <;> cases b1 <;> simp <;> rfl
theorem Mm {n:Nat}(h:iD n T){v:Nat}(hu:u < n)(hv:v < n):(nP T u).zip (tY T v)=(List.range n).map fun w=>(ent T u w,ent T w v):=by
 apply Bm
 intro w
 by_cases hw:w < n
 ·rw[aq,cD hw]
  refine dM.mpr ⟨h.ent hu hw,?_⟩;unfold tY;rw[aq,(h.row hw).1];show some (((nP T w)[v]?).getD 0)=_;rw[h.ent hw hv]
  rfl
 ·rw[cP (by rw[List.length_zip,(h.row hu).2]; lia),cP (by rw[aa,b9]; lia)]
theorem Gv {ok:Addr→Prop}:∀ {L:LG} {ps:LC},PsV K H L ps→(∀ a,(∃ p:Int × Int,H a=some (.tup [.int p.1,.int p.2]))→V.ref a ∈ L→ok a)→DAs K ok H L (ps.map Fb)
 | [],[],_,_=>.nil
 | [],_ :: _,h,_=>absurd h.1 (by simp)
 | _ :: _,[],h,_=>absurd h.1 (by simp)
 | v :: L,p :: ps,h,ho=>by
  obtain⟨a,rfl,ha⟩:=h.2 0 v p rfl rfl;exact .cons (.tup (ho a ⟨p,ha⟩ aK) (dy.of ha) (.cons (.int _) (.cons (.int _) .nil))) (Gv ⟨by simpa using h.1,fun i v' p' h1 h2=>h.2 (i+1) v' p' h1 h2⟩ fun a' e m=>ho a' e (aC _ m))
theorem Eu {κ ι:Type}[DecidableEq κ][DecidableEq ι](f:κ→ι)(ks:List κ):jZ ks=jZ (ks.map f)↔∀ k ∈ ks,∀ k' ∈ ks,f k=f k'→k=k':=by
 rw[tE (by rw[aa])]
 constructor
 ·intro h k hk k' hk' e
  obtain⟨i,hi⟩:=aP.mp hk;obtain⟨j,hj⟩:=aP.mp hk';exact (h i j k k' (f k) (f k') hi hj (by rw[aq,hi]; rfl) (by rw[aq,hj]; rfl)).mpr e
 ·intro h i j k k' l l' h1 h2 h3 h4
  rw[aq,h1] at h3;rw[aq,h2] at h4;cases h3;cases h4;exact⟨fun z=>by rw[z],fun z=>h k (ae h1) k' (ae h2) z⟩
theorem Jz (kvs:List (iX × V))(k:iX)(v:V):(kO kvs k v).length≤kvs.length+1:=by
 unfold kO
 split
 ·rw[aa]; lia
 ·rw[ai]; exact au _
def Nu (n:Nat)(h:Nat→Int)(w:Nat→Nat→Int)(t:Nat→Nat→Int)(u v:Nat):Lk:=⟨decide (u=v),w u v,h u,h v,t v u,Du ((List.range n).map fun x=>(t u x,t x v))⟩
def gz (us:LF)(u:Nat):Int:=us[u]?.getD 0
theorem Pl {n:Nat}(h:iD n T){v:Nat}(hu:u < n)(hv:v < n):Nv us M T u v=Nu n (gz us) (ent M) (ent T) u v:=by
 unfold Nv Nu gz;rw[Mm h hu hv]
theorem vB (us:LF)(M T:LA):jw us M T=(prs us.length).map fun p=>xh us M T p.1 p.2:=by
 unfold jw q8 sW prs;rw[List.map_flatMap]
 congr 1
 funext u
 rw[cu]
 rfl
section
variable {us:LF}{M:LA}
end
theorem Oz {W:d9}(h:Fc K H v W.1.length W)(e:H l=some (.lst [v])):xE K H l [W]:=⟨[v],e,rfl,fun i v' W' h1 h2=>by
 cases i with
 | zero=>cases h1; cases h2; exact h
 | succ i=>simp at h1⟩
inductive qI (K:LM)(vs:LG)(H:Hp)(Q:VK):Prop | mk (v:V) (W:d9) (_:vs=[v]) (_:Fc K H v W.1.length W) (_:W.1.length≤8) (_:∀ D ns H',Same H H'→K8 [W] ns→mz H H' D (gI (gN ns [W] 0))→Q (.ref D) H'):qI K vs H Q
def uW (K:LM):Sp:=fun vs H Q _=>qI K vs H Q
theorem Dz:bJ ["web"] ["web"] (aB o0):=by constructor<;>first|rfl|decide +kernel
theorem AK (F:Fun K "coarsest_kinds" "coarsest_kinds" o0 f fd)(DA:Dn K mg "coarsest_tables" lV ["webs"] fA fdA)(GA:bK P w K mg base cI 5 fA fdA ["webs"] (qi K)):bK P w K mg base cI 6 f fd ["web"] (uW K):=by
 refine F.o Dz fun cdv A outer s H vs Q E hr h=>?_
 ·obtain⟨v,W,rfl,hW,h6,q⟩:=h
  refine⟨_,ar (bt (aG aJ (bw DA GA hr rfl (ad (cC (ad (pv 0) ah)) ah)) aj)),?_⟩;refine⟨_,rfl,(by show 1≤sizeLine; decide),fun l1 h1=>?_⟩;have s1:Same H (L2.upd H l1 (.lst [v])):=Same.upd h1;refine⟨l1,[W],rfl,Oz (hW.same s1) ao,(by show 1≤8; decide),fun W' h'=>by rw[aw.mp h']; exact h6,fun D ns H2 s2 en g2=>?_⟩;obtain⟨_,ts,e1,lt,gt,_⟩:=g2
  match ts,lt with
  | [t],_ =>
   exact⟨D,_,_,.ref t,rfl,rfl,bh.of e1,jT _ _,q t ns H2 (s1.trans s2) en ((gt 0 t _ rfl rfl).back s1)⟩
def rI (k:Nat):LF:=(List.range k).map fun (i:Nat)=>(i:Int)
theorem wV (k:Nat):(rI k).length=k:=by unfold rI; rw[aa,b9]
structure WR (H:Hp)(p:Addr)(hs:LF)(M:LA):Prop where
 ex:∃ hA rA rs,H p=some (.tup [.ref hA,.ref rA])∧H hA=some (.lst (hs.map V.int))∧H rA=some (.lst (rs.map V.ref))∧dj H rs M
theorem WR.mono (W:WR H p hs M)(e:Same H H'):WR H' p hs M:=by
 obtain⟨hA,rA,rs,h1,h2,h3,R⟩:=W.ex;exact⟨hA,rA,rs,e _ _ h1,e _ _ h2,e _ _ h3,R.keep fun r _ o z=>e r o z⟩
def jY (hs:LF)(os:LF):LF:=os.map fun o=>hs.getD o.toNat 0
def qZ (M:LA)(os:LF):LA:=os.map fun u=>jY (M.getD u.toNat []) os
theorem Be {xs:LF}{o:Int}(h0:0≤o)(h1:o < (xs.length:Int)):lF (xs.map V.int) o=some (.int (xs.getD o.toNat 0)):=by
 obtain⟨j,rfl⟩:=bc h0;have hj:j < xs.length:=by lia
 refine cX ?_;rw[aq,ax hj];show some (V.int xs[j])=some (V.int (xs.getD (Int.toNat (j:Int)) 0));rw[bC,aR,ax hj]
 rfl
theorem Go {o:Int}(h:o ∈ rI k):0≤o∧o < (k:Int):=by
 unfold rI at h;obtain⟨i,hi,rfl⟩:=bg.mp h
 have:=dX.mp hi
 lia
inductive uM (vs:LG)(H:Hp)(Q:VK):Prop | mk (c:Int) (n:Nat) (fr:Bool) (_:vs=[.int c,.int (n:Int),.bl fr]) (_:n≤8) (_:∀ (p:Addr) (os:LF) (H':Hp),Same H H'→H p=none→H' p=some (.lst (os.map V.int))→os.Perm (rI n)→Q (.ref p) H'):uM vs H Q
def BF:Sp:=fun vs H Q _=>uM vs H Q
abbrev Ni:LK:=["_law_cell_here","_law_many","_law_free","_law_draws_here","_law_found","_law_k"]
abbrev xB:LK:=["_law_cell_here","_law_many","_law_free"]
theorem rD:bJ Ni xB (aB wM):=by constructor<;>first|rfl|decide +kernel
theorem Jv (i:Nat):rI (i+1)=rI i++[(i:Int)]:=by unfold rI; rw[gn,aM]; rfl
theorem Hg (B:qa mg)(F:Fun K "_law_order" "_law_order" wM f fd)(DD:Dn K mg "_law_draws" oz ["_law_cell_here","_law_many","_law_base","_law_free"] fD fdD)(GD:bK P w K mg base cI 1 fD fdD ["_law_cell_here","_law_many","_law_base","_law_free"] oW):bK P w K mg base cI 2 f fd xB BF:=by
 refine F.o rD fun cdv A outer s H vs Q E hr h=>?_
 ·obtain⟨c,n,fr,rfl,hn,q⟩:=h
  refine⟨_,am (d7 3 rD.nd (bw DD GD hr rfl (ad (pv 0) (ad (pv 1) (ad aj (ad (pv 2) ah))))))
   (am (d7 4 rD.nd (cC ah))
   (am (di PassesOwn.never rfl (dB rfl B.range (ad (pv 1) ah)) (iK 5 rD.nd)
    (ar (fg (i0 bp PySem.F.slot_list_insert PySem.F.type_list_insert Ev (pv 4) (ad (aY cJ (aG aJ (pv 3) (pv 5)) (aY dZ (pv 5) aj)) (ad (pv 5) ah))))))
   (ar (bt (pv 4))))),?_⟩
  show let ω1:TS:=_;let ω2:TS:=_;let ω3:TS:=bL (ig _ _ ω2) ω1;let ω4:TS:=bL _ ω3;bL _ ω4 _ _ _;intro ω1 ω2 ω3 ω4;refine⟨_,rfl,_,rfl,_,rfl,c,n,5040,fr,rfl,by lia,by decide,.inl (by decide),fun d ds H1 hd s1 nd ed=>?_⟩;obtain⟨ld,bd⟩:=hd;refine⟨aZ _,fun R hR=>?_⟩;have nR:H R=none:=s1.free hR;refine⟨_,rfl,(n:Int),rfl,by lia,by lia,eV (n:=n) (fun i σ H'=>∃ (o5:LS) (os:LF),σ=[some (.int c),some (.int (n:Int)),some (.bl fr),some (.ref d),some (.ref R),o5]∧Same H1 H'∧H' R=some (.lst (os.map V.int))∧os.Perm (rI i)) ⟨none,[],rfl,Same.upd hR,ao,List.Perm.refl _⟩ ?_ ?_⟩
  ·rintro i σ H2 hi ⟨o5,os,rfl,s2,eR,pm⟩
   have li:i < ds.length:=by lia
   have hat:lF (ds.map V.int) (0+(i:Nat):Int)=some (.int (ds[i]'li)):=by rw[io]; exact cX (by rw[aq,ax li]; rfl)
   have lo:os.length=i:=by rw[pm.length_eq,wV]
   generalize ds[i]'li=x at hat;obtain⟨k,ek⟩:=bc (cB x (by lia:(0+(i:Nat)+1:Int)≠0));have hk:k≤i:=by
    have:=cp x (by lia:(0:Int) < (0+(i:Nat)+1:Int))
    lia
   refine⟨_,rfl,.inl ⟨rfl,_,bh.of eR⟩,_,rfl,_,rfl,d,_,_,_,rfl,rfl,bh.of (s2 _ _ ed),hat,_,rfl,_,_,rfl,rfl,_,_,rfl,rfl,(by show (0:Int) < 0+(i:Nat)+1; lia),_,rfl,?_⟩;refine⟨R,_,k,.int (0+(i:Nat):Int),rfl,?_,eR,by rw[aa]; lia,bo (by rw[aa]; lia),?_⟩
   ·show [V.int (x % (0+(i:Nat)+1)),V.int _]=_
    rw[ek]
   ·refine⟨_,os.take k++(i:Int) :: os.drop k,rfl,fun b o e=>by rw[aO (aU e hR)]; exact s2 _ _ e,?_,?_⟩
    ·rw[ao,aM,aS,pZ,xO,io]
    ·rw[Jv]
     refine List.perm_middle.trans ?_;rw[fj];exact (List.Perm.cons _ pm).trans (List.perm_append_singleton _ _).symm
  ·rintro σ H2 ⟨o5,os,rfl,s2,eR,pm⟩
   exact⟨_,rfl,q R os H2 (s1.trans s2) nR eR pm⟩
end
section
theorem MV {n:Nat}(h:k < n):(rI n)[k]? = some (k:Int):=by
 unfold rI;rw[aq,cD h]
 rfl
theorem Nr {α:Type}(xs:List α)(d:α):(rI xs.length).map (fun o=>xs.getD o.toNat d)=xs:=by
 apply Bm
 intro i;rw[aq]
 by_cases hi:i < xs.length
 ·rw[MV hi,mH,bC,aR,ax hi]
  rfl
 ·rw[cP (by rw[wV]; lia),cP (by lia)]
  rfl
end
section
variable {n:Nat}{os:LF}(hp:os.Perm (rI n))
theorem wT (xs os:LF):(jY xs os).length=os.length:=by unfold jY; rw[aa]
include hp
theorem LE {o:Int}(e:os[i]? = some o):∃ a:Nat,o=(a:Int)∧a < n:=by
 have:=Go (hp.mem_iff.mp (ae e))
 obtain⟨a,rfl⟩:=bc this.1;exact⟨a,rfl,by lia⟩
theorem AC:os.length=n:=by rw[hp.length_eq,wV]
theorem sX {xs:LF}(h:xs.length=n):(jY xs os).Perm xs:=by
 subst h
 have:=hp.map fun o=>xs.getD o.toNat 0
 rw[Nr] at this;exact this
end
section
variable {P:Program}{w:World}{K:LM}{mg:LO}{base:Heap}
theorem DX (R:dj H rs M)(h:r ∈ rs):∃ o,H r=some o:=by
 obtain⟨j,hj,e⟩:=xH h;obtain⟨r',x',h1,h2,h3⟩:=R.get hj
 have:rs[j]? = some r:=by rw[ax hj,e]
 rw[h1] at this;cases this;exact⟨_,h3⟩
theorem yE (R:dj H rs M)(h:H a=none):a ∉ rs:=fun hm=>by
 obtain⟨o,e⟩:=DX R hm;rw[h] at e;cases e
theorem Ku (M:LA)(hlen:M.length=xs.length)(hm:xs.length≤900)(hD:H1 D=none)(hxs:bh K H1 a xs)(hs:∀ (i:Nat) (x:V) (row:LF) (H':Hp),xs[i]? = some x→M[i]? = some row→Same H1 H'→te (σ++[some x]) H' fun v H3=>∃ r,v=.ref r∧Same H' H3∧H' r=none∧H3 r=some (.lst (row.map V.int)))(hd:∀ rs H',Same H1 H'→H' D=some (.lst (rs.map V.ref))→dj H' rs M→(∀ r ∈ rs,H1 r=none∧r≠D)→Q H')(mono:∀ σ H Q Q',(∀ v H1,Q v H1→Q' v H1)→te σ H Q→te σ H Q') :
  ∃ W:Nat→Nat→List V→Hp→Prop,(∃ m,W 0 m [] (upd H1 D (.lst []))) ∧
   ∀ i m ys H',W i m ys H'→H' D=some (.lst ys)∧(((uC K a).stop i H'∧Q H') ∨ ((uC K a).go i H'∧∀ z H2,(uC K a).yld i H' z H2→te (σ++[some z]) H2 fun v H3=>H3 D=some (.lst ys)∧ys.length < sizeLine∧∃ m',m' < m∧W (i+1) m' (ys++[v]) (upd H3 D (.lst (ys++[v]))))):=by
 refine mh (xs:=xs) (fun i ys H'=>∃ rs':LI,ys=rs'.map V.ref∧rs'.length=i∧Same H1 H'∧H' D=some (.lst ys)∧dj H' rs' (M.take i)∧∀ r ∈ rs',H1 r=none∧r≠D) ⟨[],rfl,rfl,Same.upd hD,ao,⟨rfl,(fun i r x h _=>by cases h),eP⟩,(fun r hr=>by cases hr)⟩ (fun i ys H' _ ⟨_,_,_,sm,eD,_⟩=>⟨Same.sq sm hxs,eD⟩) ?_ ?_ mono
 ·rintro i x ys H4 hx ⟨rs',rfl,l4,s4,eD,R4,o4⟩
  have hi:i < M.length:=by rw[hlen]; exact (aN.mp hx).1
  have hrow:M[i]? = some M[i]:=ax hi;refine mono _ _ _ _ ?_ (hs i x M[i] H4 hx hrow s4);rintro v H5 ⟨r,rfl,s5,hr,er⟩;have nDr:r≠D:=(aU eD hr).symm;have nR:=yE R4 hr;have R5:dj H5 (rs'++[r]) (M.take i++[M[i]]):=R4.snoc (fun r' _ o' z=>s5 r' o' z) er nR;refine⟨s5 _ _ eD,bo (by rw[aa]; lia),rs'++[r],by rw[aM]; rfl,by rw[ai,l4]; rfl,fun b u e=>?_,ao,?_,?_⟩
  ·have:b≠D:=fun z=>by subst z; rw[hD] at e; cases e
   rw[aO this];exact s5 _ _ (s4 _ _ e)
  ·rw[fq hrow]
   refine R5.keep fun r' hr' o' e=>?_
   have:r'≠D:=by
    rcases bu.mp hr' with z | z
    ·exact (o4 r' z).2
    ·rw[aw.mp z]; exact nDr
   rw[aO this];exact e
  ·intro r' hr'
   rcases bu.mp hr' with z | z
   ·exact o4 r' z
   ·rw[aw.mp z]
    exact⟨s4.free hr,nDr⟩
 ·rintro ys H4 ⟨rs',rfl,l4,s4,eD,R4,o4⟩
  rw[←hlen,cF] at R4;exact hd rs' H4 s4 eD R4 o4
def dW (hs:LF)(M:LA):PyData:=.tuple [dI hs,.list (M.map dI)]
theorem pw:∀ M:LA,PyData.canLayAll0 (M.map dI)=true∧PyData.depthAll (M.map dI)≤1
 | []=>⟨rfl,aZ _⟩
 | x :: M=>by
  obtain⟨h1,h2⟩:=pw M;obtain⟨a1,a2⟩:=iQ x;rw[aS];simp only[PyData.canLayAll0,PyData.depthAll,h1,a1,ck,true_and]
  lia
theorem HE (hs:LF)(M:LA):(dW hs M).canLay0=true∧(dW hs M).depth≤3:=by
 obtain⟨h1,h2⟩:=pw M;obtain⟨a1,a2⟩:=iQ hs;unfold dW;simp only[PyData.canLay0,PyData.canLayAll0,PyData.depth,PyData.depthAll,h1,a1,ck,true_and]
 lia
theorem pN:∀ {rs:LI} {M:LA},rs.length=M.length→(∀ (i:Nat) (r:Addr) (x:LF),rs[i]? = some r→M[i]? = some x→H r=some (.lst (x.map V.int)))→DAs K any H (rs.map V.ref) (M.map dI)
 | [],[],_,_=>.nil
 | r :: rs,x :: M,l,h=>.cons (Is trivial (bh.of (h 0 r x rfl rfl))) (pN (by simpa using l) fun i r' x' h1 h2=>h (i+1) r' x' h1 h2)
structure xM (n:Nat)(M:LA):Prop where
 len:M.length=n
 row:∀ (i:Nat) (x:LF),M[i]? = some x→x.length=n∧∀ z ∈ x,z.natAbs≤2 * mG
theorem Sq.n {n:Nat}(S:Sq n M):xM n M:=⟨S.len,fun i x h=>⟨(S.row i x h).1,fun z hz=>aE ((S.row i x h).2 z hz) (by lia)⟩⟩
structure Wz (H:Hp)(p:Addr)(n:Nat)(hs:LF)(M:LA):Prop where
 wr:WR H p hs M
 len:hs.length=n
 sq:xM n M
 hb:∀ z ∈ hs,z.natAbs≤100
theorem Wz.same {n:Nat}(W:Wz H p n hs M)(s:Same H H'):Wz H' p n hs M:=⟨W.wr.mono s,W.len,W.sq,W.hb⟩
structure WN (H H':Hp)(p:Addr)(hs:LF)(M:LA):Prop where
 ex:∃ hA rA rs,H' p=some (.tup [.ref hA,.ref rA])∧H' hA=some (.lst (hs.map V.int))∧H' rA=some (.lst (rs.map V.ref))∧dj H' rs M∧(∀ a ∈ p :: hA :: rA :: rs,H a=none)∧hA≠rA∧hA ∉ rs∧rA ∉ rs
theorem Cq (zs:LF)(hlen:zs.length=xs.length)(hm:xs.length≤900)(hD:H1 D=none)(hxs:bh K H1 a xs)(hs:∀ (i:Nat) (x:V) (z:Int) (H':Hp),xs[i]? = some x→zs[i]? = some z→Same H1 H'→te (σ++[some x]) H' fun v H3=>v=.int z∧H3=H')(hd:Q (upd H1 D (.lst (zs.map V.int))))(mono:∀ σ H Q Q',(∀ v H1,Q v H1→Q' v H1)→te σ H Q→te σ H Q') :
  ∃ W:Nat→Nat→List V→Hp→Prop,(∃ m,W 0 m [] (upd H1 D (.lst []))) ∧
   ∀ i m ys H',W i m ys H'→H' D=some (.lst ys)∧(((uC K a).stop i H'∧Q H') ∨ ((uC K a).go i H'∧∀ z H2,(uC K a).yld i H' z H2→te (σ++[some z]) H2 fun v H3=>H3 D=some (.lst ys)∧ys.length < sizeLine∧∃ m',m' < m∧W (i+1) m' (ys++[v]) (upd H3 D (.lst (ys++[v]))))):=by
 refine mh (xs:=xs) (fun i ys H'=>ys=(zs.take i).map V.int∧H'=upd H1 D (.lst ys)) ⟨rfl,rfl⟩ (fun i ys H' _ ⟨_,e⟩=>?_) ?_ ?_ mono
 ·subst e
  exact⟨Same.sq (Same.upd hD) hxs,ao⟩
 ·rintro i x ys H4 hx ⟨rfl,rfl⟩
  have hi:i < zs.length:=by rw[hlen]; exact (aN.mp hx).1
  have hz:zs[i]? = some zs[i]:=ax hi;refine mono _ _ _ _ ?_ (hs i x zs[i] _ hx hz (Same.upd hD));rintro v H5 ⟨rfl,rfl⟩;refine⟨ao,bo (by rw[aa,bB]; lia),?_,by rw[IS]⟩;rw[fq hz,aM]
  rfl
 ·rintro ys H4 ⟨rfl,rfl⟩
  rw[←hlen,cF];exact hd
inductive yk (vs:LG)(H:Hp)(Q:VK):Prop | mk (wA oA:Addr) (n:Nat) (hs:LF) (M:LA) (os:LF) (_:vs=[.ref wA,.ref oA]) (_:WR H wA hs M) (_:hs.length=n) (_:xM n M) (_:n≤8) (_:H oA=some (.lst (os.map V.int))) (_:os.Perm (rI n)) (_:∀ p H',Same H H'→WN H H' p (jY hs os) (qZ M os)→Q (.ref p) H'):yk vs H Q
def FR:Sp:=fun vs H Q _=>yk vs H Q
abbrev Cl:LK:=["_law_web_here","_law_order_here","_law_hues","_law_rows"]
def zi (e:Expr):Expr:=match e with
 | .ListComp x _ _ _=>x
 | _=>.Constant .none 0 ⟨0,0,0,0⟩
theorem Av:bJ Cl ["_law_web_here","_law_order_here"] (aB mO):=by constructor<;>first|rfl|decide +kernel
theorem Kz:fk (aB mO) Cl (cz (uF (dq (cT mO 1)) 0)) "_law_k":=by constructor<;>first|rfl|decide +kernel
theorem Ky:fk (aB mO) Cl (cz (uF (dq (cT mO 1)) 1)) "_law_k":=by constructor<;>first|rfl|decide +kernel
def K0:Scope:=relabel (cz (uF (dq (cT mO 1)) 1)) (envOfC "" (aB mO) 0 0 .none)
theorem Kx:fk K0 (jS Cl "_law_k") (cz (zi (uF (dq (cT mO 1)) 1))) "_law_j":=by constructor<;>first|rfl|decide +kernel
theorem JP (F:Fun K "_law_renamed" "_law_renamed" mO f fd):bK P w K mg base cI 1 f fd ["_law_web_here","_law_order_here"] FR:=by
 refine F.o Av fun cdv A outer s H vs Q E hr h=>?_
 ·obtain⟨wA,oA,n,hs,M,os,rfl,hW,hl,hS,hn,ho,hp,q⟩:=h
  obtain⟨hA,rA,rs,w1,w2,w3,R⟩:=hW.ex;have hmem:∀ o ∈ os,0≤o∧o < (n:Int):=fun o h=>Go (hp.mem_iff.mp h)
  have hlos:os.length=n:=by rw[hp.length_eq,wV]
  refine⟨_,am (gx (pv 0) (gp rfl (bY (iK 2 Av.nd) (bY (iK 3 Av.nd) eJ))))
   (ar (bt (dc (ad (Ce rfl Kz rfl (cU (pv 1)) fun _ _ _=>aG (ij (K:=K)) (pv 2) (pv 4)) (ad (Ce rfl Ky rfl (cU (pv 1))
    (fun _ _ _=>Ce rfl Kx rfl (ph (K:=K) (pv 1)) fun _ _ _=>aG (ij (K:=K)) (aG (ij (K:=K)) (pv 3) (pv 4)) (pv 5))) ah))))),?_⟩
  show let ω1:TS:=_;bL _ ω1 _ _ _;intro ω1;refine⟨_,rfl,wA,_,rfl,dy.of w1,rfl,_,_,rfl,_,_,rfl,rfl,?_⟩;refine⟨_,rfl,oA,rfl,⟨_,bh.of ho⟩,fun D hD=>?_⟩;refine Cq (xs:=os.map V.int) (jY hs os) (by unfold jY; rw[aa,aa]) (by rw[aa]; lia) hD (bh.of ho) ?_ ?_ ?_
  ·intro i x z H1 hx hz s1
   obtain⟨o,ho',rfl⟩:=bI hx;obtain⟨o2,ho2,rfl⟩:=bI (show (os.map fun o=>hs.getD o.toNat 0)[i]? = some z from hz);rw[ho'] at ho2;cases ho2;have hm:=hmem o (ae ho');exact⟨_,rfl,_,rfl,hA,_,_,_,rfl,rfl,bh.of (s1 _ _ w2),Be hm.1 (by rw[hl]; exact hm.2),rfl,rfl⟩
  ·have s1:Same H (L2.upd H D (.lst ((jY hs os).map V.int))):=Same.upd hD
   have e1:L2.upd H D (.lst ((jY hs os).map V.int)) D=some (.lst ((jY hs os).map V.int)):=ao;generalize L2.upd H D (.lst ((jY hs os).map V.int))=H1 at s1 e1 ⊢;refine⟨_,rfl,oA,rfl,⟨_,bh.of (s1 _ _ ho)⟩,fun D2 hD2=>?_⟩;have nDD:D≠D2:=aU e1 hD2;refine Ku (xs:=os.map V.int) (qZ M os) (by unfold qZ; rw[aa,aa]) (by rw[aa]; lia) hD2 (bh.of (s1 _ _ ho)) ?_ ?_ ?_
   ·intro i x row H2 hx hrow s2
    obtain⟨o,ho',rfl⟩:=bI hx;obtain⟨o2,ho2,rfl⟩:=bI (show (os.map fun o=>jY (M.getD o.toNat []) os)[i]? = some row from hrow);rw[ho'] at ho2;cases ho2;have hm:=hmem o (ae ho');obtain⟨j,rfl⟩:=bc hm.1;have hj:j < rs.length:=by rw[R.len,hS.len]; lia
    obtain⟨r,xr,g1,g2,g3⟩:=R.get hj;have t2:=s1.trans s2;have hlr:=(hS.row j xr g2).1;have er:M.getD (Int.toNat (j:Int)) []=xr:=by rw[bC,getD_some g2]
    rw[er];refine⟨_,rfl,oA,rfl,⟨_,bh.of (t2 _ _ ho)⟩,fun D3 hD3=>?_⟩;refine Cq (xs:=os.map V.int) (jY xr os) (by unfold jY; rw[aa,aa]) (by rw[aa]; lia) hD3 (bh.of (t2 _ _ ho)) ?_ ?_ ?_
    ·intro i' x' z H3 hx' hz' s3
     obtain⟨o',ho1,rfl⟩:=bI hx';obtain⟨o2,ho2,rfl⟩:=bI (show (os.map fun o=>xr.getD o.toNat 0)[i']? = some z from hz');rw[ho1] at ho2;cases ho2;have hm':=hmem o' (ae ho1);have t3:=t2.trans s3;exact⟨_,rfl,_,rfl,rA,_,_,_,rfl,rfl,bh.of (t3 _ _ w3),fJ g1,_,rfl,r,_,_,_,rfl,rfl,bh.of (t3 _ _ g3),Be hm'.1 (by rw[hlr]; exact hm'.2),rfl,rfl⟩
    ·exact⟨D3,rfl,Same.upd hD3,hD3,ao⟩
    ·rintro σ H' Q1 Q2 hq ⟨v,x1,v2,x2,p2,y3,i2,z2,y4,y5,y6,y7,v4,y8,p3,u3,i3,z3,u4,u5,u6,u7,u8⟩
     exact⟨v,x1,v2,x2,p2,y3,i2,z2,y4,y5,y6,y7,v4,y8,p3,u3,i3,z3,u4,u5,u6,u7,hq _ _ u8⟩
   ·intro rs1 H2 s2 eD R2 f2
    refine⟨(by show 2≤sizeLine; decide),fun tA htA=>?_⟩;have s3:Same H2 (L2.upd H2 tA (.tup [.ref D,.ref D2])):=Same.upd htA;refine q tA _ ((s1.trans s2).trans s3) ⟨D,D2,rs1,ao,s3 _ _ (s2 _ _ e1),s3 _ _ eD,R2.keep fun r _ o z=>s3 r o z,?_,nDD,fun z=>?_,fun z=>(f2 _ z).2 rfl⟩
    ·intro a ha
     rcases aQ.mp ha with rfl | ha
     ·exact (s1.trans s2).free htA
     ·rcases aQ.mp ha with rfl | ha
      ·exact hD
      ·rcases aQ.mp ha with rfl | ha
       ·exact s1.free hD2
       ·exact s1.free (f2 a ha).1
    ·have:=(f2 _ z).1
     rw[e1] at this;cases this
   ·rintro σ H' Q1 Q2 hq ⟨v,e,a,e2,e3,g⟩
    exact⟨v,e,a,e2,e3,fun D hD=>let ⟨W,m0,st⟩:=g D hD; ⟨W,m0,fun i m ys H' hw=>let ⟨a1,a2⟩:=st i m ys H' hw; ⟨a1,a2.imp (fun⟨b1,b2⟩=>⟨b1,hq _ _ b2⟩) id⟩⟩⟩
  ·rintro σ H' Q1 Q2 hq ⟨v,x1,v2,x2,p2,y3,i2,z2,y4,y5,y6,y7,y8⟩
   exact⟨v,x1,v2,x2,p2,y3,i2,z2,y4,y5,y6,y7,hq _ _ y8⟩
end
section
theorem Jy {n:Nat}(hl:M.length=n)(hz:Pz z)(hr:∀ (i:Nat) (x:LF),M[i]? = some x→x.length=n∧∀ z ∈ x,Pz z) :
  (put M i j z).length=n∧∀ (k:Nat) (x:LF),(put M i j z)[k]? = some x→x.length=n∧∀ z ∈ x,Pz z:=by
 unfold put;refine⟨by rw[cR]; exact hl,fun k x hx=>?_⟩
 by_cases hk:k=i
 ·subst hk
  by_cases hlt:k < M.length
  ·rw[dG hlt] at hx
   have hx:=aW hx;have hy:M[k]? = some M[k]:=by simp[hlt]
   have hh:=hr k _ hy;subst hx;rw[hy];simp only[kZ,cR];refine⟨hh.1,fun y hy'=>?_⟩;rcases ff hy' with q | q
   ·exact hh.2 y q
   ·rw[q]; exact hz
  ·rw[cP (by rw[cR]; lia)] at hx
   cases hx
 ·rw[eg (Ne.symm hk)] at hx
  exact hr k x hx
theorem xM.put {n:Nat}(S:xM n M)(i j:Nat)(hz:z.natAbs≤2 * mG):xM n (put M i j z):=by
 obtain⟨a,b⟩:=Jy (i:=i) (j:=j) (Pz:=fun z=>z.natAbs≤2 * mG) S.len hz S.row;exact⟨a,b⟩
theorem xM.ent {n:Nat}(S:xM n M){a b:Nat}(hi:i < n)(hj:j < n):ent (My.put M i j z) a b=if a=i∧b=j then z else My.ent M a b :=
 pK M n i j a b z S.len (fun i x h=>(S.row i x h).1) hi hj
theorem kn {a:Nat}(ha:a < m)(hu:u < m)(hs:s < 2)(hs':s' < 2):a+s * m=u+s' * m↔a=u∧s=s':=by
 have h1:s=0 ∨ s=1:=by lia
 have h2:s'=0 ∨ s'=1:=by lia
 constructor
 ·intro h
  rcases h1 with q | q <;> rcases h2 with q' | q' <;> rw[q,q'] at h ⊢ <;> lia
 ·rintro⟨rfl,rfl⟩
  rfl
theorem kj {a:Nat}(ha:a < m)(hs:s < 2):a+s * m < 2 * m:=by
 have h1:s=0 ∨ s=1:=by lia
 rcases h1 with rfl | rfl <;> simp only[Nat.zero_mul,Nat.one_mul] <;> lia
def mF (m:Nat)(tw:Nat→Nat→Nat)(R:Nat→Nat→Int)(N:LA)(u v s:Nat):LA:=put (put N (u+s * m) (v+(s+tw u v) % 2 * m) (R u v)) (v+(s+tw u v) % 2 * m) (u+s * m) (R u v)
def K6 (m:Nat)(tw:Nat→Nat→Nat)(R:Nat→Nat→Int)(dn:Nat→Nat→Prop)(N:LA):Prop :=
 ∀ a b s t:Nat,a < m→b < m→s < 2→t < 2→(dn (min a b) (max a b)→ent N (a+s * m) (b+t * m)=if (s+t) % 2=tw (min a b) (max a b) then R (min a b) (max a b) else 0)∧(¬ dn (min a b) (max a b)→ent N (a+s * m) (b+t * m)=0)
theorem EC {N:LA}{v:Nat}(ht:tw u v < 2)(uv:u≤v)(hv:v < m)(S:xM (2 * m) N)(hR:(R u v).natAbs≤2 * mG)(nd:¬ dn u v)(L:K6 m tw R dn N) :
  K6 m tw R (fun x y=>dn x y ∨ (x=u∧y=v)) (mF m tw R (mF m tw R N u v 0) u v 1):=by
 intro a b s t ha hb hs ht';have hu:u < m:=by lia
 have m0:(0+tw u v) % 2 < 2:=nU _ (by decide);have m1:(1+tw u v) % 2 < 2:=nU _ (by decide);have c1:=kj (m:=m) hu (show 0 < 2 by decide);have c2:=kj (m:=m) hv m0;have c3:=kj (m:=m) hu (show 1 < 2 by decide);have c4:=kj (m:=m) hv m1;have S1:=S.put (u+0 * m) (v+(0+tw u v) % 2 * m) hR;have S2:=S1.put (v+(0+tw u v) % 2 * m) (u+0 * m) hR;have S3:=S2.put (u+1 * m) (v+(1+tw u v) % 2 * m) hR;have e:ent (mF m tw R (mF m tw R N u v 0) u v 1) (a+s * m) (b+t * m) =
   if (a=v∧s=(1+tw u v) % 2)∧b=u∧t=1 then R u v else if (a=u∧s=1)∧b=v∧t=(1+tw u v) % 2 then R u v else
   if (a=v∧s=(0+tw u v) % 2)∧b=u∧t=0 then R u v else if (a=u∧s=0)∧b=v∧t=(0+tw u v) % 2 then R u v else ent N (a+s * m) (b+t * m):=by
  unfold mF;rw[S3.ent c4 c3,S2.ent c3 c4,S1.ent c2 c1,S.ent c1 c2];simp only[kn ha hv hs m1,kn hb hu ht' (show 1 < 2 by decide),kn ha hu hs (show 1 < 2 by decide),kn hb hv ht' m1,kn ha hv hs m0,kn hb hu ht' (show 0 < 2 by decide),kn ha hu hs (show 0 < 2 by decide),kn hb hv ht' m0]
 rw[e];obtain⟨l1,l2⟩:=L a b s t ha hb hs ht';have hs2:s=0 ∨ s=1:=by lia
 have ht2:t=0 ∨ t=1:=by lia
 have hw2:tw u v=0 ∨ tw u v=1:=by lia
 by_cases cur:min a b=u∧max a b=v
 ·have mm:(a=u∧b=v) ∨ (a=v∧b=u):=by lia
  rw[cur.1,cur.2] at l2 ⊢;have e0:=l2 nd;refine⟨fun _=>?_,fun z=>absurd (Or.inr ⟨rfl,rfl⟩) z⟩;rw[e0];rcases mm with ⟨ra,rb⟩ | ⟨ra,rb⟩ <;> rcases hs2 with rfl | rfl <;> rcases ht2 with rfl | rfl <;> rcases hw2 with hw | hw <;> rw[hw] <;> simp[ra,rb]
 ·have n1:¬ (a=v∧b=u):=fun z=>cur (by omega)
  have n2:¬ (a=u∧b=v):=fun z=>cur (by omega)
  rw[if_neg fun z=>n1 ⟨z.1.1,z.2.1⟩,if_neg fun z=>n2 ⟨z.1.1,z.2.1⟩,if_neg fun z=>n1 ⟨z.1.1,z.2.1⟩,if_neg fun z=>n2 ⟨z.1.1,z.2.1⟩];exact⟨fun z=>l1 (z.resolve_right cur),fun z=>l2 fun y=>z (.inl y)⟩
theorem KW {W:LF}(h:M[i]? = some W):ent M i j=W.getD j 0:=by
 unfold ent;rw[h,aR]
 rfl
end
section
variable {P:Program}{w:World}{K:LM}{mg:LO}{base:Heap}
inductive yi (vs:LG)(H:Hp)(Q:VK):Prop | mk (wA:Addr) (m:Nat) (hs:LF) (M:LA) (c:Int) (fr:Bool) (_:vs=[.ref wA,.int c,.bl fr]) (_:Wz H wA m hs M) (_:m≤4) (_:∀ (p:Addr) (N:LA) (H':Hp),Same H H'→Wz H' p (2 * m) (hs++hs) N→Q (.ref p) H'):yi vs H Q
def FP (K:LM):Sp:=fun vs H Q _=>yi vs H Q
abbrev Pj:LK:=["_law_web_here","_law_cell_here","_law_free","_law_hues","_law_rows","_law_many","_law_twists","_law_square_here","_law_u","_law_v","_law_side","_law_there","_law_here"]
abbrev C8:LK:=["_law_web_here","_law_cell_here","_law_free"]
theorem i7:bJ Pj C8 (aB B4):=by constructor<;>first|rfl|decide +kernel
theorem FF (n:Nat):xM n (List.replicate n (List.replicate n 0)):=(BB n).n
theorem Kn (h:∀ x y,¬ dn x y):K6 m tw R dn (List.replicate (2 * m) (List.replicate (2 * m) 0)):=by
 intro a b s t ha hb hs ht;refine⟨fun z=>absurd z (h _ _),fun _=>?_⟩;unfold ent;rw[eA,if_pos (kj ha hs)];simp only[kZ,eA,if_pos (kj hb ht)]
theorem K6.mono {N:LA}(L:K6 m tw R dn N)(h:∀ x y,x≤y→y < m→(dn x y↔dn' x y)):K6 m tw R dn' N:=by
 intro a b s t ha hb hs ht;obtain⟨l1,l2⟩:=L a b s t ha hb hs ht;have e:=h (min a b) (max a b) (by lia) (by lia);exact⟨fun z=>l1 (e.mpr z),fun z=>l2 fun y=>z (e.mp y)⟩
theorem JS (B:qa mg)(F:Fun K "_law_lift" "_law_lift" B4 f fd)(DD:Dn K mg "_law_draws" oz ["_law_cell_here","_law_many","_law_base","_law_free"] fD fdD)(GD:bK P w K mg base cI 1 fD fdD ["_law_cell_here","_law_many","_law_base","_law_free"] oW):bK P w K mg base cI 2 f fd C8 (FP K):=by
 refine F.o i7 fun cdv A outer s H vs Q E hr h=>?_
 ·obtain⟨wA,m,hs,M,c,fr,rfl,W,hm,q⟩:=h
  obtain⟨hA,rA,rs,w1,w2,w3,RM⟩:=W.wr.ex;refine⟨_,am (gx (pv 0) (gp rfl (bY (iK 3 i7.nd) (bY (iK 4 i7.nd) eJ))))
   (am (d7 5 i7.nd (bQ bT (by rfl) B.len bE (ad (pv 3) ah)))
   (am (d7 6 i7.nd (bw DD GD hr rfl (ad (pv 1) (ad (aY dY (pv 5) (pv 5)) (ad aj (ad (pv 2) ah))))))
   (am (d7 7 i7.nd (cC ah))
   (am (di PassesOwn.never rfl (dB rfl B.range (ad (aY dY aj (pv 5)) ah)) (iK 8 i7.nd)
    (ar (fg (i0 bp bO bN dk (pv 7) (ad (aY mR (cC (ad aj ah)) (aY dY aj (pv 5))) ah)))))
   (am (di PassesOwn.never rfl (dB rfl B.range (ad (pv 5) ah)) (iK 8 i7.nd)
    (ar (di PassesOwn.never rfl (qo rfl B.range (ad (pv 8) (ad (pv 5) ah))) (iK 9 i7.nd)
     (ar (di PassesOwn.never rfl (dB rfl B.range (ad aj ah)) (iK 10 i7.nd)
      (am (d7 11 i7.nd (aY cJ (aY dZ (pv 10) (aG aJ (pv 6) (aY dZ (aY dY (pv 8) (pv 5)) (pv 9)))) aj))
      (am (d7 12 i7.nd (aY dZ (pv 8) (aY dY (pv 10) (pv 5))))
      (am (d7 11 i7.nd (aY dZ (pv 9) (aY dY (pv 11) (pv 5))))
      (am (gx (aG aJ (aG aJ (pv 4) (pv 8)) (pv 9)) (jv (aG aJ (pv 7) (pv 12)) (pv 11) gH))
      (ar (gx (aG aJ (aG aJ (pv 4) (pv 8)) (pv 9)) (jv (aG aJ (pv 7) (pv 11)) (pv 12) gH))))))))))))
   (ar (bt (dc (ad (aY oE (pv 3) (pv 3)) (ad (pv 7) ah)))))))))),?_⟩
  show let ω1:TS:=_;let ω2:TS:=_;let ω3:TS:=bL _ ω2;let ω4:TS:=bL _ ω3;let ω5:TS:=bL _ ω4;let ω6:TS:=bL _ ω5;let ω7:TS:=(ig _ _ ω6);let ω8:TS:=(ig _ _ ω7);let ω9:TS:=bL (ig _ _ ω8) ω1;let ω10:TS:=_;let ω11:TS:=bL (ig _ _ ω10) ω9;let ω12:TS:=bL _ ω11;let ω13:TS:=bL _ ω12;let ω14:TS:=bL _ ω13;bL _ ω14 _ _ _;intro ω1 ω2 ω3 ω4 ω5 ω6 ω7 ω8 ω9 ω10 ω11 ω12 ω13 ω14;refine⟨_,rfl,wA,_,rfl,dy.of w1,rfl,_,_,rfl,_,_,rfl,rfl,?_⟩;refine⟨_,rfl,hA,_,rfl,.inl (bh.of w2),?_⟩;rw[aa,W.len];have mm:m * m≤16:=bP hm hm;refine⟨_,rfl,_,rfl,_,rfl,_,_,rfl,rfl,fi (by lia) (by lia),_,rfl,c,m * m,2,fr,?_,by lia,by decide,.inl (by decide),fun T ds H1 hd s1 nT eT=>?_⟩
  ·show [V.int c,V.int ((m:Int) * (m:Int)),_,_]=_
   rw[show (m:Int) * (m:Int)=((m * m:Nat):Int) by push_cast; rfl]
  obtain⟨ld,bd⟩:=hd;refine⟨aZ _,fun D hD=>?_⟩;have nD:H D=none:=s1.free hD;have e2m:(2:Int) * (m:Int)=((2 * m:Nat):Int):=by push_cast; rfl
  refine⟨_,rfl,_,_,rfl,rfl,fi (by decide) (by decide),_,rfl,by lia,by lia,?_⟩;have etn:((2:Int) * (m:Int)).toNat=2 * m:=by lia
  rw[etn]
  let π1:LP:=fun i σ H'=>∃ (o8:LS) (rs':LI),σ=[some (.ref wA),some (.int c),some (.bl fr),some (.ref hA),some (.ref rA),some (.int (m:Int)),some (.ref T),some (.ref D),o8,none,none,none,none]∧rs'.length=i∧Same H1 H'∧H' D=some (.lst (rs'.map V.ref))∧      dj H' rs' (List.replicate i (List.replicate (2 * m) 0))∧∀ r ∈ rs',H1 r=none∧r≠D
  refine eV (n:=2 * m) π1 ⟨none,[],rfl,rfl,Same.upd hD,ao,⟨rfl,(fun i r x h _=>by cases h),eP⟩,(fun r hr=>by cases hr)⟩ ?_ ?_
  ·rintro i σ H4 hlt ⟨o8,rs',rfl,l4,c4,eD,R4,o4⟩
   refine⟨_,rfl,.inl ⟨rfl,_,bh.of eD⟩,(by show 1≤sizeLine; decide),fun l1 hl1=>?_⟩;refine⟨_,rfl,_,_,rfl,rfl,fi (by decide) (by decide),l1,_,_,rfl,rfl,ao,by lia,by lia,cf (bo (by rw[etn]; show 1 * (2 * m)≤1000; lia)),fun l2 hl2=>?_⟩;rw[etn,qc] at *;have n21:l2≠l1:=(aU ao hl2).symm;have hl2':H4 l2=none:=by rw[aO n21] at hl2; exact hl2
   have sm:Same H4 (upd (upd H4 l1 (.lst [.int 0])) l2 (.lst ((List.replicate (2 * m) (0:Int)).map V.int))):=(Same.upd hl1).trans (Same.upd hl2);have el:upd (upd H4 l1 (.lst [.int 0])) l2 (.lst ((List.replicate (2 * m) (0:Int)).map V.int)) l2=some (.lst ((List.replicate (2 * m) (0:Int)).map V.int)):=ao;generalize upd (upd H4 l1 (.lst [.int 0])) l2 (.lst ((List.replicate (2 * m) (0:Int)).map V.int))=H5 at sm el ⊢;have l2D:l2≠D:=(aU eD hl2').symm;have l2r:l2 ∉ rs':=yE R4 hl2';refine⟨D,_,_,rfl,rfl,sm _ _ eD,bo (by rw[aa]; lia),?_⟩;refine⟨_,rs'++[l2],rfl,by rw[ai,l4]; rfl,fun b o e=>?_,by rw[aM]; exact ao,?_,?_⟩
   ·rw[aO (aU e hD)]
    exact sm _ _ (c4 _ _ e)
   ·have R5:dj H5 (rs'++[l2]) (List.replicate i (List.replicate (2 * m) 0)++[List.replicate (2 * m) 0]):=R4.snoc (fun r _ o e=>sm r o e) el l2r
    rw[←List.replicate_succ'] at R5;refine R5.keep fun r hr o e=>?_
    have:r≠D:=by
     rcases bu.mp hr with z | z
     ·exact (o4 r z).2
     ·rw[aw.mp z]; exact l2D
    rw[aO this];exact e
   ·intro r hr
    rcases bu.mp hr with z | z
    ·exact o4 r z
    ·rw[aw.mp z]
     exact⟨c4.free hl2',l2D⟩
  ·rintro σ H4 ⟨o8,rs',rfl,l4,c4,eD,R4,o4⟩
   obtain⟨tw,htw⟩:∃ tw:Nat→Nat→Nat,tw=fun u v=>((ds[u * m+v]?).getD 0).toNat:=⟨_,rfl⟩
   have ix:∀ {u v:Nat},u < m→v < m→u * m+v < m * m:=fun {u v} hu hv=>by
    have h1:(u+1) * m≤m * m:=uz m hu;rw[Nat.add_mul,Nat.one_mul] at h1
    lia
   have twd:∀ {u v:Nat},u < m→v < m→ds[u * m+v]? = some ((tw u v:Nat):Int)∧tw u v < 2:=fun {u v} hu hv=>by
    obtain⟨d,ed⟩:=bW (l:=ds) (i:=u * m+v) (by rw[ld]; exact ix hu hv);obtain⟨d0,d1⟩:=bd d (ae ed);have e:tw u v=d.toNat:=by rw[htw]; show ((ds[u * m+v]?).getD 0).toNat=_; rw[ed]; rfl
    rw[e,ed];exact⟨by congr 1; lia,by lia⟩
   clear htw;have t4:=s1.trans c4;refine⟨_,rfl,(m:Int),rfl,by lia,by lia,eV (n:=m) (fun u σ H'=>∃ (o8 o9 o10 o11 o12:LS) (N:LA),σ=[some (.ref wA),some (.int c),some (.bl fr),some (.ref hA),some (.ref rA),some (.int (m:Int)),some (.ref T),some (.ref D),o8,o9,o10,o11,o12]∧Same H1 H'∧H' D=some (.lst (rs'.map V.ref)) ∧
    dj H' rs' N∧xM (2 * m) N∧K6 m tw (ent M) (fun x _=>x < u) N) ⟨_,_,_,_,_,_,rfl,c4,eD,R4,FF _,Kn fun x y z=>absurd z (rZ _)⟩ ?_ ?_⟩
   ·rintro u σ H5 hu ⟨o8,o9,o10,o11,o12,N,rfl,c5,eD5,R5,S5,L5⟩
    refine⟨_,rfl,_,rfl,(0+(u:Nat):Int),(m:Int),rfl,⟨by lia,by lia,by lia,by lia⟩,?_⟩;have eu:((m:Int) - (0+(u:Nat):Int)).toNat=m - u:=by lia
    rw[eu]
    let π2:LP:=fun i σ H'=>∃ (o9 o10 o11 o12:LS) (N:LA),σ=[some (.ref wA),some (.int c),some (.bl fr),some (.ref hA),some (.ref rA),some (.int (m:Int)),some (.ref T),some (.ref D),some (.int (0+(u:Nat):Int)),o9,o10,o11,o12]∧Same H1 H'∧H' D=some (.lst (rs'.map V.ref))∧          dj H' rs' N∧xM (2 * m) N∧K6 m tw (ent M) (fun x y=>x < u ∨ (x=u∧y < u+i)) N
    refine eV (lo:=(0+(u:Nat):Int)) (n:=m - u) π2 ⟨_,_,_,_,N,rfl,c5,eD5,R5,S5,L5.mono fun x y h1 h2=>by lia⟩ ?_ ?_
    ·rintro i σ H6 hi ⟨o9,o10,o11,o12,N,rfl,c6,eD6,R6,S6,L6⟩
     have hv:u+i < m:=by lia
     have evi:(0+(u:Nat)+(i:Nat):Int)=((u+i:Nat):Int):=by lia
     obtain⟨ed,tlt⟩:=twd hu hv;obtain⟨ru,xu,gu1,gu2,gu3⟩:=RM.get (i:=u) (by rw[RM.len,W.sq.len]; exact hu);have lxu:=(W.sq.row u xu gu2);obtain⟨z,ez⟩:=bW (l:=xu) (i:=u+i) (by rw[lxu.1]; exact hv);have ezn:ent M u (u+i)=z:=by rw[KW gu2,aR,ez]; rfl
     have hz:z.natAbs≤2 * mG:=lxu.2 z (ae ez);have L7:=EC (u:=u) (v:=u+i) tlt (by lia) hv S6 (by rw[ezn]; exact hz) (by lia) L6;have aT:lF (ds.map V.int) ((0+(u:Nat):Int) * (m:Int)+(0+(u:Nat)+(i:Nat):Int))=some (.int ((tw u (u+i):Nat):Int)):=by
      rw[show (0+(u:Nat):Int) * (m:Int)+(0+(u:Nat)+(i:Nat):Int)=((u * m+(u+i):Nat):Int) by rw[io]; push_cast; rfl];exact cX (by rw[aq,ed]; rfl)
     have aru:lF (rs.map V.ref) (0+(u:Nat):Int)=some (.ref ru):=by rw[io]; exact fJ gu1
     have axv:lF (xu.map V.int) (0+(u:Nat)+(i:Nat):Int)=some (.int z):=by rw[evi]; exact cX (by rw[aq,ez]; rfl)
     refine⟨2,rfl,by decide,by decide,eV (n:=2) (fun sd σ H'=>∃ (o10 o11 o12:LS),σ=[some (.ref wA),some (.int c),some (.bl fr),some (.ref hA),some (.ref rA),some (.int (m:Int)),some (.ref T),some (.ref D),some (.int (0+(u:Nat):Int)),some (.int (0+(u:Nat)+(i:Nat):Int)),o10,o11,o12]∧Same H1 H'∧H' D=some (.lst (rs'.map V.ref)) ∧
      dj H' rs' ((List.range sd).foldl (fun N s=>mF m tw (ent M) N u (u+i) s) N)∧xM (2 * m) ((List.range sd).foldl (fun N s=>mF m tw (ent M) N u (u+i) s) N)) ⟨_,_,_,rfl,c6,eD6,R6,S6⟩ ?_ ?_⟩
     ·rintro sd σ H7 hsd ⟨o10,o11,o12,rfl,c7,eD7,R7,S7⟩
      rw[gn,iL];generalize (List.range sd).foldl (fun N s=>mF m tw (ent M) N u (u+i) s) N=Nn at R7 S7;show _;have t7:=s1.trans c7;obtain⟨th,eth⟩:∃ th:Nat,th=(sd+tw u (u+i)) % 2:=⟨_,rfl⟩;have hth:th < 2:=by rw[eth]; exact nU _ (by decide)
      have ethI:((0+(sd:Nat):Int)+((tw u (u+i):Nat):Int)) % 2=((th:Nat):Int):=by rw[eth]; lia
      have ehe:(0+(u:Nat):Int)+(0+(sd:Nat):Int) * (m:Int)=((u+sd * m:Nat):Int):=by rw[io,io]; push_cast; rfl
      have eth2:(0+(u:Nat)+(i:Nat):Int)+((th:Nat):Int) * (m:Int)=((u+i+th * m:Nat):Int):=by rw[io]; push_cast; rfl
      have c1:=kj (m:=m) hu hsd;have c2:=kj (m:=m) hv hth;refine⟨_,rfl,_,rfl,_,rfl,_,rfl,_,_,rfl,rfl,fi (by lia) (by lia),_,rfl,_,_,rfl,rfl,T,_,_,_,rfl,rfl,bh.of (c7 _ _ eT),aT,_,_,rfl,rfl,_,_,rfl,rfl,(by show (0:Int) < 2; decide),?_⟩;refine⟨_,rfl,_,rfl,_,rfl,_,_,rfl,rfl,fi (by lia) (by lia),_,_,rfl,rfl,?_⟩;refine⟨_,rfl,_,rfl,_,rfl,_,_,rfl,rfl,fi (by show _ < ((0+(sd:Nat):Int)+((tw u (u+i):Nat):Int)) % 2; lia) (by show ((0+(sd:Nat):Int)+((tw u (u+i):Nat):Int)) % 2 < _; lia),_,_,rfl,rfl,?_⟩
      dsimp only
      rw[ethI,ehe,eth2];obtain⟨ra,xa,ga1,ga2,ga3⟩:=R7.get (i:=u+sd * m) (by rw[R7.len,S7.len]; exact c1);have hra:=o4 ra (ae ga1);have lxa:=(S7.row _ xa ga2).1;have x7:=t7 _ _ gu3;refine⟨_,rfl,_,rfl,rA,_,_,_,rfl,rfl,bh.of (t7 _ _ w3),aru,_,rfl,ru,_,_,_,rfl,rfl,bh.of x7,axv,?_⟩;refine⟨_,rfl,_,rfl,D,_,_,_,rfl,rfl,bh.of eD7,fJ ga1,_,rfl,ra,_,_,u+i+th * m,rfl,rfl,ga3,by rw[aa,lxa]; exact iu c2,?_⟩;rw[←im];have R8:=R7.put (j:=u+i+th * m) (z:=z) ga1 ga2;have c8:Same H1 (L2.upd H7 ra (.lst ((xa.set (u+i+th * m) z).map V.int))):=fun b o e=>by rw[aO (aU e hra.1)]; exact c7 _ _ e
      have eD8:L2.upd H7 ra (.lst ((xa.set (u+i+th * m) z).map V.int)) D=_:=(aO hra.2.symm).trans eD7;generalize L2.upd H7 ra (.lst ((xa.set (u+i+th * m) z).map V.int))=H8 at R8 c8 eD8 ⊢;have S8:=S7.put (u+sd * m) (u+i+th * m) hz;have t8:=s1.trans c8;obtain⟨rb,xb,gb1,gb2,gb3⟩:=R8.get (i:=u+i+th * m) (by rw[R8.len,S8.len]; exact c2);have hrb:=o4 rb (ae gb1);have lxb:=(S8.row _ xb gb2).1;refine⟨_,rfl,_,rfl,rA,_,_,_,rfl,rfl,bh.of (t8 _ _ w3),aru,_,rfl,ru,_,_,_,rfl,rfl,bh.of (t8 _ _ gu3),axv,?_⟩;refine⟨_,rfl,_,rfl,D,_,_,_,rfl,rfl,bh.of eD8,fJ gb1,_,rfl,rb,_,_,u+sd * m,rfl,rfl,gb3,by rw[aa,lxb]; exact iu c1,?_⟩;rw[←im];have R9:=R8.put (j:=u+sd * m) (z:=z) gb1 gb2;have S9:=S8.put (u+i+th * m) (u+sd * m) hz;refine⟨_,_,_,rfl,fun b o e=>by rw[aO (aU e hrb.1)]; exact c8 _ _ e,(aO hrb.2.symm).trans eD8,?_,?_⟩
      ·show dj _ _ (mF m tw (ent M) Nn u (u+i) sd)
       unfold mF;rw[ezn,←eth];exact R9
      ·show xM _ (mF m tw (ent M) Nn u (u+i) sd)
       unfold mF;rw[ezn,←eth];exact S9
     ·rintro σ H7 ⟨o10,o11,o12,rfl,c7,eD7,R7,S7⟩
      refine⟨_,_,_,_,_,rfl,c7,eD7,R7,S7,?_⟩;exact K6.mono (dn:=fun x y=>(x < u ∨ (x=u∧y < u+i)) ∨ (x=u∧y=u+i)) L7 fun x y h1 h2=>by lia
    ·rintro σ H6 ⟨o9,o10,o11,o12,N,rfl,c6,eD6,R6,S6,L6⟩
     exact⟨_,_,_,_,_,N,rfl,c6,eD6,R6,S6,L6.mono fun x y h1 h2=>by lia⟩
   ·rintro σ H5 ⟨o8,o9,o10,o11,o12,N,rfl,c5,eD5,R5,S5,L5⟩
    have t5:=s1.trans c5;refine⟨_,rfl,_,rfl,hA,hA,_,_,rfl,rfl,t5 _ _ w2,t5 _ _ w2,cf (bo (by rw[aa,W.len]; lia)),fun pA hpA=>?_⟩;have s6:Same H5 (L2.upd H5 pA (.lst (hs.map V.int++hs.map V.int))):=Same.upd hpA;have e6:L2.upd H5 pA (.lst (hs.map V.int++hs.map V.int)) pA=some (.lst ((hs++hs).map V.int)):=by rw[ao,aM]
    generalize L2.upd H5 pA (.lst (hs.map V.int++hs.map V.int))=H6 at s6 e6 ⊢;refine⟨_,rfl,(by show 2≤sizeLine; decide),fun tA htA=>?_⟩;have s7:Same H6 (L2.upd H6 tA (.tup [.ref pA,.ref D])):=Same.upd htA;refine q tA N _ ((t5.trans s6).trans s7) ⟨⟨pA,D,rs',ao,s7 _ _ e6,s7 _ _ (s6 _ _ eD5),R5.keep fun r _ o e=>s7 _ _ (s6 _ _ e)⟩,by rw[ai,W.len]; lia,S5,fun z hz=>W.hb z (by simpa using hz)⟩
theorem IG.wz {hA rA:Addr}{n:Nat}(W:IG H p hA rA rs n hs M):Wz H p n hs M :=
 ⟨⟨hA,rA,rs,W.tup,W.hue,W.rws,W.row⟩,W.len,W.sq.n,fun z hz=>by have:=W.pos z hz; lia⟩
theorem wU {n:Nat}(S:xM n M)(hp:os.Perm (rI n)):xM n (qZ M os):=by
 have lo:=AC hp;refine⟨by unfold qZ; rw[aa,lo],fun i x hx=>?_⟩;unfold qZ at hx;obtain⟨o,ho,rfl⟩:=bI hx;refine⟨by rw[wT,lo],fun z hz=>?_⟩;obtain⟨a,rfl,ha⟩:=LE hp ho;obtain⟨W,hW⟩:=bW (l:=M) (i:=a) (by rw[S.len]; exact ha);rw[bC,getD_some hW] at hz;exact (S.row a W hW).2 z ((sX hp (S.row a W hW).1).mem_iff.mp hz)
theorem Jq {n:Nat}(S:Sq n M)(hp:os.Perm (rI n))(hx:(qZ M os)[i]? = some x):∀ z ∈ x,z.natAbs≤mG:=by
 unfold qZ at hx;obtain⟨o,ho,rfl⟩:=bI hx;intro z hz;obtain⟨a,rfl,ha⟩:=LE hp ho;obtain⟨W,hW⟩:=bW (l:=M) (i:=a) (by rw[S.len]; exact ha);rw[bC,getD_some hW] at hz;exact (S.row a W hW).2 z ((sX hp (S.row a W hW).1).mem_iff.mp hz)
theorem Gc {n:Nat}(hp:os.Perm (rI n))(lh:hs.length=n)(h:∀ z ∈ hs,Pz z):∀ z ∈ jY hs os,Pz z:=fun z hz=>h z ((sX hp lh).mem_iff.mp hz)
inductive BC (K:LM)(vs:LG)(H:Hp)(Q:VK):Prop | mk (a:Addr) (ns:LF) (mo:Nat) (_:vs=[.ref a,.int (mo:Int)]) (_:bh K H a (ns.map V.int)) (_:mo≤8) (_:∀ (p wA oA:Addr) (n m:Nat) (hs hs':LF) (M M':LA) (H':Hp),Same H H'→H' p=some (.tup [.ref wA,.ref oA])→Wz H' wA n hs M→Wz H' oA m hs' M'→n≤mo→m≤mo→(C2 ns 0 / 14 % 5=1→∃ os,os.Perm (rI n)∧m=n∧hs'=jY hs os∧M'=qZ M os)→Q (.ref p) H'):BC K vs H Q
def Ll (K:LM):Sp:=fun vs H Q _=>BC K vs H Q
abbrev QD:LK:=["_law_script","_law_most","_law_first","_law_free","_law_many","_law_way","_law_small","_law_web_here","_law_other","_law_u","_law_v"]
theorem mD:bJ QD ["_law_script","_law_most"] (aB Jn):=by constructor<;>first|rfl|decide +kernel
theorem M5 {fR:Addr}{fdR:FuncData}(B:qa mg)(F:Fun K "_law_two" "_law_two" Jn f fd)(DC:Dn K mg "_law_cell_at" nk ["_law_script","_law_k"] fC fdC)(GC:bK P w K mg base cI 1 fC fdC ["_law_script","_law_k"] (wB K))(DW:Dn K mg "_law_web" vd C7 fW fdW)(GW:bK P w K mg base cI 2 fW fdW C7 (FG K))(DO:Dn K mg "_law_order" wM xB fO fdO)(GO:bK P w K mg base cI 2 fO fdO xB BF)(DL:Dn K mg "_law_lift" B4 C8 fL fdL)(GL:bK P w K mg base cI 2 fL fdL C8 (FP K))(DR:Dn K mg "_law_renamed" mO ["_law_web_here","_law_order_here"] fR fdR)(GR:bK P w K mg base cI 1 fR fdR ["_law_web_here","_law_order_here"] FR) :
  bK P w K mg base cI 3 f fd ["_law_script","_law_most"] (Ll K):=by
 refine F.o mD fun cdv A outer s H vs Q E hr h=>?_
 ·obtain⟨a,ns,mo,rfl,hS,hmo,q⟩:=h
  have r1:=hr.mono (j:=1) (by decide);refine⟨_,am (d7 2 mD.nd (bw DC GC r1 rfl (ad (pv 0) (ad aj ah))))
   (am (d7 3 mD.nd (fh cE (aY cJ (pv 2) aj) aj (bG _)))
   (am (d7 4 mD.nd (aY cJ (aY fZ (pv 2) aj) (aY dZ (pv 1) aj)))
   (am (d7 5 mD.nd (aY cJ (aY fZ (pv 2) aj) aj))
   (am (cK (bF cE (pv 5) aj (bG _))
    (am (d7 6 mD.nd (bw DW GW hr rfl (ad (pv 0) (ad aj (ad (aY fZ (pv 4) aj) (ad (pv 3) ah))))))
    (am (d7 7 mD.nd (bw DL GL hr rfl (ad (pv 6) (ad (bw DC GC r1 rfl (ad (pv 0) (ad aj ah))) (ad (pv 3) ah)))))
    (am (d7 8 mD.nd (bw DL GL hr rfl (ad (pv 6) (ad (bw DC GC r1 rfl (ad (pv 0) (ad aj ah))) (ad (pv 3) ah)))))
    (ar (bt (dc (ad (pv 7) (ad (bw DR GR r1 rfl (ad (pv 8) (ad (bw DO GO hr rfl (ad (bw DC GC r1 rfl (ad (pv 0) (ad aj ah))) (ad (bQ bT (by rfl) B.len bE (ad (aG bM (pv 8) aj) ah)) (ad (pv 3) ah)))) ah))) ah)))))))) bX)
   (am (d7 7 mD.nd (bw DW GW hr rfl (ad (pv 0) (ad aj (ad (pv 4) (ad (pv 3) ah))))))
   (am (cK (bF cE (pv 5) aj (bG _))
    (ar (bt (dc (ad (pv 7) (ad (bw DW GW hr rfl (ad (pv 0) (ad aj (ad (aY cJ (aY fZ (pv 2) aj) (aY dZ (pv 1) aj)) (ad (pv 3) ah))))) ah))))) bX)
   (am (d7 8 mD.nd (bw DR GR r1 rfl (ad (pv 7) (ad (bw DO GO hr rfl (ad (bw DC GC r1 rfl (ad (pv 0) (ad aj ah))) (ad (pv 4) (ad (pv 3) ah)))) ah))))
   (dH (cK (PW.pt (lZ (bF cE (pv 5) aj (bG _)) (ke (bF G9 (pv 4) aj (bG _)))))
    (am (d7 9 mD.nd (aY cJ (bw DC GC r1 rfl (ad (pv 0) (ad aj ah))) (pv 4)))
    (am (d7 10 mD.nd (aY cJ (bw DC GC r1 rfl (ad (pv 0) (ad aj ah))) (pv 4)))
    (am (gx (aY dZ (aG aJ (aG aJ (aG bM (pv 8) aj) (pv 9)) (pv 10)) aj) (jv (aG aJ (aG bM (pv 8) aj) (pv 9)) (pv 10) gH))
    (ar (gx (aG aJ (aG aJ (aG bM (pv 8) aj) (pv 9)) (pv 10)) (jv (aG aJ (aG bM (pv 8) aj) (pv 10)) (pv 9) gH)))))) bX)
   (dH (cK (PW.pt (lZ (bF cE (pv 5) aj (bG _)) (ke (bF G9 (pv 4) aj (bG _)))))
    (ar (gx (aY cJ (bw DC GC r1 rfl (ad (pv 0) (ad aj ah))) aj) (jv (aG bM (pv 8) aj) (aY cJ (bw DC GC r1 rfl (ad (pv 0) (ad aj ah))) (pv 4)) gH))) bX)
   (ar (bt (dc (ad (pv 7) (ad (pv 8) ah)))))))))))))),?_⟩
  show let ω1:TS:=_;let ω2:TS:=_;let ω3:TS:=ju (eK _ ω2 _) ω1;let ω4:TS:=_;let ω5:TS:=bL _ ω4;let ω6:TS:=bL _ ω5;let ω7:TS:=bL _ ω6;let ω8:TS:=ju (eK _ ω7 _) ω3;let ω9:TS:=bL _ ω8;let ω10:TS:=_;let ω11:TS:=bL (eK _ ω10 _) ω9;let ω12:TS:=bL _ ω11;let ω13:TS:=_;let ω14:TS:=bL _ ω13;let ω15:TS:=bL _ ω14;let ω16:TS:=bL _ ω15;let ω17:TS:=bL (eK _ ω16 _) ω12;let ω18:TS:=bL _ ω17;let ω19:TS:=bL _ ω18;let ω20:TS:=bL _ ω19;bL _ ω20 _ _ _;intro ω1 ω2 ω3 ω4 ω5 ω6 ω7 ω8 ω9 ω10 ω11 ω12 ω13 ω14 ω15 ω16 ω17 ω18 ω19 ω20;refine⟨_,rfl,a,ns,0,rfl,hS,by decide,fun c0 hc0=>?_⟩;rw[←hc0] at q;refine⟨_,rfl,_,_,rfl,rfl,(by show (0:Int) < 2; decide),rfl,?_⟩;generalize decide ((fun i j=>V.int (i % j)) c0 2=V.int 0)=fr;refine⟨_,rfl,_,_,rfl,rfl,⟨by decide,by decide⟩,_,rfl,_,_,rfl,rfl,_,_,rfl,rfl,(by show (0:Int) < (mo:Int)+1; lia),?_⟩;obtain⟨n,en⟩:=bc (cB (c0 / 2) (by lia:((mo:Int)+1)≠0));have hnm:n≤mo:=by
   have:=cp (c0 / 2) (by lia:(0:Int) < (mo:Int)+1)
   lia
  have hn:n≤8:=by lia
  refine⟨_,rfl,_,_,rfl,rfl,⟨by decide,by decide⟩,_,_,rfl,rfl,(by show (0:Int) < 5; decide),?_⟩
  dsimp only
  rw[en];refine⟨_,rfl,rfl,_,rfl,?_⟩
  by_cases h4:c0 / 14 % 5=4
  ·refine dO (by rw[h4]) ?_
   refine⟨_,rfl,_,rfl,_,_,rfl,rfl,⟨by decide,by decide⟩,_,rfl,a,ns,1,n / 2,fr,?_,hS,by decide,by lia,fun pS hAs rAs rss hs M H1 s1 nw WS=>?_⟩
   ·show [V.ref a,V.int 1,V.int ((n:Int) / 2),V.bl fr]=_
    rw[show (n:Int) / 2=((n / 2:Nat):Int) by lia]
   have Z1:=WS.wz;refine⟨_,rfl,_,rfl,a,ns,5,rfl,s1.seq hS,by decide,fun c5 _=>?_⟩;refine⟨_,rfl,pS,n / 2,hs,M,c5,fr,rfl,Z1,by lia,fun p1 N1 H2 s2 Z2=>?_⟩;have Z12:=Z1.same s2;have t2:=s1.trans s2;refine⟨_,rfl,_,rfl,a,ns,6,rfl,t2.seq hS,by decide,fun c6 _=>?_⟩;refine⟨_,rfl,pS,n / 2,hs,M,c6,fr,rfl,Z12,by lia,fun p2 N2 H3 s3 Z3=>?_⟩;have t3:=t2.trans s3;have Z23:=Z2.same s3;obtain⟨hA3,rA3,rs3,w1,w2,w3,R3⟩:=Z3.wr.ex;refine⟨_,rfl,_,rfl,_,rfl,a,ns,4,rfl,t3.seq hS,by decide,fun c4 _=>?_⟩;refine⟨_,rfl,p2,_,_,_,rfl,rfl,dy.of w1,rfl,hA3,_,rfl,.inl (bh.of w2),?_⟩;rw[aa,Z3.len];refine⟨_,rfl,c4,2 * (n / 2),fr,rfl,by lia,fun O os H4 s4 nO eO pm=>?_⟩;have Z34:=Z3.same s4;refine⟨p2,O,2 * (n / 2),hs++hs,N2,os,rfl,Z34.wr,Z3.len,Z3.sq,by lia,eO,pm,fun pR H5 s5 WN5=>?_⟩;obtain⟨hR,rR,rsR,g1,g2,g3,RR,_⟩:=WN5.ex;refine⟨(by show 2≤sizeLine; decide),fun tA htA=>?_⟩;have s6:Same H5 (L2.upd H5 tA (.tup [.ref p1,.ref pR])):=Same.upd htA;have s36:=(s4.trans s5).trans s6;have ZR:Wz H5 pR (2 * (n / 2)) (jY (hs++hs) os) (qZ N2 os):=⟨⟨hR,rR,rsR,g1,g2,g3,RR⟩,by rw[wT,AC pm],wU Z3.sq pm,Gc pm Z3.len Z3.hb⟩;have rw2:∀ ws ∈ N2,ws.length=2 * (n / 2):=fun ws hws=>by
    obtain⟨j,hj⟩:=aP.mp hws;exact (Z3.sq.row j ws hj).1
   refine q tA p1 pR _ _ _ _ _ _ _ (t3.trans s36) ao (Z23.same s36) (ZR.same s6) (by lia) (by lia) (fun z=>by lia)
  ·refine cr (fun z=>h4 (V.int.inj z)) ?_
   refine⟨_,rfl,_,rfl,_,rfl,a,ns,1,n,fr,rfl,hS,by decide,hn,fun p1 hA1 rA1 rs1 hs M H1 s1 nw W1=>?_⟩;have Z1:=W1.wz;refine⟨_,rfl,rfl,_,rfl,?_⟩
   by_cases h0:c0 / 14 % 5=0
   ·refine dO (by rw[h0]) ?_
    refine⟨_,rfl,_,rfl,_,rfl,_,_,rfl,rfl,⟨by decide,by decide⟩,_,rfl,_,_,rfl,rfl,_,_,rfl,rfl,(by show (0:Int) < (mo:Int)+1; lia),?_⟩;obtain⟨n',en'⟩:=bc (cB (c0 / 70) (by lia:((mo:Int)+1)≠0));have hnm':n'≤mo:=by
     have:=cp (c0 / 70) (by lia:(0:Int) < (mo:Int)+1)
     lia
    have hn':n'≤8:=by lia
    refine⟨_,rfl,a,ns,4,n',fr,by rw[←en']; rfl,s1.seq hS,by decide,hn',fun p2 hA2 rA2 rs2 hs' M' H2 s2 nw2 W2=>?_⟩;refine⟨(by show 2≤sizeLine; decide),fun tA htA=>?_⟩;have s3:Same H2 (L2.upd H2 tA (.tup [.ref p1,.ref p2])):=Same.upd htA;exact q tA p1 p2 _ _ _ _ _ _ _ ((s1.trans s2).trans s3) ao ((Z1.same s2).same s3) (W2.wz.same s3) hnm hnm' (fun z=>by lia)
   ·refine cr (fun z=>h0 (V.int.inj z)) ?_
    refine⟨_,rfl,_,rfl,a,ns,4,rfl,s1.seq hS,by decide,fun c4 _=>?_⟩;refine⟨_,rfl,_,rfl,c4,n,fr,rfl,hn,fun O os H2 s2 nO eO pm=>?_⟩;have Z12:=Z1.same s2;refine⟨p1,O,n,hs,M,os,rfl,Z12.wr,Z1.len,Z1.sq,hn,eO,pm,fun pR H3 s3 WN3=>?_⟩;have lo:=AC pm;have lRen:(jY hs os).length=n:=by rw[wT,lo]
    have hbR:=Gc pm Z1.len Z1.hb;have t2:=s1.trans s2;have rwM:∀ ws ∈ M,ws.length=n:=fun ws hws=>by
     obtain⟨j,hj⟩:=aP.mp hws;exact (Z1.sq.row j ws hj).1
    let ψ1:LQ:=fun σ' H'=>∃ (o9 o10:LS) (M':LA),σ'=[some (.ref a),some (.int (mo:Int)),some (.int c0),some (.bl fr),some (.int (n:Int)),some (.int (c0 / 14 % 5)),none,some (.ref p1),some (.ref pR),o9,o10]∧Same H2 H'∧WN H2 H' pR (jY hs os) M'∧xM n M'∧(c0 / 14 % 5=1→M'=qZ M os)
    refine⟨ψ1,?_,?_⟩
    ·obtain⟨hR,rR,rsR,g1,g2,g3,RR,nw3,d1,d2,d3⟩:=WN3.ex
     have nh:∀ r ∈ rsR,hR≠r:=fun r hr q=>by subst q; exact d2 hr
     have nr:∀ r ∈ rsR,rR≠r:=fun r hr q=>by subst q; exact d3 hr
     have keep0:∃ (o9 o10:LS) (M':LA),([some (.ref a),some (.int (mo:Int)),some (.int c0),some (.bl fr),some (.int (n:Int)),some (.int (c0 / 14 % 5)),none,some (.ref p1),some (.ref pR),none,none]:L2.St)=[some (.ref a),some (.int (mo:Int)),some (.int c0),some (.bl fr),some (.int (n:Int)),some (.int (c0 / 14 % 5)),none,some (.ref p1),some (.ref pR),o9,o10]∧Same H2 H3∧WN H2 H3 pR (jY hs os) M'∧xM n M'∧(c0 / 14 % 5=1→M'=qZ M os) :=
      ⟨none,none,_,rfl,s3,WN3,wU Z1.sq pm,fun _=>rfl⟩
     refine⟨_,rfl,rfl,_,rfl,?_⟩
     by_cases h2:c0 / 14 % 5=2
     ·refine dO (by rw[h2]) ?_
      refine⟨_,rfl,_,_,rfl,rfl,_,rfl,?_⟩
      by_cases hn0:(0:Int) < (n:Int)
      ·refine dO hn0 ?_
       have t3:=t2.trans s3;refine⟨_,rfl,a,ns,5,rfl,t3.seq hS,by decide,fun c5 _=>⟨_,rfl,_,_,rfl,rfl,hn0,?_⟩⟩;refine⟨_,rfl,a,ns,6,rfl,t3.seq hS,by decide,fun c6 _=>⟨_,rfl,_,_,rfl,rfl,hn0,?_⟩⟩;obtain⟨u,eu⟩:=bc (cB c5 (by lia:(n:Int)≠0));obtain⟨v,ev⟩:=bc (cB c6 (by lia:(n:Int)≠0));have hu:u < n:=by have:=cp c5 hn0; lia
       have hv:v < n:=by have:=cp c6 hn0; lia
       dsimp only
       rw[eu,ev];have SR:=wU Z1.sq pm;obtain⟨ru,xu,gu1,gu2,gu3⟩:=RR.get (i:=u) (by rw[RR.len,SR.len]; exact hu);have lxu:=(SR.row u xu gu2).1;obtain⟨z,ez⟩:=bW (l:=xu) (i:=v) (by lia);have hz:(z+1).natAbs≤2 * mG:=by
        have h1:=Jq W1.sq pm gu2 z (ae ez);have h2':mG=1000000000000000000000:=by decide
        lia
       have nru:H2 ru=none:=nw3 ru (by simp[ae gu1]);have az:lF (xu.map V.int) (v:Int)=some (.int z):=cX (by rw[aq,ez]; rfl);refine⟨_,rfl,pR,_,_,_,rfl,rfl,dy.of g1,rfl,_,rfl,rR,_,_,_,rfl,rfl,bh.of g3,fJ gu1,_,rfl,ru,_,_,_,rfl,rfl,bh.of gu3,az,_,_,rfl,rfl,?_⟩;refine⟨_,rfl,pR,_,_,_,rfl,rfl,dy.of g1,rfl,_,rfl,rR,_,_,_,rfl,rfl,bh.of g3,fJ gu1,_,rfl,ru,_,_,v,rfl,rfl,gu3,by rw[aa,lxu]; exact iu hv,?_⟩;rw[←im];have R4:=RR.put (j:=v) (z:=z+1) gu1 gu2;have S4:=SR.put u v hz;have npr:∀ {r:Addr} {o:LG},H3 r=some (.lst o)→pR≠r:=fun e q=>by subst q; rw[g1] at e; cases e
       have s4:Same H2 (L2.upd H3 ru (.lst ((xu.set v (z+1)).map V.int))):=fun b o e=>by rw[aO (aU e nru)]; exact s3 _ _ e
       have g1':L2.upd H3 ru (.lst ((xu.set v (z+1)).map V.int)) pR=_:=(aO (npr gu3)).trans g1;have g2':L2.upd H3 ru (.lst ((xu.set v (z+1)).map V.int)) hR=_:=(aO (nh _ (ae gu1))).trans g2;have g3':L2.upd H3 ru (.lst ((xu.set v (z+1)).map V.int)) rR=_:=(aO (nr _ (ae gu1))).trans g3;generalize L2.upd H3 ru (.lst ((xu.set v (z+1)).map V.int))=H4 at R4 s4 g1' g2' g3' ⊢;obtain⟨rv,xv,gv1,gv2,gv3⟩:=R4.get (i:=v) (by rw[R4.len,S4.len]; exact hv);obtain⟨ru',xu',gw1,gw2,gw3⟩:=R4.get (i:=u) (by rw[R4.len,S4.len]; exact hu);have lxv:=(S4.row v xv gv2).1;have lxw:=(S4.row u xu' gw2).1;obtain⟨y,ey⟩:=bW (l:=xu') (i:=v) (by lia);have hy:=(S4.row u xu' gw2).2 y (ae ey);have ay:lF (xu'.map V.int) (v:Int)=some (.int y):=cX (by rw[aq,ey]; rfl);have nrv:H2 rv=none:=nw3 rv (by simp[ae gv1]);refine⟨_,rfl,pR,_,_,_,rfl,rfl,dy.of g1',rfl,_,rfl,rR,_,_,_,rfl,rfl,bh.of g3',fJ gw1,_,rfl,ru',_,_,_,rfl,rfl,bh.of gw3,ay,?_⟩;refine⟨_,rfl,pR,_,_,_,rfl,rfl,dy.of g1',rfl,_,rfl,rR,_,_,_,rfl,rfl,bh.of g3',fJ gv1,_,rfl,rv,_,_,u,rfl,rfl,gv3,by rw[aa,lxv]; exact iu hu,?_⟩;rw[←im];have R5:=R4.put (j:=u) (z:=y) gv1 gv2;have S5:=S4.put v u hy;have npr':pR≠rv:=fun q=>by subst q; rw[g1'] at gv3; cases gv3
       refine⟨_,_,_,rfl,fun b o e=>by rw[aO (aU e nrv)]; exact s4 _ _ e,⟨hR,rR,rsR,(aO npr').trans g1',(aO (nh _ (ae gv1))).trans g2',(aO (nr _ (ae gv1))).trans g3',R5,nw3,d1,d2,d3⟩,S5,fun q=>by lia⟩
      ·exact cr hn0 keep0
     ·exact cr (fun z=>h2 (V.int.inj z)) (oG keep0)
    ·rintro σ' H4 ⟨o9,o10,M',rfl,s4,WN4,SN,hM⟩
     let ψ2:LQ:=fun σ' H'=>∃ (hs':LF),σ'=[some (.ref a),some (.int (mo:Int)),some (.int c0),some (.bl fr),some (.int (n:Int)),some (.int (c0 / 14 % 5)),none,some (.ref p1),some (.ref pR),o9,o10]∧Same H2 H'∧WN H2 H' pR hs' M'∧hs'.length=n∧(∀ z ∈ hs',z.natAbs≤100)∧(c0 / 14 % 5=1→hs'=jY hs os)
     refine⟨ψ2,?_,?_⟩
     ·obtain⟨hR,rR,rsR,g1,g2,g3,RR,nw4,d1,d2,d3⟩:=WN4.ex
      have nh:∀ r ∈ rsR,hR≠r:=fun r hr q=>by subst q; exact d2 hr
      refine⟨_,rfl,rfl,_,rfl,?_⟩
      by_cases h3:c0 / 14 % 5=3
      ·refine dO (by rw[h3]) ?_
       refine⟨_,rfl,_,_,rfl,rfl,_,rfl,?_⟩
       by_cases hn0:(0:Int) < (n:Int)
       ·refine dO hn0 ?_
        have t4:=t2.trans s4;refine⟨_,rfl,a,ns,6,rfl,t4.seq hS,by decide,fun c6 _=>⟨_,_,rfl,rfl,(by show (0:Int) < 4; decide),?_⟩⟩;refine⟨_,rfl,pR,_,_,_,rfl,rfl,dy.of g1,rfl,?_⟩;refine⟨_,rfl,a,ns,5,rfl,t4.seq hS,by decide,fun c5 _=>⟨_,rfl,_,_,rfl,rfl,hn0,?_⟩⟩;obtain⟨u,eu⟩:=bc (cB c5 (by lia:(n:Int)≠0));have hu:u < n:=by have:=cp c5 hn0; lia
        have nhR:H2 hR=none:=nw4 hR (by simp);refine⟨hR,_,_,u,rfl,rfl,g2,?_,?_⟩
        ·show AV _ (c5 % (n:Int))=_
         rw[eu,aa,lRen];exact iu hu
        rw[←im];have npr:pR≠hR:=fun q=>by subst q; rw[g1] at g2; cases g2
        refine⟨(jY hs os).set u (c6 % 4),rfl,fun b o e=>by rw[aO (aU e nhR)]; exact s4 _ _ e,⟨hR,rR,rsR,(aO npr).trans g1,ao,(aO d1.symm).trans g3,RR.keep fun r hr o e=>by rw[aO (nh r hr).symm]; exact e,nw4,d1,d2,d3⟩,by rw[cR,lRen],fun z hz=>?_,fun q=>by lia⟩;rcases ff hz with q | q
        ·exact hbR z q
        ·rw[q]
         lia
       ·exact cr hn0 ⟨_,rfl,s4,WN4,lRen,hbR,fun _=>rfl⟩
      ·exact cr (fun z=>h3 (V.int.inj z)) (oG ⟨_,rfl,s4,WN4,lRen,hbR,fun _=>rfl⟩)
     ·rintro σ' H5 ⟨hs',rfl,s5,WN5,lh,hb,hh⟩
      obtain⟨hR,rR,rsR,g1,g2,g3,RR,_⟩:=WN5.ex;refine⟨_,rfl,_,rfl,(by show 2≤sizeLine; decide),fun tA htA=>?_⟩;have s6:Same H5 (L2.upd H5 tA (.tup [.ref p1,.ref pR])):=Same.upd htA;have ZR:Wz H5 pR n hs' M':=⟨⟨hR,rR,rsR,g1,g2,g3,RR⟩,lh,SN,hb⟩;refine q tA p1 pR _ _ _ _ _ _ _ ((t2.trans s5).trans s6) ao ((Z12.same s5).same s6) (ZR.same s6) hnm hnm (fun z=>⟨os,pm,rfl,hh z,hM z⟩)
theorem Wz.wbn {n:Nat}(W:Wz H p n hs M):Fc K H (.ref p) (hs,M).1.length (hs,M):=by
 obtain⟨hA,rA,rs,h1,h2,h3,R⟩:=W.wr.ex;rw[show (hs,M).1.length=n from W.len];exact⟨⟨p,hA,rA,rs,rfl,dy.of h1,bh.of h2,bh.of h3,R.len,fun j t ws e1 e2=>bh.of (R.row j t ws e1 e2)⟩,W.len,W.sq.len,fun r hr=>by
  obtain⟨j,hj⟩:=aP.mp hr
  exact (W.sq.row j r hj).1⟩
def Q8 (H H':Hp)(p:Addr)(n m:Nat)(hs hs':LF)(M M' T T':LA):Prop:=∃ (a b:Addr) (ns:LF),H' p=some (.tup [.ref a,.ref b])∧mz H H' a (gI T)∧mz H H' b (gI T')∧uq H' a b∧K8 [(hs,M),(hs',M')] ns∧T=gN ns [(hs,M),(hs',M')] 0∧T'=gN ns [(hs,M),(hs',M')] 1
inductive yn (vs:LG)(H:Hp)(Q:VK):Prop | mk (wA oA:Addr) (n m:Nat) (hs hs':LF) (M M':LA) (_:vs=[.ref wA,.ref oA]) (_:Wz H wA n hs M) (_:Wz H oA m hs' M') (_:n≤8) (_:m≤8) (_:∀ (p:Addr) (T T':LA) (H':Hp),Same H H'→Q8 H H' p n m hs hs' M M' T T'→Q (.ref p) H'):yn vs H Q
def FT (K:LM):Sp:=fun vs H Q _=>yn vs H Q
theorem MK:bJ ["web","other"] ["web","other"] (aB B5):=by constructor<;>first|rfl|decide +kernel
theorem JU (B:xK mg)(F:Fun K "kinds_together" "kinds_together" B5 f fd)(DC:Dn K mg "coarsest_tables" lV ["webs"] fC fdC)(GC:bK P w K mg base cI 5 fC fdC ["webs"] (qi K)):bK P w K mg base cI 6 f fd ["web","other"] (FT K):=by
 refine F.o MK fun cdv A outer s H vs Q E hr h=>?_
 ·obtain⟨wA,oA,n,m,hs,hs',M,M',rfl,W,O,hn,hm,q⟩:=h
  refine⟨_,ar (bt (gy oo (by rfl) B.tuple zR (ad (bw DC GC hr rfl (ad (cC (ad (pv 0) (ad (pv 1) ah))) ah)) ah))),?_⟩;refine⟨_,rfl,_,rfl,(by show 2≤sizeLine; decide),fun l1 h1=>?_⟩;have s1:Same H (L2.upd H l1 (.lst [.ref wA,.ref oA])):=Same.upd h1;have l8:(hs,M).1.length≤8:=by rw[show (hs,M).1.length=n from W.len]; exact hn
  have l8':(hs',M').1.length≤8:=by rw[show (hs',M').1.length=m from O.len]; exact hm
  refine⟨l1,[(hs,M),(hs',M')],rfl,La (W.wbn.same s1) (O.wbn.same s1) ao,(by show 2≤8; decide),fun U h'=>?_,fun D ns H2 s2 en g2=>?_⟩
  ·rcases aQ.mp h' with rfl | h'
   ·exact l8
   ·rw[aw.mp h']; exact l8'
  ·obtain⟨_,ts,e1,lt,gt,hap⟩:=g2
   match ts,lt with
   | [a,b],_ =>
    refine⟨D,_,rfl,.inl ⟨bh.of e1,fun p hp=>?_⟩⟩;have s3:Same H2 (L2.upd H2 p (.tup [.ref a,.ref b])):=Same.upd hp;exact q p _ _ _ ((s1.trans s2).trans s3) ⟨a,b,ns,ao,((gt 0 a _ rfl rfl).back s1).mono s3,((gt 1 b _ rfl rfl).back s1).mono s3,(hap 0 1 a b (by decide) rfl rfl).keep (s3 _) (s3 _),en,rfl,rfl⟩
theorem yB {a b a' b':LF}(pa:a'.Perm a)(sa:a'.Pairwise (·≤·))(pb:b'.Perm b)(sb:b'.Pairwise (·≤·)):a'=b'↔a.Perm b:=by
 constructor
 ·rintro rfl
  exact pa.symm.trans pb
 ·intro h
  exact PySem.W.ksm_same ((pa.trans h).trans pb.symm) sa sb
inductive sJ (vs:LG)(H:Hp)(Q:VK):Prop | mk (a b:Addr) (T T':LA) (_:vs=[.ref a,.ref b]) (_:eI H a (gI T)) (_:eI H b (gI T')) (_:T.flatten.length < 64) (_:T'.flatten.length < 64) (_:∀ (r:Bool) (H':Hp),Same H H'→(r=true↔T.flatten.Perm T'.flatten)→Q (.bl r) H'):sJ vs H Q
def yy:Sp:=fun vs H Q _=>sJ vs H Q
theorem F8:bJ ["kinds","kinds_there"] ["kinds","kinds_there"] (aB rH):=by constructor<;>first|rfl|decide +kernel
theorem Eo (B:xK mg)(F:Fun K "as_many_of_each" "as_many_of_each" rH f fd)(DI:Dn K mg "in_one_list" lQ ["rows"] fI fdI)(GI:bK P w K mg base cI 1 fI fdI ["rows"] lJ):bK P w K mg base cI 2 f fd ["kinds","kinds_there"] yy:=by
 refine F.o F8 fun cdv A outer s H vs Q E hr h=>?_
 ·obtain⟨a,b,T,T',rfl,gA,gB,l1,l2,q⟩:=h
  refine⟨_,ar (bt (fh (oD hr.units) (bQ ko (by rfl) B.sorted boot_sorted (ad (bw DI GI hr rfl (ad (pv 0) ah)) ah)) (bQ ko (by rfl) B.sorted boot_sorted (ad (bw DI GI hr rfl (ad (pv 1) ah)) ah)) (bG _))),?_⟩;refine⟨_,rfl,a,gI T,rfl,gA,by rw[nA,aa]; lia,fun D H1 s1 n1 e1=>?_⟩;rw[nA] at e1;refine⟨D,_,rfl,bh.of e1,l1,fun S ss hS pS oS=>?_⟩;have s2:Same H1 (L2.upd H1 S (.lst (ss.map V.int))):=Same.upd hS;have e2:L2.upd H1 S (.lst (ss.map V.int)) S=some (.lst (ss.map V.int)):=ao;generalize L2.upd H1 S (.lst (ss.map V.int))=H2 at s2 e2 ⊢;refine⟨_,rfl,b,gI T',rfl,(gB.mono s1).mono s2,by rw[nA,aa]; lia,fun D' H3 s3 n3 e3=>?_⟩;rw[nA] at e3;refine⟨D',_,rfl,bh.of e3,l2,fun S' ss' hS' pS' oS'=>?_⟩;have s4:Same H3 (L2.upd H3 S' (.lst (ss'.map V.int))):=Same.upd hS';refine⟨_,_,Is (K:=K) (ok:=any) trivial (bh.of (s4 _ _ (s3 _ _ e2))),Is (K:=K) (ok:=any) trivial (bh.of ao),⟨(iQ _).1,(iQ _).1,aE (iQ _).2 (by decide)⟩,?_⟩;refine q _ _ (((s1.trans s2).trans s3).trans s4) ?_;rw[xo,cy];exact yB pS oS pS' oS'
theorem pI {n:Nat}(h:iD n T):T.flatten.length=n * n:=by
 rw[xn h.2,h.1]
inductive Lo (vs:LG)(H:Hp)(Q:VK):Prop | mk (t b:Int) (_:vs=[.int t,.int b]) (_:b≠0) (_:b.natAbs < 2 ^ 1000) (_:∀ p,H p=none→Q (.ref p) (upd H p (ou (M11.low t b)))):Lo vs H Q
def Rp:Sp:=fun vs H Q _=>Lo vs H Q
theorem Jm:bJ ["number","other","rest"] ["number","other"] (aB Op):=by constructor<;>first|rfl|decide +kernel
theorem Pb (B:lE mg)(F:Fun K "greatest_divisor" "greatest_divisor" Op f fd):bK P w K mg base cI 1 f fd ["number","other"] Qe:=by
 refine F.o Jm fun cdv A outer s H vs Q E hr h=>?_
 ·obtain⟨a,b,rfl,k⟩:=h
  refine⟨_,am (sY PassesOwn.never (bF qN (pv 1) aj (bG _))
    (am (d7 2 Jm.nd (aY Cg (pv 0) (pv 1)))
    (am (d7 0 Jm.nd (pv 1))
    (ar (d7 1 Jm.nd (pv 2))))))
   (ar (bt (bQ zP (by rfl) B.abs boot_abs (ad (pv 0) ah)))),?_⟩
  show let ω1:TS:=_;bL _ ω1 _ _ _;intro ω1;refine xQ (fun σ H'=>∃ (x y:Int) (r:LS),σ=[some (.int x),some (.int y),r]∧H'=H∧Int.gcd x y=Int.gcd a b)
   (fun σ _=>match σ with | [_,some (.int y),_]=>y.natAbs | _=>0) ⟨a,b,none,rfl,rfl,rfl⟩ ?_ ?_
  ·rintro σ H' ⟨x,y,r,rfl,rfl,hg⟩
   refine⟨_,rfl,rfl,_,rfl,?_⟩
   by_cases hy:y=0
   ·subst hy
    refine qS rfl ?_;refine⟨_,rfl,x,rfl,?_⟩;have e:(if x < 0 then -x else x)=M11.G a b:=by
     rw[M11.gcd_end];show ((Int.gcd x 0:Nat):Int)=((Int.gcd a b:Nat):Int);rw[hg]
    rw[e];exact k
   ·refine qT (fun z=>hy (V.int.inj z)) ?_
    refine⟨_,rfl,_,rfl,x,y,rfl,rfl,hy,_,rfl,_,rfl,?_⟩;exact⟨⟨y,x.fmod y,_,rfl,rfl,by rw[M11.gcd_step]; exact hg⟩,M11.fmod_small x y hy⟩
  ·rintro σ H' Q1 Q2 hq ⟨v,e,sc,c,ec,q⟩
   exact⟨v,e,sc,c,ec,hq _ _ q⟩
theorem MO:bJ ["top","bottom","divisor"] ["top","bottom"] (aB Qf):=by constructor<;>first|rfl|decide +kernel
theorem C3 {t:Int}(h:b≠0)(hb:b.natAbs < 2 ^ 1000)(u d:Int)(e:d=M11.sgn t b):Aa u d:=by
 subst e;exact⟨M11.sgn_ne h,bU (M11.sgn_le h) hb⟩
theorem Pc (B:lE mg)(F:Fun K "fraction_of" "fraction_of" Qf f fd)(DG:Dn K mg "greatest_divisor" Op ["number","other"] fG fdG)(GG:bK P w K mg base cI 1 fG fdG ["number","other"] Qe):bK P w K mg base cI 2 f fd ["top","bottom"] Rp:=by
 refine F.o MO fun cdv A outer s H vs Q E hr h=>?_
 ·obtain⟨t,b,rfl,hb,hz,k⟩:=h
  refine⟨_,am (d7 2 MO.nd (bw DG GG hr rfl (ad (pv 0) (ad (pv 1) ah))))
   (am (cK (bF Ch (pv 1) aj (bG _)) (ar (d7 2 MO.nd (yN sr (pv 2)))) bX)
   (ar (bt (dc (ad (aY jo (pv 0) (pv 2)) (ad (aY jo (pv 1) (pv 2)) ah)))))),?_⟩
  show let ω1:TS:=_;let ω2:TS:=_;let ω3:TS:=bL (eK _ ω2 _) ω1;bL _ ω3 _ _ _;intro ω1 ω2 ω3;refine⟨_,rfl,_,rfl,t,b,rfl,?_⟩;refine⟨_,rfl,_,_,rfl,rfl,_,rfl,?_⟩
  by_cases hn:b < 0
  ·refine dO hn ?_
   have e:-(M11.G t b)=M11.sgn t b:=(if_pos hn).symm;refine⟨_,rfl,_,rfl,?_⟩;refine⟨_,rfl,_,rfl,_,_,rfl,rfl,C3 hb hz _ _ e,_,rfl,_,rfl,_,_,rfl,rfl,C3 hb hz _ _ e,(by show 2≤sizeLine; decide),fun p hp=>?_⟩;have q:=k p hp;unfold M11.low at q;rw[←e] at q;exact q
  ·refine cr hn ?_
   have e:M11.G t b=M11.sgn t b:=(if_neg hn).symm;refine⟨_,rfl,_,rfl,_,_,rfl,rfl,C3 hb hz _ _ e,_,rfl,_,rfl,_,_,rfl,rfl,C3 hb hz _ _ e,(by show 2≤sizeLine; decide),fun p hp=>?_⟩;have q:=k p hp;unfold M11.low at q;rw[←e] at q;exact q
theorem vS {ok:Addr→Prop}:∀ {a b:LW} {vs:LG},DAs K ok H vs (a++b)→∃ x y,vs=x++y∧DAs K ok H x a∧DAs K ok H y b
 | [],b,vs,h=>⟨[],vs,rfl,.nil,h⟩
 | d :: a,b,vs,h=>by
  cases h with
  | cons h1 h2 =>
   obtain⟨x,y,rfl,h3,h4⟩:=vS h2;exact⟨_ :: x,y,rfl,.cons h1 h3,h4⟩
theorem tX {ok:Addr→Prop}:∀ {a:LW} {vs:LG},DAs K ok H vs a→vs.length=a.length
 | [],vs,h=>by cases h; rfl
 | d :: a,vs,h=>by
  cases h with
  | cons h1 h2=>rw[bq,bq,tX h2]
theorem xq {ok:Addr→Prop}{c:Int}(h:DAs K ok H pre [.int c]):pre=[.int c]:=by
 cases h with
 | cons r1 r=>cases r; cases r1; rfl
theorem Iq {ok:Addr→Prop}{a:Int}(h:DAs K ok H pre [.tuple [.int a,.int b]]):∃ f,pre=[.ref f]∧dy K H f [.int a,.int b]:=by
 cases h with
 | cons r1 r =>
  cases r;cases r1 with
  | tup _ hf rf =>
   cases rf with
   | cons q1 rf =>
    obtain rfl:=xq rf;cases q1;exact⟨_,rfl,hf⟩
def jQ:List (Str × Int):=[("one",0),("hue",0),("near",1),("both",2),("rows",1),("same",0),("tie",0),("all",0),("on",1),("turned",1),("then",2),("meet",2),("plus",2),("many",1)]
theorem Mv:PyProof.Rows.KTD.datumAt ("one" : Str) jQ=some 0:=by decide +kernel
theorem Mw:PyProof.Rows.KTD.datumAt ("hue" : Str) jQ=some 0:=by decide +kernel
theorem IZ:PyProof.Rows.KTD.datumAt ("both" : Str) jQ=some 2:=by decide +kernel
theorem IV:PyProof.Rows.KTD.datumAt ("same" : Str) jQ=some 0:=by decide +kernel
theorem Mu:PyProof.Rows.KTD.datumAt ("tie" : Str) jQ=some 0:=by decide +kernel
theorem Mx:PyProof.Rows.KTD.datumAt ("all" : Str) jQ=some 0:=by decide +kernel
theorem Dr:PyProof.Rows.KTD.datumAt ("turned" : Str) jQ=some 1:=by decide +kernel
theorem IU:PyProof.Rows.KTD.datumAt ("then" : Str) jQ=some 2:=by decide +kernel
theorem IX:PyProof.Rows.KTD.datumAt ("meet" : Str) jQ=some 2:=by decide +kernel
theorem IW:PyProof.Rows.KTD.datumAt ("plus" : Str) jQ=some 2:=by decide +kernel
theorem IY:PyProof.Rows.KTD.datumAt ("many" : Str) jQ=some 1:=by decide +kernel
theorem Jl:bJ ["term"] ["term"] (aB wS):=by constructor<;>first|rfl|decide +kernel
def pX (H:Hp)(v:V)(r:TM.Rw):Prop:=∃ p l,v=.ref p∧H p=some (.tup [.ref l,.int r.2])∧H l=some (.lst (r.1.map V.int))
theorem pX.mono {r:TM.Rw}(h:pX H v r)(s:Same H H'):pX H' v r:=by
 obtain⟨p,l,rfl,h1,h2⟩:=h;exact⟨p,l,rfl,s _ _ h1,s _ _ h2⟩
inductive BV (vs:LG)(H:Hp)(Q:VK):Prop | mk (l:Addr) (ts:LF) (b:Int) (_:vs=[.int b,.ref l]) (_:H l=some (.lst (ts.map V.int))) (_:Q (.int (M11.foldG b ts)) H):BV vs H Q
def FY:Sp:=fun vs H Q _=>BV vs H Q
theorem Ga:bJ ["divisor","tops","top"] ["divisor","tops"] (aB Gb):=by constructor<;>first|rfl|decide +kernel
theorem Nb (F:Fun K "shared_by_all" "shared_by_all" Gb f fd)(DG:Dn K mg "greatest_divisor" Op ["number","other"] fG fdG)(GG:bK P w K mg base cI 1 fG fdG ["number","other"] Qe):bK P w K mg base cI 2 f fd ["divisor","tops"] FY:=by
 refine F.o Ga fun cdv A outer s H vs Q E hr h=>?_
 ·obtain⟨l,ts,b,rfl,hl,q⟩:=h
  refine⟨_,am (di PassesOwn.never rfl (cU (pv 1)) (iK 2 Ga.nd)
    (am (cK (bF cE (pv 0) aj (bG _)) (ar (bt aj)) bX)
    (ar (d7 0 Ga.nd (bw DG GG hr rfl (ad (pv 0) (ad (pv 2) ah)))))))
   (ar (bt (pv 0))),?_⟩
  show let ω1:TS:=_;let ω2:TS:=_;let ω3:TS:=_;let ω4:TS:=bL (eK _ ω3 _) ω2;bL (ig _ _ ω4) ω1 _ _ _;intro ω1 ω2 ω3 ω4
  let π1:LP:=fun i σ H'=>∃ (ot:LS),σ=[some (.int (M11.foldG b (ts.take i))),some (.ref l),ot]∧H'=H
  refine⟨_,rfl,l,rfl,⟨_,bh.of hl⟩,gZ (xs:=ts.map V.int) π1 ⟨none,rfl,rfl⟩ (fun i σ H' _ ⟨_,_,e⟩=>by subst e; exact bh.of hl) ?_ ?_⟩
  ·rintro i x σ H1 hx ⟨ot,rfl,rfl⟩
   obtain⟨t,ht,rfl⟩:=bI hx;refine⟨_,rfl,rfl,_,rfl,?_⟩
   by_cases h1:M11.foldG b (ts.take i)=1
   ·refine dO (by rw[h1]) ?_
    have e:M11.foldG b ts=1:=by
     rw[←fj i ts,vO,h1,M11.foldG_one]
    rw[e] at q;exact q
   ·refine cr (fun z=>h1 (V.int.inj z)) ?_
    refine⟨_,rfl,_,rfl,_,t,rfl,⟨some (.int t),?_,rfl⟩⟩;rw[fq ht,vO]
    rfl
  ·rintro σ H1 ⟨ot,rfl,rfl⟩
   have et:ts.take (ts.map V.int).length=ts:=by rw[aa,cF]
   rw[et];exact⟨_,rfl,q⟩
inductive qF (vs:LG)(H:Hp)(Q:VK):Prop | mk (l:Addr) (ts:LF) (b:Int) (_:vs=[.ref l,.int b]) (_:H l=some (.lst (ts.map V.int))) (_:0 < b) (_:b.natAbs < 2 ^ 1000) (_:ts.length≤900) (_:∀ v H',Same H H'→pX H' v (M11.lowerR ts b)→Q v H'):qF vs H Q
def ni:Sp:=fun vs H Q _=>qF vs H Q
abbrev yX:LK:=["tops","bottom","divisor"]
theorem uZ:bJ yX ["tops","bottom"] (aB jn):=by constructor<;>first|rfl|decide +kernel
theorem EE:cw (aB jn) yX (cz (uF (dq (cT jn 2)) 0)) ["top"]:=by constructor<;>first|rfl|decide +kernel
theorem AH (F:Fun K "lowered" "lowered" jn f fd)(DA':Dn K mg "shared_by_all" Gb ["divisor","tops"] fA fdA)(GA:bK P w K mg base cI 2 fA fdA ["divisor","tops"] FY):bK P w K mg base cI 3 f fd ["tops","bottom"] ni:=by
 refine F.o uZ fun cdv A outer s H vs Q E hr h=>?_
 ·obtain⟨l,ts,b,rfl,hl,hb,hz,hm,q⟩:=h
  refine⟨_,am (d7 2 uZ.nd (bw DA' GA hr rfl (ad (pv 1) (ad (pv 0) ah))))
   (am (cK (bF cE (pv 2) aj (bG _)) (ar (bt (dc (ad (pv 0) (ad (pv 1) ah))))) bX)
   (ar (bt (dc (ad (gE rfl EE rfl (cU (pv 0)) fun _ _ _=>aY jo (pv 3) (pv 2)) (ad (aY jo (pv 1) (pv 2)) ah)))))),?_⟩
  show let ω1:TS:=_;let ω2:TS:=_;let ω3:TS:=bL (eK _ ω2 _) ω1;bL _ ω3 _ _ _;intro ω1 ω2 ω3;refine⟨_,rfl,_,rfl,l,ts,b,rfl,hl,?_⟩;refine⟨_,rfl,rfl,_,rfl,?_⟩
  by_cases h1:M11.foldG b ts=1
  ·refine dO (by rw[h1]) ?_
   exact⟨_,rfl,_,rfl,(by show 2≤sizeLine; decide),fun p hp=>q _ _ (Same.upd hp) (by rw[M11.lowerR_one h1]; exact⟨p,l,rfl,ao,by rw[aO (aU hl hp)]; exact hl⟩)⟩
  ·refine cr (fun z=>h1 (V.int.inj z)) ?_
   obtain⟨g1,g2,g3⟩:=M11.foldG_spec ts b hb;have g4:=zA hb ts;have cd:∀ u,Aa u (M11.foldG b ts):=fun u=>⟨by lia,bU g4 hz⟩
   refine⟨_,rfl,l,rfl,⟨_,bh.of hl⟩,fun D hD=>?_⟩;refine iP (ts.map fun t=>V.int (t.fdiv (M11.foldG b ts))) (by rw[aa,aa]) (by rw[aa]; exact hm) hD (bh.of hl) ?_ ?_ ?_
   ·intro i x v H' hx hv s'
    obtain⟨t,ht,rfl⟩:=bI hx;obtain⟨t',ht',rfl⟩:=bI hv;rw[ht] at ht';cases ht';exact⟨_,rfl,_,rfl,_,_,rfl,rfl,cd _,rfl,Same.refl _⟩
   ·intro H' s' eD
    refine⟨_,rfl,_,rfl,_,_,rfl,rfl,cd _,(by show 2≤sizeLine; decide),fun p hp=>?_⟩;refine q _ _ (s'.trans (Same.upd hp)) ⟨p,D,rfl,ao,?_⟩;rw[aO (aU eD hp),eD];unfold M11.lowerR;rw[cu]
    rfl
   ·rintro σ H' Q1 Q2 hq ⟨v,e,v',e',i,j,a1,a2,a3,g⟩
    exact⟨v,e,v',e',i,j,a1,a2,a3,hq _ _ g⟩
open TM in
inductive BT (vs:LG)(H:Hp)(Q:VK):Prop | mk (a b:Addr) (ws rs:LF) (n:Nat) (_:vs=[.ref a,.ref b]) (_:H a=some (.lst (ws.map V.int))) (_:H b=some (.lst (rs.map V.int))) (_:ws.length=rs.length) (_:ws.length≤900) (_:n≤1000000) (_:(∀ x ∈ ws,M11.Bn n x)) (_:(∀ x ∈ rs,M11.Bn n x)) (_:∀ H',Same H H'→Q (.int (dot ws rs)) H'):BT vs H Q
open TM in
def Lp:Sp:=fun vs H Q _=>BT vs H Q
theorem OU:bJ ["numbers","others"] ["numbers","others"] (aB DJ):=by constructor<;>first|rfl|decide +kernel
theorem L3:cw (aB DJ) ["numbers","others"] (cz (pV (dq (cT DJ 0)) 0)) ["number","other"]:=by constructor<;>first|rfl|decide +kernel
theorem wf {f:Int→Int→Int}{a b:LF}{x:Int}(hx:a[i]? = some x)(hy:b[i]? = some y):(List.zipWith f a b)[i]? = some (f x y):=by
 rw[ug,hx,hy]
theorem M9 (B:lE mg)(F:Fun K "sum_of_products" "sum_of_products" DJ f fd):bK P w K mg base cI 1 f fd ["numbers","others"] Lp:=by
 refine F.o OU fun cdv A outer s H vs Q E hr h=>?_
 ·obtain⟨a,b,ws,rs,n,rfl,ha,hb,hl,hm,hn,hw,hr',q⟩:=h
  refine⟨_,ar (bt (bQ (pQ rfl) (by rfl) B.sum pT (ad (GY rfl L3 rfl (oC rfl B.zip (ad (pv 0) (ad (pv 1) ah))) (wZ rfl L3) (fun _ _ _=>pe) fun _ _ _=>aY gO (pv 2) (pv 3)) ah))),?_⟩;refine⟨_,rfl,_,rfl,a,b,rfl,⟨_,bh.of ha⟩,⟨_,bh.of hb⟩,?_⟩;refine AR ((List.zipWith (fun x y=>x * y) ws rs).map V.int) rfl (bh.of ha) (bh.of hb) (by rw[aa,aa,cg]; lia) (by rw[aa,aa,cg]; lia) (by rw[aa,cg]; lia) ?_ ?_ ?_
  ·intro i x y v H' hx hy hv s'
   obtain⟨x,ex,rfl⟩:=bI hx;obtain⟨y,ey,rfl⟩:=bI hy;obtain⟨z,ez,rfl⟩:=bI hv;rw[wf ex ey] at ez;cases ez;exact⟨_,rfl,_,rfl,_,_,rfl,rfl,⟨n,hn,hw x (ae ex),hr' y (ae ey)⟩,rfl,Same.refl _⟩
  ·intro D H' s' eD
   exact⟨D,_,rfl,bh.of eD,q H' s'⟩
  ·rintro σ H' Q1 Q2 hq ⟨v,e,v',e',i,j,a1,a2,a3,g⟩
   exact⟨v,e,v',e',i,j,a1,a2,a3,hq _ _ g⟩
theorem Ij:∀ a b:LF,TM.dot a b=TM.dot b a:=by
 intro a b;unfold TM.dot;rw[List.zipWith_comm]
 congr 1
 funext
 simp only[Bo]
theorem MP:bJ ["numbers","rows"] ["numbers","rows"] (aB sV):=by constructor<;>first|rfl|decide +kernel
theorem NJ:cw (aB sV) ["numbers","rows"] (cz (dq (cT sV 0))) ["row"]:=by constructor<;>first|rfl|decide +kernel
open TM in
def Jc (g:Rw→Rw→Rw):Sp:=fun vs H Q _=>∃ (v u:V) (r1 r2:Rw) (k n:Nat),vs=[v,u]∧pX H v r1∧pX H u r2∧r1.1.length=n∧r2.1.length=n∧n≤900∧k≤1000000∧(∀ x ∈ r1.1,M11.Bn k x)∧(∀ x ∈ r2.1,M11.Bn k x) ∧
 (0 < r1.2∧0 < r2.2∧M11.Bn 499 r1.2∧M11.Bn 499 r2.2∧499≤k)∧∀ z H',Same H H'→pX H' z (g r1 r2)→Q z H'
open TM in
def HZ (r1 r2:Rw):Rw:=M11.lowerR (List.zipWith (fun a b=>a * b) r1.1 r2.1) (r1.2 * r2.2)
open TM in
def Me (r1 r2:Rw):Rw:=M11.lowerR (List.zipWith (fun a b=>a * r2.2+b * r1.2) r1.1 r2.1) (r1.2 * r2.2)
theorem xz {x:Int}(hx:M11.Bn 499 x)(hy:M11.Bn 499 y):(x * y).natAbs < 2 ^ 1000:=(hx.mul hy).mono (m:=1000) (by decide)
abbrev Qg:LK:=["value","other","tops"]
theorem F7:bJ Qg ["value","other"] (aB kN):=by constructor<;>first|rfl|decide +kernel
theorem HC:cw (aB kN) Qg (cz (dq (cT kN 0))) ["top","other_top"]:=by constructor<;>first|rfl|decide +kernel
theorem J2 (B:lE mg)(F:Fun K "one_by_one_product" "one_by_one_product" kN f fd)(DL:Dn K mg "lowered" jn ["tops","bottom"] fL fdL)(GL:bK P w K mg base cI 3 fL fdL ["tops","bottom"] ni):bK P w K mg base cI 4 f fd ["value","other"] (Jc HZ):=by
 refine F.ok F7 (fun vs H Q E h=>?_) (fun cdv A outer s H vs Q E hr h=>?_)
 ·obtain⟨v,u,r1,r2,k,n,rfl,_⟩:=h
  rfl
 ·obtain⟨v,u,r1,r2,k,n,rfl,⟨p,l,rfl,hp,hl⟩,⟨p',l',rfl,hp',hl'⟩,n1,n2,hn,hk,k1,k2,⟨b1,b2,b3,b4,b5⟩,q⟩:=h
  refine⟨_,am (ql (i:=2) F7.nd rfl (Or.inl rfl) rfl HC rfl (oC rfl B.zip (ad (aG bM (pv 0) aj) (ad (aG bM (pv 1) aj) ah))) (wZ rfl HC) (fun _ _ _=>pe) fun _ _ _=>aY gO (pv 3) (pv 4))
   (ar (bt (bw DL GL hr rfl (ad (pv 2) (ad (aY gO (aG bM (pv 0) aj) (aG bM (pv 1) aj)) ah))))),?_⟩
  show let ω1:TS:=_;bL _ ω1 _ _ _;intro ω1;refine⟨_,rfl,p,_,_,_,rfl,rfl,dy.of hp,rfl,_,rfl,p',_,_,_,rfl,rfl,dy.of hp',rfl,l,l',rfl,⟨_,bh.of hl⟩,⟨_,bh.of hl'⟩,?_⟩;refine AR ((List.zipWith (fun x y=>x * y) r1.1 r2.1).map V.int) rfl (bh.of hl) (bh.of hl') (by rw[aa,aa,cg]; lia) (by rw[aa,aa,cg]; lia) (by rw[aa,cg]; lia) ?_ ?_ ?_
  ·intro i x y v H' hx hy hv s'
   obtain⟨x,ex,rfl⟩:=bI hx;obtain⟨y,ey,rfl⟩:=bI hy;obtain⟨z,ez,rfl⟩:=bI hv;rw[wf ex ey] at ez;cases ez;exact⟨_,rfl,_,rfl,_,_,rfl,rfl,⟨k,hk,k1 x (ae ex),k2 y (ae ey)⟩,rfl,Same.refl _⟩
  ·intro D H' s' eD
   refine⟨_,rfl,_,rfl,p,_,_,_,rfl,rfl,dy.of (s' _ _ hp),rfl,_,rfl,p',_,_,_,rfl,rfl,dy.of (s' _ _ hp'),rfl,_,_,rfl,rfl,⟨499,by decide,b3,b4⟩,D,_,_,rfl,eD,gw b1 b2,xz b3 b4,by rw[cg]; lia,fun z H'' s'' rz=>q z H'' (s'.trans s'') rz⟩
  ·rintro σ H' Q1 Q2 hq ⟨v,e,v',e',i,j,a1,a2,a3,g⟩
   exact⟨v,e,v',e',i,j,a1,a2,a3,hq _ _ g⟩
theorem BW:bJ Qg ["value","other"] (aB kJ):=by constructor<;>first|rfl|decide +kernel
theorem Cs:cw (aB kJ) Qg (cz (dq (cT kJ 0))) ["top","other_top"]:=by constructor<;>first|rfl|decide +kernel
theorem He (B:lE mg)(F:Fun K "one_by_one_sum" "one_by_one_sum" kJ f fd)(DL:Dn K mg "lowered" jn ["tops","bottom"] fL fdL)(GL:bK P w K mg base cI 3 fL fdL ["tops","bottom"] ni):bK P w K mg base cI 4 f fd ["value","other"] (Jc Me):=by
 refine F.ok BW (fun vs H Q E h=>?_) (fun cdv A outer s H vs Q E hr h=>?_)
 ·obtain⟨v,u,r1,r2,k,n,rfl,_⟩:=h
  rfl
 ·obtain⟨v,u,r1,r2,k,n,rfl,⟨p,l,rfl,hp,hl⟩,⟨p',l',rfl,hp',hl'⟩,n1,n2,hn,hk,k1,k2,⟨b1,b2,b3,b4,b5⟩,q⟩:=h
  refine⟨_,am (ql (i:=2) BW.nd rfl (Or.inl rfl) rfl Cs rfl (oC rfl B.zip (ad (aG bM (pv 0) aj) (ad (aG bM (pv 1) aj) ah))) (wZ rfl Cs) (fun _ _ _=>pe)
    (fun _ _ _=>aY dZ (aY gO (pv 3) (aG (pB (K:=K)) (pv 1) aj)) (aY gO (pv 4) (aG (pB (K:=K)) (pv 0) aj))))
   (ar (bt (bw DL GL hr rfl (ad (pv 2) (ad (aY gO (aG bM (pv 0) aj) (aG bM (pv 1) aj)) ah))))),?_⟩
  show let ω1:TS:=_;bL _ ω1 _ _ _;intro ω1;refine⟨_,rfl,p,_,_,_,rfl,rfl,dy.of hp,rfl,_,rfl,p',_,_,_,rfl,rfl,dy.of hp',rfl,l,l',rfl,⟨_,bh.of hl⟩,⟨_,bh.of hl'⟩,?_⟩;refine AR ((List.zipWith (fun x y=>x * r2.2+y * r1.2) r1.1 r2.1).map V.int) rfl (bh.of hl) (bh.of hl') (by rw[aa,aa,cg]; lia) (by rw[aa,aa,cg]; lia) (by rw[aa,cg]; lia) ?_ ?_ ?_
  ·intro i x y v H' hx hy hv s'
   obtain⟨x,ex,rfl⟩:=bI hx;obtain⟨y,ey,rfl⟩:=bI hy;obtain⟨z,ez,rfl⟩:=bI hv;rw[wf ex ey] at ez;cases ez;refine⟨_,rfl,_,rfl,p',_,_,_,rfl,rfl,dy.of (s' _ _ hp'),rfl,_,_,rfl,rfl,⟨k,hk,k1 x (ae ex),b4.mono b5⟩,?_⟩;exact⟨_,rfl,_,rfl,p,_,_,_,rfl,rfl,dy.of (s' _ _ hp),rfl,_,_,rfl,rfl,⟨k,hk,k2 y (ae ey),b3.mono b5⟩,_,_,rfl,rfl,rfl,Same.refl _⟩
  ·intro D H' s' eD
   refine⟨_,rfl,_,rfl,p,_,_,_,rfl,rfl,dy.of (s' _ _ hp),rfl,_,rfl,p',_,_,_,rfl,rfl,dy.of (s' _ _ hp'),rfl,_,_,rfl,rfl,⟨499,by decide,b3,b4⟩,D,_,_,rfl,eD,gw b1 b2,xz b3 b4,by rw[cg]; lia,fun z H'' s'' rz=>q z H'' (s'.trans s'') rz⟩
  ·rintro σ H' Q1 Q2 hq ⟨v,e,v1,e1,a1,a2,a3,a4,a5,a6,a7,a8,i,j,a9,a10,a11,v2,e2,v3,e3,c1,c2,c3,c4,c5,c6,c7,c8,i',j',c9,c10,c11,i2,j2,d1,d2,g⟩
   exact⟨v,e,v1,e1,a1,a2,a3,a4,a5,a6,a7,a8,i,j,a9,a10,a11,v2,e2,v3,e3,c1,c2,c3,c4,c5,c6,c7,c8,i',j',c9,c10,c11,i2,j2,d1,d2,hq _ _ g⟩
open TM in
inductive yg (K:LM)(vs:LG)(H:Hp)(Q:VK):Prop | mk (fa:Addr) (v:V) (a b:Int) (r:Rw) (k:Nat) (_:vs=[.ref fa,v]) (_:dy K H fa [.int a,.int b]) (_:pX H v r) (_:r.1.length≤900) (_:k≤1000000) (_:M11.Bn k a) (_:(∀ x ∈ r.1,M11.Bn k x)) (_:0 < b) (_:0 < r.2) (_:M11.Bn 499 b) (_:M11.Bn 499 r.2) (_:∀ z H',Same H H'→pX H' z (M11.manyR a b r.1 r.2)→Q z H'):yg K vs H Q
open TM in
def FN (K:LM):Sp:=fun vs H Q _=>yg K vs H Q
abbrev LY:LK:=["f","value","from_top","from_bottom","top","bottom"]
theorem sR:bJ LY ["f","value"] (aB kK):=by constructor<;>first|rfl|decide +kernel
theorem Nz:cw (aB kK) LY (cz (uF (dq (cT kK 4)) 0)) ["number"]:=by constructor<;>first|rfl|decide +kernel
theorem rT {g t:Int}(hg:0 < g)(h:g ∣ t):(t.fdiv g).natAbs≤t.natAbs:=by
 obtain⟨q,e1,e2⟩:=M11.fdiv_of_dvd hg h;rw[e2,e1];exact M11.natAbs_le_of_mul (by lia)
theorem JO (F:Fun K "many_times" "many_times" kK f fd)(DG:Dn K mg "greatest_divisor" Op ["number","other"] fG fdG)(GG:bK P w K mg base cI 1 fG fdG ["number","other"] Qe)(DA':Dn K mg "shared_by_all" Gb ["divisor","tops"] fA fdA)(GA:bK P w K mg base cI 2 fA fdA ["divisor","tops"] FY):bK P w K mg base cI 3 f fd ["f","value"] (FN K):=by
 refine F.o sR fun cdv A outer s H vs Q E hr h=>?_
 ·obtain⟨fa,v,a,c,r,k,rfl,hf,⟨p,l,rfl,hp,hl⟩,hn,hk,ka,kr,b1,b2,b3,b4,q⟩:=h
  have r1:=hr.mono (j:=1) (by decide);refine⟨_,am (d7 2 sR.nd (bw DG GG r1 rfl (ad (aG bM (pv 0) aj) (ad (aG bM (pv 1) aj) ah))))
   (am (d7 3 sR.nd (bw DA' GA hr rfl (ad (aG bM (pv 0) aj) (ad (aG bM (pv 1) aj) ah))))
   (am (d7 4 sR.nd (aY jo (aG bM (pv 0) aj) (pv 2)))
   (am (d7 5 sR.nd (aY gO (aY jo (aG bM (pv 0) aj) (pv 3)) (aY jo (aG bM (pv 1) aj) (pv 2))))
   (ar (bt (dc (ad (gE rfl Nz rfl (cU (aG bM (pv 1) aj)) fun _ _ _=>aY gO (pv 4) (aY jo (pv 6) (pv 3))) (ad (pv 5) ah)))))))),?_⟩
  show let ω1:TS:=_;let ω2:TS:=bL _ ω1;let ω3:TS:=bL _ ω2;let ω4:TS:=bL _ ω3;bL _ ω4 _ _ _;intro ω1 ω2 ω3 ω4;obtain⟨g1,g2,g3⟩:=M11.foldG_spec r.1 c b1;have g4:=zA b1 r.1;have p1:0 < M11.G a r.2:=m6.mpr (cZ a (by lia));have p2:M11.G a r.2≤r.2:=Int.le_of_dvd b2 (gi a r.2);have z3:c.natAbs < 2 ^ 1000:=b3.mono (m:=1000) (by decide);have z4:r.2.natAbs < 2 ^ 1000:=b4.mono (m:=1000) (by decide);have d1:∀ u,Aa u (M11.G a r.2):=fun u=>⟨by lia,bU (show (M11.G a r.2).natAbs≤r.2.natAbs by lia) z4⟩
  have d2:∀ u,Aa u (M11.foldG c r.1):=fun u=>⟨by lia,bU g4 z3⟩
  clear z3 z4;refine⟨_,rfl,fa,_,_,_,rfl,rfl,hf,rfl,_,rfl,p,_,_,_,rfl,rfl,dy.of hp,rfl,a,r.2,rfl,?_⟩;refine⟨_,rfl,fa,_,_,_,rfl,rfl,hf,rfl,_,rfl,p,_,_,_,rfl,rfl,dy.of hp,rfl,l,r.1,c,rfl,hl,?_⟩;refine⟨_,rfl,fa,_,_,_,rfl,rfl,hf,rfl,_,rfl,_,_,rfl,rfl,d1 _,?_⟩;refine⟨_,rfl,fa,_,_,_,rfl,rfl,hf,rfl,_,rfl,_,_,rfl,rfl,d2 _,_,rfl,p,_,_,_,rfl,rfl,dy.of hp,rfl,_,rfl,_,_,rfl,rfl,d1 _,_,_,rfl,rfl,⟨499,by decide,b3.le (rT g1 g2),b4.le (rT p1 (gi a r.2))⟩,?_⟩;refine⟨_,rfl,p,_,_,_,rfl,rfl,dy.of hp,rfl,l,rfl,⟨_,bh.of hl⟩,fun D hD=>?_⟩;refine iP (r.1.map fun t=>V.int (a.fdiv (M11.G a r.2) * t.fdiv (M11.foldG c r.1))) (by rw[aa,aa]) (by rw[aa]; exact hn) hD (bh.of hl) ?_ ?_ ?_
  ·intro i x v H' hx hv s'
   obtain⟨t,ht,rfl⟩:=bI hx;obtain⟨t',ht',rfl⟩:=bI hv;rw[ht] at ht';cases ht';exact⟨_,rfl,_,rfl,_,rfl,_,_,rfl,rfl,d2 _,_,_,rfl,rfl,⟨k,hk,ka.le (rT p1 (jd a r.2)),(kr t (ae ht)).le (rT g1 (g3 t (ae ht)))⟩,rfl,Same.refl _⟩
  ·intro H' s' eD
   refine⟨_,rfl,(by show 2≤sizeLine; decide),fun p' hp'=>?_⟩;refine q _ _ (s'.trans (Same.upd hp')) ⟨p',D,rfl,ao,?_⟩;rw[aO (aU eD hp'),eD];unfold M11.manyR;rw[cu]
   rfl
  ·rintro σ H' Q1 Q2 hq ⟨v,e,v',e',v2,e2,i,j,a1,a2,a3,i',j',c1,c2,c3,g⟩
   exact⟨v,e,v',e',v2,e2,i,j,a1,a2,a3,i',j',c1,c2,c3,hq _ _ g⟩
open TM in
inductive uU (vs:LG)(H:Hp)(Q:VK):Prop | mk (a l:Addr) (M:LA) (r:LF) (n:Nat) (_:vs=[.ref l,.ref a]) (_:eI H a (gI M)) (_:H l=some (.lst (r.map V.int))) (_:M.length≤900) (_:r.length≤900) (_:n≤1000000) (_:(∀ x ∈ M,x.length=r.length∧∀ z ∈ x,M11.Bn n z)) (_:(∀ x ∈ r,M11.Bn n x)) (_:∀ D H',Same H H'→H D=none→H' D=some (.lst ((M.map fun w=>dot w r).map V.int))→Q (.ref D) H'):uU vs H Q
open TM in
def wx:Sp:=fun vs H Q _=>uU vs H Q
theorem Hq (F:Fun K "sums_with_each" "sums_with_each" sV f fd)(DD:Dn K mg "sum_of_products" DJ ["numbers","others"] fD fdD)(GD:bK P w K mg base cI 1 fD fdD ["numbers","others"] Lp):bK P w K mg base cI 2 f fd ["numbers","rows"] wx:=by
 refine F.o MP fun cdv A outer s H vs Q E hr h=>?_
 ·obtain⟨a,l,M,r,n,rfl,⟨rs,ha,R⟩,hl,hM,hrl,hn,hw,hr',q⟩:=h
  have lr:rs.length=M.length:=by rw[R.len,dJ]
  refine⟨_,ar (bt (gE rfl NJ rfl (cU (pv 1)) fun _ _ _=>bw DD GD hr rfl (ad (pv 0) (ad (pv 2) ah)))),?_⟩;refine⟨_,rfl,a,rfl,⟨_,bh.of ha⟩,fun D hD=>?_⟩;refine iP ((M.map fun w=>TM.dot w r).map V.int) (by rw[aa,aa,aa,lr]) (by rw[aa,lr]; lia) hD (bh.of ha) ?_ ?_ ?_
  ·intro i x v H' hx hv s'
   obtain⟨ra,hra,rfl⟩:=bI hx;obtain⟨z,hz,rfl⟩:=bI hv;obtain⟨row,hrow,rfl⟩:=bI hz;have er:=R.row i ra _ hra (jb hrow);obtain⟨w1,w2⟩:=hw row (ae hrow);rw[Ij row r];exact⟨_,rfl,_,rfl,l,ra,r,row,n,rfl,s' _ _ hl,s' _ _ er,w1.symm,hrl,hn,hr',w2,fun H3 s3=>⟨rfl,s3⟩⟩
  ·intro H' s' eD
   exact q D H' s' hD eD
  ·rintro σ H' Q1 Q2 hq ⟨v,e,v',e',a1,a2,a3,a4,a5,a6,a7,a8,a9,a10,a11,a12,a13,g⟩
   exact⟨v,e,v',e',a1,a2,a3,a4,a5,a6,a7,a8,a9,a10,a11,a12,a13,fun H3 s3=>hq _ _ (g H3 s3)⟩
def pP (N:LA)(n:Nat):LA:=(List.range n).map fun j=>N.map fun x=>(x[j]?).getD 0
theorem C0 {N:LA}{n:Nat}(h:∀ x ∈ N,x.length=n):ol (gI N) n=gI (pP N n):=by
 unfold ol pP;show _=List.map (fun x:LF=>x.map V.int) _;rw[cu];refine dN fun j hj=>?_
 show ((gI N).map fun x=>(x[j]?).getD .non)=(N.map fun x=>(x[j]?).getD 0).map V.int;unfold gI;rw[cu,cu];refine dN fun x hx=>?_
 show ((x.map V.int)[j]?).getD .non=V.int ((x[j]?).getD 0);obtain⟨z,hz⟩:=bW (l:=x) (i:=j) (by rw[h x hx]; exact dX.mp hj);rw[aq,hz]
 rfl
open TM in
def mE (M N:LA)(n:Nat):LA:=M.map fun r=>(pP N n).map fun c=>dot c r
inductive ye (vs:LG)(H:Hp)(Q:VK):Prop | mk (a b:Addr) (M N:LA) (n k:Nat) (_:vs=[.ref a,.ref b]) (_:eI H a (gI M)) (_:eI H b (gI N)) (_:M.length≤900) (_:N.length≤900) (_:n≤900) (_:k≤1000000) (_:(∀ x ∈ M,x.length=N.length∧∀ z ∈ x,M11.Bn k z)) (_:(∀ x ∈ N,x.length=n∧∀ z ∈ x,M11.Bn k z)) (_:(N=[]→n=0)) (_:∀ D H',Same H H'→H D=none→eI H' D (gI (mE M N n))→Q (.ref D) H'):ye vs H Q
def FM:Sp:=fun vs H Q _=>ye vs H Q
theorem F5:bJ ["rows","others","columns"] ["rows","others"] (aB ve):=by constructor<;>first|rfl|decide +kernel
theorem Ny:cw (aB ve) ["rows","others","columns"] (cz (dq (cT ve 1))) ["row"]:=by constructor<;>first|rfl|decide +kernel
theorem JK (F:Fun K "product_of_grids" "product_of_grids" ve f fd)(DC:Dn K mg "columns_of" qM ["rows"] fC fdC)(GC:bK P w K mg base cI 2 fC fdC ["rows"] wy)(DE:Dn K mg "sums_with_each" sV ["numbers","rows"] fE fdE)(GE:bK P w K mg base cI 2 fE fdE ["numbers","rows"] wx):bK P w K mg base cI 3 f fd ["rows","others"] FM:=by
 refine F.o F5 fun cdv A outer s H vs Q E hr h=>?_
 ·obtain⟨a,b,M,N,n,k,rfl,⟨rs,ha,R⟩,gb,hM,hN,hn,hk,hm,hN',h0,q⟩:=h
  have lr:rs.length=M.length:=by rw[R.len,dJ]
  refine⟨_,am (d7 2 F5.nd (bw DC GC hr rfl (ad (pv 1) ah)))
   (ar (bt (gE rfl Ny rfl (cU (pv 0)) fun _ _ _=>bw DE GE hr rfl (ad (pv 3) (ad (pv 2) ah))))),?_⟩
  show let ω1:TS:=_;bL _ ω1 _ _ _;intro ω1;refine⟨_,rfl,b,gI N,n,rfl,gb,by rw[dJ]; exact hN,hn,fun x hx=>?_,fun z=>h0 ?_,fun C H1 s1 nC gC=>?_⟩
  ·obtain⟨y,hy,rfl⟩:=bg.mp hx
   rw[aa];exact (hN' y hy).1
  ·exact List.map_eq_nil_iff.mp z
  rw[C0 fun x hx=>(hN' x hx).1] at gC;refine⟨_,rfl,a,rfl,⟨_,bh.of (s1 _ _ ha)⟩,fun D hD=>?_⟩;refine mh (xs:=rs.map V.ref) (lB H1 D (gI (mE M N n))) (lB.start hD) (fun i ys H' _ ⟨_,_,_,s',eD,_⟩=>⟨bh.of (s' _ _ (s1 _ _ ha)),eD⟩) ?_ ?_ ?_
  ·rintro i x ys H' hx g
   obtain⟨r,hr',rfl⟩:=bI hx;obtain⟨row,hrow⟩:=bW (l:=M) (i:=i) (by rw[←lr]; exact cq hr');have s':Same H1 H':=let ⟨_,_,_,z,_⟩:=g; z;have er:=(s1.trans s') _ _ (R.row i r _ hr' (jb hrow));obtain⟨w1,w2⟩:=hm row (ae hrow);refine⟨_,rfl,_,rfl,C,r,pP N n,row,k,rfl,gC.mono s',er,by unfold pP; rw[aa,b9]; exact hn,by lia,hk,fun c hc=>?_,w2,fun p H3 s3 np ep=>?_⟩
   ·unfold pP at hc
    obtain⟨j,hj,rfl⟩:=bg.mp hc;refine⟨by rw[aa,w1],fun z hz=>?_⟩;obtain⟨y,hy,rfl⟩:=bg.mp hz;obtain⟨u,hu⟩:=bW (l:=y) (i:=j) (by rw[(hN' y hy).1]; exact dX.mp hj);show M11.Bn k ((y[j]?).getD 0);rw[hu];exact (hN' y hy).2 u (ae hu)
   ·refine g.step hD ?_ ⟨p,rfl,ep,np⟩ s3 (by have:=cq hrow; lia)
    exact jb (by unfold mE; rw[aq,hrow]; rfl)
  ·intro ys H' g
   have ll:(rs.map V.ref).length=(gI (mE M N n)).length:=by rw[aa,dJ,lr]; unfold mE; rw[aa]
   rw[ll] at g;obtain⟨s',gg⟩:=g.done;exact q D H' (s1.trans s') (s1.free hD) gg
  ·rintro σ H' Q1 Q2 hq ⟨v,e,v',e',a1,a2,a3,a4,a5,a6,a7,a8,a9,a10,a11,a12,a13,g⟩
   exact⟨v,e,v',e',a1,a2,a3,a4,a5,a6,a7,a8,a9,a10,a11,a12,a13,fun D H3 s3 n3 e3=>hq _ _ (g D H3 s3 n3 e3)⟩
theorem pJ {α:Type}{n:Nat}:∀ (X:List (List α)),(∀ x ∈ X,x.length=n)→∀ i j,j < n→X.flatten[i * n+j]? = (X[i]?).bind fun x=>x[j]?
 | [],_,i,j,_=>by simp
 | x :: X,h,0,j,hj=>by
  rw[bV,Nat.zero_mul,Nat.zero_add,be (by rw[h x aK]; exact hj)]
  rfl
 | x :: X,h,i+1,j,hj=>by
  have e:(i+1) * n+j=n+(i * n+j):=by rw[ik]; lia
  have lx:=h x aK;rw[bV,e,aV (by lia),lx,Nat.add_sub_cancel_left,pJ X (fun y hy=>h y (aC _ hy)) i j hj,List.getElem?_cons_succ]
theorem nE {α:Type}{n:Nat}:∀ (X:List (List α)),(∀ x ∈ X,x.length=n)→X.flatten.length=X.length * n
 | [],_=>by simp
 | x :: X,h=>by
  rw[bV,ai,h x aK,nE X fun y hy=>h y (aC _ hy),bq,ik]
  lia
theorem nG (M:LA):(gI M).flatten=M.flatten.map V.int:=by
 unfold gI
 induction M with
 | nil=>rfl
 | cons x M ih=>rw[aS,bV,ih,bV,aM]
def rq (ts:LF)(n:Nat):LA:=(List.range n).map fun i=>(ts.drop (n * i)).take n
theorem FE (ts:LF)(n:Nat):je (ts.map V.int) n=gI (rq ts n):=by
 unfold je gI rq;rw[cu];refine dN fun i _=>?_
 show ((ts.map V.int).drop (n * i)).take n=((ts.drop (n * i)).take n).map V.int;rw[pZ,xO]
theorem ir (ts:LF)(n:Nat):(rq ts n).length=n:=by unfold rq; rw[aa,b9]
theorem wq {n:Nat}(h:i < n):(rq ts n)[i]? = some ((ts.drop (n * i)).take n):=by
 unfold rq;rw[aq,cD h]
 rfl
theorem rW {n:Nat}(h:i < n)(hl:ts.length=n * n):((ts.drop (n * i)).take n).length=n:=by
 have:n * i+n≤n * n:=by
  have:=g9 n (show i+1≤n from h)
  rw[mY] at this;exact this
 rw[bB,df,hl,d6 (by lia)]
theorem xt {n v:Nat}{x:Int}(h:((ts.drop (n * i)).take n)[v]? = some x):ts[i * n+v]? = some x:=by
 have hv:v < n:=by
  have:=(aN.mp h).1
  rw[bB] at this
  lia
 rw[fX hv,List.getElem?_drop] at h;rw[gs];exact h
theorem oV {n:Nat}(hl:ts.length=n * n)(h:x ∈ rq ts n):x.length=n∧∀ z ∈ x,z ∈ ts:=by
 obtain⟨i,hi,rfl⟩:=bg.mp h;exact⟨rW (dX.mp hi) hl,fun z hz=>mw (gc hz)⟩
def IP (us:LF)(n j:Nat):LF:=(rq us n).map fun x=>(x[j]?).getD 0
theorem rX (us:LF)(n j:Nat):(IP us n j).length=n:=by unfold IP; rw[aa,ir]
theorem rY {n v:Nat}{x:Int}(hl:us.length=n * n)(hj:j < n)(h:(IP us n j)[v]? = some x):us[v * n+j]? = some x:=by
 have hv:v < n:=by rw[←rX us n j]; exact cq h
 unfold IP at h;rw[aq,wq hv] at h;have e:((us.drop (n * v)).take n)[j]?.getD 0=x:=aW h;obtain⟨y,ey⟩:=bW (l:=(us.drop (n * v)).take n) (i:=j) (by rw[rW hv hl]; exact hj);rw[ey] at e;obtain rfl:y=x:=e;exact xt ey
theorem pO (us:LF)(n:Nat):pP (rq us n) n=(List.range n).map (IP us n):=rfl
theorem Gx {n:Nat}(h:i < n):(mE (rq ts n) (rq us n) n)[i]? = some ((List.range n).map fun j=>TM.dot (IP us n j) ((ts.drop (n * i)).take n)):=by
 unfold mE;rw[aq,wq h,pO];show some (((List.range n).map (IP us n)).map fun c=>TM.dot c ((ts.drop (n * i)).take n))=some _;rw[cu]
 rfl
theorem yJ {n:Nat}(h:x ∈ mE (rq ts n) (rq us n) n):x.length=n:=by
 obtain⟨r,_,rfl⟩:=bg.mp h;rw[aa,pO,aa,b9]
theorem Gy (ts us:LF)(n:Nat):(mE (rq ts n) (rq us n) n).length=n:=by unfold mE; rw[aa,ir]
theorem Gz {n:Nat}(hi:i < n)(hj:j < n):(mE (rq ts n) (rq us n) n).flatten[i * n+j]? = some (TM.dot (IP us n j) ((ts.drop (n * i)).take n)):=by
 rw[pJ _ (fun x hx=>yJ hx) i j hj,Gx hi];show ((List.range n).map _)[j]? = _;rw[aq,cD hj]
 rfl
open Q6 (Va) in
def jq (H:Hp)(v:V)(n s:Nat)(f:Nat→Rat):Prop:=∃ r:TM.Rw,pX H v r∧Va n s f r.1 r.2
theorem jq.mono {n:Nat}{f:Nat→Rat}(h:jq H v n s f)(e:Same H H'):jq H' v n s f:=by
 obtain⟨r,h1,h2⟩:=h;exact⟨r,h1.mono e,h2⟩
theorem kA {n:Nat}{f:Nat→Rat}(S:Q6.Va n s f ts b)(hs:s≤1500):M11.Bn 499 b:=(Q6.le_bn S.bot).mono (by lia)
def CO (n:Nat)(f g:Nat→Rat):Nat→Rat:=fun k=>Q6.sm (fun v=>f (k / n * n+v) * g (v * n+k % n)) n
theorem Bw {n:Nat}{f:Nat→Rat}{e:Int}(S:Q6.Va (n * n) s f ts b)(T:Q6.Va (n * n) s' g us e)(hn:n≤16):Q6.Va (n * n) (s+s'+1) (CO n f g) (mE (rq ts n) (rq us n) n).flatten (b * e):=by
 refine S.thn T hn (rw':=fun i=>(ts.drop (n * i)).take n) (cl:=IP us n) (by rw[nE _ fun x hx=>yJ hx,Gy]) (fun i hi=>⟨rW hi S.len,fun v x h=>xt h⟩) (fun j hj=>⟨rX us n j,fun v x h=>rY T.len hj h⟩) fun i j x hi hj h=>?_
 rw[Gz hi hj] at h;exact (aW h).symm
inductive yc (vs:LG)(H:Hp)(Q:VK):Prop | mk (n:Nat) (v u:V) (s s':Nat) (f g:Nat→Rat) (_:vs=[.int (n:Int),v,u]) (_:n≤16) (_:jq H v (n * n) s f) (_:jq H u (n * n) s' g) (_:s≤1500) (_:s'≤1500) (_:∀ z H',Same H H'→jq H' z (n * n) (s+s'+1) (CO n f g)→Q z H'):yc vs H Q
def FK:Sp:=fun vs H Q _=>yc vs H Q
abbrev Ph:LK:=["size","value","other","rows"]
theorem F4:bJ Ph ["size","value","other"] (aB B0):=by constructor<;>first|rfl|decide +kernel
theorem JJ (F:Fun K "one_then_other" "one_then_other" B0 f fd)(DP:Dn K mg "product_of_grids" ve ["rows","others"] fP fdP)(GP:bK P w K mg base cI 3 fP fdP ["rows","others"] FM)(DS:Dn K mg "in_square" qL ["things","size"] fS fdS)(GS:bK P w K mg base cI 1 fS fdS ["things","size"] (ww K))(DO:Dn K mg "in_one_list" lQ ["rows"] fO fdO)(GO:bK P w K mg base cI 1 fO fdO ["rows"] lJ)(DL:Dn K mg "lowered" jn ["tops","bottom"] fL fdL)(GL:bK P w K mg base cI 3 fL fdL ["tops","bottom"] ni):bK P w K mg base cI 4 f fd ["size","value","other"] FK:=by
 refine F.o F4 fun cdv A outer s H vs Q E hr h=>?_
 ·obtain⟨n,v,u,z,z',f,g,rfl,hn,⟨⟨ts,b⟩,⟨p,l,rfl,hp,hl⟩,S⟩,⟨⟨us,e⟩,⟨p',l',rfl,hp',hl'⟩,T⟩,hz,hz',q⟩:=h
  dsimp only at hp hl hp' hl' S T
  have r1:=hr.mono (j:=1) (by decide);have nn:n * n≤256:=bP hn hn;have Sn:=Bw S T hn;have lS:=S.len;have lT:=T.len;have bb:=xz (kA S hz) (kA T hz');refine⟨_,am (d7 3 F4.nd (bw DP GP hr rfl (ad (bw DS GS r1 rfl (ad (aG bM (pv 1) aj) (ad (pv 0) ah))) (ad (bw DS GS r1 rfl (ad (aG bM (pv 2) aj) (ad (pv 0) ah))) ah))))
   (ar (bt (bw DL GL hr rfl (ad (bw DO GO r1 rfl (ad (pv 3) ah)) (ad (aY gO (aG bM (pv 1) aj) (aG bM (pv 2) aj)) ah))))),?_⟩
  show let ω1:TS:=_;bL _ ω1 _ _ _;intro ω1;refine⟨_,rfl,p,_,_,_,rfl,rfl,dy.of hp,rfl,_,rfl,l,_,n,rfl,bh.of hl,by rw[aa,lS],hn,fun a H1 s1 ga=>?_⟩;refine⟨_,rfl,p',_,_,_,rfl,rfl,dy.of (s1 _ _ hp'),rfl,_,rfl,l',_,n,rfl,bh.of (s1 _ _ hl'),by rw[aa,lT],hn,fun a' H2 s2 ga'=>?_⟩;rw[FE] at ga ga';refine⟨a,a',_,_,n,13000,rfl,ga.at.mono s2,ga'.at,by rw[ir]; lia,by rw[ir]; lia,by lia,by lia,fun x hx=>⟨by rw[ir]; exact (oV lS hx).1,fun y hy=>(S.tops y ((oV lS hx).2 y hy)).mono (by lia)⟩,fun x hx=>⟨(oV lT hx).1,fun y hy=>(T.tops y ((oV lT hx).2 y hy)).mono (by lia)⟩,fun y=>by have:=congrArg List.length y; rw[ir] at this; exact this,fun R H3 s3 nR gR=>?_⟩;have s03:=(s1.trans s2).trans s3;refine⟨_,rfl,R,_,rfl,gR,by rw[nG,aa,Sn.len]; lia,fun D H4 s4 nD eD=>?_⟩;have s04:=s03.trans s4;rw[nG] at eD;refine⟨_,rfl,p,_,_,_,rfl,rfl,dy.of (s04 _ _ hp),rfl,_,rfl,p',_,_,_,rfl,rfl,dy.of (s04 _ _ hp'),rfl,_,_,rfl,rfl,⟨499,by decide,kA S hz,kA T hz'⟩,D,_,_,rfl,eD,Sn.pos,bb,by rw[Sn.len]; lia,fun v' H'' s'' rz=>q v' H'' (s04.trans s'') ⟨_,rz,Sn.lower⟩⟩
theorem qY {a b:Str}(h:a≠b):¬ V.str a=V.str b:=fun z=>h (V.str.inj z)
theorem rM (z:Int)(k:Nat):(List.replicate k [V.int z]).flatten=(List.replicate k z).map V.int:=by
 induction k with
 | zero=>rfl
 | succ k ih=>rw[cQ,bV,ih,cQ,aS]; rfl
theorem Nc {n a b:Nat}(hb:b < n)(hj:j < n)(h:a * n+b=i * n+j):a=i∧b=j:=by
 have n0:0 < n:=by lia
 have e1:(a * n+b) / n=a:=by rw[gs,Nat.mul_add_div n0,E4 hb,Nat.add_zero]
 have e2:(i * n+j) / n=i:=by rw[gs,Nat.mul_add_div n0,E4 hj,Nat.add_zero]
 have e:a=i:=by rw[←e1,←e2,h]
 subst e;exact⟨rfl,by lia⟩
theorem yV {n:Nat}(hi:i < n)(hj:j < n):i * n+j < n * n:=by
 have:=uz n (show i+1≤n from hi)
 rw[ik] at this
 lia
def Dg (ts us:LF)(n i:Nat):Prop:=us.length=n * n∧∀ (a b:Nat) (x:Int),a < n→b < n→us[a * n+b]? = some x→if a=b∧a < i then ts[a]? = some x else x=0
theorem Dg.start (ts:LF)(n:Nat):Dg ts (List.replicate (n * n) 0) n 0:=by
 refine⟨by rw[cO],fun a b x _ _ h=>?_⟩;rw[if_neg (by lia)];exact jz (ae h)
theorem Dg.step {n:Nat}(h:Dg ts us n i)(hz:ts[i]? = some z)(hi:i < n):Dg ts (us.set (i * n+i) z) n (i+1):=by
 refine⟨by rw[cR]; exact h.1,fun a b x ha hb e=>?_⟩
 by_cases c:i * n+i=a * n+b
 ·obtain⟨rfl,rfl⟩:=Nc hi hb c
  rw[dG (by rw[h.1]; exact yV hi hi)] at e;rw[if_pos ⟨rfl,by lia⟩,←aW e];exact hz
 ·rw[eg c] at e
  have:=h.2 a b x ha hb e
  by_cases d:a=b∧a < i
  ·rw[if_pos d] at this
   rw[if_pos ⟨d.1,by lia⟩];exact this
  ·rw[if_neg d] at this
   rw[if_neg fun⟨d1,d2⟩=>d ⟨d1,by
    rcases rh a i with q | q
    ·exact q
    ·exact absurd (by rw[←d1,show a=i by lia]) c⟩]
   exact this
theorem Dg.done {n:Nat}(h:Dg ts us n n):us.length=n * n∧∀ (i j:Nat) (x:Int),i < n→j < n→us[i * n+j]? = some x→if i=j then ts[i]? = some x else x=0:=by
 refine⟨h.1,fun i j x hi hj e=>?_⟩
 have:=h.2 i j x hi hj e
 by_cases c:i=j
 ·rw[if_pos ⟨c,hi⟩] at this; rw[if_pos c]; exact this
 ·rw[if_neg fun z=>c z.1] at this; rw[if_neg c]; exact this
inductive uH (vs:LG)(H:Hp)(Q:VK):Prop | mk (l:Addr) (ts:LF) (n:Nat) (_:vs=[.ref l]) (_:H l=some (.lst (ts.map V.int))) (_:ts.length=n) (_:n≤16) (_:∀ D H' (us:LF),Same H H'→H D=none→H' D=some (.lst (us.map V.int))→Dg ts us n n→Q (.ref D) H'):uH vs H Q
def wt:Sp:=fun vs H Q _=>uH vs H Q
abbrev Ng:LK:=["tops","size","spread","place","top"]
theorem oY:bJ Ng ["tops"] (aB jN):=by constructor<;>first|rfl|decide +kernel
theorem Ha (B:lE mg)(F:Fun K "tops_where_same" "tops_where_same" jN f fd):bK P w K mg base cI 1 f fd ["tops"] wt:=by
 refine F.o oY fun cdv A outer s H vs Q E hr h=>?_
 ·obtain⟨l,ts,n,rfl,hl,ln,hn,q⟩:=h
  refine⟨_,am (d7 1 oY.nd (bQ bT (by rfl) B.len bE (ad (pv 0) ah)))
   (am (d7 2 oY.nd (aY mR (cC (ad aj ah)) (aY dY (pv 1) (pv 1))))
   (am (di PassesOwn.never rfl (rO rfl B.enum (ad (pv 0) ah)) (gp rfl (bY (iK 3 oY.nd) (bY (iK 4 oY.nd) eJ)))
    (ar (gx (pv 4) (jv (pv 2) (aY dZ (aY dY (pv 3) (pv 1)) (pv 3)) gH))))
   (ar (bt (pv 2))))),?_⟩
  show let ω1:TS:=_;let ω2:TS:=_;let ω3:TS:=bL (ig _ _ ω2) ω1;let ω4:TS:=bL _ ω3;bL _ ω4 _ _ _;intro ω1 ω2 ω3 ω4;refine⟨_,rfl,l,_,rfl,.inl (bh.of hl),?_⟩;rw[aa,ln];have nn:n * n≤256:=bP hn hn;refine⟨(by show 1≤sizeLine; decide),fun l1 hl1=>?_⟩;have eN:(n:Int) * (n:Int)=((n * n:Nat):Int):=by push_cast; rfl
  refine⟨_,rfl,_,rfl,_,_,rfl,rfl,fi (by lia) (by lia),l1,_,_,rfl,rfl,ao,?_,?_,?_,fun l2 hl2=>?_⟩
  ·rw[eN]; lia
  ·rw[eN]; lia
  ·rw[eN,bC]
   exact cf (bo (by show 1 * (n * n)≤1000; lia))
  rw[eN,bC,rM];have s1:Same H (L2.upd H l1 (.lst [.int 0])):=Same.upd hl1;generalize L2.upd H l1 (.lst [.int 0])=H1 at s1 hl2 ⊢;have hD0:H l2=none:=s1.free hl2;have s2:Same H (L2.upd H1 l2 (.lst ((List.replicate (n * n) (0:Int)).map V.int))):=s1.trans (Same.upd hl2);have e2:L2.upd H1 l2 (.lst ((List.replicate (n * n) (0:Int)).map V.int)) l2=some (.lst ((List.replicate (n * n) (0:Int)).map V.int)):=ao;generalize L2.upd H1 l2 (.lst ((List.replicate (n * n) (0:Int)).map V.int))=H2 at s2 e2 ⊢
  let π1:LP:=fun i σ H'=>∃ (o3 o4:LS) (us:LF),σ=[some (.ref l),some (.int (n:Int)),some (.ref l2),o3,o4]∧Same H H'∧H' l2=some (.lst (us.map V.int))∧Dg ts us n i
  refine⟨_,rfl,l,rfl,⟨_,bh.of (s2 _ _ hl)⟩,pH (K:=K) (xs:=ts.map V.int) π1 ?_ ?_ ?_ ?_⟩
  ·exact⟨none,none,_,rfl,s2,e2,Dg.start ts n⟩
  ·rintro i σ H' _ ⟨o3,o4,us,rfl,s',_⟩
   exact bh.of (s' _ _ hl)
  ·rintro i x t σ H' hx ⟨o3,o4,us,rfl,s',e',gd⟩ ht
   obtain⟨z,ez,rfl⟩:=bI hx;have li:i < n:=by rw[←ln]; exact cq ez
   refine⟨t,_,rfl,dy.of ao,rfl,_,_,rfl,_,_,rfl,rfl,?_⟩;have e3:L2.upd H' t (.tup [.int (i:Int),.int z]) l2=some (.lst (us.map V.int)):=by rw[aO (aU e' ht)]; exact e'
   have s3:Same H (L2.upd H' t (.tup [.int (i:Int),.int z])):=s'.trans (Same.upd ht);generalize L2.upd H' t (.tup [.int (i:Int),.int z])=H3 at e3 s3 ⊢;have ex:(i:Int) * (n:Int)+(i:Int)=((i * n+i:Nat):Int):=by push_cast; rfl
   refine⟨_,rfl,_,rfl,_,rfl,_,rfl,_,_,rfl,rfl,fi (by lia) (by lia),_,rfl,_,_,rfl,rfl,l2,_,_,i * n+i,rfl,rfl,e3,by rw[ex,aa,gd.1]; exact iu (yV li li),?_⟩;rw[←im];exact⟨_,_,us.set (i * n+i) z,rfl,fun b o e=>by rw[aO (aU e hD0)]; exact s3 _ _ e,ao,gd.step ez li⟩
  ·rintro σ H' ⟨o3,o4,us,rfl,s',e',gd⟩
   rw[aa,ln] at gd;exact⟨_,rfl,q l2 H' us s' hD0 e' gd⟩
open TM in
theorem oT (n:Nat):Q6.Va n 1 (fun _=>1) (List.replicate n 1) 1:=by
 refine Q6.Va.lst (F:=fun _=>1) (by decide) (by decide) (by rw[cO]) fun k x h=>?_
 have e:=jz (ae h);subst e;exact⟨rfl,aH (by decide:(1:Int).natAbs < 2 ^ 1) (cH (by decide) (by decide)),by show ((1:Int):Rat)=1 * ((1:Int):Rat); rw[iB]; grind⟩
theorem HS (h:H a=some (.lst (rs.map V.ref)))(R:dj H rs M):eI H a (gI M):=by
 refine⟨rs,h,by rw[dJ]; exact R.len,fun i r x e1 e2=>?_⟩;unfold gI at e2;rw[aq] at e2;obtain⟨y,ey,rfl⟩:=cc.mp e2;exact R.row i r y e1 ey
open TM in
theorem Fp {n:Nat}(W:Ff n hs M)(c:Int):Q6.Va n 1 (iZ hs M (.lf (.hue c))) (hs.map fun h=>if h=c then 1 else 0) 1:=by
 refine Q6.Va.lst (F:=fun k=>if hs.getD k 0=c then 1 else 0) (by decide) (by decide) (by rw[aa]; exact W.hl) fun k x h=>?_
 rw[aq] at h;obtain⟨y,ey,rfl⟩:=cc.mp h;have e:hs.getD k 0=y:=by rw[aR,ey]; rfl
 have b1:M11.Bn (8 * 1) 1:=aH (by decide:(1:Int).natAbs < 2 ^ 1) (cH (by decide) (by decide));have b0:M11.Bn (8 * 1) 0:=Nat.pow_pos (by decide);simp only[iZ];rw[e]
 by_cases q:y=c
 ·rw[if_pos q,if_pos q]
  exact⟨rfl,b1,by rw[iB]; grind⟩
 ·rw[if_neg q,if_neg q]
  exact⟨rfl,b0,by rw[iB,qz]; grind⟩
open TM in
theorem Fo {n:Nat}(W:Ff n hs M):Q6.Va (n * n) 10 (iZ hs M (.lf .tie)) M.flatten 1:=by
 have row:∀ x ∈ M,x.length=n:=fun x hx=>(W.row x hx).1
 have len:M.flatten.length=n * n:=by rw[nE M row,W.ml]
 refine⟨len,by decide,by decide,fun x hx=>?_,fun k x hk=>?_⟩
 ·obtain⟨r,hr,hx⟩:=k9.mp hx
  exact (EW ((W.row r hr).2 x hx)).mono (by decide)
 ·have lk:k < n * n:=by rw[←len]; exact cq hk
  have n0:0 < n:=by
   rcases nV n with z | z
   ·subst z; lia
   ·exact z
  have h2:k % n < n:=nU _ n0;have e:k / n * n+k % n=k:=by rw[gs,mI]
  have:=pJ M row (k / n) (k % n) h2
  rw[e,hk] at this;simp only[iZ];rw[W.hl];cases c:M[k / n]? with
  | none=>rw[c] at this; cases this
  | some r =>
   rw[c] at this;have c':r[k % n]? = some x:=this.symm;rw[show M.getD (k / n) []=r by rw[aR,c]; rfl,show r.getD (k % n) 0=x by rw[aR,c']; rfl,iB]
   grind
def Qh:TM.Lf→Nat
 | .hue _=>1
 | _=>10
open TM in
inductive yj (K:LM)(vs:LG)(H:Hp)(Q:VK):Prop | mk (wA p:Addr) (k:Lf) (pre:LG) (hs:LF) (M:LA) (n:Nat) (_:vs=[.ref wA,.ref p]) (_:WR H wA hs M) (_:Ff n hs M) (_:dy K H p (.str k.word :: pre)) (_:(∀ c,k=.hue c→pre=[.int c])) (_:∀ D H' (ts:LF),Same H H'→H D=none→H' D=some (.lst (ts.map V.int))→Q6.Va (many n k.tab) (Qh k) (iZ hs M (.lf k)) ts 1→Q (.ref D) H'):yj K vs H Q
open TM in
def FQ (K:LM):Sp:=fun vs H Q _=>yj K vs H Q
abbrev LZ:LK:=["web","term","size","kind"]
theorem Au:bJ LZ ["web","term"] (aB vg):=by constructor<;>first|rfl|decide +kernel
def Pt (st:Stmt):Expr:=match st with
 | .If _ (b :: _) _ _=>dq b
 | _=>.Constant .none 0 ⟨0,0,0,0⟩
theorem NA:cw (aB vg) LZ (cz (Pt (cT vg 3))) ["hue"]:=by constructor<;>first|rfl|decide +kernel
theorem Aw {n:Nat}(h:n≤256):([V.int 1]).length * n≤sizeLine:=cf (bo (by show 1 * n≤1000; lia))
open TM in
theorem JT (B:lE mg)(F:Fun K "tops_of_leaf" "tops_of_leaf" vg f fd)(DW:Dn K mg "tops_where_same" jN ["tops"] fW fdW)(GW:bK P w K mg base cI 1 fW fdW ["tops"] wt)(DO:Dn K mg "in_one_list" lQ ["rows"] fO fdO)(GO:bK P w K mg base cI 1 fO fdO ["rows"] lJ):bK P w K mg base cI 2 f fd ["web","term"] (FQ K):=by
 refine F.o Au fun cdv A outer s H vs Q E hr h=>?_
 ·obtain⟨wA,p,k,pre,hs,M,n,rfl,⟨hA,rA,rs,w1,w2,w3,R⟩,W,hp,hh,q⟩:=h
  have hl:=W.hl;have hn:=W.few;have nn:n * n≤256:=bP hn hn;have eN:(n:Int) * (n:Int)=((n * n:Nat):Int):=by push_cast; rfl
  refine⟨_,am (d7 2 Au.nd (bQ bT (by rfl) B.len bE (ad (aG bM (pv 0) aj) ah)))
   (am (d7 3 Au.nd (aG bM (pv 1) aj))
   (am (cK (bF cE (pv 3) cV (bG _)) (ar (bt (aY mR (cC (ad aj ah)) (pv 2)))) bX)
   (am (cK (bF cE (pv 3) cV (bG _)) (ar (bt (gE rfl NA rfl (cU (aG bM (pv 0) aj)) fun _ _ _=>pi (bF cE (pv 4) (aG (pB (K:=K)) (pv 1) aj) (bG _)) aj aj))) bX)
   (am (cK (bF cE (pv 3) cV (bG _)) (ar (bt (bw DW GW hr rfl (ad (aY mR (cC (ad aj ah)) (pv 2)) ah)))) bX)
   (am (cK (bF cE (pv 3) cV (bG _)) (ar (bt (bw DO GO hr rfl (ad (aG bM (pv 0) aj) ah)))) bX)
   (ar (bt (aY mR (cC (ad aj ah)) (aY dY (pv 2) (pv 2)))))))))),?_⟩
  show let ω1:TS:=_;let ω2:TS:=_;let ω3:TS:=bL (eK _ ω2 _) ω1;let ω4:TS:=_;let ω5:TS:=bL (eK _ ω4 _) ω3;let ω6:TS:=_;let ω7:TS:=bL (eK _ ω6 _) ω5;let ω8:TS:=_;let ω9:TS:=bL (eK _ ω8 _) ω7;let ω10:TS:=bL _ ω9;bL _ ω10 _ _ _;intro ω1 ω2 ω3 ω4 ω5 ω6 ω7 ω8 ω9 ω10;refine⟨_,rfl,wA,_,_,_,rfl,rfl,dy.of w1,rfl,hA,_,rfl,.inl (bh.of w2),?_⟩;rw[aa,hl];refine⟨_,rfl,p,_,_,_,rfl,rfl,hp,jT _ _,?_⟩;refine⟨_,rfl,rfl,_,rfl,?_⟩;cases k with
  | one =>
   refine dO rfl ?_;refine⟨(by show 1≤sizeLine; decide),fun l1 hl1=>?_⟩;refine⟨_,rfl,l1,_,_,rfl,rfl,ao,by lia,by lia,by rw[bC]; exact Aw (by lia),fun l2 hl2=>?_⟩;rw[bC,rM];exact q l2 _ _ ((Same.upd hl1).trans (Same.upd hl2)) ((Same.upd hl1).free hl2) ao ((oT n).more (by decide))
  | hue c =>
   obtain rfl:=hh c rfl;refine cr (qY (show ("hue" : Str)≠"one" by decide +kernel)) ?_;refine⟨_,rfl,rfl,_,rfl,dO rfl ?_⟩;refine⟨_,rfl,wA,_,_,_,rfl,rfl,dy.of w1,rfl,hA,rfl,⟨_,bh.of w2⟩,fun D hD=>?_⟩;refine iP (xs:=hs.map V.int) (hs.map fun h=>V.int (if h=c then 1 else 0)) (by rw[aa,aa]) (by rw[aa,hl]; lia) hD (bh.of w2) ?_ ?_ ?_
   ·intro i x v H' hx hv s'
    obtain⟨t,ht,rfl⟩:=bI hx;obtain⟨t',ht',rfl⟩:=bI hv;rw[ht] at ht';cases ht';refine⟨_,rfl,_,rfl,p,_,_,_,rfl,rfl,s'.seqT hp,g8 _ _ _,rfl,_,rfl,?_⟩
    by_cases e:t=c
    ·subst e
     refine dO rfl ⟨?_,Same.refl _⟩;rw[if_pos rfl]
    ·refine cr (fun z=>e (V.int.inj z)) ⟨?_,Same.refl _⟩
     rw[if_neg e]
   ·intro H' s' eD
    refine q D H' (hs.map fun h=>if h=c then 1 else 0) s' hD ?_ (Fp W c);rw[eD,cu]; rfl
   ·rintro σ H' Q1 Q2 hq ⟨v,e,v',e',a1,a2,a3,a4,a5,a6,a7,a8,e2,c',e3,g⟩
    refine⟨v,e,v',e',a1,a2,a3,a4,a5,a6,a7,a8,e2,c',e3,?_⟩;cases c' with
    | true=>exact re (hq _ _ (by rw[if_pos rfl] at g; exact g))
    | false=>exact oG (hq _ _ (by rw[if_neg ba] at g; exact g))
  | same =>
   refine cr (qY (show ("same" : Str)≠"one" by decide +kernel)) ⟨_,rfl,rfl,_,rfl,cr (qY (show ("same" : Str)≠"hue" by decide +kernel)) ⟨_,rfl,rfl,_,rfl,dO rfl ?_⟩⟩;refine⟨(by show 1≤sizeLine; decide),fun l1 hl1=>?_⟩;refine⟨_,rfl,l1,_,_,rfl,rfl,ao,by lia,by lia,by rw[bC]; exact Aw (by lia),fun l2 hl2=>?_⟩;rw[bC,rM];refine⟨l2,_,n,rfl,ao,by rw[cO],hn,fun D H' us s' nD eD gd=>?_⟩;refine q D H' us (((Same.upd hl1).trans (Same.upd hl2)).trans s') (((Same.upd hl1).trans (Same.upd hl2)).free nD) eD ?_
   have:=((oT n).more (d:=10) (by decide)).diag gd.done.1 gd.done.2
   simp only[iZ];rw[hl];exact this
  | tie =>
   refine cr (qY (show ("tie" : Str)≠"one" by decide +kernel)) ⟨_,rfl,rfl,_,rfl,cr (qY (show ("tie" : Str)≠"hue" by decide +kernel)) ⟨_,rfl,rfl,_,rfl,cr (qY (show ("tie" : Str)≠"same" by decide +kernel)) ⟨_,rfl,rfl,_,rfl,dO rfl ?_⟩⟩⟩;have V':=Fo W;refine⟨_,rfl,wA,_,_,_,rfl,rfl,dy.of w1,rfl,rA,_,rfl,HS w3 R,by rw[nG,aa,V'.len]; lia,fun D H' s' nD eD=>?_⟩;rw[nG] at eD;exact q D H' _ s' nD eD V'
  | all =>
   refine cr (qY (show ("all" : Str)≠"one" by decide +kernel)) ⟨_,rfl,rfl,_,rfl,cr (qY (show ("all" : Str)≠"hue" by decide +kernel)) ⟨_,rfl,rfl,_,rfl,cr (qY (show ("all" : Str)≠"same" by decide +kernel)) ⟨_,rfl,rfl,_,rfl,cr (qY (show ("all" : Str)≠"tie" by decide +kernel)) ?_⟩⟩⟩;refine⟨(by show 1≤sizeLine; decide),fun l1 hl1=>?_⟩;refine⟨_,rfl,_,rfl,_,_,rfl,rfl,fi (by lia) (by lia),l1,_,_,rfl,rfl,ao,by rw[eN]; lia,by rw[eN]; lia,by rw[eN,bC]; exact Aw nn,fun l2 hl2=>?_⟩;rw[eN,bC,rM];exact q l2 _ _ ((Same.upd hl1).trans (Same.upd hl2)) ((Same.upd hl1).free hl2) ao ((oT (n * n)).more (by decide))
open TM Q6
def Ld:Un→Bool→Bool
 | .near,_=>false
 | .rows,_=>true
 | .on,_=>false
 | .turned,_=>true
 | .many _ _,s=>s
def Le:Un→Bool→Bool
 | .near,_=>false
 | .rows,_=>false
 | .on,_=>true
 | .turned,_=>true
 | .many _ _,s=>s
def IO (hs:LF)(M:LA):Un→(Nat→Rat)→Nat→Rat
 | .near,f=>fun k=>sm (fun v=>(((M.getD k []).getD v 0:Int):Rat) * f v) hs.length
 | .rows,f=>fun k=>sm (fun j=>f (k * hs.length+j)) hs.length
 | .on,f=>fun k=>if k / hs.length=k % hs.length then f (k / hs.length) else 0
 | .turned,f=>fun k=>f (k % hs.length * hs.length+k / hs.length)
 | .many a b,f=>fun k=>f k * ((a:Rat) / (b:Rat))
theorem Bv {n:Nat}{f:Nat→Rat}(S:Va (n * n) s f ts b):Va (n * n) s (fun k=>f (k % n * n+k / n)) (pP (rq ts n) n).flatten b:=by
 have row:∀ x ∈ pP (rq ts n) n,x.length=n:=fun x hx=>by
  rw[pO] at hx;obtain⟨j,_,rfl⟩:=bg.mp hx;exact rX ts n j
 refine S.turn (by rw[nE _ row,pO,aa,b9]) fun i j x hi hj h=>?_
 rw[pJ _ row i j hj,pO,aq,cD hi] at h;exact rY S.len hi h
theorem IR {n:Nat}{f:Nat→Rat}(S:Va (n * n) s f ts b)(hn:n≤16):Va n (s+1) (fun k=>sm (fun j=>f (k * n+j)) n) ((rq ts n).map List.sum) b:=by
 refine S.rows hn (by rw[aa,ir]) fun i x h=>?_
 have hi:i < n:=by
  have:=cq h
  rw[aa,ir] at this;exact this
 rw[aq,wq hi] at h;exact (aW h).symm
theorem EV (h:X.K=K:=by rfl)(hc:X.calm=true:=by rfl):iV X (.builtin "sum") (fun xs H Q=>∃ (p:Addr) (ns:LF),xs=[.ref p]∧bh K H p (ns.map V.int)∧Q (.int ns.sum) H):=by subst h; exact pQ hc
def Rl:Un→Nat→Nat
 | .near,z=>z+10
 | .rows,z=>z+1
 | .on,z=>z
 | .turned,z=>z
 | .many _ _,z=>z+10
inductive qG (vs:LG)(H:Hp)(Q:VK):Prop | mk (wA l:Addr) (k:Un) (s:Bool) (ts:LF) (b:Int) (z:Nat) (f:Nat→Rat) (hs:LF) (M:LA) (n:Nat) (_:vs=[.ref wA,.str k.word,.ref l]) (_:WR H wA hs M) (_:Ff n hs M) (_:(∀ a b,k≠.many a b)) (_:H l=some (.lst (ts.map V.int))) (_:Va (many n (Ld k s)) z f ts b) (_:z≤1500) (_:∀ D H' (us:LF),Same H H'→H D=none→H' D=some (.lst (us.map V.int))→Va (many n (Le k s)) (Rl k z) (IO hs M k f) us b→Q (.ref D) H'):qG vs H Q
def uT:Sp:=fun vs H Q _=>qG vs H Q
abbrev yY:LK:=["web","kind","tops","rows"]
theorem va:bJ yY ["web","kind","tops"] (aB kM):=by constructor<;>first|rfl|decide +kernel
theorem EF:cw (aB kM) yY (cz (Pt (cT kM 3))) ["row"]:=by constructor<;>first|rfl|decide +kernel
theorem AI (B:lE mg)(F:Fun K "tops_from_one" "tops_from_one" kM f fd)(DE:Dn K mg "sums_with_each" sV ["numbers","rows"] fE fdE)(GE:bK P w K mg base cI 2 fE fdE ["numbers","rows"] wx)(DW:Dn K mg "tops_where_same" jN ["tops"] fW fdW)(GW:bK P w K mg base cI 1 fW fdW ["tops"] wt)(DS:Dn K mg "in_square" qL ["things","size"] fS fdS)(GS:bK P w K mg base cI 1 fS fdS ["things","size"] (ww K))(DC:Dn K mg "columns_of" qM ["rows"] fC fdC)(GC:bK P w K mg base cI 2 fC fdC ["rows"] wy)(DO:Dn K mg "in_one_list" lQ ["rows"] fO fdO)(GO:bK P w K mg base cI 1 fO fdO ["rows"] lJ):bK P w K mg base cI 3 f fd ["web","kind","tops"] uT:=by
 refine F.o va fun cdv A outer s H vs Q E hr h=>?_
 ·obtain⟨wA,l,k,so,ts,b,z,f,hs,M,n,rfl,⟨hA,rA,rs,w1,w2,w3,R⟩,W,nm,hl,S,hz,q⟩:=h
  have hh:=W.hl;have hn:=W.few;have nn:n * n≤256:=bP hn hn;have r1:=hr.mono (j:=1) (by decide);refine⟨_,am (cK (bF cE (pv 1) cV (bG _)) (ar (bt (bw DE GE hr rfl (ad (pv 2) (ad (aG bM (pv 0) aj) ah))))) bX)
   (am (cK (bF cE (pv 1) cV (bG _)) (ar (bt (bw DW GW r1 rfl (ad (pv 2) ah)))) bX)
   (am (d7 3 va.nd (bw DS GS r1 rfl (ad (pv 2) (ad (bQ bT (by rfl) B.len bE (ad (aG bM (pv 0) aj) ah)) ah))))
   (am (cK (bF cE (pv 1) cV (bG _)) (ar (bt (gE rfl EF rfl (cU (pv 3)) fun _ _ _=>bQ (EV (K:=K)) (by rfl) B.sum pT (ad (pv 4) ah)))) bX)
   (ar (bt (bw DO GO r1 rfl (ad (bw DC GC hr rfl (ad (pv 3) ah)) ah))))))),?_⟩
  show let ω1:TS:=_;let ω2:TS:=_;let ω3:TS:=bL (eK _ ω2 _) ω1;let ω4:TS:=bL _ ω3;let ω5:TS:=_;let ω6:TS:=bL (eK _ ω5 _) ω4;let ω7:TS:=_;bL (eK _ ω7 _) ω6 _ _ _;intro ω1 ω2 ω3 ω4 ω5 ω6 ω7;refine⟨_,rfl,rfl,_,rfl,?_⟩;cases k with
  | many a b=>exact absurd rfl (nm a b)
  | near =>
   refine dO rfl ?_;have S':Va n z f ts b:=S;refine⟨_,rfl,_,rfl,wA,_,_,_,rfl,rfl,dy.of w1,rfl,rA,l,M,ts,13000,rfl,HS w3 R,hl,by rw[W.ml]; lia,by rw[S'.len]; lia,by decide,fun x hx=>⟨by rw[S'.len]; exact (W.row x hx).1,fun y hy=>(EW ((W.row x hx).2 y hy)).mono (by decide)⟩,fun x hx=>(S'.tops x hx).mono (by lia),fun D H' s' nD eD=>?_⟩;refine q D H' _ s' nD eD ?_
   have:=S'.near hn W.ml W.row
   show Va n (z+10) (fun k=>sm _ hs.length) _ b;rw[hh];exact this
  | on =>
   refine cr (qY (show ("on" : Str)≠"near" by decide +kernel)) ⟨_,rfl,rfl,_,rfl,dO rfl ?_⟩;have S':Va n z f ts b:=S;refine⟨_,rfl,l,ts,n,rfl,hl,S'.len,hn,fun D H' us s' nD eD gd=>q D H' us s' nD eD ?_⟩
   have:=S'.diag gd.done.1 gd.done.2
   show Va (n * n) z (fun k=>if k / hs.length=k % hs.length then f (k / hs.length) else 0) us b;rw[hh];exact this
  | rows =>
   refine cr (qY (show ("rows" : Str)≠"near" by decide +kernel)) ⟨_,rfl,rfl,_,rfl,cr (qY (show ("rows" : Str)≠"on" by decide +kernel)) ?_⟩;have S':Va (n * n) z f ts b:=S;refine⟨_,rfl,_,rfl,wA,_,_,_,rfl,rfl,dy.of w1,rfl,hA,_,rfl,.inl (bh.of w2),l,_,n,(by rw[aa,hh]; rfl),bh.of hl,by rw[aa,S'.len],hn,fun a H1 s1 ga=>?_⟩;refine⟨_,rfl,rfl,_,rfl,dO rfl ?_⟩;rw[FE] at ga;obtain⟨rs',ha,gv⟩:=ga.at;have lr:rs'.length=n:=by rw[gv.len,dJ,ir]
   refine⟨_,rfl,a,rfl,⟨_,bh.of ha⟩,fun D hD=>?_⟩;refine iP (((rq ts n).map List.sum).map V.int) (by rw[aa,aa,aa,ir,lr]) (by rw[aa,lr]; lia) hD (bh.of ha) ?_ ?_ ?_
   ·intro i x v H' hx hv s'
    obtain⟨r,er,rfl⟩:=bI hx;obtain⟨t,et,rfl⟩:=bI hv;rw[aq] at et;obtain⟨y,ey,rfl⟩:=cc.mp et;exact⟨_,rfl,r,y,rfl,bh.of (s' _ _ (gv.row i r _ er (jb ey))),rfl,Same.refl _⟩
   ·intro H' s' eD
    refine q D H' _ (s1.trans s') (s1.free hD) eD ?_
    have:=IR S' hn
    show Va n (z+1) (fun k=>sm (fun j=>f (k * hs.length+j)) hs.length) _ b;rw[hh];exact this
   ·rintro σ H' Q1 Q2 hq ⟨v,e,a1,a2,a3,a4,g⟩
    exact⟨v,e,a1,a2,a3,a4,hq _ _ g⟩
  | turned =>
   refine cr (qY (show ("turned" : Str)≠"near" by decide +kernel)) ⟨_,rfl,rfl,_,rfl,cr (qY (show ("turned" : Str)≠"on" by decide +kernel)) ?_⟩;have S':Va (n * n) z f ts b:=S;refine⟨_,rfl,_,rfl,wA,_,_,_,rfl,rfl,dy.of w1,rfl,hA,_,rfl,.inl (bh.of w2),l,_,n,(by rw[aa,hh]; rfl),bh.of hl,by rw[aa,S'.len],hn,fun a H1 s1 ga=>?_⟩;refine⟨_,rfl,rfl,_,rfl,cr (qY (show ("turned" : Str)≠"rows" by decide +kernel)) ?_⟩;rw[FE] at ga;have row:∀ x ∈ rq ts n,x.length=n:=fun x hx=>(oV S'.len hx).1
   refine⟨_,rfl,a,_,n,rfl,ga.at,by rw[dJ,ir]; lia,by lia,fun x hx=>?_,fun y=>?_,fun D1 H2 s2 n2 g2'=>?_⟩
   ·obtain⟨y,hy,rfl⟩:=bg.mp hx
    rw[aa];exact row y hy
   ·have:=congrArg List.length y
    rw[dJ,ir] at this;exact this
   rw[C0 row] at g2';have T:=Bv S';refine⟨D1,_,rfl,g2',by rw[nG,aa,T.len]; lia,fun D H' s' nD eD=>?_⟩;rw[nG] at eD;refine q D H' _ ((s1.trans s2).trans s') ((s1.trans s2).free nD) eD ?_;show Va (n * n) z (fun k=>f (k % hs.length * hs.length+k / hs.length)) _ b;rw[hh];exact T
end
section
variable {P:Program}{w:World}{K:LM}{mg:LO}{base:Heap}
open TM Q6
def Os (n:Nat):Bi→(Nat→Rat)→(Nat→Rat)→Nat→Rat
 | .both,f,g=>fun k=>f k * g k
 | .thn,f,g=>CO n f g
 | .meet,f,g=>fun k=>f k * g k
 | .plus,f,g=>fun k=>f k+g k
def Od:Bi→Bool→Prop
 | .both,s=>s=false
 | .thn,s=>s=true
 | .meet,s=>s=true
 | .plus,_=>True
theorem Cn {n:Nat}(h:n≤16)(s:Bool):many n s≤256:=by
 have nn:n * n≤256:=bP h h;unfold many
 split <;> lia
inductive FJ (vs:LG)(H:Hp)(Q:VK):Prop | mk (wA:Addr) (k:Bi) (v u:V) (s s':Nat) (f g:Nat→Rat) (hs:LF) (M:LA) (n:Nat) (so:Bool) (_:vs=[.ref wA,.str k.word,v,u]) (_:WR H wA hs M) (_:Ff n hs M) (_:Od k so) (_:jq H v (many n so) s f) (_:jq H u (many n so) s' g) (_:s≤1500) (_:s'≤1500) (_:∀ z H',Same H H'→jq H' z (many n so) (s+s'+1) (Os n k f g)→Q z H'):FJ vs H Q
def OP:Sp:=fun vs H Q _=>FJ vs H Q
abbrev Pg:LK:=["web","kind","value","other"]
theorem Qu:bJ Pg Pg (aB oZ):=by constructor<;>first|rfl|decide +kernel
theorem Pa (B:lE mg)(F:Fun K "value_from_two" "value_from_two" oZ f fd)(DB:Dn K mg "one_by_one_product" kN ["value","other"] fB fdB)(GB:bK P w K mg base cI 4 fB fdB ["value","other"] (Jc HZ))(DP:Dn K mg "one_by_one_sum" kJ ["value","other"] fP fdP)(GP:bK P w K mg base cI 4 fP fdP ["value","other"] (Jc Me))(DT:Dn K mg "one_then_other" B0 ["size","value","other"] fT fdT)(GT:bK P w K mg base cI 4 fT fdT ["size","value","other"] FK):bK P w K mg base cI 5 f fd Pg OP:=by
 refine F.o Qu fun cdv A outer s H vs Q E hr h=>?_
 ·obtain⟨wA,k,v,u,z,z',f,g,hs,M,n,so,rfl,⟨hA,rA,rs,w1,w2,w3,R⟩,W,hk,h1,h2,hz,hz',q⟩:=h
  have hn:=W.few;have hm:=Cn hn so;refine⟨_,am (cK (bF cE (pv 1) cV (bG _)) (ar (bt (bw DP GP hr rfl (ad (pv 2) (ad (pv 3) ah))))) bX)
   (am (cK (bF cE (pv 1) cV (bG _)) (ar (bt (bw DT GT hr rfl (ad (bQ bT (by rfl) B.len bE (ad (aG bM (pv 0) aj) ah)) (ad (pv 2) (ad (pv 3) ah)))))) bX)
   (ar (bt (bw DB GB hr rfl (ad (pv 2) (ad (pv 3) ah)))))),?_⟩
  show let ω1:TS:=_;let ω2:TS:=_;let ω3:TS:=bL (eK _ ω2 _) ω1;let ω4:TS:=_;bL (eK _ ω4 _) ω3 _ _ _;intro ω1 ω2 ω3 ω4;refine⟨_,rfl,rfl,_,rfl,?_⟩;have times:Os n k f g=(fun k=>f k * g k)→∃ (v' u':V) (r1 r2:Rw) (k' n':Nat),[v,u]=[v',u']∧pX H v' r1∧pX H u' r2∧r1.1.length=n'∧r2.1.length=n'∧n'≤900∧k'≤1000000∧(∀ x ∈ r1.1,M11.Bn k' x)∧(∀ x ∈ r2.1,M11.Bn k' x)∧(0 < r1.2∧0 < r2.2∧M11.Bn 499 r1.2∧M11.Bn 499 r2.2∧499≤k')∧∀ z H',Same H H'→pX H' z (HZ r1 r2)→Q z H':=fun eb=>by
   obtain⟨r1,e1,S⟩:=h1;obtain⟨r2,e2,T⟩:=h2;refine⟨v,u,r1,r2,13000,many n so,rfl,e1,e2,S.len,T.len,by lia,by decide,fun x hx=>(S.tops x hx).mono (by lia),fun x hx=>(T.tops x hx).mono (by lia),⟨S.pos,T.pos,kA S hz,kA T hz',by decide⟩,fun z H' s' rz=>q z H' s' ⟨_,rz,?_⟩⟩;rw[eb];exact ((S.mul T).lower).more (by lia)
  cases k with
  | plus =>
   refine dO rfl ?_;obtain⟨r1,e1,S⟩:=h1;obtain⟨r2,e2,T⟩:=h2;exact⟨_,rfl,_,rfl,v,u,r1,r2,13000,many n so,rfl,e1,e2,S.len,T.len,by lia,by decide,fun x hx=>(S.tops x hx).mono (by lia),fun x hx=>(T.tops x hx).mono (by lia),⟨S.pos,T.pos,kA S hz,kA T hz',by decide⟩,fun z H' s' rz=>q z H' s' ⟨_,rz,(S.add T).lower⟩⟩
  | thn =>
   obtain rfl:so=true:=hk;refine cr (qY (show ("then" : Str)≠"plus" by decide +kernel)) ⟨_,rfl,rfl,_,rfl,dO rfl ?_⟩;exact⟨_,rfl,wA,_,_,_,rfl,rfl,dy.of w1,rfl,hA,_,rfl,.inl (bh.of w2),_,rfl,_,rfl,n,v,u,z,z',f,g,(by rw[aa,W.hl]; rfl),hn,h1,h2,hz,hz',q⟩
  | both =>
   refine cr (qY (show ("both" : Str)≠"plus" by decide +kernel)) ⟨_,rfl,rfl,_,rfl,cr (qY (show ("both" : Str)≠"then" by decide +kernel)) ?_⟩;exact⟨_,rfl,_,rfl,times rfl⟩
  | meet =>
   refine cr (qY (show ("meet" : Str)≠"plus" by decide +kernel)) ⟨_,rfl,rfl,_,rfl,cr (qY (show ("meet" : Str)≠"then" by decide +kernel)) ?_⟩;exact⟨_,rfl,_,rfl,times rfl⟩
inductive Nd where
 | lf (k:Lf)
 | un (k:Un)
 | bi (k:Bi)
def Nd.word:Nd→Str
 | .lf k=>k.word
 | .un k=>k.word
 | .bi k=>k.word
def P0 (K:LM)(H:Hp)(rst:LG):Nd→Prop
 | .lf k=>∀ c,k=.hue c→rst=[.int c]
 | .un (.many a b)=>Br a b∧∃ fa l,rst=.ref fa :: l∧dy K H fa [.int a,.int b]
 | _=>True
def E3 (H H':Hp)(y:V):Prop:=∃ (p l:Addr) (b:V),y=.ref p∧H' p=some (.tup [.ref l,b])∧H l=none
def Q3 (H:Hp)(hs:LF)(M:LA)(n:Nat)(ps:LG)(Q:VK):Nd→Prop
 | .lf k=>ps=[]∧∀ y H',Same H H'→jq H' y (many n k.tab) (Qh k) (iZ hs M (.lf k))→E3 H H' y→Q y H'
 | .un k=>∃ (x:V) (z:Nat) (f:Nat→Rat) (so:Bool),ps=[x]∧jq H x (many n (Ld k so)) z f∧z≤1500∧∀ y H',Same H H'→jq H' y (many n (Le k so)) (Rl k z) (IO hs M k f)→(k=.on→E3 H H' y)→Q y H'
 | .bi k=>∃ (x x':V) (z z':Nat) (f g:Nat→Rat) (so:Bool),ps=[x,x']∧Od k so∧jq H x (many n so) z f∧jq H x' (many n so) z' g∧z≤1500∧z'≤1500∧∀ y H',Same H H'→jq H' y (many n so) (z+z'+1) (Os n k f g)→Q y H'
inductive sI (K:LM)(vs:LG)(H:Hp)(Q:VK):Prop | mk (wA q p:Addr) (d:Nd) (rst:LG) (hs:LF) (M:LA) (n:Nat) (ps:LG) (_:vs=[.ref wA,.ref p,.ref q]) (_:WR H wA hs M) (_:Ff n hs M) (_:dy K H p (.str d.word :: rst)) (_:P0 K H rst d) (_:H q=some (.lst ps)) (_:Q3 H hs M n ps Q d):sI K vs H Q
def yw (K:LM):Sp:=fun vs H Q _=>sI K vs H Q
abbrev Ki:LK:=["web","term","inner_values","kind","value"]
theorem sS:bJ Ki ["web","term","inner_values"] (aB rG):=by constructor<;>first|rfl|decide +kernel
theorem Em (B:lE mg)(F:Fun K "value_by_kind" "value_by_kind" rG f fd)(DE:Dn K mg "tops_of_leaf" vg ["web","term"] fE fdE)(GE:bK P w K mg base cI 2 fE fdE ["web","term"] (FQ K))(DO:Dn K mg "tops_from_one" kM ["web","kind","tops"] fO fdO)(GO:bK P w K mg base cI 3 fO fdO ["web","kind","tops"] uT)(DT:Dn K mg "value_from_two" oZ Pg fT fdT)(GT:bK P w K mg base cI 5 fT fdT Pg OP)(DM:Dn K mg "many_times" kK ["f","value"] fM fdM)(GM:bK P w K mg base cI 3 fM fdM ["f","value"] (FN K)):bK P w K mg base cI 6 f fd ["web","term","inner_values"] (yw K):=by
 refine F.o sS fun cdv A outer s H vs Q E hr h=>?_
 ·obtain⟨wA,q,p,d,rst,hs,M,n,ps,rfl,hW,W,hp,hN,hq,hI⟩:=h
  have hn:=W.few;have r2:=hr.mono (j:=2) (by decide);have r3:=hr.mono (j:=3) (by decide);refine⟨_,am (d7 3 sS.nd (aG bM (pv 1) aj))
   (am (cK (bF cE (bQ bT (by rfl) B.len bE (ad (pv 2) ah)) aj (bG _)) (ar (bt (bw DT GT hr rfl (ad (pv 0) (ad (pv 3) (ad (aG aJ (pv 2) aj) (ad (aG aJ (pv 2) aj) ah))))))) bX)
   (am (cK (bF cE (bQ bT (by rfl) B.len bE (ad (pv 2) ah)) aj (bG _)) (ar (bt (dc (ad (bw DE GE r2 rfl (ad (pv 0) (ad (pv 1) ah))) (ad aj ah))))) bX)
   (am (d7 4 sS.nd (aG aJ (pv 2) aj))
   (am (cK (bF cE (pv 3) cV (bG _)) (ar (bt (bw DM GM r3 rfl (ad (aG bM (pv 1) aj) (ad (pv 4) ah))))) bX)
   (ar (bt (dc (ad (bw DO GO r3 rfl (ad (pv 0) (ad (pv 3) (ad (aG bM (pv 4) aj) ah)))) (ad (aG bM (pv 4) aj) ah))))))))),?_⟩
  show let ω1:TS:=_;let ω2:TS:=_;let ω3:TS:=bL (eK _ ω2 _) ω1;let ω4:TS:=bL _ ω3;let ω5:TS:=_;let ω6:TS:=bL (eK _ ω5 _) ω4;let ω7:TS:=_;let ω8:TS:=bL (eK _ ω7 _) ω6;bL _ ω8 _ _ _;intro ω1 ω2 ω3 ω4 ω5 ω6 ω7 ω8;refine⟨_,rfl,p,_,_,_,rfl,rfl,hp,jT _ _,?_⟩;refine⟨_,rfl,q,_,rfl,.inl (bh.of hq),rfl,_,rfl,?_⟩;have i02:¬ V.int 0=V.int 2:=fun z=>absurd (V.int.inj z) (by decide)
  have i12:¬ V.int 1=V.int 2:=fun z=>absurd (V.int.inj z) (by decide)
  have i10:¬ V.int 1=V.int 0:=fun z=>absurd (V.int.inj z) (by decide)
  cases d with
  | lf l =>
   obtain⟨rfl,k⟩:=hI;refine cr i02 ⟨_,rfl,q,_,rfl,.inl (bh.of hq),rfl,_,rfl,dO rfl ?_⟩;refine⟨_,rfl,_,rfl,wA,p,l,rst,hs,M,n,rfl,hW,W,hp,hN,fun D H' ts s' nD eD V'=>?_⟩;refine⟨(by show 2≤sizeLine; decide),fun p' hp'=>?_⟩;exact k _ _ (s'.trans (Same.upd hp')) ⟨(ts,1),⟨p',D,rfl,ao,by rw[aO (aU eD hp')]; exact eD⟩,V'⟩ ⟨p',D,_,rfl,ao,nD⟩
  | un u =>
   obtain⟨x,z,f,so,rfl,⟨⟨ts,b⟩,⟨pv',l,rfl,e1,e2⟩,S⟩,hz,k⟩:=hI
   dsimp only at e1 e2 S
   refine cr i12 ⟨_,rfl,q,_,rfl,.inl (bh.of hq),rfl,_,rfl,cr i10 ?_⟩;refine⟨_,rfl,q,_,_,_,rfl,rfl,bh.of hq,jT _ _,?_⟩;refine⟨_,rfl,rfl,_,rfl,?_⟩
   by_cases um:∃ a c,u=.many a c
   ·obtain⟨a,c,rfl⟩:=um
    refine dO rfl ?_;obtain⟨fo,fa,rl,rfl,hf⟩:=hN;have qb:c.natAbs≤2 ^ 2:=by have:=fo.pos; have:=fo.bot; lia
    refine⟨_,rfl,p,_,_,_,rfl,rfl,hp,g8 _ _ _,_,rfl,fa,.ref pv',a,c,(ts,b),13000,rfl,hf,⟨pv',l,rfl,e1,e2⟩,?_,by decide,(EW fo.top).mono (by decide),fun x hx=>(S.tops x hx).mono (by lia),fo.pos,S.pos,bU qb (by decide),kA S (by lia),fun z H' s' rz=>k z H' s' ⟨_,rz,S.many fo.pos (EW fo.top) qb⟩ fun e=>by cases e⟩;show ts.length≤900;rw[S.len];exact aE (Cn hn _) (by decide)
   ·have nm:u.word≠"many":=by
     cases u with
     | many a c=>exact absurd ⟨a,c,rfl⟩ um
     | _=>show (_:Str)≠_; decide +kernel
    refine cr (qY nm) ?_;refine⟨_,rfl,_,rfl,_,rfl,pv',_,_,_,rfl,rfl,dy.of e1,rfl,wA,l,u,so,ts,b,z,_,hs,M,n,rfl,hW,W,fun a c e=>um ⟨a,c,e⟩,e2,S,by lia,fun D H' us s' nD eD V'=>?_⟩;refine⟨_,rfl,pv',_,_,_,rfl,rfl,dy.of (s' _ _ e1),rfl,(by show 2≤sizeLine; decide),fun p' hp'=>?_⟩;exact k _ _ (s'.trans (Same.upd hp')) ⟨(us,b),⟨p',D,rfl,ao,by rw[aO (aU eD hp')]; exact eD⟩,V'⟩ (fun _=>⟨p',D,_,rfl,ao,nD⟩)
  | bi u =>
   obtain⟨x,y,z,z',f,g,so,rfl,o1,hx,hy,hz,hz',k⟩:=hI;refine dO rfl ?_;exact⟨_,rfl,_,rfl,_,rfl,q,_,_,_,rfl,rfl,bh.of hq,jT _ _,_,rfl,q,_,_,_,rfl,rfl,bh.of hq,g8 _ _ _,wA,u,x,y,_,_,_,_,hs,M,n,so,rfl,hW,W,o1,hx,hy,hz,hz',k⟩
end
section
variable {P:Program}{w:World}{K:LM}{mg:LO}{base:Heap}
def frs (r:TM.Rw):LC:=r.1.map fun t=>M11.low t r.2
def Rt (H:Hp)(v:V)(l:Int × Int):Prop:=∃ p,v=.ref p∧H p=some (ou l)
open TM in
inductive BD (vs:LG)(H:Hp)(Q:VK):Prop | mk (v:V) (r:Rw) (_:vs=[v]) (_:pX H v r) (_:r.2≠0) (_:r.2.natAbs < 2 ^ 1000) (_:∀ u H',Same H H'→Rt H' u (M11.low r.1.sum r.2)→Q u H'):BD vs H Q
open TM in
def Lm:Sp:=fun vs H Q _=>BD vs H Q
theorem OT:bJ ["value"] ["value"] (aB Jo):=by constructor<;>first|rfl|decide +kernel
theorem M6 (B:lE mg)(F:Fun K "total_of_value" "total_of_value" Jo f fd)(DF:Dn K mg "fraction_of" Qf ["top","bottom"] fF fdF)(GF:bK P w K mg base cI 2 fF fdF ["top","bottom"] Rp):bK P w K mg base cI 3 f fd ["value"] Lm:=by
 refine F.o OT fun cdv A outer s H vs Q E hr h=>?_
 ·obtain⟨v,r,rfl,⟨p,l,rfl,hp,hl⟩,lz,l1000,q⟩:=h
  refine⟨_,ar (bt (bw DF GF hr rfl (ad (bQ (pQ rfl) (by rfl) B.sum pT (ad (aG bM (pv 0) aj) ah)) (ad (aG bM (pv 0) aj) ah)))),?_⟩;exact⟨_,rfl,p,_,_,_,rfl,rfl,dy.of hp,rfl,l,_,rfl,bh.of hl,_,rfl,p,_,_,_,rfl,rfl,dy.of hp,rfl,_,_,rfl,lz,l1000,fun p' hp'=>q _ _ (Same.upd hp') ⟨p',rfl,ao⟩⟩
def iI (H:Hp)(v:V)(q:Rat):Prop:=∃ p pr,v=.ref p∧H p=some (ou pr)∧Q6.IsFr q pr∧M11.Bn 13000 pr.1∧M11.Bn 499 pr.2
theorem iI.mono (h:iI H v q)(s:Same H H'):iI H' v q:=by
 obtain⟨p,pr,e,h1,h2⟩:=h;exact⟨p,pr,e,s _ _ h1,h2⟩
def Mh (m s:Nat)(f:Nat→Rat):Prop:=∃ r:TM.Rw,Q6.Va m s f r.1 r.2
theorem Bd {d:Nat}{t:Int}(hb:b≠0)(ht:M11.Bn c t)(hb':M11.Bn d b):M11.Bn c (M11.low t b).1∧M11.Bn d (M11.low t b).2:=by
 obtain⟨h1,h2⟩:=M11.low_le (t:=t) hb;exact⟨ht.le h1,hb'.le h2⟩
theorem Ib {f:Nat→Rat}{r:TM.Rw}{u:V}(S:Q6.Va m s f r.1 r.2)(hs:s≤1500)(hm:m≤256)(h:Rt H u (M11.low r.1.sum r.2)):iI H u (Q6.sm f m):=by
 obtain⟨p,rfl,hp⟩:=h;have nz:r.2≠0:=by have:=S.pos; lia
 have b:=Bd nz ((M11.bn_sum (n:=8 * s) 8 r.1 (by rw[S.len]; show _≤256; exact hm) S.tops).mono (m:=13000) (by lia)) (kA S hs);exact⟨p,_,rfl,hp,S.total,b.1,b.2⟩
open TM Q6
abbrev vN (l:LJ):LG:=l.map fun (i:Nat)=>V.int (i:Int)
inductive dQ where
 | lf (k:Lf)
 | turned (i:Nat)
 | many (a b:Int) (i:Nat)
 | two (k:Bi) (i j:Nat)
def dQ.nd:dQ→Nd
 | .lf k=>.lf k
 | .turned _=>.un .turned
 | .many a b _=>.un (.many a b)
 | .two k _ _=>.bi k
def dQ.rest:dQ→LW
 | .lf k=>k.rest
 | .many a b _=>[.tuple [.int a,.int b]]
 | _=>[]
def dQ.nums:dQ→LJ
 | .lf _=>[]
 | .turned i=>[i]
 | .many _ _ i=>[i]
 | .two _ i j=>[i,j]
def dQ.dat (t:dQ):PyData:=.tuple (.str t.nd.word :: (t.rest++t.nums.map fun (i:Nat)=>PyData.int (i:Int)))
def dQ.fit:dQ→Prop
 | .lf .one=>False
 | .many a b _=>Br a b
 | .two .both _ _=>False
 | _=>True
structure dQ.ok (t:dQ)(k:Nat):Prop where
 num:∀ i ∈ t.nums,i < k
 fit:t.fit
def jV (ss:List dQ):Prop:=∀ (k:Nat) (t:dQ),ss[k]? = some t→t.ok k
theorem jV.snoc {ss:List dQ}{t:dQ}(h:jV ss)(ht:t.ok ss.length):jV (ss++[t]):=fun k u e=>by
 rcases dg e with e | ⟨e,rfl⟩
 ·exact h k u e
 ·rename_i ek
  rw[ek]; exact ht
def grow {α:Type}(g:List α→dQ→α)(ss:List dQ):List α:=ss.foldl (fun zs t=>zs++[g zs t]) []
theorem ER {α:Type}(g:List α→dQ→α)(ss:List dQ)(t:dQ):grow g (ss++[t])=grow g ss++[g (grow g ss) t]:=by
 unfold grow;rw[iL]
 rfl
theorem tT {α:Type}(g:List α→dQ→α):∀ (b:List dQ) (acc:List α),∃ l,b.foldl (fun zs t=>zs++[g zs t]) acc=acc++l∧l.length=b.length
 | [],acc=>⟨[],by simp,rfl⟩
 | t :: b,acc=>by
  obtain⟨l,e,h⟩:=tT g b (acc++[g acc t]);refine⟨g acc t :: l,?_,by rw[bq,bq,h]⟩;rw[List.foldl_cons,e,oN]
  rfl
theorem pF {α:Type}(g:List α→dQ→α)(ss:List dQ):(grow g ss).length=ss.length:=by
 obtain⟨l,e,h⟩:=tT g ss [];unfold grow;rw[e,List.nil_append,h]
theorem vK {α:Type}(g:List α→dQ→α)(ss:List dQ)(k:Nat):grow g (ss.take k)=(grow g ss).take k:=by
 obtain⟨l,e,h⟩:=tT g (ss.drop k) (grow g (ss.take k));have e2:grow g ss=grow g (ss.take k)++l:=by
  rw[←e];show ss.foldl _ []=(ss.drop k).foldl _ ((ss.take k).foldl _ []);rw[←iL,fj]
 rw[e2];have lk:(grow g (ss.take k)).length≤k:=by rw[pF,bB]; lia
 generalize grow g (ss.take k)=G at lk e2;have lG:(grow g ss).length=G.length+l.length:=by rw[e2,ai]
 rw[pF] at lG
 by_cases c:k≤ss.length
 ·have:G.length=k:=by rw[df] at h; lia
  rw[←this,List.take_left]
 ·have hl:l=[]:=by
   rw[df] at h;exact List.length_eq_zero_iff.mp (by lia)
  rw[hl,fe,dE lk]
theorem zz {α:Type}(g:List α→dQ→α)(ss:List dQ){t:dQ}(h:ss[k]? = some t):(grow g ss)[k]? = some (g ((grow g ss).take k) t):=by
 have e:ss.take (k+1)=ss.take k++[t]:=fq h;have e2:=vK g ss (k+1);rw[e,ER] at e2;have hk:=cq h;have e3:(grow g (ss.take k)).length=k:=by rw[pF,bB]; lia
 have e4:((grow g ss).take (k+1))[k]? = some (g ((grow g ss).take k) t):=by
  rw[←e2,aV (by lia),e3,il,vK]
  rfl
 rw[fX (by lia)] at e4;exact e4
def nN (zs:LJ):dQ→Nat
 | .lf k=>Qh k
 | .turned i=>zs.getD i 0
 | .many _ _ i=>zs.getD i 0+10
 | .two _ i j=>zs.getD i 0+zs.getD j 0+1
abbrev F0:Nat→Rat:=fun _=>0
def Oq (hs:LF)(M:LA):Lf→Nat→Rat
 | .hue c=>IO hs M .on (iZ hs M (.lf (.hue c)))
 | k=>iZ hs M (.lf k)
def iG (hs:LF)(M:LA)(fs:List (Nat→Rat)):dQ→Nat→Rat
 | .lf k=>Oq hs M k
 | .turned i=>IO hs M .turned (fs.getD i F0)
 | .many a b i=>IO hs M (.many a b) (fs.getD i F0)
 | .two k i j=>Os hs.length k (fs.getD i F0) (fs.getD j F0)
def Ao (ss:List dQ):LJ:=grow nN ss
def AN (hs:LF)(M:LA)(ss:List dQ):List (Nat→Rat):=grow (iG hs M) ss
def Re (ss:List dQ):Prop:=∀ z ∈ Ao ss,z≤1450
theorem zG {ok:Addr→Prop}:∀ {ks:LG} {ns:LJ},DAs K ok H ks (ns.map fun (i:Nat)=>PyData.int (i:Int))→ks=vN ns
 | _,[],h=>by cases h; rfl
 | _,n :: ns,h=>by
  cases h with
  | cons h1 h2 =>
   cases h1;rw[zG h2]
   rfl
theorem FD {ok:Addr→Prop}(t:dQ)(h:DA K ok H v t.dat):∃ p pre,v=.ref p∧dy K H p ((.str t.nd.word :: pre)++vN t.nums)∧DAs K ok H pre t.rest:=by
 unfold dQ.dat at h;cases h with
 | tup _ hs r =>
  cases r with
  | cons r1 r =>
   obtain⟨x,y,rfl,d1,d2⟩:=vS r;rw[zG d2] at hs;cases r1;exact⟨_,x,rfl,hs,d1⟩
theorem I9 (t:dQ):PyProof.Rows.KTD.datumAt t.nd.word jQ=some ((t.nums.length:Nat):Int):=by
 cases t with
 | lf k =>
  cases k
  ·exact Mv
  ·exact Mw
  ·exact IV
  ·exact Mu
  ·exact Mx
 | turned i=>exact Dr
 | many a b i=>exact IY
 | two k i j =>
  cases k
  ·exact IZ
  ·exact IU
  ·exact IX
  ·exact IW
theorem Ja {t:dQ}(d:DAs K any H pre t.rest)(g:t.fit):P0 K H (pre++vN t.nums) t.nd:=by
 cases t with
 | lf k =>
  intro c e;subst e;rw[xq d]
  rfl
 | turned i=>trivial
 | many a b i =>
  obtain⟨f,rfl,hf⟩:=Iq d;exact⟨g,f,_,rfl,hf⟩
 | two k i j=>cases k <;> trivial
inductive sE (K:LM)(vs:LG)(H:Hp)(Q:VK):Prop | mk (v:V) (t:dQ) (_:vs=[v]) (_:DA K any H v t.dat) (_:∀ q H',Same H H'→H' q=some (.tup (vN t.nums))→Q (.ref q) H'):sE K vs H Q
def mL (K:LM):Sp:=fun vs H Q _=>sE K vs H Q
theorem Ek (B:lE mg)(hG:mg "INNER_TERMS" = some (.ref aT))(TB:Og K aT jQ)(F:Fun K "inner_terms" "inner_terms" wS f fd):bK P w K mg base cI 1 f fd ["term"] (mL K):=by
 refine F.o Jl fun cdv A outer s H vs Q E hr h=>?_
 ·obtain⟨v,t,rfl,hT,q⟩:=h
  obtain⟨p,pre,rfl,hp',_⟩:=FD t hT;have hk:(vN t.nums).length=t.nums.length:=by rw[aa]
  have tw:=I9 t;generalize (vN t.nums)=ks at hk q hp';refine⟨_,ar (bt (jP MF (pv 0) (jh (aY mQ (bQ bT (by rfl) B.len bE (ad (pv 0) ah)) (aG (NR TB) (JD (v:=.ref aT) rfl hG rfl) (aG bM (pv 0) aj)))) rN)),?_⟩;refine⟨_,rfl,_,rfl,p,_,rfl,.inr hp',_,rfl,p,_,_,_,rfl,rfl,hp',jT _ _,_,_,rfl,rfl,tw,_,_,rfl,rfl,_,rfl,p,_,rfl,hp',?_,fun q' hq'=>?_⟩
  ·rintro⟨h1,_⟩
   have e:((((V.str (t.nd.word) :: pre)++ks).length:Nat):Int) - ((t.nums.length:Nat):Int)=(((V.str (t.nd.word) :: pre).length:Nat):Int):=by
    rw[ai,hk]; lia
   have h1':HT.sIx ((V.str (t.nd.word) :: pre)++ks).length 0 (some (((((V.str (t.nd.word) :: pre)++ks).length:Nat):Int) - ((t.nums.length:Nat):Int)))=0:=h1;rw[e,HT.sIx_nat,ai,bq] at h1'
   lia
  ·have e:((((V.str (t.nd.word) :: pre)++ks).length:Nat):Int) - ((t.nums.length:Nat):Int)=(((V.str (t.nd.word) :: pre).length:Nat):Int):=by
    rw[ai,hk]; lia
   have e2:jc ((V.str (t.nd.word) :: pre)++ks) (some (((((V.str (t.nd.word) :: pre)++ks).length:Nat):Int) - ((t.nums.length:Nat):Int))) none=ks:=by rw[e]; exact Bc _ _
   have:=q q' (L2.upd H q' (.tup ks)) (Same.upd hq') ao
   rw[←e2] at this;exact this
theorem Jj:bJ ["step"] ["step"] (aB sU):=by constructor<;>first|rfl|decide +kernel
theorem Hi (F:Fun K "named_by" "named_by" sU f fd)(DI:Dn K mg "inner_terms" wS ["term"] fI fdI)(GI:bK P w K mg base cI 1 fI fdI ["term"] (mL K)):bK P w K mg base cI 2 f fd ["step"] (mL K):=by
 refine F.o Jj fun cdv A outer s H vs Q E hr h=>?_
 ·obtain⟨v,t,rfl,hT,q⟩:=h
  exact⟨_,ar (bt (bw DI GI hr rfl (ad (pv 0) ah))),_,rfl,v,t,rfl,hT,q⟩
def v9 (K:LM)(H:Hp)(a:Addr)(ss:List dQ):Prop:=∃ vs,H a=some (.lst vs)∧DAs K any H vs (ss.map dQ.dat)
theorem v9.mono {ss:List dQ}(h:v9 K H a ss)(s:Same H H'):v9 K H' a ss:=by
 obtain⟨vs,e,d⟩:=h;exact⟨vs,s _ _ e,DAs.mono s.keep (fun _ _=>trivial) d⟩
inductive yh (K:LM)(vs:LG)(H:Hp)(Q:VK):Prop | mk (a:Addr) (ss:List dQ) (_:vs=[.ref a]) (_:v9 K H a ss) (_:jV ss) (_:∀ H',Same H H'→Q .non H'):yh K vs H Q
def FO (K:LM):Sp:=fun vs H Q _=>yh K vs H Q
abbrev Pi:LK:=["steps","place","step","number"]
theorem wF:bJ Pi ["steps"] (aB B3):=by constructor<;>first|rfl|decide +kernel
theorem Ir {ok:Addr→Prop}:∀ {ys:LG} {ds:LW},DAs K ok H ys ds→∀ (i:Nat) (x:V),ys[i]? = some x→∃ d,ds[i]? = some d∧DA K ok H x d
 | _,_,.nil,i,x,h=>by cases h
 | _,_,.cons a r,0,x,h=>by cases h; exact⟨_,rfl,a⟩
 | _,_,.cons a r,i+1,x,h=>Ir r i x (by simpa using h)
theorem Ba {ok:Addr→Prop}{ss:List dQ}(h:DAs K ok H vs (ss.map dQ.dat)){x:V}(hx:vs[i]? = some x):∃ t,ss[i]? = some t∧DA K ok H x t.dat:=by
 obtain⟨d,hd,dx⟩:=Ir h i x hx;obtain⟨t,et,rfl⟩:=bI hd;exact⟨t,et,dx⟩
theorem JQ (B:lE mg)(F:Fun K "look_at_steps" "look_at_steps" B3 f fd)(DN:Dn K mg "named_by" sU ["step"] fN fdN)(GN:bK P w K mg base cI 2 fN fdN ["step"] (mL K)):bK P w K mg base cI 3 f fd ["steps"] (FO K):=by
 refine F.o wF fun cdv A outer s H vs Q E hr h=>?_
 ·obtain⟨a,ss,rfl,⟨vs,ha,hd⟩,hok,q⟩:=h
  refine⟨_,ar (di PassesOwn.never rfl (rO rfl B.enum (ad (pv 0) ah)) (gp rfl (bY (iK 1 wF.nd) (bY (iK 2 wF.nd) eJ)))
   (ar (di PassesOwn.never rfl (GU (bw DN GN hr rfl (ad (pv 2) ah))) (iK 3 wF.nd)
    (ar (cK (PW.pt (Cc (bF Ch (pv 3) aj (bG _)) (Ay (bF O8 (pv 3) (pv 1) (bG _)))))
     Ec bX))))),?_⟩
  let π1:LP:=fun i σ H'=>∃ (o1 o2 o3:LS),σ=[some (.ref a),o1,o2,o3]∧Same H H'
  refine⟨_,rfl,a,rfl,⟨_,bh.of ha⟩,pH (K:=K) (xs:=vs) π1 ?_ ?_ ?_ ?_⟩
  ·exact⟨none,none,none,rfl,Same.refl _⟩
  ·rintro i σ H' _ ⟨o1,o2,o3,rfl,s'⟩
   exact bh.of (s' _ _ ha)
  ·rintro i x t σ H' hx ⟨o1,o2,o3,rfl,s'⟩ ht
   obtain⟨st,hst,dx⟩:=Ba hd hx;have so:=(hok i st hst).num;refine⟨t,_,rfl,dy.of ao,rfl,_,_,rfl,_,_,rfl,rfl,?_⟩;have s2:Same H (upd H' t (.tup [.int (i:Int),x])):=s'.trans (Same.upd ht);generalize upd H' t (.tup [.int (i:Int),x])=H2 at s2 ⊢;refine⟨_,rfl,x,st,rfl,dx.mono s2.keep fun _ _=>trivial,fun q' H3 s3 eq=>?_⟩;have s03:=s2.trans s3;refine⟨q',rfl,⟨_,dy.of eq⟩,KQ (K:=K) (xs:=vN st.nums) (fun j σ H''=>∃ o3:LS,σ=[some (.ref a),some (.int (i:Int)),some x,o3]∧H''=H3) ?_ ?_ ?_ ?_⟩
   ·exact⟨_,rfl,rfl⟩
   ·rintro j σ H'' _ ⟨o3,_,rfl⟩
    exact dy.of eq
   ·rintro j z σ H'' hz ⟨o3,rfl,rfl⟩
    obtain⟨y,hy,rfl⟩:=bI hz;have ly:=so y (ae hy);refine⟨_,rfl,_,_,rfl,rfl,_,rfl,cr (by lia) ⟨_,rfl,_,rfl,_,_,rfl,rfl,_,rfl,cr (by lia) ⟨_,rfl,rfl⟩⟩⟩
   ·rintro σ H'' ⟨o3,rfl,rfl⟩
    exact⟨_,_,_,rfl,s03⟩
  ·rintro σ H' ⟨o1,o2,o3,rfl,s'⟩
   exact q H' s'
end
section
variable {P:Program}{w:World}{K:LM}{mg:LO}{base:Heap}
open TM Q6
theorem Ks (vs:LG)(hlen:vs.length=xs.length)(hm:xs.length≤900)(hD:H1 D=none)(hxs:dy K H1 a xs)(hs:∀ (i:Nat) (x v:V) (H':Hp),xs[i]? = some x→vs[i]? = some v→Same H1 H'→te (σ++[some x]) H' fun u H3=>u=v∧Same H' H3)(hd:∀ H',Same H1 H'→H' D=some (.lst vs)→Q H')(mono:∀ σ H Q Q',(∀ v H1,Q v H1→Q' v H1)→te σ H Q→te σ H Q') :
  ∃ W:Nat→Nat→List V→Hp→Prop,(∃ m,W 0 m [] (upd H1 D (.lst []))) ∧
   ∀ i m ys H',W i m ys H'→H' D=some (.lst ys)∧(((Mj K a).stop i H'∧Q H') ∨ ((Mj K a).go i H'∧∀ z H2,(Mj K a).yld i H' z H2→te (σ++[some z]) H2 fun v H3=>H3 D=some (.lst ys)∧ys.length < sizeLine∧∃ m',m' < m∧W (i+1) m' (ys++[v]) (upd H3 D (.lst (ys++[v]))))):=by
 refine⟨fun i m ys H'=>m=xs.length - i∧i≤xs.length∧ys=vs.take i∧Same H1 H'∧H' D=some (.lst ys),⟨xs.length,by simp,aZ _,by rw[List.take_zero],Same.upd hD,ao⟩,?_⟩;rintro i m ys H4 ⟨rfl,hi,rfl,s4,eD⟩;refine⟨eD,?_⟩
 by_cases hlt:i < xs.length
 ·refine .inr ⟨⟨xs,xs[i],s4.seqT hxs,by simp[hlt]⟩,fun z H2 y=>?_⟩
  obtain⟨e,y⟩:=y;subst e;have hx:=y xs (s4.seqT hxs);have hv:vs[i]? = some vs[i]:=ax (by lia);refine mono _ _ _ _ ?_ (hs i z vs[i] _ hx hv s4);rintro u H5 ⟨rfl,s5⟩;refine⟨s5 _ _ eD,bo (by rw[bB]; lia),xs.length - (i+1),by lia,rfl,hlt,by rw[fq hv],fun b o e=>?_,ao⟩;rw[aO (aU e hD)];exact s5 _ _ (s4 _ _ e)
 ·refine .inl ⟨⟨xs,s4.seqT hxs,by lia⟩,hd H4 s4 ?_⟩
  rw[dE (by lia)] at eD;exact eD
def qw (H:Hp)(vals:LG)(n:Nat)(zs:LJ)(fs:List (Nat→Rat)):Prop:=∀ (i:Nat) (v:V),vals[i]? = some v→jq H v (n * n) (zs.getD i 0) (fs.getD i F0)
theorem qw.mono {n:Nat}(h:qw H vals n zs fs)(s:Same H H'):qw H' vals n zs fs:=fun i v e=>(h i v e).mono s
def GJ (vals:LG)(ns:LJ):LG:=ns.map fun i=>(vals[i]?).getD .non
theorem mP (h:i < vals.length):∃ v,vals[i]? = some v∧(vals[i]?).getD .non=v:=by
 obtain⟨v,hv⟩:=bW (l:=vals) h;exact⟨v,hv,by rw[hv]; rfl⟩
inductive qE (K:LM)(vs:LG)(H:Hp)(Q:VK):Prop | mk (wA R:Addr) (v:V) (t:dQ) (vals:LG) (hs:LF) (M:LA) (n:Nat) (zs:LJ) (fs:List (Nat→Rat)) (_:vs=[.ref wA,v,.ref R]) (_:WR H wA hs M) (_:Ff n hs M) (_:DA K any H v t.dat) (_:t.ok vals.length) (_:H R=some (.lst vals)) (_:qw H vals n zs fs) (_:(∀ i < vals.length,zs.getD i 0≤1500)) (_:vals.length≤900) (_:∀ z H',Same H H'→jq H' z (n * n) (nN zs t) (iG hs M fs t)→(t.nums=[]→E3 H H' z)→Q z H'):qE K vs H Q
def uI (K:LM):Sp:=fun vs H Q _=>qE K vs H Q
abbrev yW:LK:=["web","step","values","value"]
abbrev pW:LK:=["web","step","values"]
theorem uY:bJ yW pW (aB kI):=by constructor<;>first|rfl|decide +kernel
theorem ED:cw (aB kI) yW (cz (pV (dq (cT kI 0)) 2)) ["number"]:=by constructor<;>first|rfl|decide +kernel
theorem Ht (t:dQ):t.nums.length≤2:=by cases t <;> simp[dQ.nums]
theorem Kc {t:dQ}(h:∀ c,t≠.lf (.hue c)):t.nd.word≠("hue" : Str):=by
 cases t with
 | lf k =>
  cases k with
  | hue c=>exact absurd rfl (h c)
  | _=>show (_:Str)≠_; decide +kernel
 | turned i=>show ("turned" : Str)≠"hue"; decide +kernel
 | many a b i=>show ("many" : Str)≠"hue"; decide +kernel
 | two k i j =>
  show k.word≠_;cases k <;> decide +kernel
theorem AG (F:Fun K "value_of_step" "value_of_step" kI f fd)(DN:Dn K mg "named_by" sU ["step"] fN fdN)(GN:bK P w K mg base cI 2 fN fdN ["step"] (mL K))(DK:Dn K mg "value_by_kind" rG ["web","term","inner_values"] fK fdK)(GK:bK P w K mg base cI 6 fK fdK ["web","term","inner_values"] (yw K)):bK P w K mg base cI 7 f fd pW (uI K):=by
 refine F.o uY fun cdv A outer s H vs Q E hr h=>?_
 ·obtain⟨wA,R,v,t,vals,hs,M,n,zs,fs,rfl,hW,mo,hT,tk,eR,hV,hz,l9,q⟩:=h
  have r2:=hr.mono (j:=2) (by decide);obtain⟨p,pre,rfl,hp,dp⟩:=FD t hT;refine⟨_,dH (d7 3 uY.nd (bw DK GK hr rfl (ad (pv 0) (ad (pv 1) (ad (gE rfl ED rfl (GU (bw DN GN r2 rfl (ad (pv 1) ah))) fun _ _ _=>aG (ij (K:=K)) (pv 2) (pv 4)) ah)))))
   (ar (bt (pi (bF cE (aG bM (pv 1) aj) cV (bG _)) (bw DK GK hr rfl (ad (pv 0) (ad (dc (ad cV (ad (pv 1) ah))) (ad (cC (ad (pv 3) ah)) ah)))) (pv 3)))),?_⟩
  show let ω1:TS:=_;ju _ ω1 _ _ _;intro ω1
  let ψ1:LQ:=fun σ H3=>∃ y:V,σ=[some (.ref wA),some (.ref p),some (.ref R),some y]∧Same H H3∧((∃ c,t=.lf (.hue c)∧jq H3 y n 1 (iZ hs M (.lf (.hue c)))) ∨ ((∀ c,t≠.lf (.hue c))∧jq H3 y (n * n) (nN zs t) (iG hs M fs t)∧(t.nums=[]→E3 H H3 y)))
  refine⟨ψ1,?_,?_⟩
  ·refine⟨_,rfl,_,rfl,_,rfl,.ref p,t,rfl,hT,fun q' H1 s1 eq=>⟨q',rfl,⟨_,dy.of eq⟩,fun D hD=>?_⟩⟩
   refine Ks (GJ vals t.nums) (by unfold GJ; rw[aa,aa]) (by rw[aa]; exact aE (Ht t) (by decide)) hD (dy.of eq) ?_ ?_ ?_
   ·intro i x v' H' hx hv s'
    obtain⟨y,hy,rfl⟩:=bI hx;obtain⟨y',hy',rfl⟩:=bI hv;rw[hy] at hy';cases hy';have b2:=tk.num y (ae hy);obtain⟨z,hz1,hz2⟩:=mP b2;refine⟨_,rfl,_,rfl,R,_,(y:Int),z,rfl,rfl,bh.of (s' _ _ (s1 _ _ eR)),cX hz1,hz2.symm,Same.refl _⟩
   ·intro H2 s2 eD
    have s02:=s1.trans s2;have hW2:=hW.mono s02;have hp2:=s02.seqT hp;have dp2:=DAs.mono s02.keep (fun _ _=>trivial) dp;have nd2:=Ja dp2 tk.fit;have hV2:=hV.mono s02;refine⟨wA,D,p,t.nd,_,hs,M,n,_,rfl,hW2,mo,hp2,nd2,eD,?_⟩;cases t with
    | lf k =>
     refine⟨rfl,fun y H3 s3 hy nl=>⟨y,rfl,s02.trans s3,?_⟩⟩;have nl:E3 H H3 y:=let ⟨p',l',b',e1,e2,e3⟩:=nl; ⟨p',l',b',e1,e2,s02.free e3⟩;cases k with
     | one=>exact absurd tk.fit (fun z=>z)
     | hue c=>exact .inl ⟨c,rfl,hy⟩
     | same=>exact .inr ⟨(fun c e=>by cases e),hy,fun _=>nl⟩
     | tie=>exact .inr ⟨(fun c e=>by cases e),hy,fun _=>nl⟩
     | all=>exact .inr ⟨(fun c e=>by cases e),hy,fun _=>nl⟩
    | turned i =>
     have b2:=tk.num i (by simp[dQ.nums]);obtain⟨x,hx1,hx2⟩:=mP b2;exact⟨x,zs.getD i 0,fs.getD i F0,true,by unfold GJ; simp only[dQ.nums,aS,eQ,hx2],hV2 i x hx1,hz i b2,fun y H3 s3 hy _=>⟨y,rfl,s02.trans s3,.inr ⟨(fun c e=>by cases e),hy,(fun e=>by cases e)⟩⟩⟩
    | many a b i =>
     have b2:=tk.num i (by simp[dQ.nums]);obtain⟨x,hx1,hx2⟩:=mP b2;exact⟨x,zs.getD i 0,fs.getD i F0,true,by unfold GJ; simp only[dQ.nums,aS,eQ,hx2],hV2 i x hx1,hz i b2,fun y H3 s3 hy _=>⟨y,rfl,s02.trans s3,.inr ⟨(fun c e=>by cases e),hy,(fun e=>by cases e)⟩⟩⟩
    | two k i j =>
     have b2:=tk.num i (by simp[dQ.nums]);have b3:=tk.num j (by simp[dQ.nums]);obtain⟨x,hx1,hx2⟩:=mP b2;obtain⟨x',hx3,hx4⟩:=mP b3;have ob:Od k true:=by
      cases k with
      | both=>exact absurd tk.fit (fun z=>z)
      | thn=>rfl
      | meet=>rfl
      | plus=>trivial
     refine⟨x,x',zs.getD i 0,zs.getD j 0,fs.getD i F0,fs.getD j F0,true,by unfold GJ; simp only[dQ.nums,aS,eQ,hx2,hx4],ob,hV2 i x hx1,hV2 j x' hx3,hz i b2,hz j b3,fun y H3 s3 hy=>⟨y,rfl,s02.trans s3,.inr ⟨(fun c e=>by cases e),?_,(fun e=>by cases e)⟩⟩⟩;show jq H3 y (n * n) _ (Os hs.length k _ _);rw[mo.hl];exact hy
   ·rintro σ H' Q1 Q2 hq ⟨v,e,v',e',a1,a2,a3,a4,a5,a6,a7,a8,g⟩
    exact⟨v,e,v',e',a1,a2,a3,a4,a5,a6,a7,a8,hq _ _ g⟩
  ·rintro σ H3 ⟨y,rfl,s3,hy⟩
   refine⟨_,rfl,p,_,_,_,rfl,rfl,s3.seqT hp,jT _ _,rfl,_,rfl,?_⟩;rcases hy with ⟨c,rfl,hy⟩ | ⟨nh,hy,nl⟩
   ·refine dO rfl ?_
    refine⟨_,rfl,_,rfl,(by show 2≤sizeLine; decide),fun p2 hp2=>?_⟩;have s4:Same H3 (L2.upd H3 p2 (.tup [.str "on",.ref p])):=Same.upd hp2;have e4:L2.upd H3 p2 (.tup [.str "on",.ref p]) p2=some (.tup [.str "on",.ref p]):=ao;generalize L2.upd H3 p2 (.tup [.str "on",.ref p])=H4 at s4 e4 ⊢;refine⟨_,rfl,(by show 1≤sizeLine; decide),fun l2 hl2=>?_⟩;have s5:Same H4 (L2.upd H4 l2 (.lst [y])):=Same.upd hl2;have e5:L2.upd H4 l2 (.lst [y]) l2=some (.lst [y]):=ao;generalize L2.upd H4 l2 (.lst [y])=H5 at s5 e5 ⊢;have s05:=(s3.trans s4).trans s5;exact⟨wA,l2,p2,.un .on,_,hs,M,n,_,rfl,hW.mono s05,mo,dy.of (s5 _ _ e4),trivial,e5,y,1,iZ hs M (.lf (.hue c)),true,rfl,hy.mono (s4.trans s5),by decide,fun y' H6 s6 hy' nl=>q y' H6 (s05.trans s6) hy' fun _=>let ⟨p',l',b',e1,e2,e3⟩:=nl rfl; ⟨p',l',b',e1,e2,s05.free e3⟩⟩
   ·exact cr (qY (Kc nh)) ⟨_,rfl,q y H3 s3 hy nl⟩
end
section
variable {P:Program}{w:World}{K:LM}{mg:LO}{base:Heap}
open TM Q6
structure II (K:LM)(H:Hp)(wA a:Addr)(ss:List dQ)(hs:LF)(M:LA)(n:Nat):Prop where
 wr:WR H wA hs M
 mo:Ff n hs M
 st:v9 K H a ss
 ok:jV ss
 few:Re ss
 len:ss.length≤900
theorem II.mono {ss:List dQ}{n:Nat}(h:II K H wA a ss hs M n)(s:Same H H'):II K H' wA a ss hs M n:=⟨h.wr.mono s,h.mo,h.st.mono s,h.ok,h.few,h.len⟩
theorem h8 {α:Type}{l:List α}{x d:α}(h:l[i]? = some x):l.getD i d=x:=by rw[aR,h]; rfl
theorem iC {α:Type}(l:List α)(d:α)(h:i < k):(l.take k).getD i d=l.getD i d:=by
 rw[aR,aR,fX h]
theorem Dt (zs:LJ){t:dQ}(h:∀ i ∈ t.nums,i < k):nN (zs.take k) t=nN zs t:=by
 cases t with
 | lf _=>rfl
 | turned i=>exact iC zs 0 (h i (by simp[dQ.nums]))
 | many a b i=>show _+10=_+10; rw[iC zs 0 (h i (by simp[dQ.nums]))]
 | two b i j=>show _+_+1=_+_+1; rw[iC zs 0 (h i (by simp[dQ.nums])),iC zs 0 (h j (by simp[dQ.nums]))]
theorem Ey (hs:LF)(M:LA)(fs:List (Nat→Rat)){t:dQ}(h:∀ i ∈ t.nums,i < k):iG hs M (fs.take k) t=iG hs M fs t:=by
 cases t with
 | lf _=>rfl
 | turned i=>simp only[iG]; rw[iC fs F0 (h i (by simp[dQ.nums]))]
 | many a b i=>simp only[iG]; rw[iC fs F0 (h i (by simp[dQ.nums]))]
 | two b i j=>simp only[iG]; rw[iC fs F0 (h i (by simp[dQ.nums])),iC fs F0 (h j (by simp[dQ.nums]))]
theorem wn {ss:List dQ}(h:jV ss){t:dQ}(e:ss[k]? = some t):(Ao ss)[k]? = some (nN (Ao ss) t):=by
 have:=zz nN ss e
 rw[Dt _ (h k t e).num] at this;exact this
theorem AM {ss:List dQ}(h:jV ss)(hs:LF)(M:LA){t:dQ}(e:ss[k]? = some t):(AN hs M ss)[k]? = some (iG hs M (AN hs M ss) t):=by
 have:=zz (iG hs M) ss e
 rw[Ey hs M _ (h k t e).num] at this;exact this
theorem AY {ss:List dQ}(h:Re ss)(i:Nat):(Ao ss).getD i 0≤1450:=by
 rw[aR];cases e:(Ao ss)[i]? with
 | none=>exact aZ _
 | some z=>exact h z (ae e)
inductive yb (K:LM)(vs:LG)(H:Hp)(Q:VK):Prop | mk (wA a:Addr) (ss:List dQ) (hs:LF) (M:LA) (n:Nat) (_:vs=[.ref wA,.ref a]) (_:II K H wA a ss hs M n) (_:∀ R vals H',Same H H'→H' R=some (.lst vals)→vals.length=ss.length→qw H' vals n (Ao ss) (AN hs M ss)→Q (.ref R) H'):yb K vs H Q
def FI (K:LM):Sp:=fun vs H Q _=>yb K vs H Q
abbrev Pf:LK:=["web","steps","values","step"]
theorem As:bJ Pf ["web","steps"] (aB BZ):=by constructor<;>first|rfl|decide +kernel
theorem jq.grow {R:Addr}{z:V}{n:Nat}{f:Nat→Rat}(eR:H R=some (.lst vals))(hv:jq H v n s f)(nl:∀ (p l:Addr) (b:V),v=.ref p→H p=some (.tup [.ref l,b])→l≠R):jq (L2.upd H R (.lst (vals++[z]))) v n s f:=by
 obtain⟨r,⟨p,l,e,g1,g2⟩,S⟩:=hv;exact⟨r,⟨p,l,e,by rw[aO fun y=>by rw[y,eR] at g1; cases g1]; exact g1,by rw[aO (nl p l _ e g1)]; exact g2⟩,S⟩
theorem JI (F:Fun K "values_of_steps" "values_of_steps" BZ f fd)(DL:Dn K mg "look_at_steps" B3 ["steps"] fL fdL)(GL:bK P w K mg base cI 3 fL fdL ["steps"] (FO K))(DV:Dn K mg "value_of_step" kI pW fV fdV)(GV:bK P w K mg base cI 7 fV fdV pW (uI K)):bK P w K mg base cI 8 f fd ["web","steps"] (FI K):=by
 refine F.o As fun cdv A outer s H vs Q E hr h=>?_
 ·obtain⟨wA,a,ss,hs,M,n,rfl,hW,q⟩:=h
  have r3:=hr.mono (j:=3) (by decide);refine⟨_,am (fg (bw DL GL r3 rfl (ad (pv 1) ah)))
   (am (d7 2 As.nd (cC ah))
   (am (di PassesOwn.never rfl (cU (pv 1)) (iK 3 As.nd)
    (ar (fg (i0 bp bO bN dk (pv 2) (ad (bw DV GV hr rfl (ad (pv 0) (ad (pv 3) (ad (pv 2) ah)))) ah)))))
   (ar (bt (pv 2))))),?_⟩
  show let ω1:TS:=_;let ω2:TS:=_;let ω3:TS:=bL (ig _ _ ω2) ω1;let ω4:TS:=bL _ ω3;bL _ ω4 _ _ _;intro ω1 ω2 ω3 ω4;obtain⟨vs,ha,hd⟩:=hW.st;have lv:=tX hd;rw[aa] at lv;have l9:=hW.len;refine⟨_,rfl,a,ss,rfl,hW.st,hW.ok,fun H1 s1=>?_⟩;refine⟨aZ _,fun R hR=>?_⟩;have hR0:H R=none:=s1.free hR;have s2:Same H (L2.upd H1 R (.lst [])):=s1.trans (Same.upd hR);have e2:L2.upd H1 R (.lst []) R=some (.lst []):=ao;generalize L2.upd H1 R (.lst [])=H2 at s2 e2 ⊢
  let π1:LP:=fun i σ H'=>∃ (o3:LS) (vals:LG),σ=[some (.ref wA),some (.ref a),some (.ref R),o3]∧Same H H'∧H' R=some (.lst vals)∧vals.length=i∧qw H' vals n (Ao ss) (AN hs M ss)
  refine⟨_,rfl,a,rfl,⟨_,bh.of (s2 _ _ ha)⟩,gZ (xs:=vs) π1 ⟨none,[],rfl,s2,e2,rfl,fun i v e=>by simp at e⟩ (fun i σ H' _ ⟨_,_,_,s',_⟩=>bh.of (s' _ _ ha)) ?_ ?_⟩
  ·rintro i x σ H3 hx ⟨o3,vals,rfl,s3,e3,l3,hV⟩
   obtain⟨st,hst,dx⟩:=Ba hd hx;have li:=cq hst;have tk:st.ok vals.length:=by rw[l3]; exact hW.ok i st hst
   refine⟨_,rfl,.inl ⟨rfl,_,bh.of e3⟩,_,rfl,_,rfl,_,rfl,wA,R,x,st,vals,hs,M,n,Ao ss,AN hs M ss,rfl,hW.wr.mono s3,hW.mo,dx.mono s3.keep fun _ _=>trivial,tk,e3,hV,fun j _=>aE (AY hW.few j) (by decide),by lia,fun z H4 s4 hz nl=>?_⟩;have e4:=s4 _ _ e3;have hV4:=hV.mono s4;refine⟨R,vals,z,rfl,rfl,e4,bo (by lia),?_⟩;have key:∀ (v:V) (s:Nat) (f:Nat→Rat),jq H4 v (n * n) s f→(vals=[]→E3 H3 H4 v)→∀ (p l:Addr) (b:V),v=.ref p→H4 p=some (.tup [.ref l,b])→l≠R:=fun v s f hv nl p l b ev ep el=>by
    obtain⟨r,⟨p',l',ev',g1,g2⟩,S⟩:=hv;rw[ev] at ev';cases ev';rw[ep] at g1;cases g1;rw[el,e4] at g2;have g3:vals=r.1.map V.int:=by injection g2 with g2; injection g2
    cases hc:vals with
    | nil =>
     obtain⟨p2,l2,b2,y1,y2,y3⟩:=nl hc;rw[ev] at y1;cases y1;rw[ep] at y2;cases y2;rw[el,e3] at y3;cases y3
    | cons y ys =>
     have h0:vals[0]? = some y:=by rw[hc]; rfl
     obtain⟨r',⟨p2,_,y1,_⟩,_⟩:=hV4 0 y h0;rw[hc] at g3;cases hr1:r.1 with
     | nil=>rw[hr1] at g3; cases g3
     | cons w ws =>
      rw[hr1,aS] at g3
      have:=(List.cons.inj g3).1
      rw[y1] at this;cases this
   refine⟨_,vals++[z],rfl,fun b o e=>by rw[aO (aU e hR0)]; exact s4 _ _ (s3 _ _ e),ao,by rw[ai,l3]; rfl,fun j v hj=>?_⟩;rcases dg hj with hj | ⟨ej,rfl⟩
   ·exact jq.grow e4 (hV4 j v hj) (key v _ _ (hV4 j v hj) fun hc=>by rw[hc] at hj; cases hj)
   ·rw[ej,l3,h8 (wn hW.ok hst),h8 (AM hW.ok hs M hst)]
    refine jq.grow e4 hz (key _ _ _ hz fun hc=>nl ?_);rw[hc] at tk;cases hn:st.nums with
    | nil=>rfl
    | cons y ys=>exact absurd (tk.num y (by rw[hn]; exact aK)) (rZ _)
  ·rintro σ H3 ⟨o3,vals,rfl,s3,e3,l3,hV⟩
   exact⟨_,rfl,q R vals H3 s3 e3 (by rw[l3,lv]) hV⟩
end
section
variable {P:Program}{w:World}{K:LM}{mg:LO}{base:Heap}
open TM Q6
theorem Jh:bJ ["web","steps"] ["web","steps"] (aB wI):=by constructor<;>first|rfl|decide +kernel
theorem ID (h:0 < vals.length):∃ v:V,vals[vals.length - 1]? = some v∧lF vals (-1)=some v:=by
 obtain⟨v,hv⟩:=bW (l:=vals) (i:=vals.length - 1) (by lia);refine⟨v,hv,?_⟩;unfold lF AV;rw[if_neg (by decide),if_pos (by lia)]
 have:((-1:Int)+(vals.length:Int)).toNat=vals.length - 1:=by lia
 simp only[Option.bind_some,this,hv]
inductive uJ (K:LM)(vs:LG)(H:Hp)(Q:VK):Prop | mk (wA a:Addr) (ss:List dQ) (hs:LF) (M:LA) (n:Nat) (_:vs=[.ref wA,.ref a]) (_:II K H wA a ss hs M n) (_:0 < ss.length) (_:∀ u H',Same H H'→iI H' u (sm ((AN hs M ss).getD (ss.length - 1) F0) (n * n))→Q u H'):uJ K vs H Q
def rB (K:LM):Sp:=fun vs H Q _=>uJ K vs H Q
theorem Hb (F:Fun K "steps_total" "steps_total" wI f fd)(DV:Dn K mg "values_of_steps" BZ ["web","steps"] fV fdV)(GV:bK P w K mg base cI 8 fV fdV ["web","steps"] (FI K))(DT:Dn K mg "total_of_value" Jo ["value"] fT fdT)(GT:bK P w K mg base cI 3 fT fdT ["value"] Lm):bK P w K mg base cI 9 f fd ["web","steps"] (rB K):=by
 refine F.o Jh fun cdv A outer s H vs Q E hr h=>?_
 ·obtain⟨wA,a,ss,hs,M,n,rfl,hW,h0,q⟩:=h
  have r3:=hr.mono (j:=3) (by decide);have few:=hW.mo.few;have nn:n * n≤256:=bP few few;refine⟨_,ar (bt (bw DT GT r3 rfl (ad (aG aJ (bw DV GV hr rfl (ad (pv 0) (ad (pv 1) ah))) (yN sr aj)) ah))),?_⟩;refine⟨_,rfl,_,rfl,wA,a,ss,hs,M,n,rfl,hW,fun R vals H1 s1 eR lR hV=>?_⟩;obtain⟨v,hv,at1⟩:=ID (vals:=vals) (by lia);obtain⟨r,hz,S⟩:=hV _ v hv;rw[lR] at S;have sz:=aE (AY hW.few (ss.length - 1)) (by decide:1450≤1500);exact⟨_,rfl,R,_,_,v,rfl,rfl,bh.of eR,at1,v,r,rfl,hz,by have:=S.pos; lia,(kA S sz).mono (m:=1000) (by decide),fun u H' s' fu=>q u H' (s1.trans s') (Ib S sz nn fu)⟩
end
section
variable {P:Program}{w:World}{K:LM}{mg:LO}{base:Heap}
def P8 (_ j:Int):Prop:=j≠0∧j.natAbs < 2 ^ 9000
theorem yR:pY X (binaryOp .FloorDiv) (L2.rI P8 fun i j=>.int (i.fdiv j)) :=
 LT fun _ _ _ _ _ _ _ hc q=>floordiv_int hc.1 q (.inl (PyProof.noPylong_of_log2 ((Fe (by have:=hc.1; lia)).mpr hc.2)))
abbrev QH:LK:=["_law_top","_law_bottom","_law_one","_law_other","_law_rest"]
abbrev zV:LK:=["_law_top","_law_bottom"]
theorem u9:bJ QH zV (aB DH):=by constructor<;>first|rfl|decide +kernel
inductive BI (vs:LG)(H:Hp)(Q:VK):Prop | mk (t b:Int) (_:vs=[.int t,.int b]) (_:0 < b) (_:M11.Bn 8000 b) (_:∀ p H',Same H H'→H p=none→H' p=some (ou (M11.low t b))→Q (.ref p) H'):BI vs H Q
def BJ:Sp:=fun vs H Q _=>BI vs H Q
theorem M7 (B:lE mg)(F:Fun K "_law_lowest" "_law_lowest" DH f fd):bK P w K mg base cI 1 f fd zV BJ:=by
 refine F.o u9 fun cdv A outer s H vs Q E hr h=>?_
 ·obtain⟨t,b,rfl,hb,hbn,k⟩:=h
  refine⟨_,am (d7 2 u9.nd (bQ zP (by rfl) B.abs boot_abs (ad (pv 0) ah)))
   (am (d7 3 u9.nd (pv 1))
   (am (sY PassesOwn.never (bF qN (pv 2) aj (bG _))
    (am (d7 4 u9.nd (aY Cg (pv 3) (pv 2)))
    (am (d7 3 u9.nd (pv 2))
    (ar (d7 2 u9.nd (pv 4))))))
   (ar (bt (dc (ad (aY yR (pv 0) (pv 3)) (ad (aY yR (pv 1) (pv 3)) ah))))))),?_⟩
  show let ω1:TS:=_;let ω2:TS:=bL _ ω1;let ω3:TS:=bL _ ω2;bL _ ω3 _ _ _;intro ω1 ω2 ω3;refine⟨_,rfl,t,rfl,_,rfl,?_⟩;refine xQ (fun σ H'=>∃ (x y:Int) (r:LS),σ=[some (.int t),some (.int b),some (.int x),some (.int y),r]∧H'=H∧0≤x∧0 < y∧Int.gcd x y=Int.gcd t b)
   (fun σ _=>match σ with | [_,_,some (.int x),_,_]=>x.natAbs | _=>0) ⟨_,b,none,rfl,rfl,?_,hb,?_⟩ ?_ ?_
  ·split <;> lia
  ·split
   ·rw[Int.neg_gcd]
   ·rfl
  ·rintro σ H' ⟨x,y,r,rfl,rfl,hx,hy,hg⟩
   refine⟨_,rfl,rfl,_,rfl,?_⟩
   by_cases h0:x=0
   ·subst h0
    refine qS rfl ?_;rw[Int.gcd_zero_left] at hg;have eG:M11.sgn t b=y:=by
     unfold M11.sgn;rw[if_neg (by lia)];show ((Int.gcd t b:Nat):Int)=y;rw[←hg]
     lia
    have hle:=M11.sgn_le (t:=t) (rk hb);rw[eG] at hle;have hly:y.natAbs < 2 ^ 9000:=bU hle (hbn.mono (m:=9000) (by decide));refine⟨_,rfl,_,rfl,_,_,rfl,rfl,⟨rk hy,hly⟩,_,rfl,_,rfl,_,_,rfl,rfl,⟨rk hy,hly⟩,(by show 2≤sizeLine; decide),fun p hp=>k p _ (Same.upd hp) hp ?_⟩;rw[ao];unfold M11.low ou;rw[eG]
   ·refine qT (fun z=>h0 (V.int.inj z)) ?_
    refine⟨_,rfl,_,rfl,y,x,rfl,rfl,h0,_,rfl,_,rfl,?_⟩;refine⟨⟨y.fmod x,x,_,rfl,rfl,rm _ (by lia),by lia,?_⟩,M11.fmod_small y x h0⟩;rw[Int.gcd_comm,M11.gcd_step,Int.gcd_comm];exact hg
  ·rintro σ H' Q1 Q2 hq ⟨v,e,sc,c,ec,q⟩
   exact⟨v,e,sc,c,ec,hq _ _ q⟩
theorem Qk (x y:V):lF [x,y] 0=some x:=rfl
theorem at1 (x y:V):lF [x,y] 1=some y:=rfl
structure Bq (x y:Int):Prop where
 bx:M11.Bn 400000 x
 by':M11.Bn 499 y
 pos:0 < y
theorem Bq.mx {x:Int}(f:Bq x y)(g:Bq x' y'):De x x':=⟨400000,by decide,f.bx,g.bx⟩
theorem Bq.mxy {x:Int}(f:Bq x y)(g:Bq x' y'):De x y':=⟨400000,by decide,f.bx,g.by'.mono (by decide)⟩
theorem Bq.my {x:Int}(f:Bq x y)(g:Bq x' y'):De y y':=⟨499,by decide,f.by',g.by'⟩
theorem Bq.dp {x:Int}(f:Bq x y)(g:Bq x' y'):0 < y * y':=gw f.pos g.pos
inductive Lr (K:LM)(g:Int→Int→Int→Int→Int × Int)(vs:LG)(H:Hp)(Q:VK):Prop | mk (p q:Addr) (x y x' y':Int) (_:vs=[.ref p,.ref q]) (_:dy K H p [.int x,.int y]) (_:dy K H q [.int x',.int y']) (_:Bq x y) (_:Bq x' y') (_:∀ r H',Same H H'→H r=none→H' r=some (ou (g x y x' y'))→Q (.ref r) H'):Lr K g vs H Q
def Oo (K:LM)(g:Int→Int→Int→Int→Int × Int):Sp:=fun vs H Q _=>Lr K g vs H Q
def HX (x y x' y':Int):Int × Int:=M11.low (x * y'+x' * y) (y * y')
def PB (x y x' y':Int):Int × Int:=M11.low (x * x') (y * y')
theorem MJ:bJ ["_law_one","_law_other"] ["_law_one","_law_other"] (aB vf):=by constructor<;>first|rfl|decide +kernel
theorem JL (F:Fun K "_law_plus" "_law_plus" vf f fd)(DF:Dn K mg "_law_lowest" DH zV fF fdF)(GF:bK P w K mg base cI 1 fF fdF zV BJ):bK P w K mg base cI 2 f fd ["_law_one","_law_other"] (Oo K HX):=by
 refine F.o MJ fun cdv A outer s H vs Q E hr h=>?_
 ·obtain⟨p,q,x,y,x',y',rfl,hp,hq,f1,f2,k⟩:=h
  refine⟨_,ar (bt (bw DF GF hr rfl (ad (aY dZ (aY gO (aG bM (pv 0) aj) (aG bM (pv 1) aj)) (aY gO (aG bM (pv 1) aj) (aG bM (pv 0) aj)))
   (ad (aY gO (aG bM (pv 0) aj) (aG bM (pv 1) aj)) ah)))),?_⟩
  refine⟨_,rfl,p,_,_,_,rfl,rfl,hp,Qk _ _,_,rfl,q,_,_,_,rfl,rfl,hq,at1 _ _,x,y',rfl,rfl,f1.mxy f2,?_⟩;refine⟨_,rfl,q,_,_,_,rfl,rfl,hq,Qk _ _,_,rfl,p,_,_,_,rfl,rfl,hp,at1 _ _,x',y,rfl,rfl,f2.mxy f1,?_⟩;refine⟨_,_,rfl,rfl,?_⟩;refine⟨_,rfl,p,_,_,_,rfl,rfl,hp,at1 _ _,_,rfl,q,_,_,_,rfl,rfl,hq,at1 _ _,y,y',rfl,rfl,f1.my f2,?_⟩;exact⟨_,_,rfl,f1.dp f2,(f1.by'.mul f2.by').mono (by decide),k⟩
theorem Ji:bJ ["_law_one","_law_other"] ["_law_one","_law_other"] (aB wJ):=by constructor<;>first|rfl|decide +kernel
theorem Hc (F:Fun K "_law_times" "_law_times" wJ f fd)(DF:Dn K mg "_law_lowest" DH zV fF fdF)(GF:bK P w K mg base cI 1 fF fdF zV BJ):bK P w K mg base cI 2 f fd ["_law_one","_law_other"] (Oo K PB):=by
 refine F.o Ji fun cdv A outer s H vs Q E hr h=>?_
 ·obtain⟨p,q,x,y,x',y',rfl,hp,hq,f1,f2,k⟩:=h
  refine⟨_,ar (bt (bw DF GF hr rfl (ad (aY gO (aG bM (pv 0) aj) (aG bM (pv 1) aj))
   (ad (aY gO (aG bM (pv 0) aj) (aG bM (pv 1) aj)) ah)))),?_⟩
  refine⟨_,rfl,p,_,_,_,rfl,rfl,hp,Qk _ _,_,rfl,q,_,_,_,rfl,rfl,hq,Qk _ _,x,x',rfl,rfl,f1.mx f2,?_⟩;refine⟨_,rfl,p,_,_,_,rfl,rfl,hp,at1 _ _,_,rfl,q,_,_,_,rfl,rfl,hq,at1 _ _,y,y',rfl,rfl,f1.my f2,?_⟩;exact⟨_,_,rfl,f1.dp f2,(f1.by'.mul f2.by').mono (by decide),k⟩
open Q6 TM
theorem Dc {X B:Int}{d:Nat}(h:IsFr q pr)(hB:0 < B)(hq:(X:Rat)=q * (B:Rat))(hX:M11.Bn c X)(hB':M11.Bn d B):M11.Bn c pr.1∧M11.Bn d pr.2:=by
 have nB:B≠0:=by lia
 rw[h.uniq (pE nB hq)];exact Bd nB hX hB'
theorem FB {f:Nat→Rat}(S:Va m s f ts b)(hi:i≤m):(((ts.take i).sum:Int):Rat)=sm f i * (b:Rat):=by
 rw[ox,oX (ts.take i) (fun k=>f k * (b:Rat)) fun k x e=>?_,bB,S.len,d6 hi];have hk:k < i:=by
  have:=cq e
  rw[bB] at this
  lia
 rw[fX hk] at e;exact S.val k x e
theorem pG {f:Nat→Rat}(S:Mh m s f)(hs:s≤1500)(hm:m≤256)(hi:i≤m)(hp:H p=some (ou pr))(h:IsFr (sm f i) pr):iI H (.ref p) (sm f i):=by
 obtain⟨r,S⟩:=S;have b:=Dc (c:=13000) h S.pos (FB S hi) ((M11.bn_sum (n:=8 * s) 8 (r.1.take i) (by rw[bB]; show _≤256; lia) fun x hx=>S.tops x (gc hx)).mono (by lia)) (kA S hs);exact⟨p,pr,rfl,hp,h,b.1,b.2⟩
theorem iI.frn (h:iI H v q):∃ p pr,v=.ref p∧H p=some (ou pr)∧IsFr q pr∧Bq pr.1 pr.2:=by
 obtain⟨p,pr,e,h1,h2,h3,h4⟩:=h;exact⟨p,pr,e,h1,h2,h3.mono (by decide),h4,h2.pos⟩
theorem Mr {n:Nat}{f:Nat→Rat}(S:Va (n * n) s f ts b)(hi:i < n):Va n s (fun j=>f (i * n+j)) ((ts.drop (n * i)).take n) b :=
 ⟨rW hi S.len,S.pos,S.bot,fun x hx=>S.tops x (mw (gc hx)),fun k x e=>S.val _ x (xt e)⟩
theorem Ms {n:Nat}{f:Nat→Rat}(S:Va (n * n) s f ts b)(hj:j < n):Va n s (fun i=>f (i * n+j)) (IP ts n j) b :=
 ⟨rX ts n j,S.pos,S.bot,fun x hx=>by
  obtain⟨k,e⟩:=iO hx
  exact S.tops x (ae (rY S.len hj e)),fun k x e=>S.val _ x (rY S.len hj e)⟩
theorem kh {f:Nat→Rat}(S:Mh m s f)(hs:s≤1500)(hi:i < m)(hp:H p=some (ou pr))(h:IsFr (f i) pr):iI H (.ref p) (f i):=by
 obtain⟨r,S⟩:=S;obtain⟨x,ex⟩:=bW (l:=r.1) (i:=i) (by rw[S.len]; exact hi);have b:=Dc h S.pos (S.val i x ex) ((S.tops x (ae ex)).mono (m:=13000) (by lia)) (kA S hs);exact⟨p,pr,rfl,hp,h,b.1,b.2⟩
def uc (H:Hp)(v:V)(n:Nat)(f:Nat→Rat):Prop:=∃ (a:Addr) (X:LB),v=.ref a∧eI H a X∧X.length=n∧∀ (i:Nat) (x:LG),X[i]? = some x→x.length=n∧∀ (j:Nat) (v:V),x[j]? = some v→iI H v (f (i * n+j))
theorem uc.mono {n:Nat}{f:Nat→Rat}(h:uc H v n f)(s:Same H H'):uc H' v n f:=by
 obtain⟨a,X,e,g,l,h⟩:=h;exact⟨a,X,e,g.mono s,l,fun i x ex=>⟨(h i x ex).1,fun j v ev=>((h i x ex).2 j v ev).mono s⟩⟩
theorem uc.cell {n:Nat}{f:Nat→Rat}(h:uc H v n f)(hi:i < n)(hj:j < n):∃ (a r:Addr) (rs:LI) (x:LG) (u:V),v=.ref a∧H a=some (.lst (rs.map V.ref))∧lF (rs.map V.ref) (i:Int)=some (.ref r)∧H r=some (.lst x)∧lF x (j:Int)=some u∧iI H u (f (i * n+j)):=by
 obtain⟨a,X,rfl,⟨rs,ha,gv⟩,lX,h⟩:=h;obtain⟨x,ex⟩:=bW (l:=X) (i:=i) (by lia);obtain⟨r,er⟩:=bW (l:=rs) (i:=i) (by rw[gv.len]; lia);obtain⟨l1,l2⟩:=h i x ex;obtain⟨u,eu⟩:=bW (l:=x) (i:=j) (by lia);exact⟨a,r,rs,x,u,rfl,ha,fJ er,gv.row i r x er ex,cX eu,l2 j u eu⟩
theorem Hu {n:Nat}(hj:j < n):(i * n+j) / n=i∧(i * n+j) % n=j:=by
 have n0:0 < n:=by lia
 have e1:(i * n+j) / n=i:=by rw[gs,Nat.mul_add_div n0,E4 hj,Nat.add_zero]
 refine⟨e1,?_⟩
 have:=mI (i * n+j) n
 rw[e1,gs] at this
 lia
def j4 (q:Rat):PyData:=.tuple [.int q.num,.int (q.den:Int)]
theorem zq (q:Rat):IsFr q (q.num,(q.den:Int)):=by
 refine⟨m6.mpr q.den_pos,?_,?_⟩
 ·show Int.gcd q.num (q.den:Int)=1
  exact q.reduced
 ·have h:=Rat.num_divInt_den q
  rw[Rat.divInt_eq_div] at h;have nz:((q.den:Int):Rat)≠0:=mq (m6.mpr q.den_pos);show (q.num:Rat)=q * ((q.den:Int):Rat)
  grind
theorem Ip {ok:Addr→Prop}:∀ {ys:LG} {ds:LW},ys.length=ds.length→(∀ (i:Nat) (y:V) (d:PyData),ys[i]? = some y→ds[i]? = some d→DA K ok H y d)→DAs K ok H ys ds
 | [],[],_,_=>.nil
 | y :: ys,d :: ds,hl,h=>.cons (h 0 y d rfl rfl) (Ip (by simpa using hl) fun i y' d' e1 e2=>h (i+1) y' d' (by simpa using e1) (by simpa using e2))
 | [],_ :: _,hl,_=>by cases hl
 | _ :: _,[],hl,_=>by cases hl
end
section
variable {P:Program}{w:World}{K:LM}{mg:LO}{base:Heap}
open Q6 TM
structure P5 (K:LM)(H:Hp)(wA R:Addr)(v:V)(t:dQ)(hs:LF)(M:LA)(n k:Nat)(zs:LJ)(fs:List (Nat→Rat)):Prop where
 wr:WR H wA hs M
 mo:Ff n hs M
 da:DA K any H v t.dat
 ok:t.ok k
 tb:∃ bs:LI,H R=some (.lst (bs.map V.ref))∧k≤bs.length∧∀ (j:Nat) (b:Addr),bs[j]? = some b→uc H (.ref b) n (fs.getD j F0)
 sh:∀ j < k,Mh (n * n) (zs.getD j 0) (fs.getD j F0)
 own:Mh (n * n) (nN zs t) (iG hs M fs t)
 few:nN zs t≤1450
theorem P5.mono {R:Addr}{t:dQ}{n:Nat}(h:P5 K H wA R v t hs M n k zs fs)(s:Same H H'):P5 K H' wA R v t hs M n k zs fs :=
 ⟨h.wr.mono s,h.mo,h.da.mono s.keep fun _ _=>trivial,h.ok,(by
  obtain⟨bs,e,l,t⟩:=h.tb
  exact⟨bs,s _ _ e,l,fun j b e'=>(t j b e').mono s⟩),h.sh,h.own,h.few⟩
inductive uR (K:LM)(vs:LG)(H:Hp)(Q:VK):Prop | mk (wA R:Addr) (v:V) (t:dQ) (hs:LF) (M:LA) (n k:Nat) (zs:LJ) (fs:List (Nat→Rat)) (i j:Nat) (_:vs=[.ref wA,v,.ref R,.int (i:Int),.int (j:Int)]) (_:P5 K H wA R v t hs M n k zs fs) (_:i < n) (_:j < n) (_:∀ u H',Same H H'→iI H' u (iG hs M fs t (i * n+j))→Q u H'):uR K vs H Q
def BS (K:LM):Sp:=fun vs H Q _=>uR K vs H Q
abbrev xD:LK:=["_law_web_here","_law_step","_law_tables_here","_law_u","_law_v"]
abbrev Nl:LK:=["_law_web_here","_law_step","_law_tables_here","_law_u","_law_v","_law_hues","_law_rows","_law_word","_law_total_here","_law_w"]
theorem lK:bJ Nl xD (aB wR):=by constructor<;>first|rfl|decide +kernel
theorem mX (x y z:V)(xs:LG):lF (x :: y :: z :: xs) 2=some z:=cX (xs:=x :: y :: z :: xs) (j:=2) rfl
theorem CY {ok:Addr→Prop}(h:DAs K ok H pre []):pre=[]:=by cases h; rfl
abbrev zU:LK:=["_law_one","_law_other"]
theorem Hn (B:lE mg)(F:Fun K "_law_cell" "_law_cell" wR f fd)(DP:Dn K mg "_law_plus" vf zU fP fdP)(GP:bK P w K mg base cI 2 fP fdP zU (Oo K HX))(DT:Dn K mg "_law_times" wJ zU fT fdT)(GT:bK P w K mg base cI 2 fT fdT zU (Oo K PB)):bK P w K mg base cI 3 f fd xD (BS K):=by
 refine F.o lK fun cdv A outer s H vs Q E hr h=>?_
 ·obtain⟨wA,R,v,t,hs,M,n,k,zs,fs,i,j,rfl,hE,hi,hj,q⟩:=h
  obtain⟨p,pre,rfl,hp,dp⟩:=FD t hE.da;obtain⟨hA,rA,rs,w1,w2,w3,RR⟩:=hE.wr.ex;obtain⟨bs,eR,lb,tb⟩:=hE.tb;have hn:=hE.mo.few;have hl:=hE.mo.hl;have sz:nN zs t≤1500:=aE hE.few (by decide);have S:=hE.own;have lt:=yV hi hj;have nums:=hE.ok.num;have gN:∀ {m:Nat},m < k→∃ b,lF (bs.map V.ref) (m:Int)=some (.ref b)∧uc H (.ref b) n (fs.getD m F0):=fun {m} hm=>by
   obtain⟨b,eb⟩:=bW (l:=bs) (i:=m) (by lia);exact⟨b,fJ eb,tb m b eb⟩
  obtain⟨d1,d2⟩:=Hu (i:=i) hj;refine⟨_,am (gx (pv 0) (gp rfl (bY (iK 5 lK.nd) (bY (iK 6 lK.nd) eJ))))
   (am (d7 7 lK.nd (aG bM (pv 1) aj))
   (am (cK (bF cE (pv 7) cV (bG _)) (ar (bt (dc (ad (gy nH (by rfl) B.int boot_int (ad (fh cE (pv 3) (pv 4) (bG _)) ah)) (ad aj ah))))) bX)
   (am (cK (bF cE (pv 7) cV (bG _)) (ar (bt (dc (ad (aG aJ (aG aJ (pv 6) (pv 3)) (pv 4)) (ad aj ah))))) bX)
   (am (cK (bF cE (pv 7) cV (bG _)) (ar (bt (dc (ad aj (ad aj ah))))) bX)
   (am (cK (bF cE (pv 7) cV (bG _)) (ar (bt (dc (ad (gy nH (by rfl) B.int boot_int (ad (tu (fh cE (pv 3) (pv 4) (bG _)) (tp (fh cE (aG aJ (pv 5) (pv 3)) (aG bM (pv 1) aj) (bG _)))) ah)) (ad aj ah))))) bX)
   (am (cK (bF cE (pv 7) cV (bG _)) (ar (bt (aG aJ (aG aJ (aG aJ (pv 2) (aG bM (pv 1) aj)) (pv 4)) (pv 3)))) bX)
   (am (cK (bF cE (pv 7) cV (bG _)) (ar (bt (bw DT GT hr rfl (ad (aG bM (pv 1) aj) (ad (aG aJ (aG aJ (aG aJ (pv 2) (aG bM (pv 1) aj)) (pv 3)) (pv 4)) ah))))) bX)
   (am (cK (bF cE (pv 7) cV (bG _)) (ar (bt (bw DP GP hr rfl (ad (aG aJ (aG aJ (aG aJ (pv 2) (aG bM (pv 1) aj)) (pv 3)) (pv 4)) (ad (aG aJ (aG aJ (aG aJ (pv 2) (aG bM (pv 1) aj)) (pv 3)) (pv 4)) ah))))) bX)
   (am (cK (bF cE (pv 7) cV (bG _)) (ar (bt (bw DT GT hr rfl (ad (aG aJ (aG aJ (aG aJ (pv 2) (aG bM (pv 1) aj)) (pv 3)) (pv 4)) (ad (aG aJ (aG aJ (aG aJ (pv 2) (aG bM (pv 1) aj)) (pv 3)) (pv 4)) ah))))) bX)
   (am (d7 8 lK.nd (dc (ad aj (ad aj ah))))
   (am (di PassesOwn.never rfl (dB rfl B.range (ad (bQ bT (by rfl) B.len bE (ad (pv 5) ah)) ah)) (iK 9 lK.nd) (ar (d7 8 lK.nd (bw DP GP hr rfl (ad (pv 8) (ad (bw DT GT hr rfl (ad (aG aJ (aG aJ (aG aJ (pv 2) (aG bM (pv 1) aj)) (pv 3)) (pv 9)) (ad (aG aJ (aG aJ (aG aJ (pv 2) (aG bM (pv 1) aj)) (pv 9)) (pv 4)) ah))) ah))))))
   (ar (bt (pv 8)))))))))))))),?_⟩
  show let ω1:TS:=_;let ω2:TS:=_;let ω3:TS:=bL (ig _ _ ω2) ω1;let ω4:TS:=bL _ ω3;let ω5:TS:=_;let ω6:TS:=bL (eK _ ω5 _) ω4;let ω7:TS:=_;let ω8:TS:=bL (eK _ ω7 _) ω6;let ω9:TS:=_;let ω10:TS:=bL (eK _ ω9 _) ω8;let ω11:TS:=_;let ω12:TS:=bL (eK _ ω11 _) ω10;let ω13:TS:=_;let ω14:TS:=bL (eK _ ω13 _) ω12;let ω15:TS:=_;let ω16:TS:=bL (eK _ ω15 _) ω14;let ω17:TS:=_;let ω18:TS:=bL (eK _ ω17 _) ω16;let ω19:TS:=_;let ω20:TS:=bL (eK _ ω19 _) ω18;let ω21:TS:=bL _ ω20;bL _ ω21 _ _ _;intro ω1 ω2 ω3 ω4 ω5 ω6 ω7 ω8 ω9 ω10 ω11 ω12 ω13 ω14 ω15 ω16 ω17 ω18 ω19 ω20 ω21;refine⟨_,rfl,wA,_,rfl,dy.of w1,rfl,_,_,rfl,_,_,rfl,rfl,?_⟩;refine⟨_,rfl,p,_,_,_,rfl,rfl,hp,jT _ _,?_⟩;have word:∀ {a b:Str},a≠b→¬ V.str a=V.str b:=fun h=>qY h
  refine⟨_,rfl,rfl,_,rfl,?_⟩;cases t with
  | lf k =>
   cases k with
   | one=>exact absurd hE.ok.fit (fun z=>z)
   | same =>
    refine dO rfl ?_;refine⟨_,rfl,_,rfl,rfl,.inr ⟨_,rfl,(by show 2≤sizeLine; decide),fun p' hp'=>?_⟩⟩;refine q _ _ (Same.upd hp') ?_;have e:iG hs M fs (.lf .same) (i * n+j)=((if i=j then 1 else 0:Int):Rat):=by
     simp only[iG,Oq,iZ];rw[hl,d1,d2]
     split
     ·rw[iB]
     ·rw[qz]
    refine kh S sz lt (pr:=(if i=j then 1 else 0,1)) ?_ (by rw[e]; exact kU _);rw[ao]
    by_cases c:i=j
    ·subst c; simp[ou]
    ·have:¬ (i:Int)=(j:Int):=by lia
     simp[ou,c,this]
   | hue c =>
    rw[xq dp] at hp;refine cr (word (show ("hue" : Str)≠"same" by decide +kernel)) ⟨_,rfl,rfl,_,rfl,cr (word (show ("hue" : Str)≠"tie" by decide +kernel)) ⟨_,rfl,rfl,_,rfl,cr (word (show ("hue" : Str)≠"all" by decide +kernel)) ⟨_,rfl,rfl,_,rfl,dO rfl ?_⟩⟩⟩;obtain⟨h,eh⟩:=bW (l:=hs) (i:=i) (by rw[hl]; exact hi);have e:iG hs M fs (.lf (.hue c)) (i * n+j)=((if i=j∧h=c then 1 else 0:Int):Rat):=by
     simp only[iG,Oq,IO,iZ];rw[hl,d1,d2,h8 eh]
     by_cases c1:i=j
     ·rw[if_pos c1]
      by_cases c2:h=c
      ·rw[if_pos c2,if_pos ⟨c1,c2⟩,iB]
      ·rw[if_neg c2,if_neg fun z=>c2 z.2,qz]
     ·rw[if_neg c1,if_neg fun z=>c1 z.1,qz]
    have fin:∀ (b:Bool) (H':Hp) (p':Addr),b=decide (i=j∧h=c)→H p'=none→iI (L2.upd H p' (.tup [.int (if b=true then 1 else 0),.int 1])) (.ref p') (iG hs M fs (.lf (.hue c)) (i * n+j)):=fun b H' p' hb hp'=>by
     refine kh S sz lt (pr:=(if i=j∧h=c then 1 else 0,1)) ?_ (by rw[e]; exact kU _);rw[ao,hb]
     by_cases c:i=j∧h=c
     ·rw[if_pos c,cn c]; rfl
     ·rw[if_neg c,bH c]; rfl
    refine⟨_,rfl,_,rfl,rfl,_,rfl,?_⟩
    by_cases c1:i=j
    ·refine dO (by rw[c1]) ?_
     refine⟨_,rfl,_,rfl,hA,_,_,.int h,rfl,rfl,bh.of w2,cX (by rw[aq,eh]; rfl),_,rfl,p,_,_,_,rfl,rfl,hp,g8 _ _ _,rfl,.inr ⟨_,rfl,(by show 2≤sizeLine; decide),fun p' hp'=>q _ _ (Same.upd hp') ?_⟩⟩;exact fin _ H p' (by
      by_cases c2:h=c
      ·rw[cn (by rw[c2]),cn ⟨c1,c2⟩]
      ·rw[bH fun z=>c2 (V.int.inj z),bH fun z=>c2 z.2]) hp'
    ·have c1':¬ V.int (i:Int)=V.int (j:Int):=fun z=>c1 (by have:=V.int.inj z; lia)
     refine cr c1' (.inr ⟨_,rfl,(by show 2≤sizeLine; decide),fun p' hp'=>q _ _ (Same.upd hp') ?_⟩);exact fin false H p' (by rw[bH fun z=>c1 z.1]) hp'
   | tie =>
    refine cr (word (show ("tie" : Str)≠"same" by decide +kernel)) ⟨_,rfl,rfl,_,rfl,dO rfl ?_⟩;obtain⟨x,ex⟩:=bW (l:=M) (i:=i) (by rw[hE.mo.ml]; exact hi);obtain⟨r,er⟩:=bW (l:=rs) (i:=i) (by rw[RR.len,hE.mo.ml]; exact hi);obtain⟨z,ez⟩:=bW (l:=x) (i:=j) (by rw[(hE.mo.row x (ae ex)).1]; exact hj);refine⟨_,rfl,_,rfl,rA,_,_,_,rfl,rfl,bh.of w3,fJ er,_,rfl,r,_,_,.int z,rfl,rfl,bh.of (RR.row i r x er ex),cX (by rw[aq,ez]; rfl),(by show 2≤sizeLine; decide),fun p' hp'=>q _ _ (Same.upd hp') ?_⟩;have e:iG hs M fs (.lf .tie) (i * n+j)=(z:Rat):=by
     simp only[iG,Oq,iZ];rw[hl,d1,d2,h8 ex,h8 ez]
    exact kh S sz lt (pr:=(z,1)) ao (by rw[e]; exact kU z)
   | all =>
    refine cr (word (show ("all" : Str)≠"same" by decide +kernel)) ⟨_,rfl,rfl,_,rfl,cr (word (show ("all" : Str)≠"tie" by decide +kernel)) ⟨_,rfl,rfl,_,rfl,dO rfl ?_⟩⟩;refine⟨(by show 2≤sizeLine; decide),fun p' hp'=>q _ _ (Same.upd hp') ?_⟩;exact kh S sz lt (pr:=(1,1)) ao (kU 1)
  | turned m =>
   obtain rfl:=CY dp;obtain⟨b,ab,hv⟩:=gN (nums m (by simp[dQ.nums]));refine cr (word (show ("turned" : Str)≠"same" by decide +kernel)) ⟨_,rfl,rfl,_,rfl,cr (word (show ("turned" : Str)≠"tie" by decide +kernel)) ⟨_,rfl,rfl,_,rfl,cr (word (show ("turned" : Str)≠"all" by decide +kernel)) ⟨_,rfl,rfl,_,rfl,cr (word (show ("turned" : Str)≠"hue" by decide +kernel)) ⟨_,rfl,rfl,_,rfl,dO rfl ?_⟩⟩⟩⟩;obtain⟨a,r,rs',x,u,ea,ha,at1',hr',at2,fu⟩:=hv.cell hj hi;cases ea;refine⟨_,rfl,_,rfl,p,_,_,_,rfl,rfl,hp,g8 _ _ _,R,_,_,_,rfl,rfl,bh.of eR,ab,_,rfl,b,_,_,_,rfl,rfl,bh.of ha,at1',_,rfl,r,_,_,u,rfl,rfl,bh.of hr',at2,q _ _ (Same.refl _) ?_⟩;simp only[iG,IO];rw[hl,d1,d2];exact fu
  | many c d m =>
   obtain⟨fa,rfl,hf⟩:=Iq dp;obtain⟨b,ab,hv⟩:=gN (nums m (by simp[dQ.nums]));refine cr (word (show ("many" : Str)≠"same" by decide +kernel)) ⟨_,rfl,rfl,_,rfl,cr (word (show ("many" : Str)≠"tie" by decide +kernel)) ⟨_,rfl,rfl,_,rfl,cr (word (show ("many" : Str)≠"all" by decide +kernel)) ⟨_,rfl,rfl,_,rfl,cr (word (show ("many" : Str)≠"hue" by decide +kernel)) ⟨_,rfl,rfl,_,rfl,cr (word (show ("many" : Str)≠"turned" by decide +kernel)) ⟨_,rfl,rfl,_,rfl,dO rfl ?_⟩⟩⟩⟩⟩;obtain⟨a,r,rs',x,u,ea,ha,at1',hr',at2,fu⟩:=hv.cell hi hj;cases ea;obtain⟨p2,pr,rfl,g1,g2,g3⟩:=fu.frn;have fo:Br c d:=hE.ok.fit;have qb:M11.Bn 499 d:=bU (show d.natAbs≤2 ^ 2 by have:=fo.pos; have:=fo.bot; lia) (by decide);have fr:IsFr ((c:Rat) / (d:Rat)) (c,d):=⟨fo.pos,fo.cop,by have:=mq fo.pos; show (c:Rat)=c / d * d; grind⟩;have em:iG hs M fs (.many c d m) (i * n+j)=((c:Rat) / (d:Rat)) * fs.getD m F0 (i * n+j):=by
    simp only[iG,IO];exact Rat.mul_comm _ _
   refine⟨_,rfl,p,_,_,_,rfl,rfl,hp,g8 _ _ _,_,rfl,_,rfl,p,_,_,_,rfl,rfl,hp,mX _ _ _ _,R,_,_,_,rfl,rfl,bh.of eR,ab,_,rfl,b,_,_,_,rfl,rfl,bh.of ha,at1',_,rfl,r,_,_,_,rfl,rfl,bh.of hr',at2,fa,p2,c,d,pr.1,pr.2,rfl,hf,dy.of g1,⟨(EW fo.top).mono (by decide),qb,fo.pos⟩,g3,fun r' H' s' _ e'=>q _ _ s' ?_⟩;refine kh S sz lt e' ?_;rw[em];exact fr.times g2
  | two k' m m' =>
   obtain rfl:=CY dp;have km:=nums m (by simp[dQ.nums]);have km':=nums m' (by simp[dQ.nums]);obtain⟨b,ab,hv⟩:=gN km;obtain⟨b',ab',hv'⟩:=gN km';cases k' with
   | both=>exact absurd hE.ok.fit (fun z=>z)
   | plus =>
    refine cr (word (show ("plus" : Str)≠"same" by decide +kernel)) ⟨_,rfl,rfl,_,rfl,cr (word (show ("plus" : Str)≠"tie" by decide +kernel)) ⟨_,rfl,rfl,_,rfl,cr (word (show ("plus" : Str)≠"all" by decide +kernel)) ⟨_,rfl,rfl,_,rfl,cr (word (show ("plus" : Str)≠"hue" by decide +kernel)) ⟨_,rfl,rfl,_,rfl,cr (word (show ("plus" : Str)≠"turned" by decide +kernel)) ⟨_,rfl,rfl,_,rfl,cr (word (show ("plus" : Str)≠"many" by decide +kernel)) ⟨_,rfl,rfl,_,rfl,dO rfl ?_⟩⟩⟩⟩⟩⟩;obtain⟨a,r,rs',x,y,ea,ha,b1,hr',b2,fu⟩:=hv.cell hi hj;cases ea;obtain⟨p2,pr,rfl,g1,g2,g3⟩:=fu.frn;obtain⟨a',r',rs2,x',y',ea',ha',b1',hr2,b2',fu'⟩:=hv'.cell hi hj;cases ea';obtain⟨p3,pr',rfl,g1',g2',g3'⟩:=fu'.frn;refine⟨_,rfl,_,rfl,p,_,_,_,rfl,rfl,hp,g8 _ _ _,R,_,_,_,rfl,rfl,bh.of eR,ab,_,rfl,b,_,_,_,rfl,rfl,bh.of ha,b1,_,rfl,r,_,_,_,rfl,rfl,bh.of hr',b2,_,rfl,_,rfl,p,_,_,_,rfl,rfl,hp,mX _ _ _ _,R,_,_,_,rfl,rfl,bh.of eR,ab',_,rfl,b',_,_,_,rfl,rfl,bh.of ha',b1',_,rfl,r',_,_,_,rfl,rfl,bh.of hr2,b2',p2,p3,pr.1,pr.2,pr'.1,pr'.2,rfl,dy.of g1,dy.of g1',g3,g3',fun r2 H' s' _ e'=>q _ _ s' (kh S sz lt e' (g2.plus g2'))⟩
   | meet =>
    refine cr (word (show ("meet" : Str)≠"same" by decide +kernel)) ⟨_,rfl,rfl,_,rfl,cr (word (show ("meet" : Str)≠"tie" by decide +kernel)) ⟨_,rfl,rfl,_,rfl,cr (word (show ("meet" : Str)≠"all" by decide +kernel)) ⟨_,rfl,rfl,_,rfl,cr (word (show ("meet" : Str)≠"hue" by decide +kernel)) ⟨_,rfl,rfl,_,rfl,cr (word (show ("meet" : Str)≠"turned" by decide +kernel)) ⟨_,rfl,rfl,_,rfl,cr (word (show ("meet" : Str)≠"many" by decide +kernel)) ⟨_,rfl,rfl,_,rfl,cr (word (show ("meet" : Str)≠"plus" by decide +kernel)) ⟨_,rfl,rfl,_,rfl,dO rfl ?_⟩⟩⟩⟩⟩⟩⟩;obtain⟨a,r,rs',x,y,ea,ha,b1,hr',b2,fu⟩:=hv.cell hi hj;cases ea;obtain⟨p2,pr,rfl,g1,g2,g3⟩:=fu.frn;obtain⟨a',r',rs2,x',y',ea',ha',b1',hr2,b2',fu'⟩:=hv'.cell hi hj;cases ea';obtain⟨p3,pr',rfl,g1',g2',g3'⟩:=fu'.frn;refine⟨_,rfl,_,rfl,p,_,_,_,rfl,rfl,hp,g8 _ _ _,R,_,_,_,rfl,rfl,bh.of eR,ab,_,rfl,b,_,_,_,rfl,rfl,bh.of ha,b1,_,rfl,r,_,_,_,rfl,rfl,bh.of hr',b2,_,rfl,_,rfl,p,_,_,_,rfl,rfl,hp,mX _ _ _ _,R,_,_,_,rfl,rfl,bh.of eR,ab',_,rfl,b',_,_,_,rfl,rfl,bh.of ha',b1',_,rfl,r',_,_,_,rfl,rfl,bh.of hr2,b2',p2,p3,pr.1,pr.2,pr'.1,pr'.2,rfl,dy.of g1,dy.of g1',g3,g3',fun r2 H' s' _ e'=>q _ _ s' (kh S sz lt e' (g2.times g2'))⟩
   | thn =>
    refine cr (word (show ("then" : Str)≠"same" by decide +kernel)) ⟨_,rfl,rfl,_,rfl,cr (word (show ("then" : Str)≠"tie" by decide +kernel)) ⟨_,rfl,rfl,_,rfl,cr (word (show ("then" : Str)≠"all" by decide +kernel)) ⟨_,rfl,rfl,_,rfl,cr (word (show ("then" : Str)≠"hue" by decide +kernel)) ⟨_,rfl,rfl,_,rfl,cr (word (show ("then" : Str)≠"turned" by decide +kernel)) ⟨_,rfl,rfl,_,rfl,cr (word (show ("then" : Str)≠"many" by decide +kernel)) ⟨_,rfl,rfl,_,rfl,cr (word (show ("then" : Str)≠"plus" by decide +kernel)) ⟨_,rfl,rfl,_,rfl,cr (word (show ("then" : Str)≠"meet" by decide +kernel)) ?_⟩⟩⟩⟩⟩⟩⟩;obtain⟨r1',S1⟩:=hE.sh m km;obtain⟨r2',S2⟩:=hE.sh m' km';have sz':zs.getD m 0+zs.getD m' 0+1≤1500:=sz;have Sp:Mh n (zs.getD m 0+zs.getD m' 0) (fun x=>fs.getD m F0 (i * n+x) * fs.getD m' F0 (x * n+j)):=⟨(_,_),(Mr S1 hi).mul (Ms S2 hj)⟩;have em:iG hs M fs (.two .thn m m') (i * n+j)=sm (fun x=>fs.getD m F0 (i * n+x) * fs.getD m' F0 (x * n+j)) n:=by
     simp only[iG,Os,CO];rw[hl,d1,d2]
    refine⟨(by show 2≤sizeLine; decide),fun p0 hp0=>?_⟩;have s1:Same H (L2.upd H p0 (.tup [.int 0,.int 1])):=Same.upd hp0;have e1:L2.upd H p0 (.tup [.int 0,.int 1]) p0=some (ou (0,1)):=ao;generalize L2.upd H p0 (.tup [.int 0,.int 1])=H1 at s1 e1 ⊢;refine⟨_,rfl,hA,_,rfl,.inl (bh.of (s1 _ _ w2)),?_⟩;rw[aa,hl];refine⟨(n:Int),rfl,by lia,by lia,eV (n:=n) (fun k σ H'=>∃ (z:V) (o:LS),σ=[some (.ref wA),some (.ref p),some (.ref R),some (.int (i:Int)),some (.int (j:Int)),some (.ref hA),some (.ref rA),some (.str "then"),some z,o]∧Same H H'∧iI H' z (sm (fun x=>fs.getD m F0 (i * n+x) * fs.getD m' F0 (x * n+j)) k))
     ⟨_,none,rfl,s1,pG Sp (by lia) (by lia) (aZ _) e1 (kU 0)⟩ ?_ ?_⟩
    ·rintro k σ H2 hk ⟨z,o,rfl,s2,fz⟩
     have e0:((0:Int)+(k:Nat))=(k:Int):=by lia
     rw[e0];obtain⟨pz,prz,rfl,z1,z2,z3⟩:=fz.frn;obtain⟨a,r,rs',x,y,ea,ha,b1,hr',b2,fu⟩:=(hv.mono s2).cell hi hk;cases ea;obtain⟨p2,pr,rfl,g1,g2,g3⟩:=fu.frn;obtain⟨a',r',rs2,x',y',ea',ha',b1',hr2,b2',fu'⟩:=(hv'.mono s2).cell hk hj;cases ea';obtain⟨p3,pr',rfl,g1',g2',g3'⟩:=fu'.frn;refine⟨_,rfl,_,rfl,_,rfl,p,_,_,_,rfl,rfl,s2.seqT hp,g8 _ _ _,R,_,_,_,rfl,rfl,bh.of (s2 _ _ eR),ab,_,rfl,b,_,_,_,rfl,rfl,bh.of ha,b1,_,rfl,r,_,_,_,rfl,rfl,bh.of hr',b2,_,rfl,_,rfl,p,_,_,_,rfl,rfl,s2.seqT hp,mX _ _ _ _,R,_,_,_,rfl,rfl,bh.of (s2 _ _ eR),ab',_,rfl,b',_,_,_,rfl,rfl,bh.of ha',b1',_,rfl,r',_,_,_,rfl,rfl,bh.of hr2,b2',p2,p3,pr.1,pr.2,pr'.1,pr'.2,rfl,dy.of g1,dy.of g1',g3,g3',fun r3 H3 s3 _ e3=>?_⟩;have f3:iI H3 (.ref r3) _:=kh Sp (by lia) hk e3 (g2.times g2');obtain⟨p4,pr4,e4,q1,q2,q3⟩:=f3.frn;cases e4;refine⟨pz,r3,prz.1,prz.2,pr4.1,pr4.2,rfl,dy.of (s3 _ _ z1),dy.of q1,z3,q3,fun r5 H5 s5 _ e5=>?_⟩;exact⟨_,_,rfl,(s2.trans s3).trans s5,pG Sp (by lia) (by lia) (i:=k+1) (by lia) e5 (z2.plus q2)⟩
    ·rintro σ H2 ⟨z,o,rfl,s2,fz⟩
     refine⟨_,rfl,q z H2 s2 ?_⟩;rw[em];exact fz
end
section
variable {P:Program}{w:World}{K:LM}{mg:LO}{base:Heap}
open Q6 TM
theorem xV {n:Nat}{f:Nat→Rat}(S:Va n c f ts b):Va (n * n) c (fun k=>if k / n=k % n then f (k / n) else 0) ((List.range (n * n)).map fun k=>if k / n=k % n then ts.getD (k / n) 0 else 0) b:=by
 refine S.diag (by rw[aa,b9]) fun i j x hi hj e=>?_
 obtain⟨d1,d2⟩:=Hu (i:=i) hj;rw[aq,cD (yV hi hj)] at e;have e':=aW e;simp only[d1,d2] at e'
 by_cases c:i=j
 ·rw[if_pos c] at e' ⊢
  obtain⟨y,hy⟩:=bW (l:=ts) (i:=i) (by rw[S.len]; exact hi);rw[h8 hy] at e';rw[←e',hy]
 ·rw[if_neg c] at e' ⊢
  exact e'.symm
theorem F3 {n:Nat}{t:dQ}(W:Ff n hs M)(ok:t.ok k)(h:∀ j < k,Mh (n * n) (zs.getD j 0) (fs.getD j F0)):Mh (n * n) (nN zs t) (iG hs M fs t):=by
 have hl:=W.hl;cases t with
 | lf l =>
  cases l with
  | one=>exact absurd ok.fit (fun z=>z)
  | same =>
   have:=(xV (oT n)).more (d:=10) (by decide)
   refine⟨(_,_),this.congr fun k hk=>?_⟩;simp only[iG,Oq,iZ];rw[hl]
  | tie=>exact⟨(_,_),Fo W⟩
  | all=>exact⟨(_,_),(oT (n * n)).more (d:=10) (by decide)⟩
  | hue c =>
   refine⟨(_,_),(xV (Fp W c)).congr fun k hk=>?_⟩;simp only[iG,Oq,IO];rw[hl]
 | turned i =>
  obtain⟨r,S⟩:=h i (ok.num i (by simp[dQ.nums]));refine⟨(_,_),(Bv S).congr fun k hk=>?_⟩;simp only[iG,IO];rw[hl]
 | many a b i =>
  obtain⟨r,S⟩:=h i (ok.num i (by simp[dQ.nums]));have fo:Br a b:=ok.fit;exact⟨(_,_),Va.many fo.pos (EW fo.top) (by have:=fo.pos; have:=fo.bot; lia) S⟩
 | two c i j =>
  obtain⟨r,S⟩:=h i (ok.num i (by simp[dQ.nums]));obtain⟨r',T⟩:=h j (ok.num j (by simp[dQ.nums]));cases c with
  | both=>exact absurd ok.fit (fun z=>z)
  | thn =>
   have:=Bw S T W.few
   rw[←hl] at this;exact hl ▸ ⟨(_,_),this⟩
  | meet=>exact⟨(_,_),(S.mul T).more (by simp only[nN]; lia)⟩
  | plus=>exact⟨(_,_),S.add T⟩
theorem Jd {n:Nat}{ss:List dQ}(W:Ff n hs M)(ok:jV ss):∀ j < ss.length,Mh (n * n) ((Ao ss).getD j 0) ((AN hs M ss).getD j F0):=by
 intro j
 induction j using Nat.strongRecOn with
 | ind j ih =>
  intro hj;obtain⟨t,et⟩:=bW hj;rw[h8 (wn ok et),h8 (AM ok hs M et)];exact F3 W (ok j t et) fun i hi=>ih i hi (by lia)
def Bj (d:Addr)(H:Hp):Hp:=fun b=>if b=d then none else H b
theorem tD (d:Addr)(H:Hp):Same (Bj d H) H:=fun b o e=>by
 unfold Bj at e
 split at e
 ·cases e
 ·exact e
theorem Cj (d:Addr)(H:Hp)(o:HO):Bj d (L2.upd H d o)=Bj d H:=by
 funext b
 unfold Bj
 by_cases c:b=d
 ·rw[if_pos c,if_pos c]
 ·rw[if_neg c,if_neg c,aO c]
theorem Hs (s:Same H H'):Same (Bj d H) (Bj d H'):=fun b o e=>by
 unfold Bj at *
 by_cases c:b=d
 ·rw[if_pos c] at e; cases e
 ·rw[if_neg c] at e ⊢; exact s b o e
theorem xc {b:Addr}(h:b≠d)(e:H b=some o):Bj d H b=some o:=by
 unfold Bj;rw[if_neg h];exact e
theorem iI.off (h:iI H v q)(hd:H d=some (.lst xs)):iI (Bj d H) v q:=by
 obtain⟨p,pr,e,h1,h2⟩:=h;refine⟨p,pr,e,xc (fun z=>?_) h1,h2⟩;rw[z,hd] at h1;cases h1
theorem iI.updL (h:iI H v q)(hd:H d=some (.lst xs)):iI (L2.upd H d o) v q:=by
 have h1:=h.off hd;rw[←Cj d H o] at h1;exact h1.mono (tD d _)
def qy (H:Hp)(r:Addr)(n:Nat)(f:Nat→Rat):Prop:=∃ ys:LG,H r=some (.lst ys)∧ys.length=n∧∀ (j:Nat) (u:V),ys[j]? = some u→iI H u (f j)
theorem qy.updL {n:Nat}{f:Nat→Rat}(h:qy H r n f)(hr:r≠d)(hd:H d=some (.lst xs)):qy (L2.upd H d o) r n f:=by
 obtain⟨ys,h1,h2,h3⟩:=h;exact⟨ys,by rw[aO hr]; exact h1,h2,fun j u e=>(h3 j u e).updL hd⟩
theorem qy.mono {n:Nat}{f:Nat→Rat}(h:qy H r n f)(s:Same H H'):qy H' r n f:=by
 obtain⟨ys,h1,h2,h3⟩:=h;exact⟨ys,s _ _ h1,h2,fun j u e=>(h3 j u e).mono s⟩
def EZ (H H':Hp)(a:Addr)(n:Nat)(f:Nat→Rat):Prop:=H a=none∧∃ (rs:LI),H' a=some (.lst (rs.map V.ref))∧rs.length=n∧∀ (j:Nat) (r:Addr),rs[j]? = some r→H r=none∧qy H' r n fun m=>f (j * n+m)
theorem EZ.tab {n:Nat}{f:Nat→Rat}(h:EZ H H' a n f):uc H' (.ref a) n f:=by
 obtain⟨_,rs,e,lr,hv⟩:=h;have key:∀ (k:Nat),k≤n→∃ X:LB,X.length=k∧∀ (i:Nat) (r:Addr) (x:LG),rs[i]? = some r→X[i]? = some x→H' r=some (.lst x)∧x.length=n∧∀ (j:Nat) (u:V),x[j]? = some u→iI H' u (f (i * n+j)):=by
  intro k
  induction k with
  | zero=>exact fun _=>⟨[],rfl,fun i r x _ h=>by cases h⟩
  | succ k ih =>
   intro hk;obtain⟨X,lX,hX⟩:=ih (by lia);obtain⟨r,er⟩:=bW (l:=rs) (i:=k) (by lia);obtain⟨_,x,h1,h2,h3⟩:=hv k r er;refine⟨X++[x],by rw[ai,lX]; rfl,fun i r' x' e1 e2=>?_⟩;rcases dg e2 with e | ⟨e,rfl⟩
   ·exact hX i r' x' e1 e
   ·rw[e,lX] at e1 ⊢
    rw[er] at e1;cases e1;exact⟨h1,h2,h3⟩
 obtain⟨X,lX,hX⟩:=key n (au _);refine⟨a,X,rfl,⟨rs,e,by lia,fun i r x e1 e2=>(hX i r x e1 e2).1⟩,lX,fun i x e=>?_⟩;obtain⟨r,er⟩:=bW (l:=rs) (i:=i) (by have:=cq e; lia);exact (hX i r x er e).2
theorem qy.off {n:Nat}{f:Nat→Rat}(h:qy H r n f)(hr:r≠d)(hd:H d=some (.lst xs)):qy (Bj d H) r n f:=by
 obtain⟨ys,h1,h2,h3⟩:=h;exact⟨ys,xc hr h1,h2,fun j u e=>(h3 j u e).off hd⟩
theorem EZ.off {n:Nat}{f:Nat→Rat}(h:EZ H H' a n f)(h0:H d=some o)(hd:H' d=some (.lst xs)):uc (Bj d H') (.ref a) n f:=by
 obtain⟨na,rs,e,lr,hv⟩:=h;have ne:∀ {b:Addr},H b=none→b≠d:=fun hb z=>by rw[z,h0] at hb; cases hb
 exact EZ.tab (H:=fun _=>none) ⟨rfl,rs,xc (ne na) e,lr,fun j r er=>⟨rfl,(hv j r er).2.off (ne (hv j r er).1) hd⟩⟩
theorem Nw {n:Nat}(f:Nat→Rat)(hm:n≤900)(hD:H1 D=none)(hs:∀ (i:Nat) (H':Hp),i < n→Same H1 H'→te (σ++[some (.int (i:Int))]) H' fun v H3=>Same H' H3∧iI H3 v (f i))(hd:∀ (H':Hp),Same H1 H'→qy H' D n f→Q H')(mono:∀ σ H Q Q',(∀ v H1,Q v H1→Q' v H1)→te σ H Q→te σ H Q') :
  ∃ W:Nat→Nat→List V→Hp→Prop,(∃ m,W 0 m [] (upd H1 D (.lst []))) ∧
   ∀ i m ys H',W i m ys H'→H' D=some (.lst ys)∧(((Ad 0 n).stop i H'∧Q H') ∨ ((Ad 0 n).go i H'∧∀ z H2,(Ad 0 n).yld i H' z H2→te (σ++[some z]) H2 fun v H3=>H3 D=some (.lst ys)∧ys.length < sizeLine∧∃ m',m' < m∧W (i+1) m' (ys++[v]) (upd H3 D (.lst (ys++[v]))))):=by
 refine kQ (fun i ys H'=>ys.length=i∧Same H1 H'∧H' D=some (.lst ys)∧∀ (j:Nat) (v:V),ys[j]? = some v→iI H' v (f j)) ⟨rfl,Same.upd hD,ao,fun j v h=>by cases h⟩ ?_ ?_ ?_ mono
 ·rintro i ys H' _ ⟨_,s',eD,_⟩
  exact eD
 ·rintro i ys H' hi ⟨ly,s',eD,hv⟩
  rw[show ((0:Int)+(i:Nat))=(i:Int) by lia];refine mono _ _ _ _ ?_ (hs i H' hi s');rintro v H3 ⟨s3,fv⟩;have eD3:=s3 _ _ eD;refine⟨eD3,bo (by lia),by rw[ai,ly]; rfl,fun b o e=>?_,ao,fun j u hj=>?_⟩
  ·rw[aO (aU e hD)]
   exact s3 _ _ (s' _ _ e)
  ·rcases dg hj with e | ⟨e,rfl⟩
   ·exact ((hv j u e).mono s3).updL eD3
   ·rw[e,ly]
    exact fv.updL eD3
 ·rintro ys H' ⟨ly,s',eD,hv⟩
  exact hd H' s' ⟨ys,eD,ly,hv⟩
theorem Kt (n:Nat)(f:Nat→Rat)(hm:n≤900)(hD:H1 D=none)(hs:∀ (i:Nat) (H':Hp),i < n→Same H1 H'→te (σ++[some (.int (i:Int))]) H' fun v H3=>Same H' H3∧∃ r,v=.ref r∧H' r=none∧qy H3 r n fun j=>f (i * n+j))(hd:∀ H':Hp,Same H1 H'→EZ H1 H' D n f→Q H')(mono:∀ σ H Q Q',(∀ v H1,Q v H1→Q' v H1)→te σ H Q→te σ H Q') :
  ∃ W:Nat→Nat→List V→Hp→Prop,(∃ m,W 0 m [] (upd H1 D (.lst []))) ∧
   ∀ i m ys H',W i m ys H'→H' D=some (.lst ys)∧(((Ad 0 n).stop i H'∧Q H') ∨ ((Ad 0 n).go i H'∧∀ z H2,(Ad 0 n).yld i H' z H2→te (σ++[some z]) H2 fun v H3=>H3 D=some (.lst ys)∧ys.length < sizeLine∧∃ m',m' < m∧W (i+1) m' (ys++[v]) (upd H3 D (.lst (ys++[v]))))):=by
 refine kQ (fun i ys H'=>∃ rs:LI,ys=rs.map V.ref∧rs.length=i∧Same H1 H'∧H' D=some (.lst ys)∧(∀ r ∈ rs,r≠D)∧∀ (j:Nat) (r:Addr),rs[j]? = some r→H1 r=none∧qy H' r n fun m=>f (j * n+m)) ⟨[],rfl,rfl,Same.upd hD,ao,fun r h=>(by cases h),fun j v h=>(by cases h)⟩ ?_ ?_ ?_ mono
 ·rintro i ys H' _ ⟨rs,_,_,s',eD,_⟩
  exact eD
 ·rintro i ys H' hi ⟨rs,rfl,lr,s',eD,nD,hv⟩
  rw[show ((0:Int)+(i:Nat))=(i:Int) by lia];refine mono _ _ _ _ ?_ (hs i H' hi s');rintro v H3 ⟨s3,r,rfl,nr,fv⟩;have eD3:=s3 _ _ eD;have nrD:r≠D:=fun z=>by rw[z,eD] at nr; cases nr
  refine⟨eD3,bo (by rw[aa]; lia),rs++[r],by rw[aM]; rfl,by rw[ai,lr]; rfl,fun b o e=>?_,ao,fun r' h=>?_,fun j u hj=>?_⟩
  ·rw[aO (aU e hD)]
   exact s3 _ _ (s' _ _ e)
  ·rcases bu.mp h with z | z
   ·exact nD r' z
   ·rw[aw.mp z]; exact nrD
  ·rcases dg hj with e | ⟨e,rfl⟩
   ·exact⟨(hv j u e).1,((hv j u e).2.mono s3).updL (nD u (ae e)) eD3⟩
   ·rw[e,lr]
    exact⟨s'.free nr,fv.updL nrD eD3⟩
 ·rintro ys H' ⟨rs,rfl,lr,s',eD,nD,hv⟩
  exact hd H' s' ⟨hD,rs,eD,lr,hv⟩
end
section
variable {P:Program}{w:World}{K:LM}{mg:LO}{base:Heap}
open Q6 TM
theorem yK {n:Nat}:∀ {m i:Nat} {p:Int × Int},(kP n m)[i]? = some p→∃ u v:Nat,u < m∧v < n∧p=((u:Int),(v:Int))∧i=u * n+v
 | 0,i,p,h=>by simp[kP] at h
 | m+1,i,p,h=>by
  rw[oB] at h
  by_cases c:i < m * n
  ·rw[be (by rw[hZ]; exact c)] at h
   obtain⟨u,v,hu,hv,e,ei⟩:=yK h;exact⟨u,v,by lia,hv,e,ei⟩
  ·rw[aV (by rw[hZ]; lia),hZ] at h
   have hv:=cq h;rw[nq] at hv;unfold oj at h;rw[aq,cD hv] at h;exact⟨m,i - m * n,by lia,hv,(aW h).symm,by lia⟩
def Ie (s:Stmt):Expr:=match s with
 | .Expr e _=>e
 | _=>.Constant .none 0 ⟨0,0,0,0⟩
abbrev xg:LK:=["_law_web_here","_law_steps_here","_law_many","_law_tables_here","_law_step","_law_total_here","_law_u","_law_v"]
theorem jm:bJ xg ["_law_web_here","_law_steps_here"] (aB jH):=by constructor<;>first|rfl|decide +kernel
theorem Pp:fk (aB jH) xg (cz (pV (Ie (mj (cT jH 2) 0)) 0)) "_law_u":=by constructor<;>first|rfl|decide +kernel
def PN:Scope:=relabel (cz (pV (Ie (mj (cT jH 2) 0)) 0)) (envOfC "" (aB jH) 0 0 .none)
theorem Po:cw PN (jS xg "_law_u") (cz (zi (pV (Ie (mj (cT jH 2) 0)) 0))) ["_law_v"]:=by constructor<;>first|rfl|decide +kernel
theorem Ej (B:lE mg)(F:Fun K "_law_total" "_law_total" jH f fd)(DC:Dn K mg "_law_cell" wR xD fC fdC)(GC:bK P w K mg base cI 3 fC fdC xD (BS K))(DQ:Dn K mg "_law_pairs" oy ["_law_many"] fQ fdQ)(GQ:bK P w K mg base cI 1 fQ fdQ ["_law_many"] (wu K))(DP:Dn K mg "_law_plus" vf zU fP fdP)(GP:bK P w K mg base cI 2 fP fdP zU (Oo K HX)):bK P w K mg base cI 4 f fd ["_law_web_here","_law_steps_here"] (rB K):=by
 refine F.o jm fun cdv A outer s H vs Q E hr h=>?_
 ·obtain⟨wA,a,ss,hs,M,n,rfl,hW,h0,q⟩:=h
  have r1:=hr.mono (j:=1) (by decide);have r2:=hr.mono (j:=2) (by decide);refine⟨_,am (d7 2 jm.nd (bQ bT (by rfl) B.len bE (ad (aG bM (pv 0) aj) ah)))
   (am (d7 3 jm.nd (cC ah))
   (dH (di PassesOwn.never rfl (cU (pv 1)) (iK 4 jm.nd)
    (ar (fg (i0 bp bO bN dk (pv 3)
     (ad (Ce rfl Pp rfl (dB rfl B.range (ad (pv 2) ah)) fun _ _ _=>gE rfl Po rfl (dB rfl B.range (ad (pv 2) ah)) fun _ _ _=>bw DC GC hr rfl (ad (pv 0) (ad (pv 4) (ad (pv 3) (ad (pv 8) (ad (pv 9) ah)))))) ah)))))
   (am (d7 5 jm.nd (dc (ad aj (ad aj ah))))
   (am (di PassesOwn.never rfl (cU (bw DQ GQ r1 rfl (ad (pv 2) ah))) (gp rfl (bY (iK 6 jm.nd) (bY (iK 7 jm.nd) eJ)))
    (ar (d7 5 jm.nd (bw DP GP r2 rfl (ad (pv 5) (ad (aG aJ (aG aJ (aG aJ (pv 3) (yN sr aj)) (pv 6)) (pv 7)) ah))))))
   (ar (bt (pv 5))))))),?_⟩
  show let ω1:TS:=_;let ω2:TS:=_;let ω3:TS:=bL (ig _ _ ω2) ω1;let ω4:TS:=bL _ ω3;let ω5:TS:=_;let ω6:TS:=ju (ig _ _ ω5) ω4;let ω7:TS:=bL _ ω6;bL _ ω7 _ _ _;intro ω1 ω2 ω3 ω4 ω5 ω6 ω7;have few:=hW.mo.few;have nn:n * n≤256:=bP few few;obtain⟨vs,ha,hd⟩:=hW.st;have lv:=tX hd;rw[aa] at lv;have l9:=hW.len;obtain⟨hA,rA,rs,w1,w2,w3,RR⟩:=hW.wr.ex;have shr:=Jd hW.mo hW.ok;refine⟨_,rfl,wA,_,_,_,rfl,rfl,dy.of w1,rfl,hA,_,rfl,.inl (bh.of w2),?_⟩;rw[aa,hW.mo.hl];refine⟨aZ _,fun R hR=>?_⟩
  let ψ1:LQ:=fun σ H'=>∃ (o4:LS) (bs:LI),σ=[some (.ref wA),some (.ref a),some (.int (n:Int)),some (.ref R),o4,none,none,none]∧Same H H'∧H' R=some (.lst (bs.map V.ref))∧bs.length=ss.length∧∀ (j:Nat) (b:Addr),bs[j]? = some b→uc (Bj R H') (.ref b) n ((AN hs M ss).getD j F0)
  refine⟨ψ1,?_,?_⟩
  ·let π1:LP:=fun i σ H'=>∃ (o4:LS) (bs:LI),σ=[some (.ref wA),some (.ref a),some (.int (n:Int)),some (.ref R),o4,none,none,none]∧Same H H'∧H' R=some (.lst (bs.map V.ref))∧bs.length=i∧∀ (j:Nat) (b:Addr),bs[j]? = some b→uc (Bj R H') (.ref b) n ((AN hs M ss).getD j F0)
   refine⟨_,rfl,a,rfl,⟨_,bh.of (Same.upd hR _ _ ha)⟩,gZ (K:=K) (xs:=vs) π1 ⟨none,[],rfl,Same.upd hR,ao,rfl,fun j b h=>by cases h⟩ (fun i σ H' _ ⟨_,_,_,s',_⟩=>bh.of (s' _ _ ha)) ?_ ?_⟩
   ·rintro i x σ H1 hx ⟨o4,bs,rfl,s1,eR,lb,hb⟩
    obtain⟨t,et,dt⟩:=Ba hd hx;have ezs:=wn hW.ok et;have ems:=AM hW.ok hs M et;have li:=cq et;have en:P5 K H1 wA R x t hs M n i (Ao ss) (AN hs M ss):=⟨hW.wr.mono s1,hW.mo,dt.mono s1.keep fun _ _=>trivial,hW.ok i t et,⟨bs,eR,by lia,fun j b' e'=>(hb j b' e').mono (tD R H1)⟩,fun j hj=>shr j (by lia),(by have:=shr i li; rw[h8 ezs,h8 ems] at this; exact this),hW.few _ (ae ezs)⟩;refine⟨_,rfl,.inl ⟨rfl,_,bh.of eR⟩,?_⟩;refine⟨_,rfl,(n:Int),rfl,by lia,by lia,fun D hD=>?_⟩;refine Kt n (iG hs M (AN hs M ss) t) (by lia) hD ?_ ?_ ?_
    ·intro u H5 hu s5
     refine⟨_,rfl,(n:Int),rfl,by lia,by lia,fun D2 hD2=>?_⟩;refine Nw (fun j=>iG hs M (AN hs M ss) t (u * n+j)) (by lia) hD2 ?_ ?_ ?_
     ·intro j H6 hj s6
      exact⟨_,rfl,_,rfl,_,rfl,_,rfl,_,rfl,wA,R,x,t,hs,M,n,i,Ao ss,AN hs M ss,u,j,rfl,en.mono (s5.trans s6),hu,hj,fun z H7 s7 fz=>⟨s7,fz⟩⟩
     ·intro H6 s6 rf
      exact⟨s6,D2,rfl,hD2,rf⟩
     ·rintro σ H' Q1 Q2 hq ⟨v1,e1,v2,e2,v3,e3,v4,e4',v5,e5,c1,c2,c3,c4,c5,c6,c7,c8,c9,c10,c11,c12,a1,a2,a3,a4,g⟩
      exact⟨v1,e1,v2,e2,v3,e3,v4,e4',v5,e5,c1,c2,c3,c4,c5,c6,c7,c8,c9,c10,c11,c12,a1,a2,a3,a4,fun u H1 s f=>hq _ _ (g u H1 s f)⟩
    ·intro H5 s5 T5
     have eR5:=s5 _ _ eR;refine⟨R,_,_,rfl,rfl,eR5,bo (by rw[aa]; lia),?_⟩;refine⟨_,bs++[D],rfl,fun b o e=>?_,by rw[ao,aM]; rfl,by rw[ai,lb]; rfl,fun j b e=>?_⟩
     ·rw[aO (aU e hR)]
      exact s5 _ _ (s1 _ _ e)
     ·rw[Cj]
      rcases dg e with z | ⟨z,rfl⟩
      ·exact (hb j b z).mono (Hs s5)
      ·rw[z,lb,h8 ems]
       exact T5.off eR eR5
    ·rintro σ H' Q1 Q2 hq ⟨v,e,z,e2,l1,l2,g⟩
     refine⟨v,e,z,e2,l1,l2,fun D2 hD2=>?_⟩;obtain⟨W,w0,st⟩:=g D2 hD2;exact⟨W,w0,fun i m ys H2 hw=>⟨(st i m ys H2 hw).1,(st i m ys H2 hw).2.imp (And.imp id (hq _ _)) id⟩⟩
   ·rintro σ H1 ⟨o4,bs,rfl,s1,eR,lb,hb⟩
    exact⟨o4,bs,rfl,s1,eR,by rw[lb,lv],hb⟩
  ·rintro σ H1 ⟨o4,bs,rfl,s1,eR,lb,hb⟩
   refine⟨(by show 2≤sizeLine; decide),fun p0 hp0=>?_⟩;have s2:Same H1 (L2.upd H1 p0 (.tup [.int 0,.int 1])):=Same.upd hp0;have e2:L2.upd H1 p0 (.tup [.int 0,.int 1]) p0=some (ou (0,1)):=ao;generalize L2.upd H1 p0 (.tup [.int 0,.int 1])=H2 at s2 e2 ⊢;obtain⟨bv,hbv,at1⟩:=ID (vals:=bs.map V.ref) (by rw[aa]; lia);obtain⟨b,eb,rfl⟩:=bI hbv;rw[aa,lb] at eb;have hv:=((hb _ b eb).mono (tD R H1)).mono s2;have S:=shr (ss.length - 1) (by lia);have sz:=aE (AY hW.few (ss.length - 1)) (by decide:1450≤1500);generalize (AN hs M ss).getD (ss.length - 1) F0=fn at hv S q;generalize (Ao ss).getD (ss.length - 1) 0=sn at S sz;refine⟨_,rfl,n,rfl,few,fun C L H3 s3 nC eC pC=>⟨C,rfl,⟨_,bh.of eC⟩,?_⟩⟩;have lL:L.length=n * n:=by rw[pC.1,hZ]
   have s03:=(s1.trans s2).trans s3
   let π2:LP:=fun i σ H'=>∃ (z:V) (o6 o7:LS),σ=[some (.ref wA),some (.ref a),some (.int (n:Int)),some (.ref R),o4,some z,o6,o7]∧Same H3 H'∧iI H' z (sm fn i)
   refine gZ (K:=K) (xs:=L) π2 ⟨_,none,none,rfl,Same.refl _,?_⟩ (fun i σ H' _ ⟨_,_,_,_,s',_⟩=>bh.of (s' _ _ eC)) ?_ ?_
   ·exact (pG S sz nn (i:=0) (aZ _) e2 (kU 0)).mono s3
   ·rintro i x σ H4 hx ⟨z,o6,o7,rfl,s4,fz⟩
    obtain⟨pr,hpr⟩:=bW (l:=kP n n) (i:=i) (by rw[←pC.1]; exact cq hx);obtain⟨u,v,hu,hv',rfl,ei⟩:=yK hpr;obtain⟨t,rfl,et⟩:=pC.2 i x _ hx hpr;refine⟨t,_,rfl,dy.of (s4 _ _ et),rfl,_,_,rfl,_,_,rfl,rfl,?_⟩;obtain⟨pz,prz,rfl,z1,z2,z3⟩:=fz.frn;obtain⟨a',r,rs',x,y,ea,ha',b1,hr',b2,fu⟩:=((hv.mono s3).mono s4).cell hu hv';cases ea;obtain⟨p2,pr,rfl,g1,g2,g3⟩:=fu.frn;rw[←ei] at g2;have lt:=yV hu hv';refine⟨_,rfl,_,rfl,_,rfl,R,_,_,_,rfl,rfl,bh.of (s4 _ _ (s3 _ _ (s2 _ _ eR))),at1,_,rfl,b,_,_,_,rfl,rfl,bh.of ha',b1,_,rfl,r,_,_,_,rfl,rfl,bh.of hr',b2,pz,p2,prz.1,prz.2,pr.1,pr.2,rfl,dy.of z1,dy.of g1,z3,g3,fun r5 H5 s5 _ e5=>?_⟩;exact⟨_,_,_,rfl,s4.trans s5,pG S sz nn (i:=i+1) (by lia) e5 (z2.plus g2)⟩
   ·rintro σ H4 ⟨z,o6,o7,rfl,s4,fz⟩
    rw[lL] at fz;exact⟨_,rfl,q z H4 (s03.trans s4) fz⟩
end
section
variable {X:Cx}
structure QE (X:Cx)(e:Expr)(t:TE):Prop where
 o:PE X e t
structure QA (X:Cx)(es:LL)(t:TA):Prop where
 o:PA X es t
theorem gh:QA X [] Mz:=⟨ah⟩
theorem ci {t:TA}(ha:QE X e te)(hr:QA X es t)(hs:starEach (e :: es) X.env=(false,eval e X.env) :: starEach es X.env:=by rfl):QA X (e :: es) (Lj te t):=⟨ad ha.o hr.o hs⟩
theorem wW {t:TA}(h:QA X es t):QE X (.List es pos) (OL t):=⟨cC h.o⟩
theorem ja {t:TA}(h:QA X es t):QE X (.Tuple es k pos) (OG t):=⟨dc h.o⟩
theorem oh {a b:Expr}{ta tb:TE}{r:R2}(hr:Ol X r)(ha:QE X a ta)(hb:QE X b tb)(hs:Db b):QE X (.Subscript a b pos) (Lh r ta tb):=⟨aG hr ha.o hb.o hs⟩
structure QS (X:Cx)(st:Stmt)(t:TS):Prop where
 o:PS X st t
structure PV (X:Cx)(ss:List Stmt)(t:TS):Prop where
 o:xN X ss t
structure QI (X:Cx)(tg e:Expr)(t:TI):Prop where
 o:PI X tg e t
structure QG (X:Cx)(tg:Expr)(t:TG):Prop where
 o:PG X tg t
section
variable {st:Stmt}{rest a b:List Stmt}{t u tb:TS}{e f g:Expr}{es:LL}{te tf:TE}{ta:TA}{tc:TT}{pos pos' p:Pos}
theorem lH (h:QS X st t)(k:PV X rest u):PV X (st :: rest) (bL t u):=⟨am h.o k.o⟩
theorem Lc (h:QS X st t):PV X [st] t:=⟨ar h.o⟩
theorem sj {x:Str}(i:Nat)(hN:X.N.Nodup)(hi:X.N[i]? = some x)(hx:Fg X.env.scope x)(he:QE X e te)(hs:swapsWith e (some (.Name x pos')) pos.line X.env=pure false:=by rfl)(hf:X.fn x=true ∨ X.env.scope.names.lookup x=some .local:=by first | exact .inl rfl | exact .inr rfl | assumption) :
  QS X (.Assign [.Name x pos'] e pos) (Ds te (kW i)):=⟨Gw hN hi hx he.o hs hf⟩
theorem OA (h:QE X e te):QS X (.Return (some e) pos) (OI te):=⟨bt h.o⟩
theorem Fm (h:QE X e te)(hs:swapsWith e none pos.line X.env=pure false:=by rfl):QS X (.Expr e pos) (Li te):=⟨fg h.o hs⟩
theorem OB (hp:PassesOwn (model X.prog X.w) X.A X.env X.xe)(hc:X.calm=true)(hi:QI X g e wi)(hg:QG X g gg)(hb:PV X a tb)(hf:∀ x,foldedSetIterable e X.env x=pure x:=by intro _; rfl):QS X (.For g e a [] pos) (ig wi gg tb):=⟨di hp hc hi.o hg.o hb.o hf⟩
theorem kB {op:Operator}{r:R2}(ho:pY X (binaryOp op) r)(ha:QE X e te)(hb:QE X f tf):QE X (.BinOp e op f pos) (Lh r te tf):=⟨aY ho ha.o hb.o⟩
theorem NY {x:Str}(i:Nat)(hN:X.N.Nodup)(hi:X.N[i]? = some x)(hx:Fg X.env.scope x)(hf:X.fn x=true ∨ X.env.scope.names.lookup x=some .local:=by first | exact .inl rfl | exact .inr rfl | assumption):QG X (.Name x pos) (kW i):=⟨ny hN hi hx hf⟩
theorem OC {x:Str}{ps:LK}{sp:Sp}(D:Dn X.K X.mg x st ps fa fd)(G:bK X.prog X.w X.K X.mg X.base cI k fa fd ps sp)(hr:kx k X.A)(hg:Gl X x)(ha:QA X (e :: es) ta)(hdb:(x == ("__debug__" : Str))=false:=by decide)(hs:starEach (e :: es) X.env=(false,eval e X.env) :: starEach es X.env:=by rfl)(hpl:(backTo pos (starEach es X.env)).any (·.1)=false:=by rfl):QE X (.Call (.Name x p) (e :: es) [] pos) (Fz sp [] E0 ta):=⟨bw D G hr hg ha.o hdb hs hpl⟩
theorem OD {T id:String}{r:V→List V→Hp→VK→Prop}(pa:PlainAttrs T)(slot:Slot T name id)(hty:typeOf (.builtin id)=pure (.type "method_descriptor"))(hm:Q4 X id r)(ho:QE X f tf)(ha:QA X (e :: es) ta)(h1:attributeBase f name X.env (eval f X.env)=eval f X.env:=by rfl)(h2:(((backTo pos (starEach (e :: es) X.env)).all fun x=>!x.1) && ((backToKw pos (keywordEach [] X.env)).all fun x=>x.1.isSome) && decide (((e :: es).length+([]:List Keyword).length+if ([]:List Keyword).isEmpty=true then 0 else 1) < 30))=true:=by rfl)(h3:(pos'.endLine == pos.line)=true:=by rfl)(hs:starEach (e :: es) X.env=(false,eval e X.env) :: starEach es X.env:=by rfl)(hpl:(backTo pos (starEach es X.env)).any (·.1)=false:=by rfl):QE X (.Call (.Attribute f name pos') (e :: es) [] pos) (Ro X.K T r tf ta):=⟨i0 pa slot hty hm ho.o ha.o h1 h2 h3 hs hpl⟩
end
end
section
variable {P:Program}{w:World}{K:LM}{mg:LO}{base:Heap}
open Q6 TM
theorem cv (h:H p=none)(o:HO):∃ H',L2.upd H p o=H'∧Same H H'∧H' p=some o:=⟨_,rfl,Same.upd h,ao⟩
theorem ME {ss:List dQ}(ok:jV ss):∀ (k:Nat),k < ss.length→(Ao ss).getD k 0+1≤11 * 2 ^ k:=by
 intro k
 induction k using Nat.strongRecOn with
 | ind k ih =>
  intro hk;obtain⟨t,et⟩:=bW hk;have p1:1≤2 ^ k:=Nat.one_le_two_pow;have up:∀ i ∈ t.nums,2 * ((Ao ss).getD i 0+1)≤11 * 2 ^ k:=fun i hi=>by
   have lt:=(ok k t et).num i hi;have h1:=ih i lt (by lia);have h2:2 ^ (i+1)≤2 ^ k:=cH (by decide) lt;rw[Nat.pow_succ] at h2
   lia
  rw[h8 (wn ok et)];cases t with
  | lf l=>cases l <;> simp only[nN,Qh] <;> lia
  | turned i=>have:=up i (by simp[dQ.nums]); simp only[nN]; lia
  | many a b i =>
   have:=up i (by simp[dQ.nums])
   have lt:=(ok k _ et).num i (by simp[dQ.nums])
   have:2≤2 ^ k:=aE (by decide:2≤2 ^ 1) (cH (by decide) (by lia))
   simp only[nN]; lia
  | two b i j=>have:=up i (by simp[dQ.nums]); have:=up j (by simp[dQ.nums]); simp only[nN]; lia
theorem NZ {ss:List dQ}(ok:jV ss)(h:ss.length≤8):Re ss:=fun z hz=>by
 obtain⟨k,hk⟩:=aP.mp hz;have lk:k < ss.length:=by have:=cq hk; unfold Ao at this; rw[pF] at this; exact this
 have h1:=ME ok k lk;rw[h8 hk] at h1;have h2:2 ^ k≤2 ^ 7:=cH (by decide) (by lia)
 lia
def L1 (l:Int × Int):Bool:=decide (l.1.natAbs≤3) && decide (0 < l.2) && decide (l.2≤4) && decide (Int.gcd l.1 l.2=1)
theorem EA:∀ t < 7,∀ b < 4,L1 (M11.low ((t:Nat) - 3:Int) (1+((b:Nat):Int)))=true:=by decide +kernel
theorem HA {x:Int}(h0:0≤x)(h1:x < 7)(h2:0≤y)(h3:y < 4):Br (M11.low (x - 3) (1+y)).1 (M11.low (x - 3) (1+y)).2:=by
 obtain⟨t,rfl⟩:=bc h0;obtain⟨b,rfl⟩:=bc h2
 have:=EA t (by lia) b (by lia)
 unfold L1 at this;simp only[cG,cy] at this;obtain⟨⟨⟨a1,a2⟩,a3⟩,a4⟩:=this;exact⟨by lia,a2,a3,a4⟩
theorem kg {t:Lf}(h:t≠.one):(dQ.lf t).ok k:=⟨(fun i hi=>by cases hi),(by
 cases t with
 | one=>exact absurd rfl h
 | _=>exact trivial)⟩
def Bp:dQ→Prop
 | .lf (.hue c)=>c.natAbs≤100
 | _=>True
inductive uK (K:LM)(vs:LG)(H:Hp)(Q:VK):Prop | mk (c:Int) (_:vs=[.int c]) (_:∀ (p:Addr) (ss:List dQ) (H':Hp),Same H H'→H p=none→v9 K H' p ss→jV ss→(∀ t ∈ ss,Bp t)→0 < ss.length→ss.length≤8→Q (.ref p) H'):uK K vs H Q
def BE (K:LM):Sp:=fun vs H Q _=>uK K vs H Q
abbrev Nh:LK:=["_law_cell_here","_law_digits","_law_steps_here","_law_k","_law_i","_law_j","_law_word","_law_choice"]
theorem jF:bJ Nh ["_law_cell_here"] (aB wK):=by constructor<;>first|rfl|decide +kernel
abbrev IF:LK:=["_law_cell_here","_law_many","_law_base","_law_free"]
theorem Hd (B:lE mg)(F:Fun K "_law_steps" "_law_steps" wK f fd)(DD:Dn K mg "_law_draws" oz IF fD fdD)(GD:bK P w K mg base cI 1 fD fdD IF oW)(DL:Dn K mg "_law_lowest" DH zV fL fdL)(GL:bK P w K mg base cI 1 fL fdL zV BJ):bK P w K mg base cI 2 f fd ["_law_cell_here"] (BE K):=by
 refine F.o jF fun cdv A outer s H vs Q E hr h=>?_
 ·obtain⟨c,rfl,q⟩:=h
  refine⟨_,@PV.o _ _ _ (lH (sj 1 jF.nd rfl (Or.inl rfl) (OC DD GD hr rfl (ci ⟨pv 0⟩ (ci ⟨aj⟩ (ci ⟨aj⟩ (ci ⟨vw⟩ gh))))))
   (lH (sj 2 jF.nd rfl (Or.inl rfl) (wW (ci (oh aJ (wW (ci (ja (ci ⟨cV⟩ gh)) (ci (ja (ci ⟨cV⟩ gh)) (ci (ja (ci ⟨cV⟩ gh)) (ci (ja (ci ⟨cV⟩ (ci (kB cJ (oh aJ ⟨pv 1⟩ ⟨aj⟩ fun _ _=>rfl) ⟨aj⟩) gh))) gh))))) (kB cJ (oh aJ ⟨pv 1⟩ ⟨aj⟩ fun _ _=>rfl) ⟨aj⟩) fun _ _=>rfl) gh)))
   (lH (OB PassesOwn.never rfl (⟨qo rfl B.range (@QA.o _ _ _ (ci ⟨aj⟩ (ci (kB dZ ⟨aj⟩ (kB cJ (oh aJ ⟨pv 1⟩ ⟨aj⟩ fun _ _=>rfl) ⟨aj⟩)) gh)))⟩) (NY 3 jF.nd rfl (Or.inl rfl)) (lH (sj 4 jF.nd rfl (Or.inl rfl) (kB cJ (oh aJ ⟨pv 1⟩ (kB dY ⟨aj⟩ ⟨pv 3⟩) fun _ _=>rfl) ⟨pv 3⟩))
   (lH (sj 5 jF.nd rfl (Or.inl rfl) (kB cJ (oh aJ ⟨pv 1⟩ (kB dZ (kB dY ⟨aj⟩ ⟨pv 3⟩) ⟨aj⟩) fun _ _=>rfl) ⟨pv 3⟩))
   (lH (sj 6 jF.nd rfl (Or.inl rfl) (kB cJ (oh aJ ⟨pv 1⟩ (kB dZ (kB dY ⟨aj⟩ ⟨pv 3⟩) ⟨aj⟩) fun _ _=>rfl) ⟨aj⟩))
   (lH (sj 7 jF.nd rfl (Or.inl rfl) (wW (ci (ja (ci ⟨cV⟩ gh)) (ci (ja (ci ⟨cV⟩ gh)) (ci (ja (ci ⟨cV⟩ gh)) (ci (ja (ci ⟨cV⟩ (ci ⟨pv 4⟩ gh))) (ci (ja (ci ⟨cV⟩ (ci ⟨pv 4⟩ gh))) gh)))))))
   (lH (sj 7 jF.nd rfl (Or.inl rfl) (kB oE ⟨pv 7⟩ (wW (ci (ja (ci ⟨cV⟩ (ci ⟨pv 4⟩ (ci ⟨pv 5⟩ gh)))) (ci (ja (ci ⟨cV⟩ (ci ⟨pv 4⟩ (ci ⟨pv 5⟩ gh)))) (ci (ja (ci ⟨cV⟩ (ci ⟨pv 4⟩ (ci ⟨pv 5⟩ gh)))) gh))))))
   (lH (Fm (OD bp bO bN dk ⟨pv 7⟩ (ci (ja (ci ⟨cV⟩ (ci (OC DL GL hr rfl (ci (kB mQ (kB cJ (oh aJ ⟨pv 1⟩ (kB dZ (kB dY ⟨aj⟩ ⟨pv 3⟩) ⟨aj⟩) fun _ _=>rfl) ⟨aj⟩) ⟨aj⟩) (ci (kB dZ ⟨aj⟩ (kB cJ (oh aJ ⟨pv 1⟩ (kB dY ⟨aj⟩ ⟨pv 3⟩) fun _ _=>rfl) ⟨aj⟩)) gh))) (ci ⟨pv 4⟩ gh)))) gh)))
   (Lc (Fm (OD bp bO bN dk ⟨pv 2⟩ (ci (oh aJ ⟨pv 7⟩ ⟨pv 6⟩ fun _ _=>rfl) gh)))))))))))
   (Lc (OA ⟨pv 2⟩))))),?_⟩
  refine⟨_,rfl,c,33,72,true,rfl,by decide,by decide,.inl (by decide),fun dA ds H1 dr s1 nd ed=>?_⟩;obtain⟨ld,hds⟩:=dr;have dgt:∀ {o:Int},0≤o→o < 33→lF (ds.map V.int) o=some (.int (ds.getD o.toNat 0)):=fun h0 h1=>Be h0 (by rw[ld]; exact h1)
  have em:∀ (z:Int) {b:Int},0 < b→0≤z % b∧z % b < b:=fun z b hb=>⟨cB z (by lia),cp z hb⟩
  refine⟨(by show 1≤sizeLine; decide),fun p1 n1=>?_⟩;obtain⟨H2,h2,s2,e1⟩:=cv n1 (.tup [.str "same"]); rw[h2];refine⟨(by show 1≤sizeLine; decide),fun p2 n2=>?_⟩;obtain⟨H3,h3,s3,e2⟩:=cv n2 (.tup [.str "tie"]); rw[h3];refine⟨(by show 1≤sizeLine; decide),fun p3 n3=>?_⟩;obtain⟨H4,h4,s4,e3⟩:=cv n3 (.tup [.str "all"]); rw[h4];have t4:=s2.trans (s3.trans s4);refine⟨_,rfl,dA,_,_,_,rfl,rfl,bh.of (t4 _ _ ed),dgt (by decide) (by decide),_,_,rfl,rfl,(by show (0:Int) < 4; decide),(by show 2≤sizeLine; decide),fun p4 n4=>?_⟩;obtain⟨H5,h5,s5,e4⟩:=cv n4 (.tup [.str "hue",.int (ds.getD (Int.toNat 1) 0 % 4)]); rw[h5];refine⟨(by show 4≤sizeLine; decide),fun L nL=>?_⟩;obtain⟨H6,h6,s6,eL⟩:=cv nL (.lst [.ref p1,.ref p2,.ref p3,.ref p4]); rw[h6];have t6:=s5.trans s6;refine⟨_,rfl,dA,_,_,_,rfl,rfl,bh.of (t6 _ _ (t4 _ _ ed)),dgt (by decide) (by decide),_,_,rfl,rfl,(by show (0:Int) < 4; decide),?_⟩;obtain⟨r0,r1⟩:=em (ds.getD (Int.toNat 0) 0) (b:=4) (by decide);obtain⟨r,er⟩:=bc r0;rw[er] at r1;have tn:∀ {S p:Addr} {vs:LG} {dd:LW},H6 S=none→H6 p=some (.tup vs)→DAs K (fun a=>a≠S) H6 vs dd→DA K (fun a=>a≠S) H6 (.ref p) (.tuple dd):=fun nS e d=>.tup (aU e nS) (dy.of e) d
  have hu0:=em (ds.getD (Int.toNat 1) 0) (b:=4) (by decide);obtain⟨v,t0,av,ok0,hs0,dv⟩:∃ (v:V) (t:dQ),lF [V.ref p1,.ref p2,.ref p3,.ref p4] (ds.getD (Int.toNat 0) 0 % 4)=some v∧t.ok 0∧Bp t∧∀ S,H6 S=none→DA K (fun a=>a≠S) H6 v t.dat:=by
   rw[er]
   match r,(show r < 4 by lia) with
   | 0,_=>exact⟨_,.lf .same,rfl,kg (fun z=>by cases z),trivial,fun S nS=>tn nS (t6 _ _ (s4 _ _ (s3 _ _ e1))) (.cons (.str _) .nil)⟩
   | 1,_=>exact⟨_,.lf .tie,rfl,kg (fun z=>by cases z),trivial,fun S nS=>tn nS (t6 _ _ (s4 _ _ e2)) (.cons (.str _) .nil)⟩
   | 2,_=>exact⟨_,.lf .all,rfl,kg (fun z=>by cases z),trivial,fun S nS=>tn nS (t6 _ _ e3) (.cons (.str _) .nil)⟩
   | 3,_=>exact⟨_,.lf (.hue _),rfl,kg (fun z=>by cases z),(by show Int.natAbs _≤100; lia),fun S nS=>tn nS (s6 _ _ e4) (.cons (.str _) (.cons (.int _) .nil))⟩
  refine⟨L,_,_,v,rfl,rfl,bh.of eL,av,(by show 1≤sizeLine; decide),fun S nS=>?_⟩;have t16:=s1.trans (t4.trans t6);have nS0:H S=none:=t16.free nS;have dS:=(t4.trans t6) _ _ ed;have ndS:dA≠S:=aU dS nS;obtain⟨H7,h7,s7,eS⟩:=cv nS (.lst [v]); rw[h7];have dv7:=(dv S nS).mono s7.keep (fun _ z=>z);have st7:jV [t0]:=fun k t h=>by
   match k,h with
   | 0,h=>cases h; exact ok0
  have ed7:=s7 _ _ dS;have s07:=t16.trans s7;clear e1 e2 e3 e4 eL s2 s3 s4 s5 s6 t4 t6 tn dv;refine⟨_,rfl,dA,_,_,_,rfl,rfl,bh.of ed7,dgt (by decide) (by decide),_,_,rfl,rfl,(by show (0:Int) < 8; decide),_,_,rfl,rfl,?_⟩;obtain⟨m0,m1⟩:=em (ds.getD (Int.toNat 2) 0) (b:=8) (by decide);obtain⟨m,hm⟩:=bc m0;refine⟨1,1+(m:Int),by rw[hm],⟨by decide,by decide,by lia,by lia⟩,?_⟩;rw[show (1+(m:Int) - 1).toNat=m by lia]
  let π1:LP:=fun i σ H'=>∃ (o3 o4 o5 o6 o7:LS) (us:LG) (ss:List dQ),σ=[some (.int c),some (.ref dA),some (.ref S),o3,o4,o5,o6,o7]∧(∀ b o,b≠S→H7 b=some o→H' b=some o)∧H' S=some (.lst us)∧DAs K (fun a=>a≠S) H' us (ss.map dQ.dat)∧jV ss∧(∀ t ∈ ss,Bp t)∧ss.length=i+1
  refine eV (lo:=1) (n:=m) π1 ⟨none,none,none,none,none,[v],[t0],rfl,(fun _ _ _ h=>h),eS,.cons dv7 .nil,st7,(fun t ht=>by rw[aw.mp ht]; exact hs0),rfl⟩ ?_ ?_
  ·rintro i σ H8 hi ⟨o3,o4,o5,o6,o7,us,ss,rfl,kp,eU,dU,okU,hsU,lU⟩
   have ed8:=kp _ _ ndS ed7;have k0:(0:Int) < 1+(i:Nat):=by lia
   have lu:=tX dU;rw[aa] at lu;have cm:IN 3 (1+(i:Nat)):=fi (by decide) (by decide);refine⟨_,rfl,_,rfl,_,_,rfl,rfl,cm,dA,_,_,_,rfl,rfl,bh.of (ed8),dgt (by lia) (by lia),_,rfl,_,_,rfl,rfl,k0,?_⟩;refine⟨_,rfl,_,rfl,_,_,rfl,rfl,cm,_,_,rfl,rfl,dA,_,_,_,rfl,rfl,bh.of (ed8),dgt (by lia) (by lia),_,rfl,_,_,rfl,rfl,k0,?_⟩;refine⟨_,rfl,_,rfl,_,_,rfl,rfl,cm,_,_,rfl,rfl,dA,_,_,_,rfl,rfl,bh.of (ed8),dgt (by lia) (by lia),_,_,rfl,rfl,(by show (0:Int) < 9; decide),?_⟩;obtain⟨a0,a1⟩:=em (ds.getD (3 * (1+((i:Nat):Int))).toNat 0) k0;obtain⟨b0,b1⟩:=em (ds.getD (3 * (1+((i:Nat):Int))+1).toNat 0) k0;obtain⟨w0,w1⟩:=em (ds.getD (3 * (1+((i:Nat):Int))+2).toNat 0) (b:=9) (by decide);obtain⟨f0,f1⟩:=em (ds.getD (3 * (1+((i:Nat):Int))+1).toNat 0) (b:=7) (by decide);obtain⟨g0,g1⟩:=em (ds.getD (3 * (1+((i:Nat):Int))).toNat 0) (b:=4) (by decide);obtain⟨a,ha⟩:=bc a0;obtain⟨b,hb⟩:=bc b0;obtain⟨r,hr'⟩:=bc w0;rw[ha] at a1;rw[hb] at b1;rw[hr'] at w1;have la:a < ss.length:=by lia
   have lb:b < ss.length:=by lia
   refine⟨(by show 1≤sizeLine; decide),fun t1 nt1=>?_⟩;obtain⟨A1,zt1,st1,et1⟩:=cv nt1 (.tup [.str "same"]); rw[zt1];refine⟨(by show 1≤sizeLine; decide),fun t2 nt2=>?_⟩;obtain⟨A2,zt2,st2,et2⟩:=cv nt2 (.tup [.str "tie"]); rw[zt2];refine⟨(by show 1≤sizeLine; decide),fun t3 nt3=>?_⟩;obtain⟨A3,zt3,st3,et3⟩:=cv nt3 (.tup [.str "all"]); rw[zt3];refine⟨_,rfl,(by show 2≤sizeLine; decide),fun t4 nt4=>?_⟩;obtain⟨A4,zt4,st4,et4⟩:=cv nt4 (.tup [.str "hue",.int (ds.getD (3 * (1+((i:Nat):Int))).toNat 0 % (1+((i:Nat):Int)))]); rw[zt4];refine⟨_,rfl,(by show 2≤sizeLine; decide),fun t5 nt5=>?_⟩;obtain⟨A5,zt5,st5,et5⟩:=cv nt5 (.tup [.str "turned",.int (ds.getD (3 * (1+((i:Nat):Int))).toNat 0 % (1+((i:Nat):Int)))]); rw[zt5];refine⟨(by show 5≤sizeLine; decide),fun l1 nl1=>?_⟩;obtain⟨A6,zl1,sl1,el1⟩:=cv nl1 (.lst [.ref t1,.ref t2,.ref t3,.ref t4,.ref t5]); rw[zl1];refine⟨_,rfl,?_⟩;refine⟨_,rfl,_,rfl,(by show 3≤sizeLine; decide),fun t6 nt6=>?_⟩;obtain⟨A7,zt6,st6,et6⟩:=cv nt6 (.tup [.str "then",.int (ds.getD (3 * (1+((i:Nat):Int))).toNat 0 % (1+((i:Nat):Int))),.int (ds.getD (3 * (1+((i:Nat):Int))+1).toNat 0 % (1+((i:Nat):Int)))]); rw[zt6];refine⟨_,rfl,_,rfl,(by show 3≤sizeLine; decide),fun t7 nt7=>?_⟩;obtain⟨A8,zt7,st7,et7⟩:=cv nt7 (.tup [.str "meet",.int (ds.getD (3 * (1+((i:Nat):Int))).toNat 0 % (1+((i:Nat):Int))),.int (ds.getD (3 * (1+((i:Nat):Int))+1).toNat 0 % (1+((i:Nat):Int)))]); rw[zt7];refine⟨_,rfl,_,rfl,(by show 3≤sizeLine; decide),fun t8 nt8=>?_⟩;obtain⟨A9,zt8,st8,et8⟩:=cv nt8 (.tup [.str "plus",.int (ds.getD (3 * (1+((i:Nat):Int))).toNat 0 % (1+((i:Nat):Int))),.int (ds.getD (3 * (1+((i:Nat):Int))+1).toNat 0 % (1+((i:Nat):Int)))]); rw[zt8];refine⟨(by show 3≤sizeLine; decide),fun l2 nl2=>?_⟩;obtain⟨A10,zl2,sl2,el2⟩:=cv nl2 (.lst [.ref t6,.ref t7,.ref t8]); rw[zl2];refine⟨l1,l2,_,_,rfl,rfl,sl2 _ _ (st8 _ _ (st7 _ _ (st6 _ _ el1))),el2,(by show 5+3≤sizeLine; decide),fun C nC=>?_⟩;obtain⟨A11,zC,sC,eC⟩:=cv nC (.lst [.ref t1,.ref t2,.ref t3,.ref t4,.ref t5,.ref t6,.ref t7,.ref t8]); rw[show L2.upd A10 C (.lst ([V.ref t1,.ref t2,.ref t3,.ref t4,.ref t5]++[.ref t6,.ref t7,.ref t8]))=A11 from zC];have x1':=st1.trans (st2.trans (st3.trans (st4.trans (st5.trans (sl1.trans (st6.trans (st7.trans (st8.trans sl2))))))));have x10:=sl2.trans sC;have x9:=st8.trans x10;have x8:=st7.trans x9;have x7:=st6.trans x8;have x6:=sl1.trans x7;have x5:=st5.trans x6;have x4:=st4.trans x5;have x3:=st3.trans x4;have x2:=st2.trans x3;have x1:=st1.trans x2;refine⟨_,rfl,.inl ⟨rfl,_,bh.of eC⟩,?_⟩;refine⟨_,rfl,_,rfl,_,_,rfl,rfl,cm,_,_,rfl,rfl,dA,_,_,_,rfl,rfl,bh.of (x1 _ _ ed8),dgt (by lia) (by lia),_,_,rfl,rfl,(by show (0:Int) < 7; decide),_,_,rfl,rfl,?_⟩;refine⟨_,rfl,_,rfl,_,_,rfl,rfl,cm,dA,_,_,_,rfl,rfl,bh.of (x1 _ _ ed8),dgt (by lia) (by lia),_,_,rfl,rfl,(by show (0:Int) < 4; decide),_,_,rfl,rfl,?_⟩;refine⟨_,_,rfl,by lia,?_,fun fp A12 s12 nf ef=>?_⟩
   ·exact aH (show (1+ds.getD (3 * (1+((i:Nat):Int))).toNat 0 % 4).natAbs < 2 ^ 3 by lia) (cH (by decide) (by decide))
   have gf:=HA f0 f1 g0 g1;generalize M11.low (ds.getD (3 * (1+((i:Nat):Int))+1).toNat 0 % 7 - 3) (1+ds.getD (3 * (1+((i:Nat):Int))).toNat 0 % 4)=fr at ef gf;refine⟨_,rfl,(by show 3≤sizeLine; decide),fun t9 nt9=>?_⟩;obtain⟨A13,z9,s13,et9⟩:=cv nt9 (.tup [.str "many",.ref fp,.int (ds.getD (3 * (1+((i:Nat):Int))).toNat 0 % (1+((i:Nat):Int)))]); rw[z9];have x12:=s12.trans s13;have eC13:=x12 _ _ eC;refine⟨C,_,_,rfl,rfl,eC13,(by show 8 < sizeLine; decide),?_⟩;have eU13:=(x1.trans x12) _ _ eU;have nCS:C≠S:=fun z=>by rw[z,x1' _ _ eU] at nC; cases nC
   have eC14:L2.upd A13 C (.lst ([V.ref t1,.ref t2,.ref t3,.ref t4,.ref t5,.ref t6,.ref t7,.ref t8]++[V.ref t9])) C=some (.lst [V.ref t1,.ref t2,.ref t3,.ref t4,.ref t5,.ref t6,.ref t7,.ref t8,.ref t9]):=ao;have k14:∀ {a:Addr} {o:HO},a≠C→A13 a=some o→L2.upd A13 C (.lst ([V.ref t1,.ref t2,.ref t3,.ref t4,.ref t5,.ref t6,.ref t7,.ref t8]++[V.ref t9])) a=some o:=fun h e=>by rw[aO h]; exact e
   generalize L2.upd A13 C (.lst ([V.ref t1,.ref t2,.ref t3,.ref t4,.ref t5,.ref t6,.ref t7,.ref t8]++[V.ref t9]))=A14 at eC14 k14 ⊢;have eU14:=k14 nCS.symm eU13;refine⟨_,rfl,.inl ⟨rfl,_,bh.of eU14⟩,?_⟩;have tn:∀ {p:Addr} {vs:LG} {dd:LW},A13 p=some (.tup vs)→DAs K (fun a=>a≠S) A14 vs dd→DA K (fun a=>a≠S) A14 (.ref p) (.tuple dd):=fun e d =>
    .tup (fun z=>by rw[z,eU13] at e; cases e) (dy.of (k14 (fun z=>by rw[z,eC13] at e; cases e) e)) d
   rw[ha] at et4 et5 et6 et7 et8 et9;rw[hb] at et6 et7 et8;obtain⟨v',t',av',ok',hs',dv'⟩:∃ (v:V) (t:dQ),lF [V.ref t1,.ref t2,.ref t3,.ref t4,.ref t5,.ref t6,.ref t7,.ref t8,.ref t9] (ds.getD (3 * (1+((i:Nat):Int))+2).toNat 0 % 9)=some v∧t.ok ss.length∧Bp t∧DA K (fun a=>a≠S) A14 v t.dat:=by
    rw[hr'];have o1:∀ m ∈ [a],m < ss.length:=fun m hm=>by rw[aw.mp hm]; exact la
    have o2:∀ m ∈ [a,b],m < ss.length:=fun m hm=>by
     rcases aQ.mp hm with rfl | hm
     ·exact la
     ·rw[aw.mp hm]; exact lb
    match r,(show r < 9 by lia) with
    | 0,_=>exact⟨_,.lf .same,rfl,kg (fun z=>by cases z),trivial,tn (x12 _ _ (x2 _ _ et1)) (.cons (.str _) .nil)⟩
    | 1,_=>exact⟨_,.lf .tie,rfl,kg (fun z=>by cases z),trivial,tn (x12 _ _ (x3 _ _ et2)) (.cons (.str _) .nil)⟩
    | 2,_=>exact⟨_,.lf .all,rfl,kg (fun z=>by cases z),trivial,tn (x12 _ _ (x4 _ _ et3)) (.cons (.str _) .nil)⟩
    | 3,_=>exact⟨_,.lf (.hue _),rfl,kg (fun z=>by cases z),(by show Int.natAbs _≤100; lia),tn (x12 _ _ (x5 _ _ et4)) (.cons (.str _) (.cons (.int _) .nil))⟩
    | 4,_=>exact⟨_,.turned a,rfl,⟨o1,trivial⟩,trivial,tn (x12 _ _ (x6 _ _ et5)) (.cons (.str _) (.cons (.int _) .nil))⟩
    | 5,_=>exact⟨_,.two .thn a b,rfl,⟨o2,trivial⟩,trivial,tn (x12 _ _ (x8 _ _ et6)) (.cons (.str _) (.cons (.int _) (.cons (.int _) .nil)))⟩
    | 6,_=>exact⟨_,.two .meet a b,rfl,⟨o2,trivial⟩,trivial,tn (x12 _ _ (x9 _ _ et7)) (.cons (.str _) (.cons (.int _) (.cons (.int _) .nil)))⟩
    | 7,_=>exact⟨_,.two .plus a b,rfl,⟨o2,trivial⟩,trivial,tn (x12 _ _ (x10 _ _ et8)) (.cons (.str _) (.cons (.int _) (.cons (.int _) .nil)))⟩
    | 8,_=>exact⟨_,.many fr.1 fr.2 a,rfl,⟨o1,gf⟩,trivial,tn et9 (.cons (.str _) (.cons (tn (s13 _ _ ef) (.cons (.int _) (.cons (.int _) .nil))) (.cons (.int _) .nil)))⟩
   refine⟨_,rfl,_,rfl,C,_,_,v',rfl,rfl,bh.of eC14,av',S,_,_,rfl,rfl,eU14,bo (by lia),?_⟩;have kk:∀ (b:Addr) (o:HO),b≠S→H8 b=some o→L2.upd A14 S (.lst (us++[v'])) b=some o:=fun b o hb e=>by
    rw[aO hb];refine k14 (fun z=>?_) ((x1.trans x12) _ _ e);rw[z] at e;rw[x1' _ _ e] at nC;cases nC
   refine⟨_,_,_,_,_,us++[v'],ss++[t'],rfl,fun b' o hb' e=>?_,ao,?_,okU.snoc ok',(fun t ht=>(bu.mp ht).elim (hsU t) fun z=>by rw[aw.mp z]; exact hs'),by rw[ai,lU]; rfl⟩
   ·exact kk b' o hb' (kp _ _ hb' e)
   ·rw[aM]
    exact zF (dv'.mono (fun b o hb e=>by rw[aO hb]; exact e) fun _ z=>z) (DAs.mono kk (fun _ z=>z) dU)
  ·rintro σ H8 ⟨o3,o4,o5,o6,o7,us,ss,rfl,kp,eU,dU,okU,hsU,lU⟩
   refine⟨_,rfl,q S ss H8 (fun b o e=>kp b o (aU e nS0) (s07 _ _ e)) nS0 ⟨us,eU,DAs.mono (Same.refl _).keep (fun _ _=>trivial) dU⟩ okU hsU (by lia) (by lia)⟩
end
section
abbrev Ix:=Bool × Nat × Nat
def bf {α:Type}(a b:α)(s:Bool):α:=match s with
 | false=>a
 | true=>b
def I2 (n m:Nat):List Ix:=((prs n).map fun p=>(false,p))++(prs m).map fun p=>(true,p)
def NU (N:Bool→Nat)(x:Ix):Prop:=x.2.1 < N x.1∧x.2.2 < N x.1
theorem m8 {n:Nat}{x:Ix}:x ∈ I2 n m↔NU (bf n m) x:=by
 obtain⟨s,u,v⟩:=x;unfold I2 NU;rw[bu,bg,bg]
 constructor
 ·rintro (⟨p,hp,e⟩ | ⟨p,hp,e⟩)
  ·cases e
   exact jJ.mp hp
  ·cases e
   exact jJ.mp hp
 ·intro h
  cases s with
  | false=>exact .inl ⟨(u,v),jJ.mpr h,rfl⟩
  | true=>exact .inr ⟨(u,v),jJ.mpr h,rfl⟩
variable {N:Bool→Nat}{h:Bool→Nat→Int}{w t p:Bool→Nat→Nat→Int}
def xL (t:Bool→Nat→Nat→Int)(x:Ix):Int:=t x.1 x.2.1 x.2.2
def Ac (N:Bool→Nat)(h:Bool→Nat→Int)(w t:Bool→Nat→Nat→Int)(x:Ix):Lk:=Nu (N x.1) (h x.1) (w x.1) (t x.1) x.2.1 x.2.2
def IK (N:Bool→Nat)(h:Bool→Nat→Int)(w t:Bool→Nat→Nat→Int):Prop:=∀ x y:Ix,NU N x→NU N y→xL t x=xL t y→Ac N h w t x=Ac N h w t y
theorem rP {n n':Nat}{us':LF}(sq:iD n T)(sq':iD n' T'){v u' v':Nat}(hu:u < n)(hv:v < n)(hu':u' < n')(hv':v' < n') :
  xh us M T u v=xh us' M' T' u' v'↔ent T u v=ent T' u' v'∧Nu n (gz us) (ent M) (ent T) u v=Nu n' (gz us') (ent M') (ent T') u' v':=by
 rw[←Pl sq hu hv,←Pl sq' hu' hv'];unfold xh Nv Aj;rw[KM.mk.injEq,Lk.mk.injEq];have e:∀ a b:LC,(a.map fun p=>[p.1,p.2])=(b.map fun p=>[p.1,p.2])↔a=b:=fun a b =>
  zY fun x y q=>by
   obtain⟨x1,x2⟩:=x;obtain⟨y1,y2⟩:=y;simp only[List.cons.injEq,and_true] at q;rw[q.1,q.2]
 rw[e]
section
variable {us us':LF}{M M' T T':LA}
abbrev nF (us us':LF):Bool→Nat:=bf us.length us'.length
abbrev hF (us us':LF):Bool→Nat→Int:=bf (gz us) (gz us')
abbrev eF (M M':LA):Bool→Nat→Nat→Int:=bf (ent M) (ent M')
def Kk (us us':LF)(M M' T T':LA)(x:Ix):KM:=bf (xh us M T x.2.1 x.2.2) (xh us' M' T' x.2.1 x.2.2) x.1
theorem Cm (sq:iD us.length T)(sq':iD us'.length T'){x y:Ix}(hx:NU (nF us us') x)(hy:NU (nF us us') y) :
  Kk us us' M M' T T' x=Kk us us' M M' T T' y↔xL (eF T T') x=xL (eF T T') y∧Ac (nF us us') (hF us us') (eF M M') (eF T T') x=Ac (nF us us') (hF us us') (eF M M') (eF T T') y:=by
 obtain⟨s,u,v⟩:=x;obtain⟨s',u',v'⟩:=y;cases s with
 | false=>cases s' with
  | false=>exact rP sq sq hx.1 hx.2 hy.1 hy.2
  | true=>exact rP sq sq' hx.1 hx.2 hy.1 hy.2
 | true=>cases s' with
  | false=>exact rP sq' sq hx.1 hx.2 hy.1 hy.2
  | true=>exact rP sq' sq' hx.1 hx.2 hy.1 hy.2
theorem Ez:dh [(us,M),(us',M')] [T,T']=(I2 us.length us'.length).map (Kk us us' M M' T T'):=by
 simp only[dh,List.zipWith_cons_cons,List.zipWith_nil_left,bV,lq,fe];rw[vB,vB];unfold I2;rw[aM,cu,cu]
 rfl
theorem EH:cM [T,T']=T.flatten++T'.flatten:=by simp[cM]
theorem I0 (hl:ns.length=kE [(us,M),(us',M')]):iD us.length (gN ns [(us,M),(us',M')] 0)∧iD us'.length (gN ns [(us,M),(us',M')] 1)∧ns=(gN ns [(us,M),(us',M')] 0).flatten++(gN ns [(us,M),(us',M')] 1).flatten:=by
 refine⟨qf (Ws:=[(us,M),(us',M')]) (i:=0) (W:=(us,M)) hl rfl,qf (Ws:=[(us,M),(us',M')]) (i:=1) (W:=(us',M')) hl rfl,?_⟩
 have:=mi hl
 have e:iA ns [(us,M),(us',M')]=[gN ns [(us,M),(us',M')] 0,gN ns [(us,M),(us',M')] 1]:=rfl;rw[e,EH] at this;exact this.symm
theorem zm (sq:iD us.length T)(sq':iD us'.length T'):jU [(us,M),(us',M')] [T,T']=true↔IK (nF us us') (hF us us') (eF M M') (eF T T'):=by
 have e3:qX [(us,M),(us',M')] [T,T']=true:=by simp[qX,kT.mpr sq,kT.mpr sq']
 have e2:cM [T,T']=(dh [(us,M),(us',M')] [T,T']).map (·.a):=by
  refine (mS rfl fun i W X h1 h2=>?_).symm
  match i with
  | 0=>cases h1; cases h2; exact sq
  | 1=>cases h1; cases h2; exact sq'
  | i+2=>simp at h1
 unfold jU;rw[e3,Bool.true_and,cy,e2,Eu,Ez]
 constructor
 ·intro hh x y hx hy q
  have hxm:Kk us us' M M' T T' x ∈ (I2 us.length us'.length).map (Kk us us' M M' T T'):=bg.mpr ⟨x,m8.mpr hx,rfl⟩;have hym:Kk us us' M M' T T' y ∈ (I2 us.length us'.length).map (Kk us us' M M' T T'):=bg.mpr ⟨y,m8.mpr hy,rfl⟩;have ea:∀ z:Ix,(Kk us us' M M' T T' z).a=xL (eF T T') z:=fun z=>by obtain⟨s,u,v⟩:=z; cases s <;> rfl
  exact ((Cm sq sq' hx hy).mp (hh _ hxm _ hym (by rw[ea,ea]; exact q))).2
 ·intro kk k hk k' hk' q
  obtain⟨x,hx,rfl⟩:=bg.mp hk;obtain⟨y,hy,rfl⟩:=bg.mp hk';have ea:∀ z:Ix,(Kk us us' M M' T T' z).a=xL (eF T T') z:=fun z=>by obtain⟨s,u,v⟩:=z; cases s <;> rfl
  rw[ea,ea] at q;exact (Cm sq sq' (m8.mp hx) (m8.mp hy)).mpr ⟨q,kk x y (m8.mp hx) (m8.mp hy) q⟩
end
end
section
variable {P:Program}{w:World}{K:LM}{mg:LO}{base:Heap}
inductive yt (vs:LG)(H:Hp)(Q:VK):Prop | mk (a:Addr) (T:LA) (_:vs=[.ref a]) (_:eI H a (gI T)) (_:T.flatten.length≤900) (_:∀ D H',Same H H'→H D=none→H' D=some (.lst (T.flatten.map V.int))→Q (.ref D) H'):yt vs H Q
def FW:Sp:=fun vs H Q _=>yt vs H Q
abbrev Pk:LK:=["_law_kinds","_law_found","_law_row"]
theorem wH:bJ Pk ["_law_kinds"] (aB B6):=by constructor<;>first|rfl|decide +kernel
theorem tW (h:T[i]? = some x):(T.take (i+1)).flatten=(T.take i).flatten++x:=by
 rw[fq h,gq];simp
theorem Id (T:LA)(i:Nat):(T.take i).flatten.length≤T.flatten.length:=by
 have:=congrArg (fun l=>(List.flatten l).length) (fj i T)
 simp only[gq,ai] at this
 lia
theorem JY (F:Fun K "_law_flat" "_law_flat" B6 f fd):bK P w K mg base cI 1 f fd ["_law_kinds"] FW:=by
 refine F.o wH fun cdv A outer s H vs Q E hr h=>?_
 ·obtain⟨a,T,rfl,⟨rs,ha,R⟩,hT,q⟩:=h
  refine⟨_,am (d7 1 wH.nd (cC ah))
   (am (di PassesOwn.never rfl (cU (pv 0)) (iK 2 wH.nd)
    (ar (d7 1 wH.nd (aY oE (pv 1) (pv 2)))))
   (ar (bt (pv 1)))),?_⟩
  show let ω1:TS:=_;let ω2:TS:=_;let ω3:TS:=bL (ig _ _ ω2) ω1;bL _ ω3 _ _ _;intro ω1 ω2 ω3;refine⟨aZ _,fun D0 hD0=>?_⟩;have s0:Same H (L2.upd H D0 (.lst [])):=Same.upd hD0
  let π1:LP:=fun i σ H'=>∃ (o2:LS) (D:Addr),σ=[some (.ref a),some (.ref D),o2]∧Same H H'∧H D=none∧H' D=some (.lst ((T.take i).flatten.map V.int))
  refine⟨_,rfl,a,rfl,⟨_,bh.of (s0 _ _ ha)⟩,gZ (K:=K) (xs:=rs.map V.ref) π1 ⟨none,D0,rfl,s0,hD0,ao⟩ (fun i σ H' _ ⟨_,_,_,s',_⟩=>bh.of (s' _ _ ha)) ?_ ?_⟩
  ·rintro i x σ H1 hx ⟨o2,D,rfl,s1,nD,e1⟩
   obtain⟨r,hr,rfl⟩:=bI hx;obtain⟨y,hy⟩:=bW (l:=T) (i:=i) (by rw[←dJ,←R.len]; exact cq hr);have er:=s1 _ _ (R.row i r _ hr (jb hy));have fl:=Id T (i+1);rw[tW hy,ai] at fl;refine⟨_,rfl,_,rfl,D,r,_,_,rfl,rfl,e1,er,cf (bo (by rw[aa,aa]; lia)),fun L hL=>?_⟩;refine⟨_,L,rfl,s1.trans (Same.upd hL),s1.free hL,?_⟩;rw[ao,tW hy,aM]
  ·rintro σ H1 ⟨o2,D,rfl,s1,nD,e1⟩
   rw[aa,R.len,dJ,cF] at e1;exact⟨_,rfl,q D H1 s1 nD e1⟩
theorem uw (h:X.K=K:=by rfl):iV X (.builtin "sorted") (fun xs H Q=>∃ (p:Addr) (vs:LG) (ps:LC),xs=[.ref p]∧bh K H p vs∧PsV K H vs ps∧ps.length≤60∧∀ l,H l=none→Q (.ref l) (upd H l (.lst (ow ps vs)))):=by subst h; exact xx
theorem Jb (hl:vs.length=ps.length)(h:v ∈ ow ps vs):v ∈ vs:=by
 unfold ow at h
 split at h
 ·exact h
 ·obtain⟨i,hi,rfl⟩:=bg.mp h
  have li:=(w6 (ps:=ps) (by lia)).1 i hi;rw[aR,ax (by lia)];exact E5 _
theorem vq (n:Nat):kP n n=(prs n).map fun p=>((p.1:Int),(p.2:Int)):=by
 unfold kP oj prs;rw[List.map_flatMap]
 congr 1
 funext u
 rw[cu]
 rfl
theorem Wz.hue_at {n:Nat}(W:Wz H p n hs M)(hu:u < n):lF (hs.map V.int) (u:Int)=some (.int (hs[u]?.getD 0)):=by
 obtain⟨z,hz⟩:=bW (l:=hs) (i:=u) (by rw[W.len]; exact hu);rw[hz];exact cX (by rw[aq,hz]; rfl)
theorem Wz.row_at {n:Nat}(W:Wz H p n hs M)(R:dj H rs M){v:Nat}(hu:u < n)(hv:v < n):∃ r,lF (rs.map V.ref) (u:Int)=some (.ref r)∧H r=some (.lst ((nP M u).map V.int))∧lF ((nP M u).map V.int) (v:Int)=some (.int (ent M u v)):=by
 have sq:iD n M:=⟨W.sq.len,fun r hr=>by
  obtain⟨j,hj⟩:=aP.mp hr
  exact (W.sq.row j r hj).1⟩
 obtain⟨r,x,h1,h2,h3⟩:=R.get (i:=u) (by rw[R.len,W.sq.len]; exact hu);have e:=(sq.row hu).1;rw[h2] at e;cases e;exact⟨r,fJ h1,h3,ji sq hu hv⟩
structure p7 (K:LM)(n:Bool→Nat)(h:Bool→Nat→Int)(m t:Bool→Nat→Nat→Int)(N:Addr)(dn:List Ix)(kvs:List (iX × V))(H':Hp):Prop where
 at':H' N=some (.dK kvs)
 len:kvs.length≤dn.length
 has:∀ x ∈ dn,∃ y,jt kvs (Sum.inl (xL t x))=some y
 is:∀ (k:Int) (y:V),jt kvs (Sum.inl k)=some y→∃ x ∈ dn,xL t x=k∧DA K (fun a=>a≠N) H' y (N7 (Ac n h m t x))
 kin:∀ x ∈ dn,∀ y ∈ dn,xL t x=xL t y→Ac n h m t x=Ac n h m t y
theorem p7.start {n:Bool→Nat}{m t:Bool→Nat→Nat→Int}(e:H' N=some (.dK [])):p7 K n h m t N [] [] H' :=
 ⟨e,au _,(fun x z=>by cases z),(fun k y z=>by cases z),fun x z=>by cases z⟩
theorem p7.same {n:Bool→Nat}{m t:Bool→Nat→Nat→Int}{dn:List Ix}(I:p7 K n h m t N dn kvs H')(s:Same H' H2):p7 K n h m t N dn kvs H2 :=
 ⟨s _ _ I.at',I.len,I.has,fun k y e=>let ⟨x,a,b,c⟩:=I.is k y e; ⟨x,a,b,c.mono s.keep fun _ h=>h⟩,I.kin⟩
theorem p7.step {n:Bool→Nat}{m t:Bool→Nat→Nat→Int}{dn:List Ix}{z:Ix}(I:p7 K n h m t N dn kvs H3)(dl:DA K (fun a=>a≠N) H3 (.ref l) (N7 (Ac n h m t z)))(ha:∀ x ∈ dn,xL t x=xL t z→Ac n h m t x=Ac n h m t z) :
  p7 K n h m t N (dn++[z]) (kO kvs (Sum.inl (xL t z)) (.ref l)) (L2.upd H3 N (.dK (kO kvs (Sum.inl (xL t z)) (.ref l)))):=by
 have mem:∀ {x:Ix},x ∈ dn++[z]→x ∈ dn ∨ x=z:=fun hx=>by
  rcases bu.mp hx with q | q
  ·exact .inl q
  ·exact .inr (aw.mp q)
 refine⟨ao,?_,fun x hx=>?_,fun k y e=>?_,fun x hx y hy e=>?_⟩
 ·have:=Jz kvs (Sum.inl (xL t z):iX) (.ref l)
  have:=I.len
  rw[ai];show _≤dn.length+1
  lia
 ·rw[xT]
  split
  ·exact⟨_,rfl⟩
  ·rename_i ne
   rcases mem hx with q | rfl
   ·exact I.has x q
   ·exact absurd rfl ne
 ·rw[xT] at e
  split at e
  ·rename_i ek
   cases e;exact⟨z,by simp,(Sum.inl.inj ek).symm,dl.mono (fun a o h e=>by rw[aO h]; exact e) fun _ h=>h⟩
  ·obtain⟨x,g1,g2,g3⟩:=I.is k y e
   exact⟨x,cW _ g1,g2,g3.mono (fun a o h e=>by rw[aO h]; exact e) fun _ h=>h⟩
 ·rcases mem hx with q | rfl
  ·rcases mem hy with r | rfl
   ·exact I.kin x q y r e
   ·exact ha x q e
  ·rcases mem hy with r | rfl
   ·exact (ha y r e.symm).symm
   ·rfl
theorem Ls (σ:L2.St)(o:LS)(x:V):(σ++[o]).set σ.length (some x)=σ++[some x]:=by
 rw[iH _ _ (au _),il]
 rfl
theorem Kv {N:Nat}{Q:VK}(hN:σ.length=N)(f:V→Bool)(ha:H1 a=some (.lst xs))(hz:xs.length≤90000)(ht:∀ (v:V) (H':Hp) (R:Bool→Hp→Prop),v ∈ xs→Same H1 H'→R (f v) H'→tt (σ++[some v]) H' R)(he:∀ (v:V) (H':Hp) (R:VK),R v H'→te (σ++[some v]) H' R)(hd:∀ (D:Addr) (H':Hp),Same H1 H'→H' D=some (.lst (xs.filter f))→Q (.ref D) H'):Ow 1 (uC K a) (kW N) tt te σ H1 Q:=by
 subst hN;intro D hD;refine⟨fun i m ys H'=>m=xs.length - i∧i≤xs.length∧ys=(xs.take i).filter f∧Same H1 H'∧H' D=some (.lst ys),⟨xs.length,by simp,aZ _,rfl,Same.upd hD,ao⟩,?_⟩;rintro i m ys H2 ⟨rfl,hi,rfl,s2,eD⟩;refine⟨eD,?_⟩
 by_cases hlt:i < xs.length
 ·have hv:xs[i]? = some xs[i]:=ax hlt
  generalize xs[i]=v at hv;refine .inr ⟨⟨_,_,bh.of (s2 _ _ ha),hv⟩,?_⟩;rintro z H3 ⟨rfl,hz'⟩ os los;have hz':=hz' _ (bh.of (s2 _ _ ha));rw[hv] at hz';cases hz'
  match os,los with
  | [o],_ =>
   refine⟨⟨[some v],Ls σ o _,rfl⟩,?_⟩;rw[Ls σ o _];have sn:(xs.take (i+1)).filter f=(xs.take i).filter f++(if f v=true then [v] else []):=by
    rw[fq hv,List.filter_append]
    congr 1
    by_cases e:f v=true
    ·rw[List.filter_cons_of_pos e,if_pos e]; rfl
    ·rw[List.filter_cons_of_neg e,if_neg e]; rfl
   have lr:((xs.take i).filter f).length≤i:=by
    refine aE (List.length_filter_le _ _) ?_;rw[bB]
    lia
   refine ht v _ _ (ae hv) s2 ?_
   by_cases e:f v=true
   ·rw[if_pos e] at sn
    rw[e,if_pos rfl];exact he v _ _ ⟨eD,bU (show _≤90000 by lia) (by decide),xs.length - (i+1),by lia,rfl,hlt,sn.symm,(fun b o e=>by rw[aO (aU e hD)]; exact s2 _ _ e),ao⟩
   ·rw[if_neg e,fe] at sn
    have e':f v=false:=by simpa using e
    rw[e',if_neg (by decide)];exact⟨xs.length - (i+1),by lia,rfl,hlt,sn.symm,s2,eD⟩
 ·have:i=xs.length:=by lia
  subst this;rw[cF] at eD;exact .inl ⟨⟨_,bh.of (s2 _ _ ha),au _⟩,hd D H2 s2 eD⟩
def vD (H:Hp)(n:Nat):V→Bool
 | .ref r=>match H r with
  | some (.lst ys)=>decide (ys.length≠n)
  | _=>false
 | _=>false
theorem tK {n:Nat}(e:H r=some (.lst ys)):vD H n (.ref r)=decide (ys.length≠n):=by
 show (match H r with | some (.lst ys)=>decide (ys.length≠n) | _=>false)=_;rw[e]
theorem zJ {ok:Addr→Prop}(f:V→Bool):∀ {vs:LG} {ds:LW},DAs K ok H vs ds→∃ es,DAs K ok H (vs.filter f) es∧(PyData.canLayAll0 ds=true→PyData.canLayAll0 es=true)∧PyData.depthAll es≤PyData.depthAll ds
 | _,_,.nil=>⟨[],.nil,fun _=>rfl,au _⟩
 | v :: vs,d :: ds,.cons a r=>by
  obtain⟨es,h1,h2,h3⟩:=zJ f r
  by_cases c:f v=true
  ·rw[List.filter_cons_of_pos c]
   refine⟨d :: es,.cons a h1,fun z=>?_,?_⟩
   ·simp only[PyData.canLayAll0,cG] at z ⊢
    exact⟨z.1,h2 z.2⟩
   ·simp only[PyData.depthAll]
    lia
  ·rw[List.filter_cons_of_neg c]
   refine⟨es,h1,fun z=>?_,?_⟩
   ·simp only[PyData.canLayAll0,cG] at z
    exact h2 z.2
   ·simp only[PyData.depthAll]
    lia
theorem CQ (l:LW):PyData.eqv (.list l) (.list [])=l.isEmpty:=by cases l <;> rfl
inductive ym (K:LM)(vs:LG)(H:Hp)(Q:VK):Prop | mk (ws tb w1 w2 a b:Addr) (n m:Nat) (hs hs':LF) (M M' T T':LA) (_:vs=[.ref ws,.ref tb]) (_:bh K H ws [.ref w1,.ref w2]) (_:bh K H tb [.ref a,.ref b]) (_:n≤7) (_:m≤7) (_:Wz H w1 n hs M) (_:Wz H w2 m hs' M') (_:eI H a (gI T)) (_:eI H b (gI T')) (_:T.length≤900) (_:T'.length≤900) (_:∀ (r:Bool) (H':Hp),Same H H'→(r=true↔(iD n T∧iD m T')∧IK (bf n m) (bf (gz hs) (gz hs')) (bf (ent M) (ent M')) (bf (ent T) (ent T'))∧T.flatten.Perm T'.flatten)→Q (.bl r) H'):ym K vs H Q
def FS (K:LM):Sp:=fun vs H Q _=>ym K vs H Q
def QR (e:Expr):Expr:=match e with
 | .Compare a _ _ _=>a
 | _=>.Constant .none 0 ⟨0,0,0,0⟩
def RL (e:Expr)(i:Nat):Expr:=match e with
 | .BoolOp _ es _=>es.getD i (.Constant .none 0 ⟨0,0,0,0⟩)
 | _=>.Constant .none 0 ⟨0,0,0,0⟩
def NV (s:Stmt):Expr:=match s with
 | .If c _ _ _=>c
 | _=>.Constant .none 0 ⟨0,0,0,0⟩
abbrev Hw:LK:=["_law_webs","_law_tables_here","_law_looks_here","_law_web_here","_law_kinds","_law_hues","_law_rows","_law_u","_law_v","_law_thirds","_law_look"]
theorem iM:bJ Hw ["_law_webs","_law_tables_here"] (aB qK):=by constructor<;>first|rfl|decide +kernel
theorem Ct:cw (aB qK) Hw (cz (QR (RL (NV (mj (cT qK 1) 1)) 1))) ["_law_row"]:=by constructor<;>first|rfl|decide +kernel
theorem NF:cw (aB qK) Hw (cz (pV (dq (mj (mj (cT qK 2) 1) 0)) 0)) ["_law_w"]:=by constructor<;>first|rfl|decide +kernel
theorem JR (B:qa mg)(F:Fun K "_law_kin" "_law_kin" qK f fd)(DP:Dn K mg "_law_pairs" oy ["_law_many"] fP fdP)(GP:bK P w K mg base cI 1 fP fdP ["_law_many"] (wu K))(DF:Dn K mg "_law_flat" B6 ["_law_kinds"] fF fdF)(GF:bK P w K mg base cI 1 fF fdF ["_law_kinds"] FW):bK P w K mg base cI 2 f fd ["_law_webs","_law_tables_here"] (FS K):=by
 refine F.o iM fun cdv A outer s H vs Q E hr h=>?_
 ·obtain⟨ws,tb,w1,w2,ta,tb',n,m,hs,hs',M,M',T,T',rfl,hws,htb,hn,hm,W1,W2,gA,gB,hT9,hT9',q⟩:=h
  have r1:=hr.mono (j:=1) (by decide);have hn8:n≤8:=by lia
  have hm8:m≤8:=by lia
  refine⟨_,am (d7 2 iM.nd yO)
   (dH (di PassesOwn.never rfl (oC rfl B.zip (ad (pv 0) (ad (pv 1) ah))) (gp rfl (bY (iK 3 iM.nd) (bY (iK 4 iM.nd) eJ)))
    (am (gx (pv 3) (gp rfl (bY (iK 5 iM.nd) (bY (iK 6 iM.nd) eJ))))
    (ar (cK (PW.pt (Cc (bF qN (bQ bT (by rfl) B.len bE (ad (pv 4) ah)) (bQ bT (by rfl) B.len bE (ad (pv 5) ah)) (bG _)) (Ay (bF (l5 hr.units) (GY rfl Ct rfl (cU (pv 4)) (GX Ct) (fun _ _ _=>JA (bF qN (bQ (kY (K:=K)) (by rfl) B.len bE (ad (pv 11) ah)) (bQ (kY (K:=K)) (by rfl) B.len bE (ad (pv 5) ah)) (bG _))) fun _ _ _=>pv 11) (cC ah) (bG _))))) (ar (bt vw)) bX))))
   (am (di PassesOwn.never rfl (oC rfl B.zip (ad (pv 0) (ad (pv 1) ah))) (gp rfl (bY (iK 3 iM.nd) (bY (iK 4 iM.nd) eJ)))
    (am (gx (pv 3) (gp rfl (bY (iK 5 iM.nd) (bY (iK 6 iM.nd) eJ))))
    (ar (di PassesOwn.never rfl (cU (bw DP GP hr rfl (ad (bQ bT (by rfl) B.len bE (ad (pv 5) ah)) ah))) (gp rfl (bY (iK 7 iM.nd) (bY (iK 8 iM.nd) eJ)))
     (am (d7 9 iM.nd (bQ (uw (K:=K)) (by rfl) B.sorted pU (ad (gE rfl NF rfl (dB rfl B.range (ad (bQ bT (by rfl) B.len bE (ad (pv 5) ah)) ah))
      (fun _ _ _=>dc (ad (aG (ij (K:=K)) (aG (ij (K:=K)) (pv 4) (pv 7)) (pv 11)) (ad (aG (ij (K:=K)) (aG (ij (K:=K)) (pv 4) (pv 11)) (pv 8)) ah)))) ah)))
     (am (d7 10 iM.nd (dc (ad (fh cE (pv 7) (pv 8) (bG _)) (ad (aG aJ (aG aJ (pv 6) (pv 7)) (pv 8)) (ad (aG aJ (pv 5) (pv 7)) (ad (aG aJ (pv 5) (pv 8))
      (ad (aG aJ (aG aJ (pv 4) (pv 8)) (pv 7)) (ad (pv 9) ah))))))))
     (am (cK (bF (l5 hr.units) (GZ (Md hr) (pv 2) (aG aJ (aG aJ (pv 4) (pv 7)) (pv 8)) (pv 10) ⟨rfl,rfl,rfl,rfl⟩) (pv 10) (bG _)) (ar (bt vw)) bX)
     (ar (JB (Md hr) (pv 2) (aG aJ (aG aJ (pv 4) (pv 7)) (pv 8)) (pv 10) rfl)))))))))
   (ar (bt (fh (oD hr.units) (bQ ko (by rfl) B.sorted pU (ad (bw DF GF r1 rfl (ad (aG aJ (pv 1) aj) ah)) ah)) (bQ ko (by rfl) B.sorted pU (ad (bw DF GF r1 rfl (ad (aG aJ (pv 1) aj) ah)) ah)) (bG _)))))),?_⟩
  show let ω1:TS:=_;let ω2:TS:=_;let ω3:TS:=_;let ω4:TS:=bL (eK _ ω3 _) ω2;let ω5:TS:=bL _ ω4;let ω6:TS:=bL _ ω5;let ω7:TS:=(ig _ _ ω6);let ω8:TS:=bL _ ω7;let ω9:TS:=bL (ig _ _ ω8) ω1;let ω10:TS:=_;let ω11:TS:=(eK _ ω10 _);let ω12:TS:=bL _ ω11;let ω13:TS:=ju (ig _ _ ω12) ω9;bL _ ω13 _ _ _;intro ω1 ω2 ω3 ω4 ω5 ω6 ω7 ω8 ω9 ω10 ω11 ω12 ω13;intro N hN;have s0:Same H (L2.upd H N (.dK [])):=Same.upd hN;have e0:L2.upd H N (.dK []) N=some (.dK []):=ao;generalize L2.upd H N (.dK [])=H0 at s0 e0 ⊢
  let ψ1:LQ:=fun σ H'=>∃ (o3 o4 o5 o6:LS),σ=[some (.ref ws),some (.ref tb),some (.ref N),o3,o4,o5,o6,none,none,none,none]∧Same H0 H'∧iD n T∧iD m T'
  refine⟨ψ1,?_,?_⟩
  ·have inv:∀ {k:Nat} {x y:V},([.ref w1,.ref w2]:LG)[k]? = some x→([.ref ta,.ref tb']:LG)[k]? = some y→∃ (wk tk:Addr) (j:Nat) (hk:LF) (Mk Tk:LA),x=.ref wk∧y=.ref tk∧Wz H wk j hk Mk∧eI H tk (gI Tk)∧Tk.length≤900∧(¬ iD j Tk→¬ (iD n T∧iD m T'))∧(iD j Tk→((0 < k→iD n T)∧(1 < k→iD m T'))→(0 < k+1→iD n T)∧(1 < k+1→iD m T')):=fun {k x y} hx hy=>by
    match k,hx,hy with
    | 0,hx,hy=>cases hx; cases hy; exact⟨w1,ta,n,hs,M,T,rfl,rfl,W1,gA,hT9,fun z y=>z y.1,fun z _=>⟨fun _=>z,fun y=>absurd y (by lia)⟩⟩
    | 1,hx,hy=>cases hx; cases hy; exact⟨w2,tb',m,hs',M',T',rfl,rfl,W2,gB,hT9',fun z y=>z y.2,fun z w=>⟨fun _=>w.1 (by lia),fun _=>z⟩⟩
    | k+2,hx,_=>simp at hx
   refine⟨_,rfl,_,rfl,ws,tb,rfl,⟨_,s0.seq hws⟩,⟨_,s0.seq htb⟩,?_⟩
   let π2:LP:=fun k σ H'=>∃ (o3 o4 o5 o6:LS),σ=[some (.ref ws),some (.ref tb),some (.ref N),o3,o4,o5,o6,none,none,none,none]∧Same H0 H'∧(0 < k→iD n T)∧(1 < k→iD m T')
   refine xm (K:=K) (a:=ws) (b:=tb) (xs:=[.ref w1,.ref w2]) (ys:=[.ref ta,.ref tb']) rfl
    π2 ⟨none,none,none,none,rfl,Same.refl _,fun z=>absurd z (by lia),fun z=>absurd z (by lia)⟩ (fun i σ H' _ ⟨_,_,_,_,_,s',_⟩=>⟨(s0.trans s').seq hws,(s0.trans s').seq htb⟩) ?_ (fun σ H' ⟨o3,o4,o5,o6,e,s',z1,z2⟩=>⟨o3,o4,o5,o6,e,s',z1 (by show 0 < 2; decide),z2 (by show 1 < 2; decide)⟩)
   rintro k x y t0 σ H1 hx hy ⟨o3,o4,o5,o6,rfl,s1,old⟩ ht0;obtain⟨wk,tk,j,hk,Mk,Tk,rfl,rfl,Wk,gk,l9,bad,good⟩:=inv hx hy;refine⟨t0,_,rfl,dy.of ao,rfl,_,_,rfl,_,_,rfl,rfl,?_⟩;obtain⟨H2,h2,s2,_⟩:=cv ht0 (.tup [.ref wk,.ref tk]); rw[h2];have s12:=s1.trans s2;have s02:=s0.trans s12;obtain⟨hA,rA,rs,v1,v2,v3,Rk⟩:=(Wk.same s02).wr.ex;obtain⟨ts,eb,GT⟩:=gk.mono s02;have lt:(ts.map V.ref).length=Tk.length:=by rw[aa,GT.len,dJ]
   have lh:(hk.map V.int).length=j:=by rw[aa,Wk.len]
   refine⟨_,rfl,wk,_,rfl,dy.of v1,rfl,_,_,rfl,_,_,rfl,rfl,?_⟩;refine⟨_,rfl,tk,_,rfl,.inl (bh.of eb),_,rfl,hA,_,rfl,.inl (bh.of v2),rfl,_,rfl,?_⟩;have out:∀ H3,Same H2 H3→¬ iD j Tk→Q (.bl false) H3:=fun H3 s3 ns=>q false H3 (s02.trans s3) ⟨(fun z=>by cases z),fun z=>absurd z.1 (bad ns)⟩
   by_cases c:¬ Tk.length=j
   ·refine qT (by rw[lt,lh]; exact fun z=>c (by have:=V.int.inj z; lia)) ?_
    exact out H2 (Same.refl _) fun z=>c z.1
   have c:=Classical.not_not.mp c;refine qS (by rw[lt,lh,c]) ?_;refine⟨_,rfl,tk,rfl,⟨_,bh.of eb⟩,?_⟩;have row:∀ {v:V},v ∈ ts.map V.ref→∃ (r:Addr) (x:LF),v=.ref r∧x ∈ Tk∧H2 r=some (.lst (x.map V.int)):=fun {v} hv=>by
    obtain⟨r,hr',rfl⟩:=bg.mp hv;obtain⟨i,hi⟩:=aP.mp hr';obtain⟨x,hx⟩:=bW (l:=Tk) (i:=i) (by rw[←dJ,←GT.len]; exact cq hi);exact⟨r,x,rfl,ae hx,GT.row i r _ hi (jb hx)⟩
   refine Kv rfl (vD H2 j) eb (by rw[lt]; lia) (fun v H' R' hv s' hR=>?_) (fun v H' R' hR=>⟨_,rfl,hR⟩) (fun D H3 s3 eD=>?_)
   ·obtain⟨r,x,rfl,_,er⟩:=row hv
    refine⟨_,rfl,r,_,rfl,.inl (bh.of (s' _ _ er)),_,rfl,hA,_,rfl,.inl (bh.of (s' _ _ v2)),rfl,?_⟩
    have:vD H2 j (.ref r)=!decide (V.int ((x.map V.int).length:Int)=V.int ((hk.map V.int).length:Int)):=by
     rw[tK er,lh,gK,Bool.not_eq_true',cy,decide_eq_false_iff_not];exact⟨fun z y=>z (by have:=V.int.inj y; lia),fun z y=>z (by rw[y])⟩
    rw[←this];exact⟨_,rfl,hR⟩
   ·refine⟨aZ _,fun L hL=>?_⟩
    obtain⟨H4,h4,s4,eL⟩:=cv hL (.lst []); rw[h4];obtain⟨es,d1,d2,d3⟩:=zJ (vD H2 j) (pN (K:=K) (H:=H2) (M:=Tk) (rs:=ts) (by rw[GT.len,dJ]) fun i r x e1 e2=>GT.row i r _ e1 (jb e2));obtain⟨y1,y2⟩:=pw Tk;have s34:=s3.trans s4;refine⟨.list es,.list [],.lst trivial (bh.of (s4 _ _ eD)) (DAs.mono s34.keep (fun _ _=>trivial) d1),.lst trivial (bh.of eL) .nil,⟨by simp only[PyData.canLay0]; exact d2 y1,rfl,by simp only[PyData.depth]; lia⟩,_,rfl,?_⟩;rw[CQ];have le:=tX d1;cases es with
    | nil =>
     refine oG ⟨_,_,_,_,rfl,s12.trans s34,good ⟨c,fun x hx=>?_⟩ old⟩;obtain⟨i,hi⟩:=aP.mp hx;obtain⟨r,hr'⟩:=bW (l:=ts) (i:=i) (by rw[GT.len,dJ]; exact cq hi);have er:=GT.row i r _ hr' (jb hi);refine Classical.not_not.mp fun ne=>?_
     have:V.ref r ∈ (ts.map V.ref).filter (vD H2 j):=se.mpr ⟨bg.mpr ⟨r,ae hr',rfl⟩,by rw[tK er]; simpa using ne⟩
     rw[List.length_eq_zero_iff.mp le] at this;cases this
    | cons e es =>
     refine re (out _ s34 fun z=>?_);have ne:(ts.map V.ref).filter (vD H2 j)≠[]:=fun y=>by rw[y] at le; cases le
     obtain⟨v,hv⟩:=List.exists_mem_of_ne_nil _ ne;obtain⟨hv1,hv2⟩:=se.mp hv;obtain⟨r,x,rfl,hx,er⟩:=row hv1;rw[tK er] at hv2;simp[z.2 x hx] at hv2
  rintro σ H0' ⟨p3,p4,p5,p6,rfl,s0',sqA,sqB⟩;have s0:=s0.trans s0';have e0:=s0' _ _ e0;have b1:n * n≤8 * 8:=bP hn8 hn8;have b2:m * m≤8 * 8:=bP hm8 hm8;have lp:∀ j,(prs j).length=j * j:=fun j=>by have:=congrArg List.length (vq j); rw[hZ,aa] at this; lia
  have dns:∃ dn:Nat→List Ix,dn 0=[]∧dn 1=(prs n).map (fun p=>(false,p))∧dn 2=I2 n m:=⟨fun k=>if k=0 then [] else if k=1 then (prs n).map (fun p=>(false,p)) else I2 n m,rfl,rfl,rfl⟩;obtain⟨dn,dn0,dn1,dn2⟩:=dns;refine⟨_,rfl,_,rfl,ws,tb,rfl,⟨_,s0.seq hws⟩,⟨_,s0.seq htb⟩,?_⟩;refine xm (K:=K) (a:=ws) (b:=tb) (xs:=[.ref w1,.ref w2]) (ys:=[.ref ta,.ref tb']) rfl
   (fun k σ H'=>∃ (o3 o4 o5 o6 o7 o8 o9 o10:LS) (kvs:List (iX × V)),σ=[some (.ref ws),some (.ref tb),some (.ref N),o3,o4,o5,o6,o7,o8,o9,o10]∧Same H H'∧p7 K (bf n m) (bf (gz hs) (gz hs')) (bf (ent M) (ent M')) (bf (ent T) (ent T')) N (dn k) kvs H') ?_ ?_ ?_ ?_
  ·exact⟨p3,p4,p5,p6,none,none,none,none,[],rfl,s0,by rw[dn0]; exact p7.start e0⟩
  ·exact fun i σ H' _ ⟨_,_,_,_,_,_,_,_,_,_,s',_⟩=>⟨s'.seq hws,s'.seq htb⟩
  ·rintro k x y t0 σ H1 hx hy ⟨o3,o4,o5,o6,o7,o8,o9,o10,kvs,rfl,s1,KJ⟩ ht0
   have prt:∃ (wk tk:Addr) (sk:Bool) (hk:LF) (Mk Tk:LA),x=.ref wk∧y=.ref tk∧dn (k+1)=dn k++(prs (bf n m sk)).map (fun p=>(sk,p))∧Wz H wk (bf n m sk) hk Mk∧eI H tk (gI Tk)∧iD (bf n m sk) Tk∧bf n m sk≤8∧bf (gz hs) (gz hs') sk=gz hk∧bf (ent M) (ent M') sk=ent Mk∧bf (ent T) (ent T') sk=ent Tk:=by
    match k,hx,hy with
    | 0,hx,hy =>
     cases hx;cases hy;exact⟨w1,ta,false,hs,M,T,rfl,rfl,by rw[dn0,dn1]; rfl,W1,gA,sqA,hn8,rfl,rfl,rfl⟩
    | 1,hx,hy =>
     cases hx;cases hy;exact⟨w2,tb',true,hs',M',T',rfl,rfl,by rw[dn1,dn2]; rfl,W2,gB,sqB,hm8,rfl,rfl,rfl⟩
    | k+2,hx,_=>simp at hx
   have ldk:(dn k).length≤64:=by
    match k,hx with
    | 0,_=>rw[dn0]; exact aZ _
    | 1,_=>rw[dn1,aa,lp]; lia
    | k+2,hx=>simp at hx
   obtain⟨wk,tk,sk,hk,Mk,Tk,rfl,rfl,edn,Wk,gk,sqk,hnk,eh,eM,eT⟩:=prt;rw[edn];generalize hj:bf n m sk=j at Wk sqk hnk;have bj:j * j≤8 * 8:=bP hnk hnk;refine⟨t0,_,rfl,dy.of ao,rfl,_,_,rfl,_,_,rfl,rfl,?_⟩;have s2:Same H1 (L2.upd H1 t0 (.tup [.ref wk,.ref tk])):=Same.upd ht0;generalize L2.upd H1 t0 (.tup [.ref wk,.ref tk])=H2 at s2 ⊢;have s02:=s1.trans s2;obtain⟨hA,rA,rs,v1,v2,v3,Rk⟩:=(Wk.same s02).wr.ex;refine⟨_,rfl,wk,_,rfl,dy.of v1,rfl,_,_,rfl,_,_,rfl,rfl,?_⟩;refine⟨_,rfl,hA,_,rfl,.inl (bh.of v2),?_⟩;have lh:(hk.map V.int).length=j:=by rw[aa,Wk.len]
   rw[lh];refine⟨j,rfl,by lia,fun C L H3 s3 nC eC pC=>⟨C,rfl,⟨_,bh.of eC⟩,?_⟩⟩;have s03:=s02.trans s3;have lL:L.length=j * j:=by rw[pC.1,hZ]
   have eN3:=(KJ.same (s2.trans s3)).at';have CN:C≠N:=fun z=>by rw[z,(KJ.same s2).at'] at nC; cases nC
   let π3:LP:=fun i σ H'=>∃ (o7 o8 o9 o10:LS) (kvs:List (iX × V)),σ=[some (.ref ws),some (.ref tb),some (.ref N),some (.ref wk),some (.ref tk),some (.ref hA),some (.ref rA),o7,o8,o9,o10]∧Same H H'∧(∀ a o,a≠N→H3 a=some o→H' a=some o)∧p7 K (bf n m) (bf (gz hs) (gz hs')) (bf (ent M) (ent M')) (bf (ent T) (ent T')) N (dn k++((prs j).take i).map fun p=>(sk,p)) kvs H'
   refine gZ (K:=K) (xs:=L) π3 ?_ ?_ ?_ ?_
   ·refine⟨_,_,_,_,kvs,rfl,s03,fun a o _ e=>e,?_⟩
    show p7 K _ _ _ _ N (dn k++[]) kvs H3;rw[fe];exact KJ.same (s2.trans s3)
   ·rintro i σ H' _ ⟨o7,o8,o9,o10,kvs,rfl,_,kp,_⟩
    exact bh.of (kp _ _ CN eC)
   ·rintro i x σ H4 hx ⟨o7,o8,o9,o10,kvs,rfl,s4,kp,KI⟩
    have hi:i < j * j:=by rw[←lL]; exact cq hx
    have hlen:=KI.len;rw[ai,aa,bB] at hlen;obtain⟨pr,hpr⟩:=bW (l:=kP j j) (i:=i) (by rw[hZ]; exact hi);have hpr0:=hpr;rw[vq] at hpr;obtain⟨⟨u,v⟩,huv,rfl⟩:=bI hpr;obtain⟨hu,hv⟩:=jJ.mp (ae huv);obtain⟨t,rfl,et⟩:=pC.2 i x _ hx hpr0;have et2:=kp _ _ (fun z=>by rw[z,eN3] at et; cases et) et;refine⟨t,_,rfl,dy.of et2,rfl,_,_,rfl,_,_,rfl,rfl,?_⟩;have k4:∀ {a:Addr} {o:HO},(∀ kv,o≠.dK kv)→H2 a=some o→H4 a=some o:=fun {a o} no e=>kp _ _ (fun z=>by
     have e3:=s3 _ _ e
     rw[z,eN3] at e3
     exact no _ (aW e3).symm) (s3 _ _ e)
    have v2':=k4 (fun _ z=>by cases z) v2;refine⟨_,rfl,hA,_,rfl,.inl (bh.of v2'),(j:Int),by rw[lh],by lia,by lia,fun D hD=>?_⟩;rw[bC];obtain⟨ts,eb,GT⟩:=gk.mono s4;obtain⟨ru,hru,eru⟩:=tV GT sqk hu;obtain⟨rv,hrv,erv⟩:=tV GT sqk hv;refine kQ (n:=j) (fun d ys H'=>Same H4 H'∧H' D=some (.lst ys)∧PsV K H' ys ((List.range d).map fun w=>(ent Tk u w,ent Tk w v))∧∀ a,V.ref a ∈ ys→H4 a=none) ⟨Same.upd hD,ao,.nil,fun a h=>by cases h⟩ (fun d ys H' _ h=>h.2.1) ?_ ?_ ?_
    ·rintro d ys H5 hd ⟨s5,eD,pD,nD⟩
     have e0:((0:Int)+(d:Nat))=(d:Int):=by lia
     rw[e0];obtain⟨ri,hri,eri⟩:=tV GT sqk hd;refine⟨_,rfl,_,rfl,tk,_,_,_,rfl,rfl,bh.of (s5 _ _ eb),fJ hru,_,rfl,ru,_,_,_,rfl,rfl,bh.of (s5 _ _ eru),ji sqk hu hd,?_⟩;refine⟨_,rfl,_,rfl,tk,_,_,_,rfl,rfl,bh.of (s5 _ _ eb),fJ hri,_,rfl,ri,_,_,_,rfl,rfl,bh.of (s5 _ _ eri),ji sqk hd hv,?_⟩;refine⟨(by show 2≤sizeLine; decide),fun t ht=>?_⟩;have s6:Same H5 (L2.upd H5 t (.tup [.int (ent Tk u d),.int (ent Tk d v)])):=Same.upd ht;have e6:L2.upd H5 t (.tup [.int (ent Tk u d),.int (ent Tk d v)]) t=some (.tup [.int (ent Tk u d),.int (ent Tk d v)]):=ao;generalize L2.upd H5 t (.tup [.int (ent Tk u d),.int (ent Tk d v)])=H6 at s6 e6 ⊢;have ly:ys.length=d:=by rw[pD.1,aa,b9]
     refine⟨s6 _ _ eD,bo (by lia),fun b' o e=>?_,ao,?_,fun a ha=>?_⟩
     ·rw[aO (aU e hD)]
      exact s6 _ _ (s5 _ _ e)
     ·rw[gn,aM]
      exact ((pD.same s6).app (L2.PsV.one (p:=(ent Tk u d,ent Tk d v)) e6)).upd (s6 _ _ eD)
     ·rcases bu.mp ha with z | z
      ·exact nD a z
      ·cases aw.mp z
       exact s5.free ht
    ·rintro ys H5 ⟨s5,eD,pD,nD⟩
     have l6:((List.range j).map fun w=>(ent Tk u w,ent Tk w v)).length≤60:=by rw[aa,b9]; lia
     refine⟨D,ys,_,rfl,bh.of eD,pD,l6,fun l hl=>?_⟩;have s6:Same H5 (L2.upd H5 l (.lst (ow ((List.range j).map fun w=>(ent Tk u w,ent Tk w v)) ys))):=Same.upd hl;have e6:L2.upd H5 l (.lst (ow ((List.range j).map fun w=>(ent Tk u w,ent Tk w v)) ys)) l=some (.lst (ow ((List.range j).map fun w=>(ent Tk u w,ent Tk w v)) ys)):=ao;have pS:=(BA (K:=K) pD).same s6;generalize L2.upd H5 l (.lst (ow ((List.range j).map fun w=>(ent Tk u w,ent Tk w v)) ys))=H6 at s6 e6 pS ⊢;have s46:=s5.trans s6;have s06:=s4.trans s46;have Rk6:dj H6 rs Mk:=Rk.keep fun r hr o e=>by
      obtain⟨i',hi'⟩:=aP.mp hr;obtain⟨y,hy⟩:=bW (l:=Mk) (i:=i') (by rw[←Rk.len]; exact cq hi')
      have:=Rk.row i' r y hi' hy
      rw[e] at this;cases this;exact s46 _ _ (k4 (fun _ z=>by cases z) e)
     obtain⟨mu,a1,a2,a3⟩:=(Wk.same s06).row_at Rk6 hu hv;have v3':=s46 _ _ (k4 (fun _ z=>by cases z) v3);have v2'':=s46 _ _ v2';refine⟨_,rfl,_,rfl,rfl,?_⟩;refine⟨_,rfl,_,rfl,rA,_,_,_,rfl,rfl,bh.of v3',a1,_,rfl,mu,_,_,_,rfl,rfl,bh.of a2,a3,?_⟩;refine⟨_,rfl,_,rfl,hA,_,_,_,rfl,rfl,bh.of v2'',Wk.hue_at hu,?_⟩;refine⟨_,rfl,_,rfl,hA,_,_,_,rfl,rfl,bh.of v2'',Wk.hue_at hv,?_⟩;refine⟨_,rfl,_,rfl,tk,_,_,_,rfl,rfl,bh.of (s46 _ _ eb),fJ hrv,_,rfl,rv,_,_,_,rfl,rfl,bh.of (s46 _ _ erv),ji sqk hv hu,?_⟩;refine⟨_,rfl,(by show 6≤sizeLine; decide),fun lt ht=>?_⟩;rw[pM];have s7:Same H6 (L2.upd H6 lt (.tup [.bl (decide (u=v)),.int (ent Mk u v),.int (hk[u]?.getD 0),.int (hk[v]?.getD 0),.int (ent Tk v u),.ref l])):=Same.upd ht;have e7:L2.upd H6 lt (.tup [.bl (decide (u=v)),.int (ent Mk u v),.int (hk[u]?.getD 0),.int (hk[v]?.getD 0),.int (ent Tk v u),.ref l]) lt=some (.tup [.bl (decide (u=v)),.int (ent Mk u v),.int (hk[u]?.getD 0),.int (hk[v]?.getD 0),.int (ent Tk v u),.ref l]):=ao;generalize L2.upd H6 lt (.tup [.bl (decide (u=v)),.int (ent Mk u v),.int (hk[u]?.getD 0),.int (hk[v]?.getD 0),.int (ent Tk v u),.ref l])=H7 at s7 e7 ⊢;have s47:=s46.trans s7;have s07:=s4.trans s47;have eN4:=KI.at';have neN:∀ a,H4 a=none→a≠N:=fun a h z=>by rw[z,eN4] at h; cases h
     have elk:Ac (bf n m) (bf (gz hs) (gz hs')) (bf (ent M) (ent M')) (bf (ent T) (ent T')) (sk,u,v)=Nu j (gz hk) (ent Mk) (ent Tk) u v:=by
      show Nu (bf n m sk) (bf (gz hs) (gz hs') sk) (bf (ent M) (ent M') sk) (bf (ent T) (ent T') sk) u v=_;rw[hj,eh,eM,eT]
     have ek:xL (bf (ent T) (ent T')) (sk,u,v)=ent Tk u v:=by
      show bf (ent T) (ent T') sk u v=_;rw[eT]
     have dl:DA K (fun a=>a≠N) H7 (.ref lt) (N7 (Ac (bf n m) (bf (gz hs) (gz hs')) (bf (ent M) (ent M')) (bf (ent T) (ent T')) (sk,u,v))):=by
      rw[elk];exact .tup (neN _ (s46.free ht)) (dy.of e7) (.cons (.bl _) (.cons (.int _) (.cons (.int _) (.cons (.int _) (.cons (.int _) (.cons (.lst (neN _ (s5.free hl)) (bh.of (s7 _ _ e6)) (Gv (pS.same s7) fun a _ m=>neN a (nD a (Jb pD.1 m)))) .nil))))))
     have KI7:=KI.same s47;have eN7:=KI7.at';have eb7:=s47 _ _ eb;have eru7:=s47 _ _ eru;have lz:kvs.length < sizeLine:=bo (by lia);have etk:dn k++((prs j).take (i+1)).map (fun p=>(sk,p))=(dn k++((prs j).take i).map fun p=>(sk,p))++[(sk,u,v)]:=by
      rw[fq huv,aM,oN]
      rfl
     have tail:(∀ x ∈ dn k++((prs j).take i).map fun p=>(sk,p),xL (bf (ent T) (ent T')) x=xL (bf (ent T) (ent T')) (sk,u,v)→Ac (bf n m) (bf (gz hs) (gz hs')) (bf (ent M) (ent M')) (bf (ent T) (ent T')) x=Ac (bf n m) (bf (gz hs) (gz hs')) (bf (ent M) (ent M')) (bf (ent T) (ent T')) (sk,u,v)) →
       ∃ (o7 o8 o9 o10:LS) (kvs':List (iX × V)),[some (.ref ws),some (.ref tb),some (.ref N),some (.ref wk),some (.ref tk),some (.ref hA),some (.ref rA),some (.int (u:Int)),some (.int (v:Int)),some (.ref l),some (.ref lt)]=[some (.ref ws),some (.ref tb),some (.ref N),some (.ref wk),some (.ref tk),some (.ref hA),some (.ref rA),o7,o8,o9,o10]∧Same H (L2.upd H7 N (.dK (kO kvs (Sum.inl (ent Tk u v)) (.ref lt))))∧(∀ a o,a≠N→H3 a=some o→L2.upd H7 N (.dK (kO kvs (Sum.inl (ent Tk u v)) (.ref lt))) a=some o)∧p7 K (bf n m) (bf (gz hs) (gz hs')) (bf (ent M) (ent M')) (bf (ent T) (ent T')) N (dn k++((prs j).take (i+1)).map fun p=>(sk,p)) kvs' (L2.upd H7 N (.dK (kO kvs (Sum.inl (ent Tk u v)) (.ref lt)))):=fun ha=>by
      have st:=KI7.step dl ha;rw[ek,←etk] at st;exact⟨_,_,_,_,_,rfl,(fun a o e=>by rw[aO (aU e hN)]; exact s07 _ _ e),(fun a o ne e=>by rw[aO ne]; exact s47 _ _ (kp _ _ ne e)),st⟩
     refine⟨_,rfl,N,rfl,.inl ⟨_,.inl eN7⟩,_,rfl,_,rfl,tk,_,_,_,rfl,rfl,bh.of eb7,fJ hru,_,rfl,ru,_,_,_,rfl,rfl,bh.of eru7,ji sqk hu hv,_,rfl,_,(show E8 _ N (V.int (ent Tk u v)) (jt kvs (Sum.inl (ent Tk u v))) from E8.k (k:=Sum.inl (ent Tk u v)) eN7),?_⟩;cases hval:jt kvs (Sum.inl (ent Tk u v)) with
     | none =>
      refine⟨_,rfl,_,_,dl.mono (rj.refl _ _) fun _ _=>trivial,dl.mono (rj.refl _ _) fun _ _=>trivial,⟨zn.lay _,zn.lay _,aE (zn.dep _) (by decide)⟩,_,rfl,?_⟩;rw[zn.eqv,cn rfl];refine oG ?_;refine⟨_,rfl,_,rfl,_,rfl,_,rfl,tk,_,_,_,rfl,rfl,bh.of eb7,fJ hru,_,rfl,ru,_,_,_,rfl,rfl,bh.of eru7,ji sqk hu hv,N,_,rfl,(show z8 _ N (V.int (ent Tk u v)) _ _ from z8.k (k:=Sum.inl (ent Tk u v)) eN7 lz),?_⟩;refine tail fun x hx' e=>?_
      obtain⟨y,hy⟩:=KI.has x hx';rw[e,ek,hval] at hy;cases hy
     | some y =>
      obtain⟨x,g1,g2,g3⟩:=KI.is _ _ hval;refine⟨_,rfl,_,_,(g3.mono s47.keep fun _ _=>trivial),dl.mono (rj.refl _ _) fun _ _=>trivial,⟨zn.lay _,zn.lay _,aE (zn.dep _) (by decide)⟩,_,rfl,?_⟩;rw[zn.eqv]
      by_cases el:Ac (bf n m) (bf (gz hs) (gz hs')) (bf (ent M) (ent M')) (bf (ent T) (ent T')) x=Ac (bf n m) (bf (gz hs) (gz hs')) (bf (ent M) (ent M')) (bf (ent T) (ent T')) (sk,u,v)
      ·rw[cn el]
       refine oG ?_;refine⟨_,rfl,_,rfl,_,rfl,_,rfl,tk,_,_,_,rfl,rfl,bh.of eb7,fJ hru,_,rfl,ru,_,_,_,rfl,rfl,bh.of eru7,ji sqk hu hv,N,_,rfl,(show z8 _ N (V.int (ent Tk u v)) _ _ from z8.k (k:=Sum.inl (ent Tk u v)) eN7 lz),?_⟩;refine tail fun x2 hx2 e=>?_
       rw[←el];exact KI.kin x2 hx2 x g1 (e.trans (ek.trans g2.symm))
      ·rw[bH el]
       refine re ?_;have inx:NU (bf n m) x:=by
        rcases bu.mp g1 with z | z
        ·match k,hx with
         | 0,_=>rw[dn0] at z; cases z
         | 1,_ =>
          rw[dn1] at z;obtain⟨p',hp',rfl⟩:=bg.mp z;exact jJ.mp hp'
         | k+2,_=>exact absurd (show _ from ‹([V.ref w1,V.ref w2]:LG)[k+2]? = some _›) (by simp)
        ·obtain⟨p',hp',rfl⟩:=bg.mp z
         have:=jJ.mp (gc hp')
         exact⟨by show p'.1 < bf n m sk; rw[hj]; exact this.1,by show p'.2 < bf n m sk; rw[hj]; exact this.2⟩
       refine q false H7 s07 ⟨(fun z=>by cases z),fun z=>absurd (z.2.1 x (sk,u,v) inx ⟨by show u < bf n m sk; rw[hj]; exact hu,by show v < bf n m sk; rw[hj]; exact hv⟩ (g2.trans ek.symm)) el⟩
    ·rintro σ H' Q1 Q2 hq ⟨v1,e1,v2,e2,a1,a2,a3,a4,b1,b2,b3,b4,v3,e3,c1,c2,c3,c4,d1,d2,d3,d4,v4,e4,v5,e5,f1,f2,f3,f4,g1,g2,g3,g4,v6,e6,h1,h2,h3,h4,i1,i2,i3,i4,z,g⟩
     exact⟨v1,e1,v2,e2,a1,a2,a3,a4,b1,b2,b3,b4,v3,e3,c1,c2,c3,c4,d1,d2,d3,d4,v4,e4,v5,e5,f1,f2,f3,f4,g1,g2,g3,g4,v6,e6,h1,h2,h3,h4,i1,i2,i3,i4,z,fun t ht=>hq _ _ (g t ht)⟩
   ·rintro σ H4 ⟨o7,o8,o9,o10,kvs,rfl,s4,kp,KI⟩
    rw[lL,dE (by rw[lp]; exact au _)] at KI;exact⟨_,_,_,_,_,_,_,_,kvs,rfl,s4,KI⟩
  ·rintro σ H1 ⟨o3,o4,o5,o6,o7,o8,o9,o10,kvs,rfl,s1,KJ⟩
   have KJ2:p7 K (bf n m) (bf (gz hs) (gz hs')) (bf (ent M) (ent M')) (bf (ent T) (ent T')) N (dn 2) kvs H1:=KJ;rw[dn2] at KJ2;have kin:IK (bf n m) (bf (gz hs) (gz hs')) (bf (ent M) (ent M')) (bf (ent T) (ent T')):=fun x y hx hy e=>KJ2.kin x (m8.mpr hx) y (m8.mpr hy) e
   have c1:n * n≤7 * 7:=bP hn hn;have c2:m * m≤7 * 7:=bP hm hm;have f1:=pI sqA;have f2:=pI sqB;refine⟨_,rfl,tb,_,_,_,rfl,rfl,s1.seq htb,jT _ _,ta,T,rfl,gA.mono s1,by lia,fun D H2 s2 n2 e2=>?_⟩;refine⟨D,_,rfl,bh.of e2,by lia,fun S ss hS pS oS=>?_⟩;obtain⟨H3,h3,s3,e3⟩:=cv hS (.lst (ss.map V.int)); rw[h3];have s13:=s2.trans s3;refine⟨_,rfl,tb,_,_,_,rfl,rfl,(s1.trans s13).seq htb,g8 _ _ _,tb',T',rfl,gB.mono (s1.trans s13),by lia,fun D' H4 s4 n4 e4=>?_⟩;refine⟨D',_,rfl,bh.of e4,by lia,fun S' ss' hS' pS' oS'=>?_⟩;obtain⟨H5,h5,s5,e5⟩:=cv hS' (.lst (ss'.map V.int)); rw[h5];refine⟨_,_,Is (K:=K) (ok:=any) trivial (bh.of (s5 _ _ (s4 _ _ e3))),Is (K:=K) (ok:=any) trivial (bh.of e5),⟨(iQ _).1,(iQ _).1,aE (iQ _).2 (by decide)⟩,?_⟩;refine q _ _ (s1.trans (s13.trans (s4.trans s5))) ?_;rw[xo,cy,yB pS oS pS' oS'];exact⟨fun z=>⟨⟨sqA,sqB⟩,kin,z⟩,fun z=>z.2.2⟩
open Q6 TM
def ud (T:LA):Prop:=T.length≤20∧∀ r ∈ T,r.length≤20∧∀ z ∈ r,z.natAbs≤10000
theorem ud.ok (h:ud T):IH T:=⟨by have:=h.1; lia,fun r hr=>by have:=(h.2 r hr).1; lia⟩
theorem jA (q:Rat):(j4 q).canLay0=true∧(j4 q).depth≤2:=by
 simp[j4,PyData.canLay0,PyData.canLayAll0,PyData.depth,PyData.depthAll]
theorem Ig (x y:Rat):PyData.eqv (j4 x) (j4 y)=decide (x=y):=by
 rw[gK,cy];unfold j4
 constructor
 ·intro h
  simp only[PyData.eqv,PyData.eqvAll,cG,Bool.and_true,beq_iff_eq,cy] at h;exact Rat.ext h.1 (by have:=h.2; lia)
 ·rintro rfl
  exact PySem.SeqAt.eqv_refl _ (jA x).1
def p9 (H:Hp)(v:V)(q:Rat):Prop:=∃ p pr,v=.ref p∧H p=some (ou pr)∧Q6.IsFr q pr∧M11.Bn 14000 pr.1∧M11.Bn 14000 pr.2
theorem iI.wid (h:iI H v q):p9 H v q:=let ⟨p,pr,a,b,c,d,e⟩:=h; ⟨p,pr,a,b,c,d.mono (by decide),e.mono (by decide)⟩
theorem p9.mono (h:p9 H v q)(s:Same H H'):p9 H' v q:=let ⟨p,pr,a,b,c⟩:=h; ⟨p,pr,a,s _ _ b,c⟩
theorem p9.da (h:p9 H v q):DA K any H v (j4 q):=by
 obtain⟨p,pr,rfl,hp,hf,_⟩:=h;obtain rfl:=hf.uniq (zq q);exact .tup trivial (dy.of hp) (.cons (.int _) (.cons (.int _) .nil))
theorem xp {u:V}{x y:Rat}{Q:VK}(h:p9 H u x)(k:p9 H v y)(q:Q (.bl (decide (x=y))) H):MX K u v H Q :=
 ⟨_,_,h.da,k.da,⟨(jA x).1,(jA y).1,aE (jA x).2 (by decide)⟩,by rw[Ig]; exact q⟩
structure Ri (H:Hp)(wA oA a b:Addr)(n m:Nat)(hs hs':LF)(M M' T T':LA):Prop where
 w1:Wz H wA n hs M
 w2:Wz H oA m hs' M'
 n7:n≤7
 m7:m≤7
 g1:eI H a (gI T)
 g2:eI H b (gI T')
 b1:ud T
 b2:ud T'
def Ml (n m:Nat)(hs hs':LF)(M M' T T':LA):Prop:=(iD n T∧iD m T')∧IK (bf n m) (bf (gz hs) (gz hs')) (bf (ent M) (ent M')) (bf (ent T) (ent T'))∧T.flatten.Perm T'.flatten
def oU (hs:LF)(M:LA)(ss:List dQ)(n:Nat):Rat:=sm ((AN hs M ss).getD (ss.length - 1) F0) (n * n)
inductive uP (K:LM)(vs:LG)(H:Hp)(Q:VK):Prop | mk (wA oA pA:Addr) (_:vs=[.ref wA,.ref oA,.ref pA]) (_:((∃ (a b:Addr) (n m:Nat) (hs hs':LF) (M M' T T':LA),dy K H pA [.str "alike",.ref a,.ref b]∧Ri H wA oA a b n m hs hs' M M' T T'∧∀ (r:Bool) (H':Hp),Same H H'→(r=true↔Ml n m hs hs' M M' T T')→Q (.bl r) H') ∨ (∃ (st:Addr) (u v:V) (x y:Rat) (n m:Nat) (hs hs':LF) (M M':LA) (ss:List dQ),dy K H pA [.str "unlike",.ref st,u,v]∧II K H wA st ss hs M n∧II K H oA st ss hs' M' m∧0 < ss.length∧p9 H u x∧p9 H v y∧∀ (H':Hp),Same H H'→Q (.bl (decide (x≠y∧oU hs M ss n=x∧oU hs' M' ss m=y))) H'))):uP K vs H Q
def wv (K:LM):Sp:=fun vs H Q _=>uP K vs H Q
theorem Jk:bJ ["web","other","paper"] ["web","other","paper"] (aB wP):=by constructor<;>first|rfl|decide +kernel
theorem IE (x y z u:V)(xs:LG):lF (x :: y :: z :: u :: xs) 3=some u:=cX (xs:=x :: y :: z :: u :: xs) (j:=3) rfl
theorem Hm (F:Fun K "look_pairs" "look_pairs" wP f fd)(DA:Dn K mg "are_kin" rJ ["web","other","kinds","kinds_there"] fA fdA)(GA:bK P w K mg base cI 6 fA fdA ["web","other","kinds","kinds_there"] (yz K))(DM:Dn K mg "as_many_of_each" rH ["kinds","kinds_there"] fM fdM)(GM:bK P w K mg base cI 2 fM fdM ["kinds","kinds_there"] yy)(DT:Dn K mg "steps_total" wI ["web","steps"] fT fdT)(GT:bK P w K mg base cI 9 fT fdT ["web","steps"] (rB K)):bK P w K mg base cI 10 f fd ["web","other","paper"] (wv K):=by
 refine F.o Jk fun cdv A outer s H vs Q E hr h=>?_
 ·obtain⟨wA,oA,pA,rfl,h⟩:=h
  have r6:=hr.mono (j:=6) (by decide);have r2:=hr.mono (j:=2) (by decide);refine⟨_,am (cK (bF cE (aG bM (pv 2) aj) cV (bG _))
    (ar (bt (tu (bw DA GA r6 rfl (ad (pv 0) (ad (pv 1) (ad (aG bM (pv 2) aj) (ad (aG bM (pv 2) aj) ah))))) (tp (bw DM GM r2 rfl (ad (aG bM (pv 2) aj) (ad (aG bM (pv 2) aj) ah))))))) bX)
   (am (cK (bF (oD hr.units) (aG bM (pv 2) aj) (aG bM (pv 2) aj) (bG _)) (ar (bt vw)) bX)
   (ar (bt (tu (fh (oD hr.units) (bw DT GT hr rfl (ad (pv 0) (ad (aG bM (pv 2) aj) ah))) (aG bM (pv 2) aj) (bG _))
    (tp (fh (oD hr.units) (bw DT GT hr rfl (ad (pv 1) (ad (aG bM (pv 2) aj) ah))) (aG bM (pv 2) aj) (bG _))))))),?_⟩
  show let ω1:TS:=_;let ω2:TS:=_;let ω3:TS:=bL (eK _ ω2 _) ω1;let ω4:TS:=_;bL (eK _ ω4 _) ω3 _ _ _;intro ω1 ω2 ω3 ω4;rcases h with ⟨a,b,n,m,hs,hs',M,M',T,T',hp,hA,q⟩ | ⟨st,u,v,x,y,n,m,hs,hs',M,M',ss,hp,h1,h2,h0,fu,fv,q⟩
  ·refine⟨_,rfl,pA,_,_,_,rfl,rfl,hp,jT _ _,rfl,_,rfl,dO rfl ?_⟩
   have n7:=hA.n7;have m7:=hA.m7;have l1:=hA.w1.len;have l2:=hA.w2.len;refine⟨_,rfl,_,rfl,_,rfl,pA,_,_,_,rfl,rfl,hp,g8 _ _ _,_,rfl,pA,_,_,_,rfl,rfl,hp,mX _ _ _ _,.ref wA,.ref oA,a,b,(hs,M),(hs',M'),T,T',rfl,hA.w1.wbn,hA.w2.wbn,hA.g1,hA.g2,by show hs.length≤8; lia,by show hs'.length≤8; lia,hA.b1.ok,hA.b2.ok,fun H1 s1=>⟨_,rfl,?_⟩⟩;have kp:jU [(hs,M),(hs',M')] [T,T']=true↔(iD n T∧iD m T')∧IK (bf n m) (bf (gz hs) (gz hs')) (bf (ent M) (ent M')) (bf (ent T) (ent T')):=by
    have hsq:jU [(hs,M),(hs',M')] [T,T']=true→iD n T∧iD m T':=fun z=>by
     unfold jU at z;rw[cG] at z;have z1:=z.1;simp only[qX,nW,List.zip_nil_right,List.all_cons,List.all_nil,Bool.and_true,cG,kT] at z1;rw[l1,l2] at z1;exact z1
    constructor
    ·intro z
     have sq:=hsq z
     have:=(zm (us:=hs) (us':=hs') (M:=M) (M':=M') (by rw[l1]; exact sq.1) (by rw[l2]; exact sq.2)).mp z
     unfold nF hF eF at this;rw[l1,l2] at this;exact⟨sq,this⟩
    ·rintro⟨sq,z⟩
     refine (zm (us:=hs) (us':=hs') (M:=M) (M':=M') (by rw[l1]; exact sq.1) (by rw[l2]; exact sq.2)).mpr ?_;unfold nF hF eF;rw[l1,l2];exact z
   cases hk:jU [(hs,M),(hs',M')] [T,T'] with
   | false =>
    refine oG ?_;refine q false H1 s1 ⟨(fun z=>by cases z),fun z=>?_⟩;rw[kp.mpr ⟨z.1,z.2.1⟩] at hk;cases hk
   | true =>
    refine re ?_;have kin:=kp.mp hk;have c1:n * n≤7 * 7:=bP n7 n7;have c2:m * m≤7 * 7:=bP m7 m7;have f1:=pI kin.1.1;have f2:=pI kin.1.2;refine⟨_,rfl,pA,_,_,_,rfl,rfl,s1.seqT hp,g8 _ _ _,_,rfl,pA,_,_,_,rfl,rfl,s1.seqT hp,mX _ _ _ _,a,b,T,T',rfl,hA.g1.mono s1,hA.g2.mono s1,by lia,by lia,fun r H2 s2 hr2=>q r H2 (s1.trans s2) ?_⟩;rw[hr2];exact⟨fun z=>⟨kin.1,kin.2,z⟩,fun z=>z.2.2⟩
  ·refine⟨_,rfl,pA,_,_,_,rfl,rfl,hp,jT _ _,rfl,_,rfl,cr (qY (by decide +kernel)) ?_⟩
   refine⟨_,rfl,pA,_,_,_,rfl,rfl,hp,mX _ _ _ _,_,rfl,pA,_,_,_,rfl,rfl,hp,IE _ _ _ _ _,xp fu fv ⟨_,rfl,?_⟩⟩
   by_cases c:x=y
   ·refine dO c ?_
    have:=q H (Same.refl _)
    rw[bH fun z=>z.1 c] at this;exact this
   refine cr c ?_;refine⟨_,rfl,_,rfl,pA,_,_,_,rfl,rfl,hp,g8 _ _ _,wA,st,ss,hs,M,n,rfl,h1,h0,fun t1 H1 s1 f1=>?_⟩;refine⟨_,rfl,pA,_,_,_,rfl,rfl,s1.seqT hp,mX _ _ _ _,xp f1.wid (fu.mono s1) ⟨_,rfl,?_⟩⟩
   by_cases c1:oU hs M ss n=x
   ·refine dO c1 ?_
    refine⟨_,rfl,_,rfl,pA,_,_,_,rfl,rfl,s1.seqT hp,g8 _ _ _,oA,st,ss,hs',M',m,rfl,h2.mono s1,h0,fun t2 H2 s2 f2=>?_⟩;refine⟨_,rfl,pA,_,_,_,rfl,rfl,(s1.trans s2).seqT hp,IE _ _ _ _ _,xp f2.wid ((fv.mono s1).mono s2) ?_⟩
    have:=q H2 (s1.trans s2)
    by_cases c2:oU hs' M' ss m=y
    ·rw[cn ⟨c,c1,c2⟩] at this
     rw[cn (show sm _ _=y from c2)];exact this
    ·rw[bH fun z=>c2 z.2.2] at this
     rw[bH (show ¬ sm _ _=y from c2)];exact this
   ·refine cr c1 ?_
    have:=q H1 s1
    rw[bH fun z=>c1 z.2.1] at this;exact this
end
section
variable {P:Program}{w:World}{K:LM}{mg:LO}{base:Heap}
structure L4 where
 b:Bool
 x:Int
 y:Int
 z:Int
 deriving DecidableEq
def PM (k:L4):PyData:=.tuple [.bool k.b,.int k.x,.int k.y,.int k.z]
def OE (k:L4):LG:=[.bl k.b,.int k.x,.int k.y,.int k.z]
theorem N5 {k:L4}(e:H p=some (.tup (OE k))):DA K any H (.ref p) (PM k):=.tup trivial (dy.of e) (.cons (.bl _) (.cons (.int _) (.cons (.int _) (.cons (.int _) .nil))))
theorem xk:KD PM:=by
 refine⟨fun k=>rfl,fun k=>?_,fun a b=>?_⟩
 ·simp[PM,PyData.depth,PyData.depthAll]
 ·obtain⟨a1,a2,a3,a4⟩:=a
  obtain⟨b1,b2,b3,b4⟩:=b;simp only[PM,PyData.eqv,PyData.eqvAll];simp only[L4.mk.injEq,Bool.decide_and];cases a1 <;> cases b1 <;> simp <;> rfl
def oq (H:Hp)(vs:LG)(ks:List L4):Prop:=vs.length=ks.length∧∀ (i:Nat) (v:V) (k:L4),vs[i]? = some v→ks[i]? = some k→∃ p,v=.ref p∧H p=some (.tup (OE k))
theorem oq.keep {ks:List L4}(h:oq H vs ks)(k:∀ (p:Addr) (xs:LG),H p=some (.tup xs)→H' p=some (.tup xs)):oq H' vs ks :=
 ⟨h.1,fun i v x e1 e2=>let ⟨p,e,g⟩:=h.2 i v x e1 e2; ⟨p,e,k _ _ g⟩⟩
theorem oq.das {ks:List L4}(h:oq H vs ks):DAs K any H vs (ks.map PM):=by
 refine Ip (by rw[aa]; exact h.1) fun i y d e1 e2=>?_
 obtain⟨k,hk,rfl⟩:=bI e2;obtain⟨p,rfl,e⟩:=h.2 i y k e1 hk;exact N5 e
theorem oq.snoc {ks:List L4}{k:L4}(h:oq H vs ks)(e:H p=some (.tup (OE k))):oq H (vs++[.ref p]) (ks++[k]):=by
 refine⟨by rw[ai,ai,h.1]; rfl,fun i v x e1 e2=>?_⟩;rcases dg e1 with z | ⟨z,rfl⟩
 ·have:=cq z
  rw[be (by rw[←h.1]; exact this)] at e2;exact h.2 i v x z e2
 ·rw[z,h.1,aV (au _),il] at e2
  cases e2;exact⟨p,rfl,e⟩
theorem wg (e:H a=some (.lst xs))(o:HO):∀ (p:Addr) (ys:LG),H p=some (.tup ys)→L2.upd H a o p=some (.tup ys):=fun p ys h=>by
 rw[aO fun z=>by rw[z,e] at h; cases h]; exact h
def ue (H:Hp)(S:Addr)(c:Nat):Prop:=∃ (vs:LG) (ks:List L4),H S=some (.lst vs)∧oq H vs ks∧ks.length≤c
def Ou (x:LF):Prop:=∀ z ∈ x,z.natAbs≤200
structure PZ (H1 H':Hp)(D:Addr)(n:Nat)(rs:LI)(X:LA):Prop where
 at':H' D=some (.lst (rs.map V.ref))
 gv:xJ H' rs (gI X)
 nd:rs.Nodup
 new:∀ r ∈ rs,r≠D∧H1 r=none
 row:∀ x ∈ X,x.length=n∧Ou x
def Ab (S:Addr)(H H':Hp):Prop:=∀ b o,b≠S→H b=some o→H' b=some o
theorem vc (s:Same H H'):Ab S H H':=fun b o _ e=>s b o e
theorem Ab.free (s:Ab S H H')(e:H' S=some o)(h:H' a=none):H a=none:=by
 cases z:H a with
 | none=>rfl
 | some x =>
  by_cases c:a=S
  ·rw[c,e] at h; cases h
  ·rw[s a x c z] at h; cases h
def K4 (S X:Addr)(H H':Hp)(t:Addr)(j:Nat)(T:LA):Prop:=∃ rs:LI,H' t=some (.lst (rs.map V.ref))∧xJ H' rs (gI T)∧H t=none∧rs.Nodup∧(∀ r ∈ rs,r≠t∧H r=none)∧(∀ b ∈ t :: rs,b≠S∧b≠X)∧iD j T∧∀ x ∈ T,Ou x
theorem K4.keep {X:Addr}{t:Addr}(h:K4 S X H H' t j T)(k:∀ b o,b≠S→b≠X→H' b=some o→H2 b=some o):K4 S X H H2 t j T:=by
 obtain⟨rs,h1,h2,h3,h4,h5,h6,h7⟩:=h;have nt:=h6 t aK;exact⟨rs,k _ _ nt.1 nt.2 h1,⟨h2.len,fun i r x e1 e2=>let n:=h6 r (aC _ (ae e1)); k _ _ n.1 n.2 (h2.row i r x e1 e2)⟩,h3,h4,h5,h6,h7⟩
theorem ue.same (h:ue H S c)(s:Same H H'):ue H' S c:=by
 obtain⟨vs,ks,e,d,l⟩:=h;exact⟨vs,ks,s _ _ e,d.keep fun _ _ z=>s _ _ z,l⟩
theorem ue.updL (h:ue H S c)(e:H a=some (.lst xs))(n:a≠S):ue (L2.upd H a o) S c:=by
 obtain⟨vs,ks,e1,d,l⟩:=h;exact⟨vs,ks,by rw[aO n.symm]; exact e1,d.keep (wg e o),l⟩
abbrev Nk:LK:=["_law_web_here","_law_other","_law_seen","_law_tables_here","_law_hues","_law_rows","_law_table","_law_u","_law_row","_law_v","_law_look"]
theorem jf:bJ Nk ["_law_web_here","_law_other"] (aB wO):=by constructor<;>first|rfl|decide +kernel
structure QV (H H':Hp)(a b:Addr)(n m:Nat)(T T':LA):Prop where
 g1:mz H H' a (gI T)
 g2:mz H H' b (gI T')
 ap:uq H' a b
 s1:iD n T
 s2:iD m T'
 i1:∀ x ∈ T,Ou x
 i2:∀ x ∈ T',Ou x
inductive uO (vs:LG)(H:Hp)(Q:VK):Prop | mk (wA oA:Addr) (n m:Nat) (hs hs':LF) (M M':LA) (_:vs=[.ref wA,.ref oA]) (_:Wz H wA n hs M) (_:Wz H oA m hs' M') (_:n≤7) (_:m≤7) (_:∀ (p a b:Addr) (T T':LA) (H':Hp),Same H H'→H' p=some (.tup [.ref a,.ref b])→QV H H' a b n m T T'→Q (.ref p) H'):uO vs H Q
def BM (K:LM):Sp:=fun vs H Q _=>uO vs H Q
theorem Hl (B:qa mg)(F:Fun K "_law_looks" "_law_looks" wO f fd):bK P w K mg base cI 1 f fd ["_law_web_here","_law_other"] (BM K):=by
 refine F.o jf fun cdv A outer s H vs Q E hr h=>?_
 ·obtain⟨wA,oA,n,m,hs,hs',M,M',rfl,W1,W2,hn,hm,q⟩:=h
  refine⟨_,am (d7 2 jf.nd (cC ah))
   (am (d7 3 jf.nd (cC ah))
   (am (di PassesOwn.never rfl (cU (cC (ad (pv 0) (ad (pv 1) ah)))) (gp rfl (bY (iK 4 jf.nd) (bY (iK 5 jf.nd) eJ)))
    (am (d7 6 jf.nd (cC ah))
    (dH (di PassesOwn.never rfl (dB rfl B.range (ad (bQ bT (by rfl) B.len bE (ad (pv 4) ah)) ah)) (iK 7 jf.nd)
     (am (d7 8 jf.nd (cC ah))
     (dH (di PassesOwn.never rfl (dB rfl B.range (ad (bQ bT (by rfl) B.len bE (ad (pv 4) ah)) ah)) (iK 9 jf.nd)
      (am (d7 10 jf.nd (dc (ad (fh cE (pv 7) (pv 9) (bG _)) (ad (aG aJ (aG aJ (pv 5) (pv 7)) (pv 9)) (ad (aG aJ (pv 4) (pv 7)) (ad (aG aJ (pv 4) (pv 9)) ah))))))
      (dH (cK (bF (Ef hr.units) (pv 10) (pv 2) rfl) (ar (fg (i0 bp bO bN dk (pv 2) (ad (pv 10) ah)))) bX)
      (ar (fg (i0 bp bO bN dk (pv 8) (ad (i0 bp PySem.F.slot_list_index PySem.F.type_list_index (Ew hr.units) (pv 2) (ad (pv 10) ah)) ah)))))))
     (ar (fg (i0 bp bO bN dk (pv 6) (ad (pv 8) ah)))))))
    (ar (fg (i0 bp bO bN dk (pv 3) (ad (pv 6) ah)))))))
   (ar (bt (dc (ad (aG aJ (pv 3) aj) (ad (aG aJ (pv 3) aj) ah))))))),?_⟩
  show let ω1:TS:=_;let ω2:TS:=_;let ω3:TS:=_;let ω4:TS:=_;let ω5:TS:=_;let ω6:TS:=ju (eK _ ω5 _) ω4;let ω7:TS:=bL _ ω6;let ω8:TS:=ju (ig _ _ ω7) ω3;let ω9:TS:=bL _ ω8;let ω10:TS:=ju (ig _ _ ω9) ω2;let ω11:TS:=bL _ ω10;let ω12:TS:=bL (ig _ _ ω11) ω1;let ω13:TS:=bL _ ω12;bL _ ω13 _ _ _;intro ω1 ω2 ω3 ω4 ω5 ω6 ω7 ω8 ω9 ω10 ω11 ω12 ω13;refine⟨aZ _,fun S nS=>?_⟩;obtain⟨H1,h1,s1,eS⟩:=cv nS (.lst []); rw[h1];refine⟨aZ _,fun X nX=>?_⟩;obtain⟨H2,h2,s2,eX⟩:=cv nX (.lst []); rw[h2];refine⟨_,rfl,_,rfl,(by show 2≤sizeLine; decide),fun C nC=>?_⟩;obtain⟨H3,h3,s3,eC⟩:=cv nC (.lst [.ref wA,.ref oA]); rw[h3];have s03:=s1.trans (s2.trans s3);have nXS:X≠S:=fun z=>by rw[z,eS] at nX; cases nX
  refine⟨C,rfl,⟨_,bh.of eC⟩,?_⟩;have webs:∀ {k:Nat} {x:V},([.ref wA,.ref oA]:LG)[k]? = some x→∃ (p:Addr) (j:Nat) (hk:LF) (Mk:LA),x=.ref p∧Wz H p j hk Mk∧j≤7∧j=(if k=0 then n else m)∧k < 2:=fun {k x} hx=>by
   match k,hx with
   | 0,hx=>cases hx; exact⟨wA,n,hs,M,rfl,W1,hn,rfl,by decide⟩
   | 1,hx=>cases hx; exact⟨oA,m,hs',M',rfl,W2,hm,rfl,by decide⟩
   | k+2,hx=>simp at hx
  let π1:LP:=fun k σ H'=>∃ (o4 o5 o6 o7 o8 o9 o10:LS) (ts:LI) (Ts:List (LA)),σ=[some (.ref wA),some (.ref oA),some (.ref S),some (.ref X),o4,o5,o6,o7,o8,o9,o10]∧Same H H'∧H' C=some (.lst [.ref wA,.ref oA])∧ue H' S (64 * k)∧H' X=some (.lst (ts.map V.ref))∧ts.length=k∧Ts.length=k∧(∀ (i:Nat) (t:Addr) (T:LA),ts[i]? = some t→Ts[i]? = some T→K4 S X H H' t (if i=0 then n else m) T)∧Bs H' ts
  refine gZ (K:=K) (xs:=[.ref wA,.ref oA]) π1 ⟨none,none,none,none,none,none,none,[],[],rfl,s03,eC,⟨[],[],s3 _ _ (s2 _ _ eS),⟨rfl,fun i v k h=>by cases h⟩,aZ _⟩,s3 _ _ eX,rfl,rfl,(fun i t T h=>by cases h),fun j k t t' _ h=>by cases h⟩ (fun i σ H' _ ⟨_,_,_,_,_,_,_,_,_,_,_,h,_⟩=>bh.of h) ?_ ?_
  ·rintro k x σ G hx ⟨o4,o5,o6,o7,o8,o9,o10,ts,Ts,rfl,sG,gC,gS,gX,lt,lT,hT,hAp⟩
   obtain⟨p,j,hk,Mk,rfl,Wk,j7,ej,k2⟩:=webs hx;obtain⟨hA,rA,rs0,v1,v2,v3,Rk⟩:=Wk.wr.ex;have lh:(hk.map V.int).length=j:=by rw[aa,Wk.len]
   have jj:j * j≤7 * 7:=bP j7 j7;refine⟨p,_,rfl,dy.of (sG _ _ v1),rfl,_,_,rfl,_,_,rfl,rfl,?_⟩;refine⟨aZ _,fun D nD=>?_⟩;obtain⟨G1,hG1,s1',eD⟩:=cv nD (.lst []); rw[hG1];have sG1:=sG.trans s1';have gS1:=gS.same s1';have exS:∃ o,G S=some o:=let ⟨vs,_,e,_⟩:=gS; ⟨_,e⟩;obtain⟨oS,eS0⟩:=exS;have nDS:D≠S:=fun z=>by rw[z,eS0] at nD; cases nD
   have nDX:D≠X:=fun z=>by rw[z,gX] at nD; cases nD
   let ψ1:LQ:=fun σ H'=>∃ (o7 o8 o9 o10:LS) (rs:LI) (Y:LA),σ=[some (.ref wA),some (.ref oA),some (.ref S),some (.ref X),some (.ref hA),some (.ref rA),some (.ref D),o7,o8,o9,o10]∧Ab S G H'∧ue H' S (64 * k+j * j)∧PZ G H' D j rs Y∧rs.length=j
   refine⟨ψ1,?_,?_⟩
   ·refine⟨_,rfl,hA,_,rfl,.inl (bh.of (sG1 _ _ v2)),(j:Int),by rw[lh],by lia,by lia,?_⟩
    rw[bC]
    let π2:LP:=fun i σ H'=>∃ (o7 o8 o9 o10:LS) (rs:LI) (Y:LA),σ=[some (.ref wA),some (.ref oA),some (.ref S),some (.ref X),some (.ref hA),some (.ref rA),some (.ref D),o7,o8,o9,o10]∧Ab S G H'∧ue H' S (64 * k+i * j)∧PZ G H' D j rs Y∧rs.length=i
    refine eV (n:=j) π2 ⟨_,_,_,_,[],[],rfl,vc s1',by rw[Nat.zero_mul]; exact gS1,⟨eD,⟨rfl,fun i r x h=>by cases h⟩,eP,(fun r h=>by cases h),fun x h=>by cases h⟩,rfl⟩ ?_ (fun σ H' h=>h);rintro u σ G2 hu ⟨o7',o8',o9',o10',rs,Y,rfl,b2,gS2,NT,lrs⟩;rw[show ((0:Int)+(u:Nat))=(u:Int) by lia];obtain⟨vs2,_,eS2,_⟩:=id gS2;have sG2:Same H G2:=fun b o e=>b2 b o (fun z=>by rw[z,nS] at e; cases e) (sG _ _ e)
    refine⟨aZ _,fun R nR=>?_⟩;obtain⟨G3,hG3,s3',eR⟩:=cv nR (.lst []); rw[hG3];have nRS:R≠S:=fun z=>by rw[z,eS2] at nR; cases nR
    have nRD:R≠D:=fun z=>by rw[z,NT.at'] at nR; cases nR
    let ψ2:LQ:=fun σ H'=>∃ (o9 o10:LS) (y:LF),σ=[some (.ref wA),some (.ref oA),some (.ref S),some (.ref X),some (.ref hA),some (.ref rA),some (.ref D),some (.int (u:Int)),some (.ref R),o9,o10]∧Ab S G2 H'∧ue H' S (64 * k+u * j+j)∧H' R=some (.lst (y.map V.int))∧y.length=j∧Ou y
    refine⟨ψ2,?_,?_⟩
    ·refine⟨_,rfl,hA,_,rfl,.inl (bh.of (s3' _ _ (sG2 _ _ v2))),(j:Int),by rw[lh],by lia,by lia,?_⟩
     rw[bC]
     let π3:LP:=fun i σ H'=>∃ (o9 o10:LS) (y:LF),σ=[some (.ref wA),some (.ref oA),some (.ref S),some (.ref X),some (.ref hA),some (.ref rA),some (.ref D),some (.int (u:Int)),some (.ref R),o9,o10]∧Ab S G2 H'∧ue H' S (64 * k+u * j+i)∧H' R=some (.lst (y.map V.int))∧y.length=i∧Ou y
     refine eV (n:=j) π3 ⟨_,_,[],rfl,vc s3',gS2.same s3',eR,rfl,fun z h=>by cases h⟩ ?_ (fun σ H' h=>h);rintro v σ G4 hv ⟨o9,o10,y,rfl,b4,⟨vs,ks,eS4,dS4,lk⟩,eR4,ly,sy⟩;rw[show ((0:Int)+(v:Nat))=(v:Int) by lia];have sG4:Same H G4:=fun b o e=>b4 b o (fun z=>by rw[z,nS] at e; cases e) (sG2 _ _ e)
     obtain⟨mu,a1,a2,a3⟩:=(Wk.same sG4).row_at (Rk.keep fun r _ o e=>sG4 _ _ e) hu hv;have uj:u * j≤7 * 7:=bP (by lia) j7;refine⟨_,rfl,_,rfl,rfl,?_⟩;refine⟨_,rfl,_,rfl,rA,_,_,_,rfl,rfl,bh.of (sG4 _ _ v3),a1,_,rfl,mu,_,_,_,rfl,rfl,bh.of a2,a3,?_⟩;refine⟨_,rfl,_,rfl,hA,_,_,_,rfl,rfl,bh.of (sG4 _ _ v2),Wk.hue_at hu,?_⟩;refine⟨_,rfl,_,rfl,hA,_,_,_,rfl,rfl,bh.of (sG4 _ _ v2),Wk.hue_at hv,?_⟩;refine⟨(by show 4≤sizeLine; decide),fun lt' nlt=>?_⟩;rw[pM];obtain⟨G5,hG5,s5,e5⟩:=cv nlt (.tup [.bl (decide (u=v)),.int (ent Mk u v),.int (hk[u]?.getD 0),.int (hk[v]?.getD 0)]); rw[hG5];have nlS:lt'≠S:=fun z=>by rw[z,eS4] at nlt; cases nlt
     have nlR:lt'≠R:=fun z=>by rw[z,eR4] at nlt; cases nlt
     have dv:G5 lt'=some (.tup (OE ⟨decide (u=v),ent Mk u v,hk[u]?.getD 0,hk[v]?.getD 0⟩)):=e5;have dS5:=dS4.keep (H':=G5) fun _ _ z=>s5 _ _ z
     have eS5:=s5 _ _ eS4;have eR5:=s5 _ _ eR4;generalize (⟨decide (u=v),ent Mk u v,hk[u]?.getD 0,hk[v]?.getD 0⟩:L4)=key at dv;have lvs:=dS4.1;refine⟨fun σ' H''=>∃ (vs':LG) (ks':List L4),σ'=[some (.ref wA),some (.ref oA),some (.ref S),some (.ref X),some (.ref hA),some (.ref rA),some (.ref D),some (.int (u:Int)),some (.ref R),some (.int (v:Int)),some (.ref lt')]∧Ab S G5 H''∧H'' S=some (.lst vs')∧oq H'' vs' ks'∧H'' lt'=some (.tup (OE key))∧key ∈ ks'∧ks'.length≤64 * k+u * j+(v+1),?_,?_⟩
     ·refine⟨_,rfl,_,rfl,S,vs,_,_,rfl,bh.of eS5,dS5.das,N5 dv,⟨xk.layAll _,xk.lay _,xk.dep _⟩,_,rfl,?_⟩
      rw[xk.any]
      by_cases mk:key ∈ ks
      ·exact qS mk ⟨vs,ks,rfl,(fun _ _ _ h=>h),eS5,dS5,dv,mk,by lia⟩
      ·refine qT mk ?_
       refine⟨_,rfl,.inl ⟨rfl,_,bh.of eS5⟩,_,rfl,S,vs,_,rfl,rfl,eS5,bo (by lia),?_⟩;have ku:=wg eS5 (.lst (vs++[.ref lt']));exact⟨vs++[.ref lt'],ks++[key],rfl,(fun b o nb e=>by rw[aO nb]; exact e),ao,(dS5.keep ku).snoc (ku _ _ dv),ku _ _ dv,by simp,by rw[ai]; show ks.length+1≤_; lia⟩
     ·rintro σ' G6 ⟨vs',ks',rfl,b6,eS6,dS6,dv6,mk,lk'⟩
      have eR6:=b6 _ _ nRS eR5;have lt1:=jy.mpr mk;refine⟨_,rfl,.inl ⟨rfl,_,bh.of eR6⟩,_,rfl,.inl ⟨rfl,_,bh.of eS6⟩,_,rfl,S,vs',_,_,_,rfl,rfl,eS6,dS6.das,N5 dv6,⟨xk.layAll _,xk.lay _,xk.dep _⟩,?_,?_⟩
      ·rw[xk.idx,aa]
       exact lt1
      ·rw[xk.idx]
       refine⟨R,_,_,rfl,rfl,eR6,bo (by rw[aa]; lia),?_⟩;have kR:∀ {b:Addr} {o:HO},b≠R→G6 b=some o→L2.upd G6 R (.lst (y.map V.int++[.int (ks'.idxOf key:Int)])) b=some o:=fun h e=>by rw[aO h]; exact e
       refine⟨_,_,y++[(ks'.idxOf key:Int)],rfl,fun b o nb e=>?_,⟨vs',ks',kR nRS.symm eS6,dS6.keep (wg eR6 _),lk'⟩,by rw[ao,aM]; rfl,by rw[ai,ly]; rfl,fun z hz=>?_⟩
       ·exact kR (aU e nR) (b6 _ _ nb (s5 _ _ (b4 b o nb e)))
       ·rcases bu.mp hz with h | h
        ·exact sy z h
        ·rw[aw.mp h]; lia
    ·rintro σ G4 ⟨o9,o10,y,rfl,b4,gS4,eR4,ly,sy⟩
     have eD4:=b4 _ _ nDS NT.at';refine⟨_,rfl,.inl ⟨rfl,_,bh.of eD4⟩,_,rfl,D,_,_,rfl,rfl,eD4,bo (by rw[aa]; lia),?_⟩;have kD:∀ {b:Addr} {o:HO},b≠D→G4 b=some o→L2.upd G4 D (.lst (rs.map V.ref++[.ref R])) b=some o:=fun h e=>by rw[aO h]; exact e
     have ns:∀ r ∈ rs,r≠S:=fun r hr' z=>by
      have:=(NT.new r hr').2
      rw[z,eS0] at this; cases this
     refine⟨_,_,_,_,rs++[R],Y++[y],rfl,fun b o nb e=>kD (aU e nD) (b4 b o nb (b2 b o nb e)),by rw[ik u j,←Nat.add_assoc]; exact gS4.updL eD4 nDS,⟨by rw[ao,aM]; rfl,⟨?_,fun i r x e1 e2=>?_⟩,?_,fun r hr'=>?_,fun x hx'=>?_⟩,by rw[ai,lrs]; rfl⟩
     ·have:=NT.gv.len
      rw[dJ] at this;rw[dJ,ai,ai,this]; rfl
     ·have lY:rs.length=Y.length:=by rw[←dJ Y]; exact NT.gv.len
      rcases dg e1 with z | ⟨z,rfl⟩
      ·have li:=cq z
       unfold gI at e2;rw[aM,be (by rw[aa,←lY]; exact li)] at e2;have mr:=ae z;exact kD (NT.new r mr).1 (b4 _ _ (ns r mr) (NT.gv.row i r x z e2))
      ·unfold gI at e2
       rw[z,lY,aM,aV (by rw[aa]; exact au _),aa,il] at e2;cases e2;exact kD nRD eR4
     ·refine gM.mpr ⟨NT.nd,dz.mpr ⟨k8,eP⟩,fun a ha b hb e=>?_⟩
      rw[aw.mp hb] at e;subst e;obtain⟨i,hi⟩:=aP.mp ha;obtain⟨x,hx'⟩:=bW (l:=gI Y) (i:=i) (by rw[←NT.gv.len]; exact cq hi);rw[NT.gv.row i a x hi hx'] at nR;cases nR
     ·rcases bu.mp hr' with z | z
      ·exact NT.new r z
      ·rw[aw.mp z]; exact⟨nRD,b2.free eS2 nR⟩
     ·rcases bu.mp hx' with z | z
      ·exact NT.row x z
      ·rw[aw.mp z]; exact⟨ly,sy⟩
   ·rintro σ G2 ⟨o7',o8',o9',o10',rs,Y,rfl,b2,gS2,NT,lrs⟩
    have gX2:=b2 _ _ nXS gX;have nX0:H X=none:=s1.free nX;have lY:rs.length=Y.length:=by rw[←dJ Y]; exact NT.gv.len
    refine⟨_,rfl,.inl ⟨rfl,_,bh.of gX2⟩,_,rfl,X,_,_,rfl,rfl,gX2,bo (by rw[aa]; lia),?_⟩;have kX:∀ {b:Addr} {o:HO},b≠X→G2 b=some o→L2.upd G2 X (.lst (ts.map V.ref++[.ref D])) b=some o:=fun h e=>by rw[aO h]; exact e
    have ne:∀ {r:Addr},G r=none→r≠S∧r≠X:=fun h=>⟨(fun z=>by rw[z,eS0] at h; cases h),fun z=>by rw[z,gX] at h; cases h⟩
    have nCS:C≠S∧C≠X:=⟨(fun z=>by rw[z,s2 _ _ eS] at nC; cases nC),fun z=>by rw[z,eX] at nC; cases nC⟩;have kk:∀ (b:Addr) (o:HO),b≠S→b≠X→G b=some o→L2.upd G2 X (.lst (ts.map V.ref++[.ref D])) b=some o:=fun b o h1 h2 e=>kX h2 (b2 b o h1 e)
    have nt:∀ {i:Nat} {t:Addr},ts[i]? = some t→∃ T,Ts[i]? = some T:=fun h=>bW (by rw[lT,←lt]; exact cq h)
    refine⟨_,_,_,_,_,_,_,ts++[D],Ts++[Y],rfl,fun b o e=>kk b o (fun z=>by rw[z,nS] at e; cases e) (fun z=>by rw[z,nX0] at e; cases e) (sG _ _ e),kk _ _ nCS.1 nCS.2 gC,?_,by rw[ao,aM]; rfl,by rw[ai,lt]; rfl,by rw[ai,lT]; rfl,fun i t T e1 e2=>?_,fun a c t t' ac e1 e2=>?_⟩
    ·obtain⟨vs,ks,z1,z2,z3⟩:=gS2.updL (o:=.lst (ts.map V.ref++[.ref D])) gX2 nXS
     exact⟨vs,ks,z1,z2,by lia⟩
    ·rcases dg e1 with z | ⟨z,rfl⟩
     ·rw[be (by rw[lT,←lt]; exact cq z)] at e2
      exact (hT i t T z e2).keep kk
     ·rw[z,lt,←lT,aV (au _),il] at e2
      cases e2;rw[z,lt,←ej];refine⟨rs,kX nDX NT.at',⟨NT.gv.len,fun i r x h1 h2=>kX (ne (NT.new r (ae h1)).2).2 (NT.gv.row i r x h1 h2)⟩,sG.free nD,NT.nd,fun r hr'=>⟨(NT.new r hr').1,sG.free (NT.new r hr').2⟩,fun b hb=>?_,⟨by rw[←lY]; exact lrs,fun x hx'=>(NT.row x hx').1⟩,fun x hx'=>(NT.row x hx').2⟩;rcases aQ.mp hb with rfl | hb
      ·exact⟨nDS,nDX⟩
      ·exact ne (NT.new b hb).2
    ·rcases dg e1 with z1 | ⟨z1,y1⟩
     ·obtain⟨T1,g1⟩:=nt z1
      obtain⟨r1,h1,h2,h3,h4,h5,h6,_⟩:=hT a t T1 z1 g1;have n1:=h6 t aK;rcases dg e2 with z2 | ⟨z2,y2⟩
      ·obtain⟨T2,g2⟩:=nt z2
       obtain⟨_,_,_,_,_,_,h6',_⟩:=hT c t' T2 z2 g2;have n2:=h6' t' aK;exact (hAp a c t t' ac z1 z2).keep (fun o e=>kk _ o n1.1 n1.2 e) (fun o e=>kk _ o n2.1 n2.2 e)
      ·subst y2
       refine⟨r1,rs,kk _ _ n1.1 n1.2 h1,kX nDX NT.at',fun z=>?_,fun z=>?_,fun r hr'=>?_⟩
       ·rw[z,nD] at h1; cases h1
       ·rw[(NT.new _ z).2] at h1; cases h1
       ·obtain⟨i,hi⟩:=aP.mp hr'
        obtain⟨x,hx'⟩:=bW (l:=gI T1) (i:=i) (by rw[←h2.len]; exact cq hi);have er:=h2.row i r x hi hx';exact⟨(fun z=>by rw[z,nD] at er; cases er),fun z=>by rw[(NT.new _ z).2] at er; cases er⟩
     ·have:=cq e2
      rw[ai] at this;simp at this
      lia
  ·rintro σ G ⟨o4,o5,o6,o7,o8,o9,o10,ts,Ts,rfl,sG,gC,gS,gX,lt,lT,hT,hAp⟩
   match ts,Ts,lt,lT with
   | [a,b],[T,T'],_,_ =>
    refine⟨_,rfl,X,_,_,_,rfl,rfl,bh.of gX,jT _ _,_,rfl,X,_,_,_,rfl,rfl,bh.of gX,g8 _ _ _,(by show 2≤sizeLine; decide),fun p np=>?_⟩;obtain⟨G',hG',s',ep⟩:=cv np (.tup [.ref a,.ref b]); rw[hG'];obtain⟨rs,x1,x2,x3,x4,x5,x6,x7,x8⟩:=hT 0 a T rfl rfl;obtain⟨rs',y1,y2,y3,y4,y5,y6,y7,y8⟩:=hT 1 b T' rfl rfl;exact q p a b T T' G' (sG.trans s') ep ⟨⟨rs,s' _ _ x1,x2.mono s',x3,x4,x5⟩,⟨rs',s' _ _ y1,y2.mono s',y3,y4,y5⟩,(hAp 0 1 a b (by decide) rfl rfl).keep (s' _) (s' _),x7,y7,x8,y8⟩
theorem vX:bootBuiltins "max" = some (.builtin "max"):=by decide +kernel
theorem AF (h:X.K=K:=by rfl):pY X (compareOp .In) (Rq K false):=by subst h; exact Eg
abbrev C9:LK:=["_law_table","_law_way","_law_cell_here"]
abbrev Hy:LK:=["_law_table","_law_way","_law_cell_here","_law_u","_law_v","_law_one","_law_two_here"]
theorem mN:bJ Hy C9 (aB pd):=by constructor<;>first|rfl|decide +kernel
def iR (s:Stmt)(i:Nat):Stmt:=match s with
 | .If _ b _ _=>b.getD i (.Pass ⟨0,0,0,0⟩)
 | _=>.Pass ⟨0,0,0,0⟩
theorem KB:fk (aB pd) Hy (cz (dq (iR (cT pd 8) 2))) "_law_row":=by constructor<;>first|rfl|decide +kernel
def K1:Scope:=relabel (cz (dq (iR (cT pd 8) 2))) (envOfC "" (aB pd) 0 0 .none)
theorem KA:cw K1 (jS Hy "_law_row") (cz (zi (dq (iR (cT pd 8) 2)))) ["_law_kind"]:=by constructor<;>first|rfl|decide +kernel
def E1 (m k:Nat)(H:Hp)(v:V):Prop:=∃ (r:Addr) (x:LF),v=.ref r∧x.length≤m∧(∀ z ∈ x,z.natAbs≤k)∧H r=some (.lst (x.map V.int))
structure E9 (H:Hp)(a:Addr)(rs:LI)(n:Nat):Prop where
 at':H a=some (.lst (rs.map V.ref))
 len:rs.length=n
 na:a ∉ rs
 n7:n≤7
 row:∀ r ∈ rs,∃ x:LF,x.length=n∧(∀ z ∈ x,z.natAbs≤1000)∧H r=some (.lst (x.map V.int))
theorem E9.same {n:Nat}(h:E9 H a rs n)(s:Same H H'):E9 H' a rs n :=
 ⟨s _ _ h.at',h.len,h.na,h.n7,fun r hr=>let ⟨x,e1,e2,e3⟩:=h.row r hr; ⟨x,e1,e2,s _ _ e3⟩⟩
def zZ (H:Hp)(p:Addr):Prop:=∃ vs:LG,H p=some (.lst vs)∧vs.length≤20∧∀ v ∈ vs,E1 20 10000 H v
theorem zZ.grd (h:zZ H p):∃ T,eI H p (gI T)∧ud T:=by
 obtain⟨vs,e,l,hv⟩:=h;have key:∀ (ws:LG),(∀ v ∈ ws,E1 20 10000 H v)→∃ (rs:LI) (T:LA),ws=rs.map V.ref∧rs.length=T.length∧(∀ (i:Nat) (r:Addr) (x:LG),rs[i]? = some r→(gI T)[i]? = some x→H r=some (.lst x))∧∀ x ∈ T,x.length≤20∧∀ z ∈ x,z.natAbs≤10000:=by
  intro ws
  induction ws with
  | nil=>exact fun _=>⟨[],[],rfl,rfl,(fun i r x h=>by cases h),fun x h=>by cases h⟩
  | cons v ws ih =>
   intro hw;obtain⟨rs,T,rfl,lr,h1,h2⟩:=ih fun v hv=>hw v (aC _ hv)
   obtain⟨r,x,rfl,g1,g2,g3⟩:=hw v aK;refine⟨r :: rs,x :: T,rfl,by rw[bq,bq,lr],fun i r' x' e1 e2=>?_,fun x' hx=>?_⟩
   ·cases i with
    | zero=>cases e1; cases e2; exact g3
    | succ i=>exact h1 i r' x' (by simpa using e1) (by simpa[gI] using e2)
   ·rcases aQ.mp hx with rfl | hx
    ·exact⟨g1,g2⟩
    ·exact h2 x' hx
 obtain⟨rs,T,rfl,lr,h1,h2⟩:=key vs hv;exact⟨T,⟨rs,e,by rw[dJ]; exact lr,h1⟩,by rw[←lr,←aa (f:=V.ref)]; exact l,h2⟩
theorem E9.good {n:Nat}(h:E9 H a rs n):zZ H a:=by
 have:=h.n7
 have:=h.len
 refine⟨_,h.at',by rw[aa]; lia,fun v hv=>?_⟩;obtain⟨r,hr,rfl⟩:=bg.mp hv;obtain⟨x,e1,e2,e3⟩:=h.row r hr;exact⟨r,x,rfl,by lia,fun z hz=>aE (e2 z hz) (by decide),e3⟩
theorem E9.setRow {n:Nat}(h:E9 H a rs n)(hr:r ∈ rs)(h1:x.length≤20)(h2:∀ z ∈ x,z.natAbs≤10000):zZ (L2.upd H r (.lst (x.map V.int))) a:=by
 obtain⟨vs,e,l,g⟩:=h.good;refine⟨vs,by rw[aO fun z:a=r=>h.na (by rw[z]; exact hr)]; exact e,l,fun v hv=>?_⟩;obtain⟨r',x',rfl,g1,g2,g3⟩:=g v hv
 by_cases c:r'=r
 ·subst c
  exact⟨r',x,rfl,h1,h2,ao⟩
 ·exact⟨r',x',rfl,g1,g2,by rw[aO c]; exact g3⟩
theorem E1.same (h:E1 m k H v)(s:Same H H'):E1 m k H' v:=let ⟨r,x,e,a,b,c⟩:=h; ⟨r,x,e,a,b,s _ _ c⟩
def Rb (a:Addr)(rs:LI)(H H':Hp):Prop:=∀ b o,b≠a→b ∉ rs→H b=some o→H' b=some o
def On (H:Hp)(a:Addr)(rs:LI)(y c u v:Int)(k:Int)(σ:L2.St)(H':Hp):Prop :=
 (σ=[some (.ref a),some (.int y),some (.int c),some (.int u),some (.int v),none,none]∧Same H H') ∨
 ((∃ (p:Addr) (o5 o6:LS),σ=[some (.ref p),some (.int y),some (.int c),some (.int u),some (.int v),o5,o6]∧Rb a rs H H'∧zZ H' p)∧y < k)
theorem tH (h:v ∈ jc vs lo hi):v ∈ vs:=by
 unfold jc at h;exact mw (gc h)
theorem tJ (vs:LG)(lo hi:Option Int):(jc vs lo hi).length≤vs.length:=by
 unfold jc;rw[bB,df]
 lia
theorem sv {n:Nat}{Q:VK}(h:E9 H a rs n)(k:∀ H',Same H H'→Q (.bl (decide (0 < n))) H'):0≤sizeLine∧∀ l,H l=none→MT K (.ref a) (.ref l) (L2.upd H l (.lst [])) Q:=by
 refine⟨aZ _,fun l hl=>?_⟩;have s:Same H (L2.upd H l (.lst [])):=Same.upd hl;have key:∀ ws:LI,(∀ r ∈ ws,r ∈ rs)→∃ M:LA,DAs K any H (ws.map V.ref) (M.map dI)∧M.length=ws.length:=by
  intro ws
  induction ws with
  | nil=>exact fun _=>⟨[],.nil,rfl⟩
  | cons r ws ih =>
   intro hw;obtain⟨M,d,lM⟩:=ih fun r hr=>hw r (aC _ hr)
   obtain⟨x,_,_,e3⟩:=h.row r (hw r aK);exact⟨x :: M,.cons (Is trivial (bh.of e3)) d,by rw[bq,bq,lM]⟩
 obtain⟨M,d,lM⟩:=key rs fun _ z=>z
 obtain⟨y1,y2⟩:=pw M;refine⟨.list (M.map dI),.list [],.lst trivial (bh.of (s _ _ h.at')) (DAs.mono s.keep (fun _ _=>trivial) d),.lst trivial (bh.of ao) .nil,⟨by simp only[PyData.canLay0]; exact y1,rfl,by simp only[PyData.depth]; lia⟩,?_⟩;have e:(!PyData.eqv (.list (M.map dI)) (.list []))=decide (0 < n):=by
  rw[CQ]
  have:=h.len
  cases M with
  | nil=>rw[List.length_nil] at lM; rw[bH (by lia)]; rfl
  | cons x M=>rw[bq] at lM; rw[cn (by lia)]; rfl
 rw[e];exact k _ s
theorem HB {n:Nat}(hm:xs.length≤900)(hD:H1 D=none)(hxs:bh K H1 a xs)(hs:∀ (i:Nat) (x:V) (H':Hp),xs[i]? = some x→Same H1 H'→te (σ++[some x]) H' fun v H3=>Same H' H3∧∃ (r:Addr) (z:LF),v=.ref r∧H' r=none∧z.length=n∧(∀ y ∈ z,y.natAbs≤k)∧H3 r=some (.lst (z.map V.int)))(hd:∀ (rs:LI) (H':Hp),Same H1 H'→H' D=some (.lst (rs.map V.ref))→rs.length=xs.length→(∀ r ∈ rs,r≠D∧H1 r=none∧∃ z:LF,z.length=n∧(∀ y ∈ z,y.natAbs≤k)∧H' r=some (.lst (z.map V.int)))→rs.Nodup→Q H')(mono:∀ σ H Q Q',(∀ v H1,Q v H1→Q' v H1)→te σ H Q→te σ H Q') :
  ∃ W:Nat→Nat→List V→Hp→Prop,(∃ m,W 0 m [] (upd H1 D (.lst []))) ∧
   ∀ i m ys H',W i m ys H'→H' D=some (.lst ys)∧(((uC K a).stop i H'∧Q H') ∨ ((uC K a).go i H'∧∀ z H2,(uC K a).yld i H' z H2→te (σ++[some z]) H2 fun v H3=>H3 D=some (.lst ys)∧ys.length < sizeLine∧∃ m',m' < m∧W (i+1) m' (ys++[v]) (upd H3 D (.lst (ys++[v]))))):=by
 refine mh (xs:=xs) (fun i ys H'=>∃ rs:LI,ys=rs.map V.ref∧rs.length=i∧Same H1 H'∧H' D=some (.lst ys)∧(∀ r ∈ rs,r≠D∧H1 r=none∧∃ z:LF,z.length=n∧(∀ y ∈ z,y.natAbs≤k)∧H' r=some (.lst (z.map V.int)))∧rs.Nodup) ⟨[],rfl,rfl,Same.upd hD,ao,(fun r h=>by cases h),eP⟩ ?_ ?_ ?_ mono
 ·rintro i ys H' _ ⟨rs,_,_,s',eD,_⟩
  exact⟨s'.seq hxs,eD⟩
 ·rintro i x ys H' hx ⟨rs,rfl,lr,s',eD,hr,nd⟩
  have li:=cq hx;refine mono _ _ _ _ ?_ (hs i x H' hx s');rintro v H3 ⟨s3,r,z,rfl,nr,lz,bz,ez⟩;have eD3:=s3 _ _ eD;have nrD:r≠D:=fun z=>by rw[z,eD] at nr; cases nr
  refine⟨eD3,bo (by rw[aa]; lia),rs++[r],by rw[aM]; rfl,by rw[ai,lr]; rfl,fun b o e=>?_,ao,fun r' h=>?_,?_⟩
  ·rw[aO (aU e hD)]
   exact s3 _ _ (s' _ _ e)
  ·rcases bu.mp h with h | h
   ·obtain⟨h1,h2,z',h3,h4,h5⟩:=hr r' h
    exact⟨h1,h2,z',h3,h4,by rw[aO h1]; exact s3 _ _ h5⟩
   ·rw[aw.mp h]
    exact⟨nrD,s'.free nr,z,lz,bz,by rw[aO nrD]; exact ez⟩
  ·refine gM.mpr ⟨nd,dz.mpr ⟨k8,eP⟩,fun b hb c hc e=>?_⟩
   rw[aw.mp hc] at e;obtain⟨_,_,z',_,_,h5⟩:=hr b hb;rw[e,nr] at h5;cases h5
 ·rintro ys H' ⟨rs,rfl,lr,s',eD,hr,nd⟩
  exact hd rs H' s' eD lr hr nd
inductive yx (vs:LG)(H:Hp)(Q:VK):Prop | mk (a:Addr) (rs:LI) (n:Nat) (y c:Int) (_:vs=[.ref a,.int y,.int c]) (_:E9 H a rs n) (_:∀ (p:Addr) (T':LA) (H':Hp),Rb a rs H H'→eI H' p (gI T')→ud T'→Q (.ref p) H'):yx vs H Q
def FX (K:LM):Sp:=fun vs H Q _=>yx vs H Q
theorem J3 (B:qa mg)(hMax:mg "max" = none)(F:Fun K "_law_bent" "_law_bent" pd f fd):bK P w K mg base cI 1 f fd C9 (FX K):=by
 refine F.o mN fun cdv A outer s H vs Q E hr h=>?_
 ·obtain⟨a,rs,n,y,c,rfl,hB,q⟩:=h
  refine⟨_,am (d7 3 mN.nd (aY cJ (pv 2) (bQ (vW rfl) (by rfl) hMax vX (ad aj (ad (bQ bT (by rfl) B.len bE (ad (pv 0) ah)) ah)))))
   (am (d7 4 mN.nd (aY cJ (aY fZ (pv 2) aj) (bQ (vW rfl) (by rfl) hMax vX (ad aj (ad (bQ bT (by rfl) B.len bE (ad (pv 0) ah)) ah)))))
   (dH (cK (PW.pt (lZ (bF cE (pv 1) aj (bG _)) (ke (bF (l5 hr.units) (pv 0) (cC ah) (bG _))))) (ar (gx (aY mQ (aY cJ (aY fZ (pv 2) aj) aj) aj) (jv (aG aJ (pv 0) (pv 3)) (pv 4) gH))) bX)
   (dH (cK (PW.pt (lZ (bF cE (pv 1) aj (bG _)) (ke (bF (l5 hr.units) (pv 0) (cC ah) (bG _))))) (ar (gx (dc (ad (aG aJ (pv 0) (pv 4)) (ad (aG aJ (pv 0) (pv 3)) ah))) (gp rfl (bY (jv (pv 0) (pv 3) gH) (bY (jv (pv 0) (pv 4) gH) eJ))))) bX)
   (dH (cK (bF cE (pv 1) aj (bG _)) (ar (d7 0 mN.nd (aY oE (jP nj (pv 0) rN (jh (pv 3))) (jP nj (pv 0) (jh (aY dZ (pv 3) aj)) rN)))) bX)
   (dH (cK (PW.pt (lZ (bF cE (pv 1) aj (bG _)) (ke (bF (l5 hr.units) (pv 0) (cC ah) (bG _))))) (ar (fg (M0 bp PySem.F.slot_list_pop PySem.F.type_list_pop Nq (aG aJ (pv 0) (pv 3))))) bX)
   (dH (cK (bF cE (pv 1) aj (bG _)) (ar (d7 0 mN.nd (aY oE (pv 0) (cC (ad (aY mR (cC (ad aj ah)) (bQ bT (by rfl) B.len bE (ad (pv 0) ah))) ah))))) bX)
   (dH (cK (PW.pt (lZ (bF cE (pv 1) aj (bG _)) (ke (bF (l5 hr.units) (pv 0) (cC ah) (bG _))))) (ar (fg (i0 bp bO bN dk (aG aJ (pv 0) (pv 3)) (ad (aG aJ (aG aJ (pv 0) (pv 3)) (pv 4)) ah)))) bX)
   (dH (cK (PW.pt (lZ (bF cE (pv 1) aj (bG _)) (ke (bF (l5 hr.units) (pv 0) (cC ah) (bG _))))) (am (d7 5 mN.nd (aG aJ (aG aJ (pv 0) (pv 3)) (pv 4))) (am (d7 6 mN.nd (aG aJ (aG aJ (pv 0) (aj)) (aY cJ (aY fZ (pv 2) aj) (bQ bT (by rfl) B.len bE (ad (pv 0) ah))))) (ar (pf (i:=0) mN.nd rfl (Or.inl rfl) rfl KB rfl (cU (pv 0)) fun _ _ _=>gE rfl KA rfl (ph (K:=K) (pv 7)) fun _ _ _=>pi (bF (AF (K:=K)) (pv 8) (dc (ad (pv 5) (ad (pv 6) ah))) rfl) (aY mQ (aY dZ (pv 5) (pv 6)) (pv 8)) (pv 8))))) bX)
   (ar (bt (pv 0))))))))))),?_⟩
  show let ω1:TS:=_;let ω2:TS:=_;let ω3:TS:=bL _ ω2;let ω4:TS:=bL _ ω3;let ω5:TS:=ju (eK _ ω4 _) ω1;let ω6:TS:=_;let ω7:TS:=ju (eK _ ω6 _) ω5;let ω8:TS:=_;let ω9:TS:=ju (eK _ ω8 _) ω7;let ω10:TS:=_;let ω11:TS:=ju (eK _ ω10 _) ω9;let ω12:TS:=_;let ω13:TS:=ju (eK _ ω12 _) ω11;let ω14:TS:=_;let ω15:TS:=ju (eK _ ω14 _) ω13;let ω16:TS:=_;let ω17:TS:=ju (eK _ ω16 _) ω15;let ω18:TS:=bL _ ω17;bL _ ω18 _ _ _;intro ω1 ω2 ω3 ω4 ω5 ω6 ω7 ω8 ω9 ω10 ω11 ω12 ω13 ω14 ω15 ω16 ω17 ω18;have ln:(rs.map V.ref).length=n:=by rw[aa,hB.len]
  have n7:=hB.n7;have mx:∃ m:Int,m=(if ((n:Nat):Int) > 1 then ((n:Nat):Int) else 1)∧0 < m∧(0 < n→m=n):=⟨_,rfl,by split <;> lia,fun h=>by split <;> lia⟩;obtain⟨m,em,m0,mn⟩:=mx;have ub:=cp c m0;have vb:=cp (c / 5) m0;have u0:=cB c (b:=m) (by lia);have v0:=cB (c / 5) (b:=m) (by lia);have nu:0 < n→∃ (U:Nat) (r:Addr) (x:LF),c % m=U∧U < n∧r ∈ rs∧lF (rs.map V.ref) (c % m)=some (.ref r)∧rs[U]? = some r∧∀ H',E9 H' a rs n→∃ x:LF,x.length=n∧(∀ z ∈ x,z.natAbs≤1000)∧H' r=some (.lst (x.map V.int)):=fun h=>by
   obtain⟨U,hU⟩:=bc u0
   have:=mn h
   have lU:U < n:=by lia
   obtain⟨r,hr'⟩:=bW (l:=rs) (i:=U) (by rw[hB.len]; exact lU);exact⟨U,r,[],hU,lU,ae hr',by rw[hU]; exact fJ hr',hr',fun H' h'=>h'.row r (ae hr')⟩
  have nv:0 < n→∃ (U:Nat) (r:Addr),c / 5 % m=U∧U < n∧r ∈ rs∧lF (rs.map V.ref) (c / 5 % m)=some (.ref r)∧∀ x:LF,x.length=n→∃ z,x[U]? = some z∧lF (x.map V.int) (c / 5 % m)=some (.int z)∧AV (x.map V.int).length (c / 5 % m)=some U:=fun h=>by
   obtain⟨U,hU⟩:=bc v0
   have:=mn h
   have lU:U < n:=by lia
   obtain⟨r,hr'⟩:=bW (l:=rs) (i:=U) (by rw[hB.len]; exact lU);refine⟨U,r,hU,lU,ae hr',by rw[hU]; exact fJ hr',fun x lx=>?_⟩;obtain⟨z,hz⟩:=bW (l:=x) (i:=U) (by lia);exact⟨z,hz,by rw[hU]; exact cX (by rw[aq,hz]; rfl),by rw[hU]; exact iu (by rw[aa]; lia)⟩
  have frm:∀ {H2:Hp} {r:Addr} {o:HO},Same H H2→r ∈ rs→Rb a rs H (L2.upd H2 r o):=fun {H2 r o'} s hr' b o _ nb e=>by rw[aO fun z:b=r=>nb (by rw[z]; exact hr')]; exact s _ _ e
  refine⟨_,rfl,_,rfl,a,_,rfl,.inl (bh.of hB.at'),_,_,rfl,_,_,rfl,rfl,by rw[ln,←em]; exact m0,?_⟩;refine⟨_,rfl,_,_,rfl,rfl,⟨by decide,by decide⟩,_,rfl,a,_,rfl,.inl (bh.of hB.at'),_,_,rfl,_,_,rfl,rfl,by rw[ln,←em]; exact m0,?_⟩;rw[ln,←em];refine⟨On H a rs y c (c % m) (c / 5 % m) 1,?_,?_⟩
  ·have s1:Same H H:=Same.refl _
   by_cases hy:y=0
   ·refine⟨_,rfl,rfl,_,rfl,dO (by rw[hy]) ?_⟩
    refine⟨_,rfl,sv (hB.same s1) fun H2 s2=>⟨_,rfl,?_⟩⟩;have s12:=s1.trans s2
    by_cases n0:0 < n
    ·refine dO n0 ?_
     have hB2:=hB.same s12;obtain⟨U,ru,_,eU,lU,mU,atU,gU,rowU⟩:=nu n0;obtain⟨x,lx,bx,ex⟩:=rowU _ hB2;obtain⟨W,rv,eW,lW,mW,atV,colV⟩:=nv n0;obtain⟨z,hz,az,iz⟩:=colV x lx;have z0:=cB (c / 25) (b:=12) (by decide);have z1:=cp (c / 25) (b:=12) (by decide);refine⟨_,rfl,_,_,rfl,rfl,⟨by decide,by decide⟩,_,_,rfl,rfl,(by show (0:Int) < 12; decide),_,_,rfl,rfl,?_⟩;refine⟨_,rfl,_,rfl,a,_,_,_,rfl,rfl,bh.of hB2.at',atU,_,rfl,ru,_,_,W,rfl,rfl,ex,iz,?_⟩;refine .inr ⟨⟨a,_,_,rfl,frm s12 mU,?_⟩,by lia⟩;rw[←im (f:=V.int) (a:=c / 25 % 12 - 2)];refine hB2.setRow mU (by rw[cR]; lia) fun q hq=>?_
     rcases ff hq with h | h
     ·exact aE (bx q h) (by decide)
     ·rw[h]; lia
    ·exact cr n0 (.inl ⟨rfl,s12⟩)
   ·exact⟨_,rfl,rfl,_,rfl,cr (fun z=>hy (V.int.inj z)) (.inl ⟨rfl,s1⟩)⟩
  rintro σ H1 h1;refine⟨On H a rs y c (c % m) (c / 5 % m) 2,?_,?_⟩
  ·rcases h1 with ⟨rfl,s1⟩ | ⟨⟨p,o5,o6,rfl,fr,gd⟩,lt⟩
   ·by_cases hy:y=1
    ·refine⟨_,rfl,rfl,_,rfl,dO (by rw[hy]) ?_⟩
     refine⟨_,rfl,sv (hB.same s1) fun H2 s2=>⟨_,rfl,?_⟩⟩;have s12:=s1.trans s2
     by_cases n0:0 < n
     ·refine dO n0 ?_
      have hB2:=hB.same s12;obtain⟨U,ru,_,eU,lU,mU,atU,gU,rowU⟩:=nu n0;obtain⟨x,lx,bx,ex⟩:=rowU _ hB2;obtain⟨W,rv,eW,lW,mW,atV,colV⟩:=nv n0;have iU:AV (rs.map V.ref).length (c % m)=some U:=by rw[eU]; exact iu (by rw[ln]; exact lU)
      have iW:AV ((rs.map V.ref).set U (.ref rv)).length (c / 5 % m)=some W:=by rw[eW]; exact iu (by rw[cR,ln]; exact lW)
      refine⟨_,rfl,_,rfl,a,_,_,_,rfl,rfl,bh.of hB2.at',atV,_,rfl,_,rfl,a,_,_,_,rfl,rfl,bh.of hB2.at',atU,(by show 2≤sizeLine; decide),fun t nt=>?_⟩;obtain⟨H3,h3,s3,e3⟩:=cv nt (.tup [.ref rv,.ref ru]); rw[h3];refine⟨t,_,rfl,dy.of e3,rfl,?_⟩;refine⟨_,_,rfl,_,rfl,_,rfl,a,_,_,U,rfl,rfl,s3 _ _ hB2.at',iU,_,_,rfl,_,rfl,_,rfl,a,_,_,W,rfl,rfl,ao,iW,rfl,?_⟩;have ka:∀ {b:Addr} {o:HO},b≠a→H3 b=some o→L2.upd (L2.upd H3 a (.lst ((rs.map V.ref).set U (.ref rv)))) a (.lst (((rs.map V.ref).set U (.ref rv)).set W (.ref ru))) b=some o:=fun h e=>by rw[aO h,aO h]; exact e
      have all:∀ r ∈ rs,E1 20 10000 (L2.upd (L2.upd H3 a (.lst ((rs.map V.ref).set U (.ref rv)))) a (.lst (((rs.map V.ref).set U (.ref rv)).set W (.ref ru)))) (.ref r):=fun r hr'=>by
       obtain⟨x',l',b',e'⟩:=hB2.row r hr';exact⟨r,x',rfl,by lia,fun z hz=>aE (b' z hz) (by decide),ka (fun z:r=a=>hB.na (by rw[←z]; exact hr')) (s3 _ _ e')⟩
      refine .inr ⟨⟨a,_,_,rfl,fun b o nb _ e=>ka nb (s3 _ _ (s12 _ _ e)),_,ao,by rw[cR,cR,ln]; lia,fun v hv=>?_⟩,by lia⟩;rcases ff hv with h | h
      ·rcases ff h with h | h
       ·obtain⟨r,hr',rfl⟩:=bg.mp h
        exact all r hr'
       ·rw[h]; exact all rv mW
      ·rw[h]; exact all ru mU
     ·exact cr n0 (.inl ⟨rfl,s12⟩)
    ·exact⟨_,rfl,rfl,_,rfl,cr (fun z=>hy (V.int.inj z)) (.inl ⟨rfl,s1⟩)⟩
   ·exact⟨_,rfl,rfl,_,rfl,cr (fun z=>by have:=V.int.inj z; lia) (.inr ⟨⟨p,o5,o6,rfl,fr,gd⟩,by lia⟩)⟩
  rintro σ H1 h1;refine⟨On H a rs y c (c % m) (c / 5 % m) 3,?_,?_⟩
  ·rcases h1 with ⟨rfl,s1⟩ | ⟨⟨p,o5,o6,rfl,fr,gd⟩,lt⟩
   ·by_cases hy:y=2
    ·refine⟨_,rfl,rfl,_,rfl,dO (by rw[hy]) ?_⟩
     have hB2:=hB.same s1;refine⟨_,rfl,_,rfl,_,rfl,a,_,rfl,bh.of hB2.at',fun p1 n1=>?_⟩;obtain⟨H2,h2,s2,e2⟩:=cv n1 (.lst (jc (rs.map V.ref) none (some (c % m)))); rw[h2];refine⟨_,rfl,_,rfl,_,_,rfl,rfl,_,rfl,a,_,rfl,bh.of (s2 _ _ hB2.at'),fun p2 n2=>?_⟩;obtain⟨H3,h3,s3,e3⟩:=cv n2 (.lst (jc (rs.map V.ref) (some (c % m+1)) none)); rw[h3];have l1:=tJ (rs.map V.ref) none (some (c % m));have l2:=tJ (rs.map V.ref) (some (c % m+1)) none;rw[ln] at l1 l2;refine⟨p1,p2,_,_,rfl,rfl,s3 _ _ e2,e3,cf (bo (by lia)),fun p3 n3=>?_⟩;obtain⟨H4,h4,s4,e4⟩:=cv n3 (.lst (jc (rs.map V.ref) none (some (c % m))++jc (rs.map V.ref) (some (c % m+1)) none)); rw[h4];have s24:=s2.trans (s3.trans s4);have s14:=s1.trans s24;obtain⟨vs,e5,_,g5⟩:=hB2.good
     have:vs=rs.map V.ref:=by have:=e5.symm.trans hB2.at'; cases this; rfl
     subst this;refine .inr ⟨⟨p3,_,_,rfl,fun b o _ _ e=>s14 _ _ e,_,e4,by rw[ai]; lia,fun v hv=>?_⟩,by lia⟩;rcases bu.mp hv with h | h
     ·exact (g5 v (tH h)).same s24
     ·exact (g5 v (tH h)).same s24
    ·exact⟨_,rfl,rfl,_,rfl,cr (fun z=>hy (V.int.inj z)) (.inl ⟨rfl,s1⟩)⟩
   ·exact⟨_,rfl,rfl,_,rfl,cr (fun z=>by have:=V.int.inj z; lia) (.inr ⟨⟨p,o5,o6,rfl,fr,gd⟩,by lia⟩)⟩
  rintro σ H1 h1;refine⟨On H a rs y c (c % m) (c / 5 % m) 4,?_,?_⟩
  ·rcases h1 with ⟨rfl,s1⟩ | ⟨⟨p,o5,o6,rfl,fr,gd⟩,lt⟩
   ·by_cases hy:y=3
    ·refine⟨_,rfl,rfl,_,rfl,dO (by rw[hy]) ?_⟩
     refine⟨_,rfl,sv (hB.same s1) fun H2 s2=>⟨_,rfl,?_⟩⟩;have s12:=s1.trans s2
     by_cases n0:0 < n
     ·refine dO n0 ?_
      have hB2:=hB.same s12;obtain⟨U,ru,_,eU,lU,mU,atU,gU,rowU⟩:=nu n0;obtain⟨x,lx,bx,ex⟩:=rowU _ hB2;refine⟨_,rfl,_,rfl,a,_,_,_,rfl,rfl,bh.of hB2.at',atU,?_⟩;obtain⟨y',hy'⟩:=bW (l:=x.map V.int) (i:=(x.map V.int).length - 1) (by rw[aa]; lia);refine⟨.inl ⟨rfl,_,bh.of ex⟩,ru,_,_,rfl,rfl,ex,hy',?_⟩;refine .inr ⟨⟨a,_,_,rfl,frm s12 mU,?_⟩,by lia⟩;rw[←List.map_dropLast];exact hB2.setRow mU (by rw[List.length_dropLast]; lia) fun q hq=>aE (bx q (List.dropLast_subset _ hq)) (by decide)
     ·exact cr n0 (.inl ⟨rfl,s12⟩)
    ·exact⟨_,rfl,rfl,_,rfl,cr (fun z=>hy (V.int.inj z)) (.inl ⟨rfl,s1⟩)⟩
   ·exact⟨_,rfl,rfl,_,rfl,cr (fun z=>by have:=V.int.inj z; lia) (.inr ⟨⟨p,o5,o6,rfl,fr,gd⟩,by lia⟩)⟩
  rintro σ H1 h1;refine⟨On H a rs y c (c % m) (c / 5 % m) 6,?_,?_⟩
  ·rcases h1 with ⟨rfl,s1⟩ | ⟨⟨p,o5,o6,rfl,fr,gd⟩,lt⟩
   ·by_cases hy:y=5
    ·refine⟨_,rfl,rfl,_,rfl,dO (by rw[hy]) ?_⟩
     have hB2:=hB.same s1;refine⟨_,rfl,(by show 1≤sizeLine; decide),fun p1 n1=>?_⟩;obtain⟨H2,h2,s2,e2⟩:=cv n1 (.lst [.int 0]); rw[h2];refine⟨_,rfl,a,_,rfl,.inl (bh.of (s2 _ _ hB2.at')),?_⟩;rw[ln];refine⟨p1,(n:Int),_,rfl,rfl,e2,by lia,by lia,(by show 1 * _≤sizeLine; rw[Nat.one_mul]; exact cf (bo (by lia))),fun p2 n2=>?_⟩;obtain⟨H3,h3,s3,e3⟩:=cv n2 (.lst (List.replicate ((n:Int)).toNat [V.int 0]).flatten); rw[h3];refine⟨(by show 1≤sizeLine; decide),fun p3 n3=>?_⟩;obtain⟨H4,h4,s4,e4⟩:=cv n3 (.lst [.ref p2]); rw[h4];have s14:=s2.trans (s3.trans s4);refine⟨a,p3,_,_,rfl,rfl,s14 _ _ hB2.at',e4,cf (bo (by rw[ln]; show n+1≤1000; lia)),fun p4 n4=>?_⟩;obtain⟨H5,h5,s5,e5⟩:=cv n4 (.lst (rs.map V.ref++[.ref p2])); rw[h5];have s15:=s14.trans s5;obtain⟨vs,e6,_,g6⟩:=hB2.good
     have:vs=rs.map V.ref:=by have:=e6.symm.trans hB2.at'; cases this; rfl
     subst this;refine .inr ⟨⟨p4,_,_,rfl,fun b o _ _ e=>s15 _ _ (s1 _ _ e),_,e5,by rw[ai,ln]; show n+1≤20; lia,fun v hv=>?_⟩,by lia⟩;rcases bu.mp hv with h | h
     ·exact (g6 v h).same s15
     ·rw[aw.mp h]
      refine⟨p2,List.replicate n 0,rfl,by rw[cO]; lia,fun z hz=>by rw[jz hz]; decide,?_⟩;have e:(List.replicate ((n:Int)).toNat [V.int 0]).flatten=(List.replicate n (0:Int)).map V.int:=by rw[bC,List.flatten_replicate_singleton,List.map_replicate]
      rw[←e];exact s5 _ _ (s4 _ _ e3)
    ·exact⟨_,rfl,rfl,_,rfl,cr (fun z=>hy (V.int.inj z)) (.inl ⟨rfl,s1⟩)⟩
   ·exact⟨_,rfl,rfl,_,rfl,cr (fun z=>by have:=V.int.inj z; lia) (.inr ⟨⟨p,o5,o6,rfl,fr,gd⟩,by lia⟩)⟩
  rintro σ H1 h1;refine⟨On H a rs y c (c % m) (c / 5 % m) 7,?_,?_⟩
  ·rcases h1 with ⟨rfl,s1⟩ | ⟨⟨p,o5,o6,rfl,fr,gd⟩,lt⟩
   ·by_cases hy:y=6
    ·refine⟨_,rfl,rfl,_,rfl,dO (by rw[hy]) ?_⟩
     refine⟨_,rfl,sv (hB.same s1) fun H2 s2=>⟨_,rfl,?_⟩⟩;have s12:=s1.trans s2
     by_cases n0:0 < n
     ·refine dO n0 ?_
      have hB2:=hB.same s12;obtain⟨U,ru,_,eU,lU,mU,atU,gU,rowU⟩:=nu n0;obtain⟨x,lx,bx,ex⟩:=rowU _ hB2;obtain⟨W,rv,eW,lW,mW,atV,colV⟩:=nv n0;obtain⟨z,hz,az,iz⟩:=colV x lx;refine⟨_,rfl,_,rfl,a,_,_,_,rfl,rfl,bh.of hB2.at',atU,?_⟩;refine⟨.inl ⟨rfl,_,bh.of ex⟩,_,rfl,_,rfl,a,_,_,_,rfl,rfl,bh.of hB2.at',atU,_,rfl,ru,_,_,_,rfl,rfl,bh.of ex,az,ru,_,_,rfl,rfl,ex,bo (by rw[aa]; lia),?_⟩;refine .inr ⟨⟨a,_,_,rfl,frm s12 mU,?_⟩,by lia⟩;have e:x.map V.int++[V.int z]=(x++[z]).map V.int:=by rw[aM]; rfl
      rw[e];refine hB2.setRow mU (by rw[ai]; show x.length+1≤20; lia) fun q hq=>?_
      rcases bu.mp hq with h | h
      ·exact aE (bx q h) (by decide)
      ·rw[aw.mp h]; exact aE (bx z (ae hz)) (by decide)
     ·exact cr n0 (.inl ⟨rfl,s12⟩)
    ·exact⟨_,rfl,rfl,_,rfl,cr (fun z=>hy (V.int.inj z)) (.inl ⟨rfl,s1⟩)⟩
   ·exact⟨_,rfl,rfl,_,rfl,cr (fun z=>by have:=V.int.inj z; lia) (.inr ⟨⟨p,o5,o6,rfl,fr,gd⟩,by lia⟩)⟩
  rintro σ H1 h1;refine⟨On H a rs y c (c % m) (c / 5 % m) 8,?_,?_⟩
  ·rcases h1 with ⟨rfl,s1⟩ | ⟨⟨p,o5,o6,rfl,fr,gd⟩,lt⟩
   ·by_cases hy:y=7
    ·refine⟨_,rfl,rfl,_,rfl,dO (by rw[hy]) ?_⟩
     refine⟨_,rfl,sv (hB.same s1) fun H2 s2=>⟨_,rfl,?_⟩⟩;have s12:=s1.trans s2
     by_cases n0:0 < n
     ·refine dO n0 ?_
      have hB2:=hB.same s12;obtain⟨U,ru,_,eU,lU,mU,atU,gU,rowU⟩:=nu n0;obtain⟨x,lx,bx,ex⟩:=rowU _ hB2;obtain⟨W,rv,eW,lW,mW,atV,colV⟩:=nv n0;obtain⟨z,hz,az,iz⟩:=colV x lx;have bz:=bx z (ae hz);refine⟨_,rfl,_,rfl,a,_,_,_,rfl,rfl,bh.of hB2.at',atU,_,rfl,ru,_,_,_,rfl,rfl,bh.of ex,az,?_⟩;obtain⟨r0,hr0⟩:=bW (l:=rs) (i:=0) (by rw[hB.len]; exact n0);obtain⟨x0,lx0,bx0,ex0⟩:=hB2.row r0 (ae hr0);have w0:=cB (c / 25) (b:=(n:Int)) (by lia);have w1:=cp (c / 25) (b:=(n:Int)) (by lia);obtain⟨j,hj⟩:=bc w0;obtain⟨z2,hz2⟩:=bW (l:=x0) (i:=j) (by lia);have bz2:=bx0 z2 (ae hz2);refine⟨_,rfl,a,_,_,_,rfl,rfl,bh.of hB2.at',fJ hr0,_,rfl,_,_,rfl,rfl,⟨by decide,by decide⟩,_,rfl,a,_,rfl,.inl (bh.of hB2.at'),?_⟩;rw[ln];refine⟨_,_,rfl,rfl,(by show (0:Int) < (n:Int); lia),r0,_,_,.int z2,rfl,rfl,bh.of ex0,(by show lF (x0.map V.int) (c / 25 % (n:Int))=_; rw[hj]; exact cX (by rw[aq,hz2]; rfl)),?_⟩;refine⟨_,rfl,a,rfl,⟨_,bh.of hB2.at'⟩,fun D hD=>?_⟩;refine HB (n:=n) (k:=3000) (by rw[ln]; lia) hD (bh.of hB2.at') ?_ ?_ ?_
      ·intro i x' H3 hx' s3
       obtain⟨r,hr',rfl⟩:=bI hx';obtain⟨xr,lxr,bxr,exr⟩:=hB2.row r (ae hr');have exr3:=s3 _ _ exr;refine⟨_,rfl,r,rfl,⟨_,bh.of exr3⟩,fun D2 hD2=>?_⟩;refine iP ((xr.map fun q=>if Mb (.int q) [V.int z,V.int z2]=true then z+z2 - q else q).map V.int) (by rw[aa,aa,aa]) (by rw[aa]; lia) hD2 (bh.of exr3) ?_ ?_ ?_
       ·intro i' x2 v2 H4 hx2 hv2 s4
        obtain⟨q,hq,rfl⟩:=bI hx2;obtain⟨q2,hq2,rfl⟩:=bI hv2;obtain⟨q3,hq3,rfl⟩:=bI hq2;rw[hq] at hq3;cases hq3;refine⟨_,rfl,_,rfl,_,rfl,(by show 2≤sizeLine; decide),fun t nt=>?_⟩;obtain⟨H5,h5,s5,e5⟩:=cv nt (.tup [.int z,.int z2]); rw[h5];refine⟨t,_,rfl,.inr (dy.of e5),rfl,rfl,_,rfl,?_⟩
        by_cases cin:Mb (.int q) [V.int z,V.int z2]=true
        ·rw[if_pos cin]
         rw[show (if false=true then !Mb (V.int q) [V.int z,V.int z2] else Mb (V.int q) [V.int z,V.int z2])=true from cin];exact re ⟨_,rfl,_,rfl,_,_,rfl,rfl,_,rfl,_,_,rfl,rfl,rfl,s5⟩
        ·rw[if_neg cin]
         rw[show (if false=true then !Mb (V.int q) [V.int z,V.int z2] else Mb (V.int q) [V.int z,V.int z2])=false from by simpa using cin];exact oG ⟨_,rfl,rfl,s5⟩
       ·intro H4 s4 e4
        refine⟨s4,D2,_,rfl,hD2,?_,fun q hq=>?_,e4⟩
        ·rw[aa]; exact lxr
        ·obtain⟨q',hq',rfl⟩:=bg.mp hq
         have:=bxr q' hq'
         split <;> lia
       ·rintro σ' H' Q1 Q2 hq ⟨v1,e1,v2,e2,v3,e3,sz,g⟩
        refine⟨v1,e1,v2,e2,v3,e3,sz,fun p np=>?_⟩;obtain⟨q,xs,h1,h2,h3,h4,b,h5,h6⟩:=g p np;refine⟨q,xs,h1,h2,h3,h4,b,h5,?_⟩
        split at h6
        ·rename_i hb
         rw[if_pos hb];obtain⟨v4,e4,v5,e5,i5,j5,r5,r6,v6,e6,i6,j6,r7,r8,g2⟩:=h6;exact⟨v4,e4,v5,e5,i5,j5,r5,r6,v6,e6,i6,j6,r7,r8,hq _ _ g2⟩
        ·rename_i hb
         rw[if_neg hb];obtain⟨v4,e4,g2⟩:=h6;exact⟨v4,e4,hq _ _ g2⟩
      ·intro rs' H3 s3 e3 l3 g3 _
       refine .inr ⟨⟨D,_,_,rfl,fun b o _ _ e=>s3 _ _ (s12 _ _ e),_,e3,by rw[aa,l3,ln]; lia,fun v hv=>?_⟩,by lia⟩;obtain⟨r,hr',rfl⟩:=bg.mp hv;obtain⟨_,_,z',g4,g5,g6⟩:=g3 r hr';exact⟨r,z',rfl,by lia,fun q hq=>aE (g5 q hq) (by decide),g6⟩
      ·rintro σ' H' Q1 Q2 hq ⟨v,e,a',e2,e3,g⟩
       exact⟨v,e,a',e2,e3,fun D hD=>let ⟨W,m0,st⟩:=g D hD; ⟨W,m0,fun i m ys H' hw=>let ⟨a1,a2⟩:=st i m ys H' hw; ⟨a1,a2.imp (fun⟨b1,b2⟩=>⟨b1,hq _ _ b2⟩) id⟩⟩⟩
     ·exact cr n0 (.inl ⟨rfl,s12⟩)
    ·exact⟨_,rfl,rfl,_,rfl,cr (fun z=>hy (V.int.inj z)) (.inl ⟨rfl,s1⟩)⟩
   ·exact⟨_,rfl,rfl,_,rfl,cr (fun z=>by have:=V.int.inj z; lia) (.inr ⟨⟨p,o5,o6,rfl,fr,gd⟩,by lia⟩)⟩
  rintro σ H1 (⟨rfl,s1⟩ | ⟨⟨p,o5,o6,rfl,fr,gd⟩,_⟩)
  ·obtain⟨T,g,tb⟩:=(hB.same s1).good.grd
   exact⟨_,rfl,q a T H1 (fun b o _ _ e=>s1 _ _ e) g tb⟩
  ·obtain⟨T,g,tb⟩:=gd.grd
   exact⟨_,rfl,q p T H1 fr g tb⟩
theorem Kb {κ:Type}[DecidableEq κ]{ks:List κ}{x:Nat}(h:x ∈ jZ ks):x < ks.length:=by
 obtain⟨i,hi⟩:=aP.mp h;obtain⟨k,hk⟩:=bW (l:=ks) (i:=i) (by rw[←pj ks]; exact cq hi);obtain⟨a1,b1⟩:=jp ks [] i hk;have c1:some ((ks.foldl cj []).idxOf k)=some x:=a1.symm.trans hi;cases c1;have l1:=jy.mpr b1;have l2:=wE ks [];simp at l2
 lia
theorem qu {Ws:List d9}(h:K8 Ws ns)(hl:kE Ws≤200):∀ z ∈ ns,z.natAbs≤200:=fun z hz=>by
 have e:=h.2;have ln:=h.1.len;rw[←e] at hz;unfold og nI at hz;obtain⟨x,hx,rfl⟩:=bg.mp hz
 have:=Kb hx
 have lm:(dh Ws (iA ns Ws)).length=ns.length:=by
  have:=congrArg List.length e
  unfold og nI at this;rw[aa,pj] at this;exact this
 lia
structure jW (k:Nat)(H:Hp)(a:Addr)(rs:LI)(n:Nat):Prop where
 at':H a=some (.lst (rs.map V.ref))
 len:rs.length=n
 na:a ∉ rs
 row:∀ r ∈ rs,∃ x:LF,x.length=n∧(∀ z ∈ x,z.natAbs≤k)∧H r=some (.lst (x.map V.int))
theorem jW.same {n:Nat}(h:jW k H a rs n)(s:∀ b o,b ∈ a :: rs→H b=some o→H' b=some o):jW k H' a rs n :=
 ⟨s _ _ aK h.at',h.len,h.na,fun r hr=>let ⟨x,e1,e2,e3⟩:=h.row r hr; ⟨x,e1,e2,s _ _ (aC _ hr) e3⟩⟩
theorem jW.bn {n:Nat}(h:jW k H a rs n)(hk:k≤1000)(n7:n≤7):E9 H a rs n :=
 ⟨h.at',h.len,h.na,n7,fun r hr=>let ⟨x,e1,e2,e3⟩:=h.row r hr; ⟨x,e1,fun z hz=>aE (e2 z hz) hk,e3⟩⟩
theorem jW.some' {n:Nat}(h:jW k H a rs n):∀ x ∈ a :: rs,∃ o,H x=some o:=fun x hx=>by
 rcases aQ.mp hx with rfl | hx
 ·exact⟨_,h.at'⟩
 ·obtain⟨y,_,_,e⟩:=h.row x hx
  exact⟨_,e⟩
theorem rL {n:Nat}(g:mz H H' a (gI T))(sq:iD n T)(sm:∀ x ∈ T,∀ z ∈ x,z.natAbs≤200):∃ rs,jW 200 H' a rs n∧∀ x ∈ a :: rs,H x=none:=by
 obtain⟨rs,e,gv,na,_,new⟩:=g;refine⟨rs,⟨e,by rw[gv.len,dJ]; exact sq.1,fun h=>(new a h).1 rfl,fun r hr=>?_⟩,fun x hx=>?_⟩
 ·obtain⟨i,hi⟩:=aP.mp hr
  obtain⟨x,hx⟩:=bW (l:=T) (i:=i) (by rw[←dJ,←gv.len]; exact cq hi);have mx:=ae hx;exact⟨x,sq.2 x mx,sm x mx,gv.row i r _ hi (jb hx)⟩
 ·rcases aQ.mp hx with rfl | hx
  ·exact na
  ·exact (new x hx).2
def wa (k:Nat)(H H':Hp)(a b:Addr)(n m:Nat):Prop:=∃ rs rs':LI,jW k H' a rs n∧jW k H' b rs' m∧(∀ x ∈ a :: rs,H x=none)∧(∀ x ∈ b :: rs',H x=none)∧∀ x ∈ a :: rs,x ∉ b :: rs'
theorem B8 {xs ys:LI}(h:xs.map V.ref=ys.map V.ref):xs=ys:=zY (fun _ _ q=>V.ref.inj q) |>.mp h
theorem yP {b:Addr}{rs':LI}{n:Nat}(h1:jW k H1 a rs n)(n1:∀ x ∈ a :: rs,H x=none)(s0:Same H H1)(s:Same H1 H2)(h2:jW k H2 b rs' m)(n2:∀ x ∈ b :: rs',H1 x=none):wa k H H2 a b n m :=
 ⟨rs,rs',h1.same fun b o _ e=>s b o e,h2,n1,fun x hx=>s0.free (n2 x hx),fun x hx hy=>by
  obtain⟨o,e⟩:=h1.some' x hx
  rw[n2 x hy] at e
  cases e⟩
theorem Cf {b:Addr}{n:Nat}(g1:mz H H' a (gI T))(g2:mz H H' b (gI T'))(ap:uq H' a b)(s1:iD n T)(s2:iD m T')(i1:∀ x ∈ T,∀ z ∈ x,z.natAbs≤200)(i2:∀ x ∈ T',∀ z ∈ x,z.natAbs≤200):wa 200 H H' a b n m:=by
 obtain⟨rs,h1,n1⟩:=rL g1 s1 i1;obtain⟨rs',h2,n2⟩:=rL g2 s2 i2;obtain⟨qs,qs',e1,e2,z1,z2,z3⟩:=ap;rw[h1.at'] at e1;rw[h2.at'] at e2;obtain rfl:=B8 (HO.lst.inj (aW e1));obtain rfl:=B8 (HO.lst.inj (aW e2));refine⟨rs,rs',h1,h2,n1,n2,fun x hx hy=>?_⟩;rcases aQ.mp hx with rfl | hx
 ·rcases aQ.mp hy with rfl | hy
  ·exact z1 rfl
  ·exact z2 hy
 ·rcases aQ.mp hy with rfl | hy
  ·exact (z3 x hx).1 rfl
  ·exact (z3 x hx).2 hy
abbrev xC:LK:=["_law_web_here","_law_other","_law_cell_here"]
abbrev tF:LK:=["_law_web_here","_law_other","_law_cell_here","_law_kinds","_law_there","_law_way"]
theorem jg:bJ tF xC (aB iN):=by constructor<;>first|rfl|decide +kernel
theorem Pn:fk (aB iN) tF (cz (dq (iR (cT iN 4) 0))) "_law_row":=by constructor<;>first|rfl|decide +kernel
def IA:Scope:=relabel (cz (dq (iR (cT iN 4) 0))) (envOfC "" (aB iN) 0 0 .none)
theorem NC:cw IA (jS tF "_law_row") (cz (zi (dq (iR (cT iN 4) 0)))) ["_law_kind"]:=by constructor<;>first|rfl|decide +kernel
theorem Pm:fk (aB iN) tF (cz (dq (iR (cT iN 4) 1))) "_law_row":=by constructor<;>first|rfl|decide +kernel
def Iz:Scope:=relabel (cz (dq (iR (cT iN 4) 1))) (envOfC "" (aB iN) 0 0 .none)
theorem NB:cw Iz (jS tF "_law_row") (cz (zi (dq (iR (cT iN 4) 1)))) ["_law_kind"]:=by constructor<;>first|rfl|decide +kernel
inductive uQ (vs:LG)(H:Hp)(Q:VK):Prop | mk (wA oA:Addr) (n m:Nat) (hs hs':LF) (M M':LA) (c:Int) (_:vs=[.ref wA,.ref oA,.int c]) (_:Wz H wA n hs M) (_:Wz H oA m hs' M') (_:n≤7) (_:m≤7) (_:∀ (p a b:Addr) (T T':LA) (H':Hp),Same H H'→H' p=some (.tup [.ref a,.ref b])→eI H' a (gI T)→eI H' b (gI T')→ud T→ud T'→Q (.ref p) H'):uQ vs H Q
def BQ (K:LM):Sp:=fun vs H Q _=>uQ vs H Q
theorem Hk (B:qa mg)(F:Fun K "_law_tables" "_law_tables" iN f fd)(DG:Dn K mg "kinds_together" B5 ["web","other"] fG fdG)(GG:bK P w K mg base cI 6 fG fdG ["web","other"] (FT K))(DK:Dn K mg "coarsest_kinds" o0 ["web"] fK fdK)(GK:bK P w K mg base cI 6 fK fdK ["web"] (uW K))(DL:Dn K mg "_law_looks" wO ["_law_web_here","_law_other"] fL fdL)(GL:bK P w K mg base cI 1 fL fdL ["_law_web_here","_law_other"] (BM K))(DB:Dn K mg "_law_bent" pd C9 fB fdB)(GB:bK P w K mg base cI 1 fB fdB C9 (FX K)):bK P w K mg base cI 7 f fd xC (BQ K):=by
 refine F.o jg fun cdv A outer s H vs Q E hr h=>?_
 ·obtain⟨wA,oA,n,m,hs,hs',M,M',c,rfl,W1,W2,hn,hm,q⟩:=h
  have r1:=hr.mono (j:=1) (by decide);refine⟨_,am (gx (bw DG GG hr rfl (ad (pv 0) (ad (pv 1) ah))) (gp rfl (bY (iK 3 jg.nd) (bY (iK 4 jg.nd) eJ))))
   (dH (cK (bF cE (aY cJ (pv 2) aj) aj (bG _)) (am (d7 3 jg.nd (bw DK GK hr rfl (ad (pv 0) ah))) (ar (d7 4 jg.nd (bw DK GK hr rfl (ad (pv 1) ah))))) bX)
   (dH (cK (bF cE (aY cJ (pv 2) aj) aj (bG _)) (ar (gx (bw DL GL r1 rfl (ad (pv 0) (ad (pv 1) ah))) (gp rfl (bY (iK 3 jg.nd) (bY (iK 4 jg.nd) eJ))))) bX)
   (am (d7 5 jg.nd (aY cJ (aY fZ (pv 2) aj) aj))
   (dH (cK (bF cE (pv 5) aj (bG _)) (am (pf (i:=3) jg.nd rfl (Or.inl rfl) rfl Pn rfl (cU (pv 3)) fun _ _ _=>gE rfl NC rfl (ph (K:=K) (pv 6)) fun _ _ _=>aY mQ (aY dY aj (pv 7)) aj) (ar (pf (i:=4) jg.nd rfl (Or.inl rfl) rfl Pm rfl (cU (pv 4)) fun _ _ _=>gE rfl NB rfl (ph (K:=K) (pv 6)) fun _ _ _=>aY mQ (aY dY aj (pv 7)) aj))) bX)
   (am (cK (bF cE (aY cJ (aY fZ (pv 2) aj) aj) aj (bG _)) (ar (bt (dc (ad (pv 3) (ad (bw DB GB r1 rfl (ad (pv 4) (ad (pv 5) (ad (aY fZ (pv 2) aj) ah)))) ah))))) bX)
   (ar (bt (dc (ad (bw DB GB r1 rfl (ad (pv 3) (ad (pv 5) (ad (aY fZ (pv 2) aj) ah)))) (ad (pv 4) ah)))))))))),?_⟩
  show let ω1:TS:=_;let ω2:TS:=_;let ω3:TS:=bL (eK _ ω2 _) ω1;let ω4:TS:=_;let ω5:TS:=bL _ ω4;let ω6:TS:=ju (eK _ ω5 _) ω3;let ω7:TS:=bL _ ω6;let ω8:TS:=_;let ω9:TS:=ju (eK _ ω8 _) ω7;let ω10:TS:=_;let ω11:TS:=bL _ ω10;let ω12:TS:=ju (eK _ ω11 _) ω9;bL _ ω12 _ _ _;intro ω1 ω2 ω3 ω4 ω5 ω6 ω7 ω8 ω9 ω10 ω11 ω12;have l1:=W1.len;have l2:=W2.len;have nn:n * n≤7 * 7:=bP hn hn;have mm:m * m≤7 * 7:=bP hm hm;refine⟨_,rfl,_,rfl,wA,oA,n,m,hs,hs',M,M',rfl,W1,W2,by lia,by lia,fun p T T' H1 s1 kt=>?_⟩;obtain⟨a,b,ns,ep,g1,g2,ap,en,rfl,rfl⟩:=kt;have tt:=I0 (us:=hs) (us':=hs') (M:=M) (M':=M') en.1.len;have sm:=qu en (by show h9 _ _≤200; simp[h9,l1,l2]; lia);rw[tt.2.2] at sm;have pb:wa 200 H H1 a b n m:=Cf g1 g2 ap (by rw[←l1]; exact tt.1) (by rw[←l2]; exact tt.2.1) (fun x hx z hz=>sm z (cW _ (k9.mpr ⟨x,hx,hz⟩))) (fun x hx z hz=>sm z (bA _ (k9.mpr ⟨x,hx,hz⟩)));refine⟨p,_,rfl,dy.of ep,rfl,_,_,rfl,_,_,rfl,rfl,?_⟩;clear tt sm ep g1 g2 ap en;have z4:(0:Int) < 4:=by decide
  let ψ1:LQ:=fun σ H'=>∃ a b:Addr,σ=[some (.ref wA),some (.ref oA),some (.int c),some (.ref a),some (.ref b),none]∧Same H H'∧wa 200 H H' a b n m
  refine⟨ψ1,?_,?_⟩
  ·refine⟨_,rfl,_,_,rfl,rfl,z4,rfl,_,rfl,?_⟩
   by_cases c1:c % 4=1
   ·refine dO (congrArg V.int c1) ?_
    refine⟨_,rfl,.ref wA,(hs,M),rfl,(W1.same s1).wbn,by show hs.length≤8; lia,fun a' ns H2 s2 en g2=>?_⟩;have tq:=qf (Ws:=[(hs,M)]) (i:=0) (W:=(hs,M)) en.1.len rfl;have ek:=mi en.1.len;have sm:=qu en (by show h9 _ _≤200; simp[h9,l1]; lia);obtain⟨rs,h1,n1⟩:=rL (n:=n) g2 (by rw[←l1]; exact tq) (fun x hx z hz=>sm z (by rw[←ek]; unfold cM iA; simp only[cx,List.range_one,aS,eQ,bV,lq,fe]; exact k9.mpr ⟨x,hx,hz⟩));have s12:=s1.trans s2;refine⟨_,rfl,.ref oA,(hs',M'),rfl,(W2.same s12).wbn,by show hs'.length≤8; lia,fun b' ns' H3 s3 en' g3=>?_⟩;have tq':=qf (Ws:=[(hs',M')]) (i:=0) (W:=(hs',M')) en'.1.len rfl;have ek':=mi en'.1.len;have sm':=qu en' (by show h9 _ _≤200; simp[h9,l2]; lia);obtain⟨rs',h2,n2⟩:=rL (n:=m) g3 (by rw[←l2]; exact tq') (fun x hx z hz=>sm' z (by rw[←ek']; unfold cM iA; simp only[cx,List.range_one,aS,eQ,bV,lq,fe]; exact k9.mpr ⟨x,hx,hz⟩));exact⟨a',b',rfl,s12.trans s3,yP h1 (fun x hx=>s1.free (n1 x hx)) s12 s3 h2 n2⟩
   ·exact cr (fun z=>c1 (V.int.inj z)) ⟨a,b,rfl,s1,pb⟩
  clear pb s1 H1 a b;rintro σ H1 ⟨a,b,rfl,s1,pb⟩
  let ψ2:LQ:=fun σ H'=>∃ a b:Addr,σ=[some (.ref wA),some (.ref oA),some (.int c),some (.ref a),some (.ref b),none]∧Same H H'∧wa 200 H H' a b n m
  refine⟨ψ2,?_,?_⟩
  ·refine⟨_,rfl,_,_,rfl,rfl,z4,rfl,_,rfl,?_⟩
   by_cases c1:c % 4=2
   ·refine dO (congrArg V.int c1) ?_
    refine⟨_,rfl,_,rfl,wA,oA,n,m,hs,hs',M,M',rfl,W1.same s1,W2.same s1,hn,hm,fun p a' b' T T' H2 s2 ep tw=>?_⟩;have pb':=Cf tw.g1 tw.g2 tw.ap tw.s1 tw.s2 tw.i1 tw.i2;refine⟨p,_,rfl,dy.of ep,rfl,_,_,rfl,_,_,rfl,rfl,a',b',rfl,s1.trans s2,?_⟩;obtain⟨rs,rs',z1,z2,z3,z5,z6⟩:=pb';exact⟨rs,rs',z1,z2,fun x hx=>s1.free (z3 x hx),fun x hx=>s1.free (z5 x hx),z6⟩
   ·exact cr (fun z=>c1 (V.int.inj z)) ⟨a,b,rfl,s1,pb⟩
  clear pb s1 H1 a b;rintro σ H1 ⟨a,b,rfl,s1,pb⟩;refine⟨_,rfl,_,_,rfl,rfl,⟨by decide,by decide⟩,_,_,rfl,rfl,(by show (0:Int) < 9; decide),?_⟩
  let ψ3:LQ:=fun σ H'=>∃ a b:Addr,σ=[some (.ref wA),some (.ref oA),some (.int c),some (.ref a),some (.ref b),some (.int (c / 4 % 9))]∧Same H H'∧wa 1000 H H' a b n m
  refine⟨ψ3,?_,?_⟩
  ·refine⟨_,rfl,rfl,_,rfl,?_⟩
   by_cases c1:c / 4 % 9=4
   ·refine dO (congrArg V.int c1) ?_
    obtain⟨rs,rs',z1,z2,z3⟩:=pb;refine⟨_,rfl,a,rfl,⟨_,bh.of z1.at'⟩,fun D hD=>?_⟩;refine HB (n:=n) (k:=1000) (by rw[aa,z1.len]; lia) hD (bh.of z1.at') ?_ ?_ ?_
    ·intro i x' H3 hx' s3
     obtain⟨r,hr',rfl⟩:=bI hx';obtain⟨xr,lxr,bxr,exr⟩:=z1.row r (ae hr');have exr3:=s3 _ _ exr;refine⟨_,rfl,r,rfl,⟨_,bh.of exr3⟩,fun D2 hD2=>?_⟩;refine iP ((xr.map fun q=>3 * q - 5).map V.int) (by rw[aa,aa,aa]) (by rw[aa]; lia) hD2 (bh.of exr3) ?_ ?_ ?_
     ·intro i' x2 v2 H4 hx2 hv2 s4
      obtain⟨q,hq,rfl⟩:=bI hx2;obtain⟨q2,hq2,rfl⟩:=bI hv2;obtain⟨q3,hq3,rfl⟩:=bI hq2;rw[hq] at hq3;cases hq3;exact⟨_,rfl,_,_,rfl,rfl,fi (by decide) (by decide),_,_,rfl,rfl,rfl,Same.refl _⟩
     ·intro H4 s4 e4
      refine⟨s4,D2,_,rfl,hD2,by rw[aa]; exact lxr,fun q hq=>?_,e4⟩;obtain⟨q',hq',rfl⟩:=bg.mp hq
      have:=bxr q' hq'
      lia
     ·rintro σ' H' Q1 Q2 hq ⟨v1,e1,i1,j1,r3,r4,cm,i2,j2,r5,r6,g⟩
      exact⟨v1,e1,i1,j1,r3,r4,cm,i2,j2,r5,r6,hq _ _ g⟩
    ·intro rs1D G2 t2 e1D l1D g1D _
     have RD:jW 1000 G2 D rs1D n:=⟨e1D,by rw[l1D,aa,z1.len],fun z=>(g1D _ z).1 rfl,fun r hr'=>(g1D r hr').2.2⟩;have ND:∀ x ∈ D :: rs1D,H1 x=none:=fun x hx=>by
      rcases aQ.mp hx with rfl | hx
      ·exact hD
      ·exact (g1D x hx).2.1
     have z2b:jW 200 G2 b rs' m:=z2.same fun b o _ e=>t2 b o e
     refine⟨_,rfl,b,rfl,⟨_,bh.of z2b.at'⟩,fun E hE=>?_⟩;refine HB (n:=m) (k:=1000) (by rw[aa,z2b.len]; lia) hE (bh.of z2b.at') ?_ ?_ ?_
     ·intro i x' H3 hx' s3
      obtain⟨r,hr',rfl⟩:=bI hx';obtain⟨xr,lxr,bxr,exr⟩:=z2b.row r (ae hr');have exr3:=s3 _ _ exr;refine⟨_,rfl,r,rfl,⟨_,bh.of exr3⟩,fun D2 hD2=>?_⟩;refine iP ((xr.map fun q=>3 * q - 5).map V.int) (by rw[aa,aa,aa]) (by rw[aa]; lia) hD2 (bh.of exr3) ?_ ?_ ?_
      ·intro i' x2 v2 H4 hx2 hv2 s4
       obtain⟨q,hq,rfl⟩:=bI hx2;obtain⟨q2,hq2,rfl⟩:=bI hv2;obtain⟨q3,hq3,rfl⟩:=bI hq2;rw[hq] at hq3;cases hq3;exact⟨_,rfl,_,_,rfl,rfl,fi (by decide) (by decide),_,_,rfl,rfl,rfl,Same.refl _⟩
      ·intro H4 s4 e4
       refine⟨s4,D2,_,rfl,hD2,by rw[aa]; exact lxr,fun q hq=>?_,e4⟩;obtain⟨q',hq',rfl⟩:=bg.mp hq
       have:=bxr q' hq'
       lia
      ·rintro σ' H' Q1 Q2 hq ⟨v1,e1,i1,j1,r3,r4,cm,i2,j2,r5,r6,g⟩
       exact⟨v1,e1,i1,j1,r3,r4,cm,i2,j2,r5,r6,hq _ _ g⟩
     ·intro rs1E G3 t3 e1E l1E g1E _
      have RE:jW 1000 G3 E rs1E m:=⟨e1E,by rw[l1E,aa,z2b.len],fun z=>(g1E _ z).1 rfl,fun r hr'=>(g1E r hr').2.2⟩;have NE:∀ x ∈ E :: rs1E,G2 x=none:=fun x hx=>by
       rcases aQ.mp hx with rfl | hx
       ·exact hE
       ·exact (g1E x hx).2.1
      exact⟨D,E,rfl,s1.trans (t2.trans t3),yP RD (fun x hx=>s1.free (ND x hx)) (s1.trans t2) t3 RE NE⟩
     ·rintro σ' H' Q1 Q2 hq ⟨v,e,a',e2,e3,g⟩
      exact⟨v,e,a',e2,e3,fun D hD=>let ⟨W,m0,st⟩:=g D hD; ⟨W,m0,fun i m ys H' hw=>let ⟨a1,a2⟩:=st i m ys H' hw; ⟨a1,a2.imp (fun⟨b1,b2⟩=>⟨b1,hq _ _ b2⟩) id⟩⟩⟩
    ·rintro σ' H' Q1 Q2 hq ⟨v,e,a',e2,e3,g⟩
     exact⟨v,e,a',e2,e3,fun D hD=>let ⟨W,m0,st⟩:=g D hD; ⟨W,m0,fun i m ys H' hw=>let ⟨a1,a2⟩:=st i m ys H' hw; ⟨a1,a2.imp (fun⟨b1,b2⟩=>⟨b1,hq _ _ b2⟩) id⟩⟩⟩
   ·obtain⟨rs,rs',z1,z2,z3⟩:=pb
    exact cr (fun z=>c1 (V.int.inj z)) ⟨a,b,rfl,s1,rs,rs',⟨z1.at',z1.len,z1.na,fun r hr'=>let ⟨x,g1,g2,g3⟩:=z1.row r hr'; ⟨x,g1,fun z hz=>aE (g2 z hz) (by decide),g3⟩⟩,⟨z2.at',z2.len,z2.na,fun r hr'=>let ⟨x,g1,g2,g3⟩:=z2.row r hr'; ⟨x,g1,fun z hz=>aE (g2 z hz) (by decide),g3⟩⟩,z3⟩
  clear pb s1 H1 a b;rintro σ H1 ⟨a,b,rfl,s1,rs,rs',z1,z2,n1,n2,ap⟩;refine⟨_,rfl,_,_,rfl,rfl,⟨by decide,by decide⟩,_,_,rfl,rfl,(by show (0:Int) < 2; decide),rfl,_,rfl,?_⟩;have B1:=z1.bn (by decide) hn;have B2:=z2.bn (by decide) hm
  by_cases c2:c / 36 % 2=0
  ·refine dO (congrArg V.int c2) ?_
   refine⟨_,rfl,_,rfl,_,rfl,_,rfl,_,_,rfl,rfl,⟨by decide,by decide⟩,b,rs',m,c / 4 % 9,c / 72,rfl,B2,fun p T' H2 fr g2 tb=>?_⟩;have B1':E9 H2 a rs n:=(z1.same fun x o hx e=>fr x o (fun z=>ap x hx (by rw[z]; exact aK)) (fun z=>ap x hx (aC _ z)) e).bn (by decide) hn;have s2:Same H H2:=fun x o e=>fr x o (fun z=>by rw[z,n2 b aK] at e; cases e) (fun z=>by rw[n2 x (aC _ z)] at e; cases e) (s1 _ _ e)
   obtain⟨T,g1,tb1⟩:=B1'.good.grd;refine⟨(by show 2≤sizeLine; decide),fun t nt=>?_⟩;have s3:Same H2 (L2.upd H2 t (.tup [.ref a,.ref p])):=Same.upd nt;exact q t a p T T' _ (s2.trans s3) ao (g1.mono s3) (g2.mono s3) tb1 tb
  ·refine cr (fun z=>c2 (V.int.inj z)) ?_
   refine⟨_,rfl,_,rfl,_,rfl,_,_,rfl,rfl,⟨by decide,by decide⟩,a,rs,n,c / 4 % 9,c / 72,rfl,B1,fun p T' H2 fr g2 tb=>?_⟩;have B2':E9 H2 b rs' m:=(z2.same fun x o hx e=>fr x o (fun z=>ap a aK (by rw[←z]; exact hx)) (fun z=>ap x (aC _ z) hx) e).bn (by decide) hm;have s2:Same H H2:=fun x o e=>fr x o (fun z=>by rw[z,n1 a aK] at e; cases e) (fun z=>by rw[n1 x (aC _ z)] at e; cases e) (s1 _ _ e)
   obtain⟨T,g1,tb1⟩:=B2'.good.grd;refine⟨_,rfl,(by show 2≤sizeLine; decide),fun t nt=>?_⟩;have s3:Same H2 (L2.upd H2 t (.tup [.ref p,.ref b])):=Same.upd nt;exact q t p b T' T _ (s2.trans s3) ao (g2.mono s3) (g1.mono s3) tb tb1
open Q6 TM
theorem Pr:PySem.W.kitOne K (.type "bool") (.type "bool")=some true:=rfl
theorem nJ:bootBuiltins "str" = some (.type "str"):=by decide +kernel
def oI (hs:LF)(M:LA)(hs':LF)(M':LA):PyData:=.list [dW hs M,dW hs' M']
theorem vi {n:Nat}(hn:n≤8):∀ M:LA,(∀ x ∈ M,x.length=n∧∀ z ∈ x,z.natAbs < 10 ^ 30)→PyData.showableAll (M.map dI)=true∧PyData.intsShortAll 31 (M.map dI)=true∧PyData.hasDictAll (M.map dI)=false∧PyData.weightAll (M.map dI)≤817 * M.length
 | [],_=>⟨rfl,rfl,rfl,au _⟩
 | x :: M,h=>by
  obtain⟨a1,a2,a3,a4⟩:=vi hn M fun y hy=>h y (aC _ hy)
  obtain⟨lx,bx⟩:=h x aK;obtain⟨b1,b2,b3,b4⟩:=qt x bx;rw[aS];refine⟨?_,?_,?_,?_⟩
  ·simp only[PyData.showableAll,dI,PyData.showable,a1,b1,ck]
  ·simp only[PyData.intsShortAll,dI,PyData.intsShort,a2,b2,ck]
  ·simp only[PyData.hasDictAll,dI,PyData.hasDict,a3,b3,m9]
  ·simp only[PyData.weightAll,dI,PyData.weight,bq]
   lia
theorem Wz.show {n:Nat}(W:Wz H p n hs M)(hn:n≤8):(dW hs M).showable=true∧(dW hs M).intsShort 31=true∧(dW hs M).hasDict=false∧(dW hs M).weight≤8000:=by
 have wm:mG=1000000000000000000000:=by decide
 obtain⟨a1,a2,a3,a4⟩:=qt hs fun z hz=>bU (W.hb z hz) (by decide)
 obtain⟨b1,b2,b3,b4⟩:=vi hn M fun x hx=>by
  obtain⟨j,hj⟩:=aP.mp hx;obtain⟨r1,r2⟩:=W.sq.row j x hj;exact⟨r1,fun z hz=>bU (r2 z hz) (by rw[wm]; decide)⟩
 have l1:=W.len;have l2:=W.sq.len;refine⟨?_,?_,?_,?_⟩
 ·simp only[dW,dI,PyData.showable,PyData.showableAll,a1,b1,ck]
 ·simp only[dW,dI,PyData.intsShort,PyData.intsShortAll,a2,b2,ck]
 ·simp only[dW,dI,PyData.hasDict,PyData.hasDictAll,a3,b3,m9]
 ·simp only[dW,dI,PyData.weight,PyData.weightAll]
  have b4':PyData.weightAll (M.map fun ns=>PyData.list (ns.map PyData.int))≤817 * M.length:=b4
  lia
theorem Fr {n:Nat}{hs':LF}(W:Wz H p n hs M)(W':Wz H p' m hs' M')(hn:n≤8)(hm:m≤8):(oI hs M hs' M').showable=true∧(oI hs M hs' M').hasDict=false∧(oI hs M hs' M').depth≤32∧(oI hs M hs' M').shown.length≤sizeLine:=by
 obtain⟨a1,a2,a3,a4⟩:=W.show hn;obtain⟨b1,b2,b3,b4⟩:=W'.show hm;obtain⟨c1,c2⟩:=HE hs M;obtain⟨d1,d2⟩:=HE hs' M';have cl:(oI hs M hs' M').canLay0=true:=by simp only[oI,PyData.canLay0,PyData.canLayAll0,c1,d1,ck]
 have is:(oI hs M hs' M').intsShort 31=true:=by simp only[oI,PyData.intsShort,PyData.intsShortAll,a2,b2,ck]
 refine⟨by simp only[oI,PyData.showable,PyData.showableAll,a1,b1,ck],by simp only[oI,PyData.hasDict,PyData.hasDictAll,a3,b3,m9],by simp only[oI,PyData.depth,PyData.depthAll]; lia,?_⟩;have h:=PyData.shown_le 31 (by decide) _ (PyData.leavesShort_of_canLay0 31 _ cl is);have w:(oI hs M hs' M').weight≤16002:=by simp only[oI,PyData.weight,PyData.weightAll]; lia
 have e:=sizeLine_eq
 lia
theorem WR.da (W:WR H p hs M):DA K any H (.ref p) (dW hs M):=by
 obtain⟨hA,rA,rs,h1,h2,h3,R⟩:=W.ex;exact .tup trivial (dy.of h1) (.cons (Is trivial (bh.of h2)) (.cons (.lst trivial (bh.of h3) (pN R.len R.row)) .nil))
theorem wj (ts:LK):(tupleText ts).length≤piled ts+3:=by
 unfold tupleText;rw[strLen_append,strLen_append];have e1:Str.length ("(" : Str)=1:=by decide
 have e2:Str.length (if ts.length == 1 then ",)" else ")" : String)≤2:=by split <;> decide
 cases ts with
 | nil =>
  have:(Str.join ", " []).length=0:=by decide
  lia
 | cons t ts =>
  have:=join_length_add (t :: ts) (by simp)
  lia
structure Sh (x:PyData):Prop where
 s:x.showable=true
 h:x.hasDict=false
 d:x.depth≤20
 l:x.shown.length≤2000000
theorem OR {d:PyData}(c:d.canLay0=true)(s:d.showable=true)(i:d.intsShort 31=true)(e:d.depth≤20)(w:d.weight≤60000):Sh d:=by
 refine⟨s,PyData.hasDict_of_canLay d c,e,?_⟩;have h:=PyData.shown_le 31 (by decide) _ (PyData.leavesShort_of_canLay0 31 _ c i)
 lia
def Gd (k W:Nat)(d:PyData):Prop:=d.canLay0=true∧d.showable=true∧d.intsShort 31=true∧d.depth≤k∧d.weight≤W
theorem HV {W:Nat}:∀ ds:LW,(∀ d ∈ ds,Gd k W d)→PyData.canLayAll0 ds=true∧PyData.showableAll ds=true∧PyData.intsShortAll 31 ds=true∧PyData.depthAll ds≤k∧PyData.weightAll ds≤(W+1) * ds.length
 | [],_=>⟨rfl,rfl,rfl,aZ _,aZ _⟩
 | d :: ds,h=>by
  obtain⟨a1,a2,a3,a4,a5⟩:=HV ds fun e he=>h e (aC _ he)
  obtain⟨b1,b2,b3,b4,b5⟩:=h d aK;refine⟨?_,?_,?_,?_,?_⟩
  ·simp only[PyData.canLayAll0,a1,b1,ck]
  ·simp only[PyData.showableAll,a2,b2,ck]
  ·simp only[PyData.intsShortAll,a3,b3,ck]
  ·simp only[PyData.depthAll]; lia
  ·simp only[PyData.weightAll,bq,Nat.mul_add,Nat.mul_one]; lia
theorem oH {W n:Nat}(h:∀ d ∈ ds,Gd k W d)(l:ds.length≤n):Gd (k+1) ((W+1) * n) (.tuple ds)∧Gd (k+1) ((W+1) * n) (.list ds):=by
 obtain⟨a1,a2,a3,a4,a5⟩:=HV ds h;have a6:=aE a5 (g9 (W+1) l);exact⟨⟨by simp only[PyData.canLay0,a1],by simp only[PyData.showable,a2],by simp only[PyData.intsShort,a3],by simp only[PyData.depth]; lia,by simp only[PyData.weight]; exact a6⟩,by simp only[PyData.canLay0,a1],by simp only[PyData.showable,a2],by simp only[PyData.intsShort,a3],by simp only[PyData.depth]; lia,by simp only[PyData.weight]; exact a6⟩
theorem Gd.up {k' W W':Nat}{d:PyData}(h:Gd k W d)(hk:k≤k')(hW:W≤W'):Gd k' W' d:=⟨h.1,h.2.1,h.2.2.1,aE h.2.2.2.1 hk,aE h.2.2.2.2 hW⟩
theorem k3:(10000:Nat)≤2 * 10 ^ 21:=by decide
theorem tU (h:z.natAbs≤2 * 10 ^ 21):Gd 0 101 (.int z):=by
 obtain⟨a1,a2,a3⟩:=vI (z:=z) (bU h (by decide));exact⟨rfl,a1,a2,aZ _,a3⟩
theorem Gd.sh {W:Nat}{d:PyData}(h:Gd k W d)(hk:k≤20)(hW:W≤60000):Sh d:=OR h.1 h.2.1 h.2.2.1 (aE h.2.2.2.1 hk) (aE h.2.2.2.2 hW)
theorem CI (h:ud T):Sh (.list (T.map dI)):=by
 have r:∀ d ∈ T.map dI,Gd 1 (102 * 20) d:=fun d hd=>by
  obtain⟨x,hx,rfl⟩:=bg.mp hd;obtain⟨lx,bx⟩:=h.2 x hx;exact (oH (W:=101) (fun e he=>by
   obtain⟨z,hz,rfl⟩:=bg.mp he
   exact tU (aE (bx z hz) k3)) (by rw[aa]; exact lx)).2
 exact (oH r (n:=20) (by rw[aa]; exact h.1)).2.sh (by decide) (by decide)
theorem CJ (s:Str)(h:s ∈ (["same","tie","all","hue","turned","then","meet","plus","many","alike","unlike"]:LK)):Gd 0 10 (.str s):=by
 have key:∀ s ∈ (["same","tie","all","hue","turned","then","meet","plus","many","alike","unlike"]:LK),(PyData.str s).canLay0=true∧(PyData.str s).showable=true∧(PyData.str s).intsShort 31=true∧(PyData.str s).depth≤0∧(PyData.str s).weight≤10:=by decide +kernel
 exact key s h
theorem KP {t:dQ}(ok:t.ok k)(hk:k≤100)(hu:Bp t):Gd 2 (205 * 3) t.dat:=by
 have nat:∀ {i:Nat},i ∈ t.nums→Gd 1 204 (.int (i:Int)):=fun {i} hi=>(tU (aE (by have:=ok.num i hi; lia) k3)).up (by decide) (by decide)
 have wd:∀ {s:Str},s ∈ (["same","tie","all","hue","turned","then","meet","plus","many","alike","unlike"]:LK)→Gd 1 204 (.str s):=fun h=>(CJ _ h).up (by decide) (by decide)
 have two:∀ {a b:PyData},Gd 1 204 a→Gd 1 204 b→Gd 2 (205 * 3) (.tuple [a,b]):=fun ha hb=>(oH (n:=3) (fun d hd=>by
  rcases aQ.mp hd with rfl | hd
  ·exact ha
  ·rw[aw.mp hd]; exact hb) (by show 2≤3; decide)).1
 have three:∀ {a b c:PyData},Gd 1 204 a→Gd 1 204 b→Gd 1 204 c→Gd 2 (205 * 3) (.tuple [a,b,c]):=fun ha hb hc=>(oH (n:=3) (fun d hd=>by
  rcases aQ.mp hd with rfl | hd
  ·exact ha
  ·rcases aQ.mp hd with rfl | hd
   ·exact hb
   ·rw[aw.mp hd]; exact hc) (by show 3≤3; decide)).1
 have one:∀ {a:PyData},Gd 1 204 a→Gd 2 (205 * 3) (.tuple [a]):=fun ha=>(oH (n:=3) (fun d hd=>by rw[aw.mp hd]; exact ha) (by show 1≤3; decide)).1
 cases t with
 | lf l =>
  cases l with
  | one=>exact absurd ok.fit (fun z=>z)
  | hue c=>exact two (wd (s:="hue") (by decide +kernel)) ((tU (aE (aE (show c.natAbs≤100 from hu) (by decide)) k3)).up (by decide) (by decide))
  | same=>exact one (wd (s:="same") (by decide +kernel))
  | tie=>exact one (wd (s:="tie") (by decide +kernel))
  | all=>exact one (wd (s:="all") (by decide +kernel))
 | turned i=>exact two (wd (s:="turned") (by decide +kernel)) (nat (by simp[dQ.nums]))
 | many a b i =>
  have fo:Br a b:=ok.fit;refine three (wd (s:="many") (by decide +kernel)) ((oH (k:=0) (W:=101) (n:=2) (fun d hd=>?_) (by show 2≤2; decide)).1.up (by decide) (by decide)) (nat (by simp[dQ.nums]));rcases aQ.mp hd with rfl | hd
  ·exact tU fo.top
  ·rw[aw.mp hd]
   exact tU (aE (by have:=fo.pos; have:=fo.bot; lia) k3)
 | two c i j =>
  cases c with
  | both=>exact absurd ok.fit (fun z=>z)
  | thn=>exact three (wd (s:="then") (by decide +kernel)) (nat (by simp[dQ.nums])) (nat (by simp[dQ.nums]))
  | meet=>exact three (wd (s:="meet") (by decide +kernel)) (nat (by simp[dQ.nums])) (nat (by simp[dQ.nums]))
  | plus=>exact three (wd (s:="plus") (by decide +kernel)) (nat (by simp[dQ.nums])) (nat (by simp[dQ.nums]))
theorem FC {ss:List dQ}(ok:jV ss)(l:ss.length≤8)(hu:∀ t ∈ ss,Bp t):Sh (.list (ss.map dQ.dat)):=by
 refine (oH (k:=2) (W:=205 * 3) (n:=8) (fun d hd=>?_) (by rw[aa]; exact l)).2.sh (by decide) (by decide);obtain⟨t,ht,rfl⟩:=bg.mp hd;obtain⟨k,hk⟩:=aP.mp ht;exact KP (ok k t hk) (by have:=cq hk; lia) (hu t ht)
theorem Bt (s:Str)(h:s ∈ (["same","tie","all","hue","turned","then","meet","plus","many","alike","unlike"]:LK)):Sh (.str s):=(CJ s h).sh (by decide) (by decide)
structure QX (ds:LW):Prop where
 w:∀ d ∈ ds,Wd d
 h:PyData.hasDictAll ds=false
 d:PyData.depthAll ds≤31
 l:(tupleText (PyData.shownAll ds)).length≤sizeLine
theorem MH (h:ud T)(h':ud T'):QX [.str "alike",.list (T.map dI),.list (T'.map dI)]:=by
 have a:=Bt "alike" (by decide +kernel);have b:=CI h;have c:=CI h';refine⟨fun d hd=>.inl ?_,by simp only[PyData.hasDictAll,a.h,b.h,c.h,m9],by simp only[PyData.depthAll]; have:=a.d; have:=b.d; have:=c.d; lia,?_⟩
 ·rcases aQ.mp hd with rfl | hd
  ·exact a.s
  ·rcases aQ.mp hd with rfl | hd
   ·exact b.s
   ·rw[aw.mp hd]; exact c.s
 ·refine aE (wj _) ?_
  simp only[PyData.shownAll,piled,aS,eQ,gW,List.sum_nil]
  have:=a.l; have:=b.l; have:=c.l; have:=sizeLine_eq
  lia
theorem Rr:(2:Nat) ^ 14000≤10 ^ 4300:=by decide +kernel
theorem CL (h:p9 H v q):Wd (j4 q)∧(j4 q).shown.length≤100000:=by
 obtain⟨p,pr,rfl,hp,hf,b1,b2⟩:=h;obtain rfl:=hf.uniq (zq q);have c1:q.num.natAbs < 10 ^ 4300:=aH b1 Rr;have c2:Int.natAbs (q.den:Int) < 10 ^ 4300:=aH b2 Rr;refine⟨.inr ⟨_,_,rfl,c1,c2⟩,?_⟩;have t1:=int_text_length_le10 (k:=4300) (by decide) c1;have t2:=int_text_length_le10 (k:=4300) (by decide) c2;rw[←PySem.ofString_length] at t1 t2;refine aE (show (j4 q).shown.length≤_ from by unfold j4; simp only[PyData.shown]; exact wj _) ?_;simp only[PyData.shownAll,piled,aS,eQ,gW,List.sum_nil];show (Str.ofString (toString q.num)).length+2+((Str.ofString (toString (q.den:Int))).length+2+0)+3≤100000
 lia
theorem MG {u:V}{x y:Rat}{ss:List dQ}(ok:jV ss)(l:ss.length≤8)(hu:∀ t ∈ ss,Bp t)(hx:p9 H u x)(hy:p9 H v y):QX [.str "unlike",.list (ss.map dQ.dat),j4 x,j4 y]:=by
 have a:=Bt "unlike" (by decide +kernel);have b:=FC ok l hu;obtain⟨c1,c2⟩:=CL hx;obtain⟨d1,d2⟩:=CL hy;have hd:∀ q:Rat,(j4 q).hasDict=false:=fun q=>PyData.hasDict_of_canLay _ (jA q).1
 have z1:=(jA x).2;have z2:=(jA y).2;refine⟨fun d hd=>?_,by simp only[PyData.hasDictAll,a.h,b.h,hd,m9],by simp only[PyData.depthAll]; have:=a.d; have:=b.d; lia,?_⟩
 ·rcases aQ.mp hd with rfl | hd
  ·exact .inl a.s
  ·rcases aQ.mp hd with rfl | hd
   ·exact .inl b.s
   ·rcases aQ.mp hd with rfl | hd
    ·exact c1
    ·rw[aw.mp hd]; exact d1
 ·refine aE (wj _) ?_
  simp only[PyData.shownAll,piled,aS,eQ,gW,List.sum_nil]
  have:=a.l; have:=b.l; have:=sizeLine_eq
  lia
end
section
variable {P:Program}{w:World}{K:LM}{mg:LO}{base:Heap}
open Q6 TM
inductive BN (K:LM)(vs:LG)(H:Hp)(Q:VK):Prop | mk (a:Addr) (ns:LF) (_:vs=[.ref a]) (_:bh K H a (ns.map V.int)) (_:ns.length≤63) (_:∀ H',Q (.bl true) H'):BN K vs H Q
def BO (K:LM):Sp:=fun vs H Q _=>BN K vs H Q
abbrev QJ:LK:=["_law_script","_law_web_here","_law_other","_law_copy","_law_cell_here","_law_kinds","_law_there","_law_paper","_law_due","_law_steps_here","_law_totals","_law_moved","_law_kept","_law_told"]
theorem jl:bJ QJ ["_law_script"] (aB wQ):=by constructor<;>first|rfl|decide +kernel
theorem Nf {Q:List V→Hp→Prop}(h:Q [] H):Mz σ H Q:=h
def Ry (K:LM)(H:Hp)(wA oA pA:Addr)(due:Bool):Prop:=∃ ds,DA K any H (.ref pA) (.tuple ds)∧QX ds ∧
 ((∃ (a b:Addr) (n m:Nat) (hs hs':LF) (M M' T T':LA),dy K H pA [.str "alike",.ref a,.ref b]∧Ri H wA oA a b n m hs hs' M M' T T'∧(due=true↔Ml n m hs hs' M M' T T')) ∨
  (∃ (st:Addr) (u v:V) (x y:Rat) (n m:Nat) (hs hs':LF) (M M':LA) (ss:List dQ),dy K H pA [.str "unlike",.ref st,u,v]∧II K H wA st ss hs M n∧II K H oA st ss hs' M' m∧0 < ss.length∧p9 H u x∧p9 H v y∧due=decide (x≠y∧oU hs M ss n=x∧oU hs' M' ss m=y)))
theorem Wz.mok {n:Nat}(W:Wz H p n hs M)(h:n≤7):Ff n hs M:=by
 refine⟨W.len,W.sq.len,fun x hx=>?_,by lia⟩;obtain⟨j,hj⟩:=aP.mp hx;exact W.sq.row j x hj
theorem QP:IsFr ((1:Rat) / 3) (1,3):=⟨by decide,by decide,by show ((1:Int):Rat)=1 / 3 * ((3:Int):Rat); grind⟩
theorem iI.more {x:Rat}(hf:IsFr x pr)(b1:M11.Bn 13000 pr.1)(b2:M11.Bn 499 pr.2)(e:H r=some (ou (HX pr.1 pr.2 1 3))):p9 H (.ref r) (x+1 / 3):=by
 have hp:=hf.pos;have key:M11.Bn 14000 (pr.1 * 3+1 * pr.2)∧M11.Bn 14000 (pr.2 * 3):=by
  have c1:pr.1.natAbs < 2 ^ 13000:=b1;have c2:pr.2.natAbs < 2 ^ 13000:=b2.mono (by decide);have c3:4 * 2 ^ 13000≤2 ^ 14000:=by
   rw[show (4:Nat)=2 ^ 2 from rfl,←uy];exact cH (by decide) (by decide)
  unfold M11.Bn;generalize 2 ^ 13000=P at c1 c2 c3;generalize 2 ^ 14000=R at c3 ⊢
  lia
 have b:=Bd (t:=pr.1 * 3+1 * pr.2) (b:=pr.2 * 3) (by lia) key.1 key.2;exact⟨r,_,rfl,e,hf.plus QP,b.1,b.2⟩
theorem N3 {b:Addr}{u u':V}{x y x' y':Rat}{Q:VK}(ha:H a=some (.lst [u,v]))(hb:H b=some (.lst [u',v']))(f1:p9 H u x)(f2:p9 H v y)(f3:p9 H u' x')(f4:p9 H v' y')(q:Q (.bl (decide (x=x'∧y=y'))) H):MX K (.ref a) (.ref b) H Q:=by
 refine⟨.list [j4 x,j4 y],.list [j4 x',j4 y'],.lst trivial (bh.of ha) (.cons f1.da (.cons f2.da .nil)),.lst trivial (bh.of hb) (.cons f3.da (.cons f4.da .nil)),⟨by simp only[PyData.canLay0,PyData.canLayAll0,(jA x).1,(jA y).1,ck],by simp only[PyData.canLay0,PyData.canLayAll0,(jA x').1,(jA y').1,ck],by simp only[PyData.depth,PyData.depthAll]; have:=(jA x).2; have:=(jA y).2; lia⟩,?_⟩;have e:PyData.eqv (.list [j4 x,j4 y]) (.list [j4 x',j4 y'])=decide (x=x'∧y=y'):=by
  simp only[PyData.eqv,PyData.eqvAll,Ig,Bool.and_true,Bool.decide_and]
 rw[e];exact q
theorem Kf {u:V}{x y:Rat}{Q:VK}(h:p9 H u x)(k:p9 H v y)(q:Q (.bl (!decide (x=y))) H):MT K u v H Q :=
 ⟨_,_,h.da,k.da,⟨(jA x).1,(jA y).1,aE (jA x).2 (by decide)⟩,by rw[Ig]; exact q⟩
theorem p9.upd (h:p9 H v q)(hd:H d=some (.lst xs)):p9 (L2.upd H d o) v q:=by
 obtain⟨p,pr,e,a,b⟩:=h;exact⟨p,pr,e,by rw[aO fun z=>by rw[z,hd] at a; cases a]; exact a,b⟩
theorem Ru:M11.Bn 2 1∧M11.Bn 2 3:=⟨by show (1:Int).natAbs < 2 ^ 2; decide,by show (3:Int).natAbs < 2 ^ 2; decide⟩
theorem M8 (B:qa mg)(bS:mg "str" = none)(eD:PySem.W.nsOkIn K cStatics=true)(qD:PySem.W.nsIn K cStatics "sys.int_max_str_digits" = some none)(F:Fun K "law" "law" wQ f fd)(DC:Dn K mg "_law_cell_at" nk ["_law_script","_law_k"] fC fdC)(GC:bK P w K mg base cI 1 fC fdC ["_law_script","_law_k"] (wB K))(DW:Dn K mg "_law_two" Jn ["_law_script","_law_most"] fW fdW)(GW:bK P w K mg base cI 3 fW fdW ["_law_script","_law_most"] (Ll K))(DT:Dn K mg "_law_tables" iN xC fT fdT)(GT:bK P w K mg base cI 7 fT fdT xC (BQ K))(DK:Dn K mg "_law_kin" qK ["_law_webs","_law_tables_here"] fK fdK)(GK:bK P w K mg base cI 2 fK fdK ["_law_webs","_law_tables_here"] (FS K))(DS:Dn K mg "_law_steps" wK ["_law_cell_here"] fS fdS)(GS:bK P w K mg base cI 2 fS fdS ["_law_cell_here"] (BE K))(DO:Dn K mg "_law_total" jH ["_law_web_here","_law_steps_here"] fO fdO)(GO:bK P w K mg base cI 4 fO fdO ["_law_web_here","_law_steps_here"] (rB K))(DP:Dn K mg "_law_plus" vf zU fP fdP)(GP:bK P w K mg base cI 2 fP fdP zU (Oo K HX))(DL:Dn K mg "look_pairs" wP ["web","other","paper"] fL fdL)(GL:bK P w K mg base cI 10 fL fdL ["web","other","paper"] (wv K)) :
  bK P w K mg base cI 11 f fd ["_law_script"] (BO K):=by
 refine F.o jl fun cdv A outer s H vs Q E hr h=>?_
 ·obtain⟨sa,ns,rfl,hS,hlen,q⟩:=h
  have r1:=hr.mono (j:=1) (by decide);have r2:=hr.mono (j:=2) (by decide);have r3:=hr.mono (j:=3) (by decide);have r4:=hr.mono (j:=4) (by decide);have r7:=hr.mono (j:=7) (by decide);refine⟨_,am (gx (bw DW GW r3 rfl (ad (pv 0) (ad aj ah))) (gp rfl (bY (iK 1 jl.nd) (bY (iK 2 jl.nd) eJ))))
   (am (d7 3 jl.nd (gy (vU hr.gd hr.units) (by rfl) bS nJ (ad (cC (ad (pv 1) (ad (pv 2) ah))) ah)))
   (am (di PassesOwn.never rfl (cU (aY oE (jP nj (pv 0) (jh aj) (jh aj)) (cC (ad (bw DC GC r1 rfl (ad (pv 0) (ad aj ah))) (ad aj ah))))) (iK 4 jl.nd) (dH (cK (bF cE (aY cJ (pv 4) aj) aj (bG _)) (am (gx (bw DT GT r7 rfl (ad (pv 1) (ad (pv 2) (ad (aY fZ (pv 4) aj) ah)))) (gp rfl (bY (iK 5 jl.nd) (bY (iK 6 jl.nd) eJ))))
   (am (d7 7 jl.nd (dc (ad cV (ad (pv 5) (ad (pv 6) ah)))))
   (ar (d7 8 jl.nd (bw DK GK r2 rfl (ad (cC (ad (pv 1) (ad (pv 2) ah))) (ad (cC (ad (pv 5) (ad (pv 6) ah))) ah))))))) (am (d7 9 jl.nd (bw DS GS r2 rfl (ad (aY fZ (pv 4) aj) ah)))
   (am (d7 10 jl.nd (cC (ad (bw DO GO r4 rfl (ad (pv 1) (ad (pv 9) ah))) (ad (bw DO GO r4 rfl (ad (pv 2) (ad (pv 9) ah))) ah))))
   (am (d7 11 jl.nd (gy xy (by rfl) B.list boot_list (ad (pv 10) ah)))
   (dH (cK (bF cE (aY cJ (aY fZ (pv 4) aj) aj) aj (bG _)) (ar (gx (bw DP GP r2 rfl (ad (aG aJ (pv 10) aj) (ad (dc (ad aj (ad aj ah))) ah))) (jv (pv 11) (aY cJ (aY fZ (pv 4) aj) aj) gH))) bX)
   (dH (cK (bF cE (aY cJ (aY fZ (pv 4) aj) aj) aj (bG _)) (ar (d7 11 jl.nd (Ee (pv 10) (yN sr aj)))) bX)
   (am (d7 7 jl.nd (dc (ad cV (ad (pv 9) (ad (aG aJ (pv 11) aj) (ad (aG aJ (pv 11) aj) ah))))))
   (ar (d7 8 jl.nd (tu (fh (oD hr.units) (pv 11) (pv 10) (bG _)) (tp (fh (l5 hr.units) (aG aJ (pv 10) aj) (aG aJ (pv 10) aj) (bG _)))))))))))))
   (am (d7 12 jl.nd (gy (vT hr.gd hr.units eD qD) (by rfl) bS nJ (ad (pv 7) ah)))
   (am (d7 13 jl.nd (bw DL GL hr rfl (ad (pv 1) (ad (pv 2) (ad (pv 7) ah)))))
   (ar (cK (PW.pt (Cc (Gu (Az (bQ zO (by rfl) B.isi boot_isinstance (ad (pv 13) (ad (JF (v:=.ty "bool") rfl B.bool boot_bool rfl) ah))))) (Cc (bF qN (pv 13) (pv 8) (bG _)) (Ay (bF qN (gy (vT hr.gd hr.units eD qD) (by rfl) bS nJ (ad (pv 7) ah)) (pv 12) (bG _)))))) (ar (bt vw)) bX))))))
   (ar (bt (fh cE (gy (vU hr.gd hr.units) (by rfl) bS nJ (ad (cC (ad (pv 1) (ad (pv 2) ah))) ah)) (pv 3) (bG _)))))),?_⟩
  show let ω1:TS:=_;let ω2:TS:=_;let ω3:TS:=(eK _ ω2 _);let ω4:TS:=bL _ ω3;let ω5:TS:=bL _ ω4;let ω6:TS:=_;let ω7:TS:=bL _ ω6;let ω8:TS:=bL _ ω7;let ω9:TS:=_;let ω10:TS:=bL _ ω9;let ω11:TS:=_;let ω12:TS:=ju (eK _ ω11 _) ω10;let ω13:TS:=_;let ω14:TS:=ju (eK _ ω13 _) ω12;let ω15:TS:=bL _ ω14;let ω16:TS:=bL _ ω15;let ω17:TS:=bL _ ω16;let ω18:TS:=ju (eK _ ω8 ω17) ω5;let ω19:TS:=bL (ig _ _ ω18) ω1;let ω20:TS:=bL _ ω19;bL _ ω20 _ _ _;intro ω1 ω2 ω3 ω4 ω5 ω6 ω7 ω8 ω9 ω10 ω11 ω12 ω13 ω14 ω15 ω16 ω17 ω18 ω19 ω20;refine⟨_,rfl,sa,ns,4,rfl,hS,by decide,fun p w1 w2 n m hs hs' M M' H1 s1 ep W1 W2 hn hm _=>?_⟩;refine⟨p,_,rfl,dy.of ep,rfl,_,_,rfl,_,_,rfl,rfl,?_⟩;have sh:=Fr W1 W2 (by lia) (by lia);have daT:∀ {Hz:Hp} {Lz:Addr},Same H1 Hz→Hz Lz=some (.lst [.ref w1,.ref w2])→DA K any Hz (.ref Lz) (oI hs M hs' M'):=fun sz e=>.lst trivial (bh.of e) (.cons (W1.wr.mono sz).da (.cons (W2.wr.mono sz).da .nil))
  refine⟨_,rfl,_,rfl,(by show 2≤sizeLine; decide),fun Lz hLz=>?_⟩;obtain⟨H2,h2,s2,e2⟩:=cv hLz (.lst [.ref w1,.ref w2]); rw[h2];refine⟨Lz,_,rfl,daT s2 e2,sh,?_⟩;generalize htx:V.str (oI hs M hs' M').shown=txt;have n7:n≤7:=by lia
  have m7:m≤7:=by lia
  have s02:=s1.trans s2;refine⟨_,rfl,_,rfl,_,rfl,sa,_,rfl,s02.seq hS,fun c1 n1=>?_⟩;obtain⟨H3,h3,s3,e3⟩:=cv n1 (.lst (jc (ns.map V.int) (some 7) (some 25))); rw[h3];refine⟨_,rfl,sa,ns,3,rfl,(s02.trans s3).seq hS,by decide,fun x3 _=>?_⟩;refine⟨(by show 2≤sizeLine; decide),fun c2 n2=>?_⟩;obtain⟨H4,h4,s4,e4⟩:=cv n2 (.lst [.int x3,.int 0]); rw[h4];have lc:=tJ (ns.map V.int) (some 7) (some 25);rw[aa] at lc;refine⟨c1,c2,_,_,rfl,rfl,s4 _ _ e3,e4,cf (bo (by show _+2≤1000; lia)),fun L nL=>?_⟩;obtain⟨H5,h5,s5,eL⟩:=cv nL (.lst (jc (ns.map V.int) (some 7) (some 25)++[.int x3,.int 0])); rw[h5];have s15:=s2.trans (s3.trans (s4.trans s5));refine⟨L,rfl,⟨_,bh.of eL⟩,?_⟩
  let π1:LP:=fun i σ H'=>∃ (o4 o5 o6 o7 o8 o9 o10 o11 o12 o13:LS),σ=[some (.ref sa),some (.ref w1),some (.ref w2),some txt,o4,o5,o6,o7,o8,o9,o10,o11,o12,o13]∧Same H5 H'
  refine gZ (K:=K) (xs:=jc (ns.map V.int) (some 7) (some 25)++[.int x3,.int 0]) π1 ⟨none,none,none,none,none,none,none,none,none,none,rfl,Same.refl _⟩ (fun i σ H' _ ⟨_,_,_,_,_,_,_,_,_,_,_,s'⟩=>bh.of (s' _ _ eL)) ?_ ?_
  ·rintro i x σ G0 hx ⟨o4,o5,o6,o7,o8,o9,o10,o11,o12,o13,rfl,sG⟩
   obtain⟨c,rfl⟩:∃ c:Int,x=.int c:=by
    rcases bu.mp (ae hx) with h | h
    ·obtain⟨z,_,rfl⟩:=bg.mp (tH h)
     exact⟨z,rfl⟩
    ·rcases aQ.mp h with rfl | h
     ·exact⟨_,rfl⟩
     ·exact⟨0,aw.mp h⟩
   have s1G:=s15.trans sG
   let ψ1:LQ:=fun σ H'=>∃ (o5 o6 o9 o10 o11 o12 o13:LS) (pA:Addr) (due:Bool),σ=[some (.ref sa),some (.ref w1),some (.ref w2),some txt,some (.int c),o5,o6,some (.ref pA),some (.bl due),o9,o10,o11,o12,o13]∧Same H5 H'∧Ry K H' w1 w2 pA due
   refine⟨ψ1,?_,?_⟩
   ·refine⟨_,rfl,_,_,rfl,rfl,(by show (0:Int) < 2; decide),rfl,_,rfl,?_⟩
    by_cases c2:c % 2=0
    ·refine dO (congrArg V.int c2) ?_
     refine⟨_,rfl,_,rfl,_,rfl,_,_,rfl,rfl,⟨by decide,by decide⟩,w1,w2,n,m,hs,hs',M,M',c / 2,rfl,W1.same s1G,W2.same s1G,n7,m7,fun p' a b T T' G1 sG1 ep' g1 g2 tb1 tb2=>?_⟩;refine⟨p',_,rfl,dy.of ep',rfl,_,_,rfl,_,_,rfl,rfl,?_⟩;refine⟨_,rfl,_,rfl,(by show 3≤sizeLine; decide),fun pA npA=>?_⟩;obtain⟨G2,k2,t2,ePA⟩:=cv npA (.tup [.str "alike",.ref a,.ref b]); rw[k2];refine⟨_,rfl,_,rfl,(by show 2≤sizeLine; decide),fun l1 nl1=>?_⟩;obtain⟨G3,k3',t3,e1⟩:=cv nl1 (.lst [.ref w1,.ref w2]); rw[k3'];refine⟨_,rfl,_,rfl,(by show 2≤sizeLine; decide),fun l2 nl2=>?_⟩;obtain⟨G4,k4,t4,e2'⟩:=cv nl2 (.lst [.ref a,.ref b]); rw[k4];have t24:=t2.trans (t3.trans t4);have s1G4:=s1G.trans (sG1.trans t24);have W1':=W1.same s1G4;have W2':=W2.same s1G4;have g1':=g1.mono t24;have g2':=g2.mono t24;refine⟨l1,l2,w1,w2,a,b,n,m,hs,hs',M,M',T,T',rfl,bh.of (t4 _ _ e1),bh.of e2',n7,m7,W1',W2',g1',g2',by have:=tb1.1; lia,by have:=tb2.1; lia,fun r G5 t5 hr5=>?_⟩;have alp:Ri G5 w1 w2 a b n m hs hs' M M' T T':=⟨W1'.same t5,W2'.same t5,n7,m7,g1'.mono t5,g2'.mono t5,tb1,tb2⟩;have ePA5:=t5 _ _ (t4 _ _ (t3 _ _ ePA));refine⟨_,_,_,_,_,_,_,pA,r,rfl,sG.trans (sG1.trans (t24.trans t5)),_,?_,MH tb1 tb2,.inl ⟨a,b,n,m,hs,hs',M,M',T,T',dy.of ePA5,alp,hr5⟩⟩;have grd:∀ {q:Addr} {U:LA},eI G5 q (gI U)→DA K any G5 (.ref q) (.list (U.map dI)):=fun⟨rs,e,gv⟩=>.lst trivial (bh.of e) (pN (by rw[gv.len,dJ]) fun i r x e1 e2=>gv.row i r _ e1 (jb e2))
     exact .tup trivial (dy.of ePA5) (.cons (.str _) (.cons (grd alp.g1) (.cons (grd alp.g2) .nil)))
    ·refine cr (fun z=>c2 (V.int.inj z)) ?_
     refine⟨_,rfl,_,_,rfl,rfl,⟨by decide,by decide⟩,c / 4,rfl,fun st ss G1 sG1 nst hst ok hu l0 l8=>?_⟩;have s1G1:=s1G.trans sG1;have fw:=NZ ok l8;have st1:II K G1 w1 st ss hs M n:=⟨(W1.same s1G1).wr,W1.mok n7,hst,ok,fw,by lia⟩;have st2:II K G1 w2 st ss hs' M' m:=⟨(W2.same s1G1).wr,W2.mok m7,hst,ok,fw,by lia⟩;refine⟨_,rfl,_,rfl,w1,st,ss,hs,M,n,rfl,st1,l0,fun u G2 t2 fu=>?_⟩;refine⟨_,rfl,_,rfl,w2,st,ss,hs',M',m,rfl,st2.mono t2,l0,fun v G3 t3 fv=>?_⟩;refine⟨(by show 2≤sizeLine; decide),fun tA ntA=>?_⟩;obtain⟨G4,k4,t4,eT⟩:=cv ntA (.lst [u,v]); rw[k4];have fu4:=(fu.mono t3).mono t4;have fv4:=fv.mono t4;refine⟨_,rfl,tA,_,rfl,.inl (bh.of eT),fun mA nmA=>?_⟩;obtain⟨G5,k5,t5,eM⟩:=cv nmA (.lst [u,v]); rw[k5];have t14:=t2.trans (t3.trans t4);have sG4:=sG.trans (sG1.trans t14);have nTM:tA≠mA:=fun z=>by rw[←z,eT] at nmA; cases nmA
     let ψ2:LQ:=fun σ H'=>∃ (mB:Addr) (u' v':V) (x' y':Rat),σ=[some (.ref sa),some (.ref w1),some (.ref w2),some txt,some (.int c),o5,o6,o7,o8,some (.ref st),some (.ref tA),some (.ref mB),o12,o13]∧Same G4 H'∧H' mB=some (.lst [u',v'])∧p9 H' u' x'∧p9 H' v' y'
     refine⟨ψ2,?_,?_⟩
     ·refine⟨_,rfl,_,_,rfl,rfl,⟨by decide,by decide⟩,_,_,rfl,rfl,(by show (0:Int) < 2; decide),rfl,_,rfl,?_⟩
      by_cases c3:c / 2 % 2=1
      ·refine dO (congrArg V.int c3) ?_
       obtain⟨pu,pr,rfl,g1,g2,g3⟩:=(fu4.mono t5).frn;obtain⟨pu',pr',eu,g1',_,b1,b2⟩:=fu4.mono t5;cases eu;rw[g1] at g1';have epr:pr'=pr:=by
        have:=HO.tup.inj (aW g1')
        simp only[List.cons.injEq,V.int.injEq,and_true] at this;exact Prod.ext this.1.symm this.2.symm
       subst epr;refine⟨_,rfl,tA,_,_,_,rfl,rfl,bh.of (t5 _ _ eT),jT _ _,(by show 2≤sizeLine; decide),fun t13 nt=>?_⟩;obtain⟨G6,k6,t6,e6⟩:=cv nt (.tup [.int 1,.int 3]); rw[k6];refine⟨pu,t13,pr'.1,pr'.2,1,3,rfl,dy.of (t6 _ _ g1),dy.of e6,g3,⟨Ru.1.mono (by decide),Ru.2.mono (by decide),by decide⟩,fun r G7 t7 nr er=>?_⟩;have nw:=iI.more g2 b1 b2 er;have j0:=cB (c / 4) (b:=2) (by decide);have j1:=cp (c / 4) (b:=2) (by decide);obtain⟨j,hj⟩:=bc j0;have eM7:=t7 _ _ (t6 _ _ eM);refine⟨_,rfl,_,rfl,_,_,rfl,rfl,⟨by decide,by decide⟩,_,_,rfl,rfl,(by show (0:Int) < 2; decide),mA,_,_,j,rfl,rfl,eM7,(by show AV 2 (c / 4 % 2)=some j; rw[hj]; exact iu (by lia)),?_⟩;have sm:Same G4 (L2.upd G7 mA (.lst ([.ref pu,v].set j (.ref r)))):=fun b o e=>by
        rw[aO fun z=>by rw[z,nmA] at e; cases e];exact t7 _ _ (t6 _ _ (t5 _ _ e))
       have fu7:=(((fu4.wid.mono t5).mono t6).mono t7).upd (o:=.lst ([.ref pu,v].set j (.ref r))) eM7;have fv7:=(((fv4.wid.mono t5).mono t6).mono t7).upd (o:=.lst ([.ref pu,v].set j (.ref r))) eM7;have nw7:=nw.upd (o:=.lst ([.ref pu,v].set j (.ref r))) eM7
       match j,(show j < 2 by lia) with
       | 0,_=>exact⟨mA,_,_,_,_,rfl,sm,ao,nw7,fv7⟩
       | 1,_=>exact⟨mA,_,_,_,_,rfl,sm,ao,fu7,nw7⟩
      ·exact cr (fun z=>c3 (V.int.inj z)) ⟨mA,u,v,_,_,rfl,t5,eM,(fu4.mono t5).wid,(fv4.mono t5).wid⟩
     rintro σ G6 ⟨mB,u',v',x',y',rfl,t46,eB,f1,f2⟩
     let ψ3:LQ:=fun σ H'=>∃ (mB:Addr) (u' v':V) (x' y':Rat),σ=[some (.ref sa),some (.ref w1),some (.ref w2),some txt,some (.int c),o5,o6,o7,o8,some (.ref st),some (.ref tA),some (.ref mB),o12,o13]∧Same G4 H'∧H' mB=some (.lst [u',v'])∧p9 H' u' x'∧p9 H' v' y'
     refine⟨ψ3,?_,?_⟩
     ·refine⟨_,rfl,_,_,rfl,rfl,⟨by decide,by decide⟩,_,_,rfl,rfl,(by show (0:Int) < 4; decide),rfl,_,rfl,?_⟩
      by_cases c3:c / 2 % 4=2
      ·refine dO (congrArg V.int c3) ?_
       refine⟨_,rfl,_,rfl,tA,u,v,-1,rfl,rfl,bh.of (t46 _ _ eT),.inr ⟨rfl,fun p' np'=>?_⟩⟩;have t7:Same G6 (L2.upd G6 p' (.lst [v,u])):=Same.upd np';exact⟨p',v,u,_,_,rfl,t46.trans t7,ao,((fv4.mono t46).mono t7).wid,((fu4.mono t46).mono t7).wid⟩
      ·exact cr (fun z=>c3 (V.int.inj z)) ⟨mB,u',v',x',y',rfl,t46,eB,f1,f2⟩
     clear t46 eB f1 f2 x' y' u' v' mB G6;rintro σ G6 ⟨mB,u',v',x',y',rfl,t46,eB,f1,f2⟩;refine⟨_,rfl,_,rfl,mB,_,_,_,rfl,rfl,bh.of eB,jT _ _,_,rfl,mB,_,_,_,rfl,rfl,bh.of eB,g8 _ _ _,(by show 4≤sizeLine; decide),fun pA npA=>?_⟩;obtain⟨G7,k7,t7,ePA⟩:=cv npA (.tup [.str "unlike",.ref st,u',v']); rw[k7];have t47:=t46.trans t7;have fu7:=(fu4.mono t47).wid;have fv7:=(fv4.mono t47).wid;have f1':=f1.mono t7;have f2':=f2.mono t7;have eT7:=t47 _ _ eT;have fin:∀ due:Bool,due=decide (x'≠y'∧oU hs M ss n=x'∧oU hs' M' ss m=y')→Same H5 G7∧Ry K G7 w1 w2 pA due:=fun due hdue=>by
      have t17:=t14.trans t47;obtain⟨us,eus,dus⟩:=hst.mono t17;exact⟨sG4.trans t47,_,.tup trivial (dy.of ePA) (.cons (.str _) (.cons (.lst trivial (bh.of eus) dus) (.cons f1'.da (.cons f2'.da .nil)))),MG ok l8 hu f1' f2',.inr ⟨st,u',v',x',y',n,m,hs,hs',M,M',ss,dy.of ePA,st1.mono t17,st2.mono t17,l0,f1',f2',hdue⟩⟩
     refine⟨_,rfl,_,rfl,N3 (t7 _ _ eB) eT7 f1' f2' fu7 fv7 ⟨_,rfl,?_⟩⟩
     by_cases ce:x'=oU hs M ss n∧y'=oU hs' M' ss m
     ·refine dO ce ?_
      refine⟨_,rfl,tA,_,_,_,rfl,rfl,bh.of eT7,jT _ _,_,rfl,tA,_,_,_,rfl,rfl,bh.of eT7,g8 _ _ _,Kf fu7 fv7 ?_⟩;obtain⟨z1,z2⟩:=fin (!decide (oU hs M ss n=oU hs' M' ss m)) (by
       rw[ce.1,ce.2]
       by_cases e:oU hs M ss n=oU hs' M' ss m
       ·rw[cn e,bH fun z=>z.1 e]; rfl
       ·rw[bH e,cn ⟨e,rfl,rfl⟩]; rfl)
      exact⟨_,_,_,_,_,_,_,pA,_,rfl,z1,z2⟩
     ·refine cr ce ?_
      obtain⟨z1,z2⟩:=fin false (by rw[bH fun z=>ce ⟨z.2.1.symm,z.2.2.symm⟩]);exact⟨_,_,_,_,_,_,_,pA,false,rfl,z1,z2⟩
   ·rintro σ G1 ⟨o5,o6,o9,o10,o11,o12,o13,pA,due,rfl,sG1,pap⟩
    obtain⟨ds,dd,shw,_⟩:=id pap;refine⟨_,rfl,pA,ds,rfl,dd,shw.w,shw.h,shw.d,shw.l,?_⟩;have told:∀ Q1:VK,(∀ G2,Same G1 G2→Q1 (.bl due) G2)→wv K ([.ref w1,.ref w2,.ref pA]++[]) G1 Q1 E0:=fun Q1 hQ=>by
     refine⟨w1,w2,pA,rfl,?_⟩;obtain⟨_,_,_,pp⟩:=pap;rcases pp with ⟨a,b,n',m',hs1,hs2,M1,M2,T,T',g1,g2,g3⟩ | ⟨st,u,v,x,y,n',m',hs1,hs2,M1,M2,ss,g1,g2,g3,g4,g5,g6,g7⟩
     ·refine .inl ⟨a,b,n',m',hs1,hs2,M1,M2,T,T',g1,g2,fun r G2 s2 hr2=>?_⟩
      rw[show r=due from gK.mpr (hr2.trans g3.symm)];exact hQ G2 s2
     ·refine .inr ⟨st,u,v,x,y,n',m',hs1,hs2,M1,M2,ss,g1,g2,g3,g4,g5,g6,fun G2 s2=>?_⟩
      rw[←g7];exact hQ G2 s2
    refine⟨_,rfl,_,rfl,_,rfl,Nf ?_⟩;refine told _ fun G2 s2'=>?_
    refine⟨_,rfl,_,_,_,true,rfl,.bl _,Pr,_,rfl,oG ?_⟩;refine⟨_,rfl,_,rfl,rfl,_,rfl,qS rfl ?_⟩;refine⟨_,rfl,pA,ds,rfl,dd.mono s2'.keep fun _ _=>trivial,shw.w,shw.h,shw.d,shw.l,?_⟩;refine⟨_,rfl,rfl,_,rfl,qS rfl ?_⟩;exact⟨_,_,_,_,_,_,_,_,_,_,rfl,sG1.trans s2'⟩
  ·rintro σ G0 ⟨o4,o5,o6,o7,o8,o9,o10,o11,o12,o13,rfl,sG⟩
   have s1G:=s15.trans sG;refine⟨_,rfl,_,rfl,(by show 2≤sizeLine; decide),fun Lz' hLz'=>?_⟩;obtain⟨G1,h6,s6,e6⟩:=cv hLz' (.lst [.ref w1,.ref w2]); rw[h6];refine⟨Lz',_,rfl,daT (s1G.trans s6) e6,sh,?_⟩;subst htx;refine⟨_,rfl,rfl,?_⟩;rw[cn rfl];exact q G1
end
structure At (K:LM)(x:Str)(st:Stmt)(f:Addr)(fd:FuncData):Prop where
 fn:Fun K x x st f fd
 ns:PySem.W.nsIn K mainGlobals x=some (some (.ref f))
theorem at_mk {x:Str}(a:PySem.W.nsIn K mainGlobals x=some (some (.ref f)))(l:K.lookup f=some ⟨oc,od,.func (PySem.W.fnOf x x (ki st) (iS st) (aB st) .none kV doc pm an cdv ct),osl⟩)(c:PySem.W.codeIn K cdv x=true)(k:PySem.W.keepIn K (.ref f)=true):∃ f fd,At K x st f fd:=⟨f,_,Ia l c k,a⟩
theorem Qi {cd:ClassData}{b:Bool}(h0:(Value.ref CN == Value.ref C)=false)(h1:PySem.W.clsIn K C=some cd)(h2:PySem.W.typeIn K (.ref C)=some (.type "type"))(h3:PySem.W.subIn K (.ref CN) (.ref C)=some b):PySem.W.kitOne K (.ref CN) (.ref C)=some b:=by
 unfold PySem.W.kitOne PySem.W.kitCls;rw[if_neg (by rw[h0]; decide)];show (if ((PySem.W.clsIn K C).isSome && PySem.W.typeIn K (.ref C) == some (.type "type"))=true then PySem.W.subIn K (.ref CN) (.ref C) else none)=some b;rw[h1,h2,h3]
 rfl
theorem QK {T:String}{b:Bool}(h0:(Value.ref CN == Value.type T)=false)(h1:PySem.W.kitMeta T=true)(h3:PySem.W.subIn K (.ref CN) (.type T)=some b):PySem.W.kitOne K (.ref CN) (.type T)=some b:=by
 unfold PySem.W.kitOne PySem.W.kitCls;rw[if_neg (by rw[h0]; decide)];show (if PySem.W.kitMeta T=true then PySem.W.subIn K (.ref CN) (.type T) else none)=some b;rw[if_pos h1,h3]
theorem cA {h:Heap}(X:K.In h)(G:h.Ns mainGlobals mg){x:Str}(ps:LK)(T:At K x st f fd)(b:∀ (kV doc pm:Value) (an:LR) (cdv ct:Value) (us:LH),us.length=ps.length→bindArgs (PySem.W.fnOf x x (ki st) (iS st) (aB st) .none kV doc pm an cdv ct) ⟨us,[]⟩=pure (ps.zip us):=by
  intro _ _ _ _ _ _ us hl; rcases us with _ | ⟨_,_ | ⟨_,_ | ⟨_,_ | ⟨_,_ | ⟨_,_ | _⟩⟩⟩⟩⟩ <;> first | rfl | cases hl):Dn K mg x st ps f fd:=⟨T.fn,PySem.W.mg_of X G T.ns,T.fn.binds b⟩
abbrev AE (K:LM)(x:Str)(st:Stmt):Prop:=∃ f fd,At K x st f fd
abbrev NN (K:LM)(x:Str):Prop:=PySem.W.nsIn K mainGlobals x=some none
theorem all_mk {l:PySem.W.OpenLaw}{h:Heap}(X:K.In h)(G:h.Ns mainGlobals mg)(hfa:mg "law" = some (.ref fa))(A0:AE K "column_of" DU)(A1:AE K "columns_of" qM)(A2:AE K "sum_of_products" DJ)(A3:AE K "sums_with_each" sV)(A4:AE K "product_of_grids" ve)(A5:AE K "in_one_list" lQ)(A6:AE K "in_square" qL)(A7:AE K "is_square" vh)(A8:AE K "numbered" i8)(A9:AE K "ways_between" BY)(A10:AE K "marks_of_pairs" wN)(A11:AE K "kinds_in_all" jK)(A12:AE K "split_kinds" lO)(A13:AE K "in_tables" rF)(A14:AE K "are_all_kin" rK)(A15:AE K "coarsest_tables" lV)(A16:AE K "coarsest_kinds" o0)(A17:AE K "are_kin" rJ)(A18:AE K "kinds_together" B5)(A19:AE K "as_many_of_each" rH)(A20:AE K "greatest_divisor" Op)(A21:AE K "fraction_of" Qf)(A22:AE K "inner_terms" wS)(A23:AE K "shared_by_all" Gb)(A24:AE K "lowered" jn)(A25:AE K "one_by_one_product" kN)(A26:AE K "one_by_one_sum" kJ)(A27:AE K "many_times" kK)(A28:AE K "one_then_other" B0)(A29:AE K "tops_where_same" jN)(A30:AE K "tops_of_leaf" vg)(A31:AE K "tops_from_one" kM)(A32:AE K "value_from_two" oZ)(A33:AE K "value_by_kind" rG)(A34:AE K "total_of_value" Jo)(A35:AE K "named_by" sU)(A36:AE K "look_at_steps" B3)(A37:AE K "value_of_step" kI)(A38:AE K "values_of_steps" BZ)(A39:AE K "steps_total" wI)(A40:AE K "look_pairs" wP)(A41:AE K "_law_cell_at" nk)(A42:AE K "_law_draws" oz)(A43:AE K "_law_square" rE)(A44:AE K "_law_web" vd)(A45:AE K "_law_order" wM)(A46:AE K "_law_lift" B4)(A47:AE K "_law_renamed" mO)(A48:AE K "_law_two" Jn)(A49:AE K "_law_lowest" DH)(A50:AE K "_law_plus" vf)(A51:AE K "_law_times" wJ)(A52:AE K "_law_pairs" oy)(A53:AE K "_law_cell" wR)(A54:AE K "_law_total" jH)(A55:AE K "_law_steps" wK)(A56:AE K "_law_flat" B6)(A57:AE K "_law_kin" qK)(A58:AE K "_law_looks" wO)(A59:AE K "_law_tables" iN)(A60:AE K "_law_bent" pd){esS:Array DictEntry}(aTn:PySem.W.nsIn K mainGlobals "INNER_TERMS" = some (some (.ref aT)))(tbl:PyProof.Rows.KTD.tabLook (PyProof.Rows.KTD.datLooks fun b=>K.lookup b) (fun b=>K.lookup b) aT (Am jQ)=true)(lS:K.lookup cStatics=some ⟨ocS,odS,.dict esS nS,slS⟩)(kS:(esS.all fun e=>match e.key with | .str _ _=>true | _=>false)=true)(qD:PySem.W.nsIn K cStatics "sys.int_max_str_digits" = some none)(aL:PySem.W.nsIn K mainGlobals "law" = some (some (.ref fL)))(lL:K.lookup fL=some ⟨oc,od,.func (PySem.W.fnOf "law" "law" (ki wQ) (iS wQ) (aB wQ) .none kV doc pm an cdv ct),osl⟩)(cL:PySem.W.codeIn K cdv "law" = true)(kL:PySem.W.keepIn K (.ref fL)=true)(z_len:NN K "len")(z_range:NN K "range")(z_int:NN K "int")(z_sorted:NN K "sorted")(z_enumerate:NN K "enumerate")(z_sum:NN K "sum")(z_zip:NN K "zip")(z_list:NN K "list")(z_isinstance:NN K "isinstance")(z_bool:NN K "bool")(z_max:NN K "max")(z_str:NN K "str")(z_abs:NN K "abs")(z_all:NN K "all")(z_ValueError:NN K "ValueError")(z_tuple:NN K "tuple") :
  ∃ fd:FuncData,(∀ (s:Shared) (v:Value),BindsTo s fd ⟨[v],[]⟩ [("_law_script",v)])∧∀ base:Heap,K.In base→base.Ns mainGlobals mg→bK l.prog w K mg base cI 11 fa fd ["_law_script"] (BO K):=by
 have e:=hfa.symm.trans (PySem.W.mg_of X G aL);cases e;obtain⟨f0,_,T0⟩:=A0;have D0:=cA X G ["rows","place"] T0;obtain⟨f1,_,T1⟩:=A1;have D1:=cA X G ["rows"] T1;obtain⟨f2,_,T2⟩:=A2;have D2:=cA X G ["numbers","others"] T2;obtain⟨f3,_,T3⟩:=A3;have D3:=cA X G ["numbers","rows"] T3;obtain⟨f4,_,T4⟩:=A4;have D4:=cA X G ["rows","others"] T4;obtain⟨f5,_,T5⟩:=A5;have D5:=cA X G ["rows"] T5;obtain⟨f6,_,T6⟩:=A6;have D6:=cA X G ["things","size"] T6;obtain⟨f7,_,T7⟩:=A7;have D7:=cA X G ["rows","size"] T7;obtain⟨f8,_,T8⟩:=A8;have D8:=cA X G ["marks"] T8;obtain⟨f9,_,T9⟩:=A9;have D9:=cA X G ["row","column"] T9;obtain⟨f10,_,T10⟩:=A10;have D10:=cA X G ["web","kinds"] T10;obtain⟨f11,_,T11⟩:=A11;have D11:=cA X G ["tables"] T11;obtain⟨f12,_,T12⟩:=A12;have D12:=cA X G ["webs","tables"] T12;obtain⟨f13,_,T13⟩:=A13;have D13:=cA X G ["kinds","webs"] T13;obtain⟨f14,_,T14⟩:=A14;have D14:=cA X G ["webs","tables"] T14;obtain⟨f15,_,T15⟩:=A15;have D15:=cA X G ["webs"] T15;obtain⟨f16,_,T16⟩:=A16;have D16:=cA X G ["web"] T16;obtain⟨f17,_,T17⟩:=A17;have D17:=cA X G ["web","other","kinds","kinds_there"] T17;obtain⟨f18,_,T18⟩:=A18;have D18:=cA X G ["web","other"] T18;obtain⟨f19,_,T19⟩:=A19;have D19:=cA X G ["kinds","kinds_there"] T19;obtain⟨f20,_,T20⟩:=A20;have D20:=cA X G ["number","other"] T20;obtain⟨f21,_,T21⟩:=A21;have D21:=cA X G ["top","bottom"] T21;obtain⟨f22,_,T22⟩:=A22;have D22:=cA X G ["term"] T22;obtain⟨f23,_,T23⟩:=A23;have D23:=cA X G ["divisor","tops"] T23;obtain⟨f24,_,T24⟩:=A24;have D24:=cA X G ["tops","bottom"] T24;obtain⟨f25,_,T25⟩:=A25;have D25:=cA X G ["value","other"] T25;obtain⟨f26,_,T26⟩:=A26;have D26:=cA X G ["value","other"] T26;obtain⟨f27,_,T27⟩:=A27;have D27:=cA X G ["f","value"] T27;obtain⟨f28,_,T28⟩:=A28;have D28:=cA X G ["size","value","other"] T28;obtain⟨f29,_,T29⟩:=A29;have D29:=cA X G ["tops"] T29;obtain⟨f30,_,T30⟩:=A30;have D30:=cA X G ["web","term"] T30;obtain⟨f31,_,T31⟩:=A31;have D31:=cA X G ["web","kind","tops"] T31;obtain⟨f32,_,T32⟩:=A32;have D32:=cA X G ["web","kind","value","other"] T32;obtain⟨f33,_,T33⟩:=A33;have D33:=cA X G ["web","term","inner_values"] T33;obtain⟨f34,_,T34⟩:=A34;have D34:=cA X G ["value"] T34;obtain⟨f35,_,T35⟩:=A35;have D35:=cA X G ["step"] T35;obtain⟨f36,_,T36⟩:=A36;have D36:=cA X G ["steps"] T36;obtain⟨f37,_,T37⟩:=A37;have D37:=cA X G ["web","step","values"] T37;obtain⟨f38,_,T38⟩:=A38;have D38:=cA X G ["web","steps"] T38;obtain⟨f39,_,T39⟩:=A39;have D39:=cA X G ["web","steps"] T39;obtain⟨f40,_,T40⟩:=A40;have D40:=cA X G ["web","other","paper"] T40;obtain⟨f41,_,T41⟩:=A41;have D41:=cA X G ["_law_script","_law_k"] T41;obtain⟨f42,_,T42⟩:=A42;have D42:=cA X G ["_law_cell_here","_law_many","_law_base","_law_free"] T42;obtain⟨f43,_,T43⟩:=A43;have D43:=cA X G ["_law_many","_law_draws_here","_law_way"] T43;obtain⟨f44,_,T44⟩:=A44;have D44:=cA X G ["_law_script","_law_at","_law_many","_law_free"] T44;obtain⟨f45,_,T45⟩:=A45;have D45:=cA X G ["_law_cell_here","_law_many","_law_free"] T45;obtain⟨f46,_,T46⟩:=A46;have D46:=cA X G ["_law_web_here","_law_cell_here","_law_free"] T46;obtain⟨f47,_,T47⟩:=A47;have D47:=cA X G ["_law_web_here","_law_order_here"] T47;obtain⟨f48,_,T48⟩:=A48;have D48:=cA X G ["_law_script","_law_most"] T48;obtain⟨f49,_,T49⟩:=A49;have D49:=cA X G ["_law_top","_law_bottom"] T49;obtain⟨f50,_,T50⟩:=A50;have D50:=cA X G ["_law_one","_law_other"] T50;obtain⟨f51,_,T51⟩:=A51;have D51:=cA X G ["_law_one","_law_other"] T51;obtain⟨f52,_,T52⟩:=A52;have D52:=cA X G ["_law_many"] T52;obtain⟨f53,_,T53⟩:=A53;have D53:=cA X G ["_law_web_here","_law_step","_law_tables_here","_law_u","_law_v"] T53;obtain⟨f54,_,T54⟩:=A54;have D54:=cA X G ["_law_web_here","_law_steps_here"] T54;obtain⟨f55,_,T55⟩:=A55;have D55:=cA X G ["_law_cell_here"] T55;obtain⟨f56,_,T56⟩:=A56;have D56:=cA X G ["_law_kinds"] T56;obtain⟨f57,_,T57⟩:=A57;have D57:=cA X G ["_law_webs","_law_tables_here"] T57;obtain⟨f58,_,T58⟩:=A58;have D58:=cA X G ["_law_web_here","_law_other"] T58;obtain⟨f59,_,T59⟩:=A59;have D59:=cA X G ["_law_web_here","_law_other","_law_cell_here"] T59;obtain⟨f60,_,T60⟩:=A60;have D60:=cA X G ["_law_table","_law_way","_law_cell_here"] T60;have FL:=Ia (st:=wQ) lL cL kL;have BL:qa mg:=⟨aF X G z_len,aF X G z_range,aF X G z_int,aF X G z_sorted,aF X G z_enumerate,aF X G z_sum,aF X G z_zip,aF X G z_list,aF X G z_isinstance,aF X G z_bool,aF X G z_max⟩;have BR:lE mg:=⟨aF X G z_abs,aF X G z_len,aF X G z_sum,aF X G z_zip,aF X G z_range,aF X G z_enumerate,aF X G z_isinstance,aF X G z_ValueError,aF X G z_int,aF X G z_bool,aF X G z_list,aF X G z_tuple⟩;have BG:P9 mg:=⟨aF X G z_len,aF X G z_sum,aF X G z_zip,aF X G z_range,aF X G z_all⟩;have BK:xK mg:=⟨aF X G z_len,aF X G z_zip,aF X G z_tuple,aF X G z_sorted,aF X G z_enumerate,aF X G z_sum⟩;have BP:K9 mg:=⟨aF X G z_len,aF X G z_zip,aF X G z_list,aF X G z_tuple⟩;have eD:PySem.W.nsOkIn K cStatics=true:=by unfold PySem.W.nsOkIn; rw[lS]; exact kS
 have gT:=PySem.W.mg_of X G aTn;have TB:Og K aT jQ:=⟨tbl⟩;refine⟨PySem.W.fnOf "law" "law" (ki wQ) (iS wQ) (aB wQ) .none kV doc pm an cdv ct,fun s v=>.of_eq rfl,fun base _ _=>?_⟩;have GCl:=Na (P:=l.prog) (w:=w) (base:=base) (mg:=mg) D0.fn;have GCs:=JZ BR D1.fn D0 GCl;have GIo:=Ho (P:=l.prog) (w:=w) (base:=base) (mg:=mg) D5.fn;have GSq:=JX (P:=l.prog) (w:=w) (base:=base) BR D6.fn;have GIs:=JW (P:=l.prog) (w:=w) (base:=base) BG D7.fn;have GNI:=JN (P:=l.prog) (w:=w) (base:=base) BP D8.fn;have GNK:=JM (P:=l.prog) (w:=w) (base:=base) BP D8.fn;have GWy:=JH (P:=l.prog) (w:=w) (base:=base) BK D9.fn;have GMk:=Hj BK D10.fn D1 GCs D9 GWy;have GKA:=JV D11.fn D5 GIo;have GSp:=Ei BK D12.fn D10 GMk D5 GIo D8 GNK;have GIT:=El BK D13.fn D6 GSq;have GAK:=Er BK D14.fn D7 GIs D12 GSp D8 GNI D11 GKA;have GCT:=AJ BK D15.fn D12 GSp D13 GIT;have GCK:=AK D16.fn D15 GCT;have GRK:=Ep D17.fn D14 GAK;have GKT:=JU BK D18.fn D15 GCT;have GAM:=Eo BK D19.fn D5 GIo;have GG:=Pb (P:=l.prog) (w:=w) (base:=base) BR D20.fn;have GF:=Pc BR D21.fn D20 GG;have GI:=Ek (P:=l.prog) (w:=w) (base:=base) BR gT TB D22.fn;have GAl:=Nb D23.fn D20 GG;have GL:=AH D24.fn D23 GAl;have GDo:=M9 (P:=l.prog) (w:=w) (base:=base) BR D2.fn;have GEa:=Hq D3.fn D2 GDo;have GPd:=JK D4.fn D1 GCs D3 GEa;have GBo:=J2 BR D25.fn D24 GL;have GPr:=He BR D26.fn D24 GL;have GMa:=JO D27.fn D20 GG D23 GAl;have GTh:=JJ D28.fn D4 GPd D6 GSq D5 GIo D24 GL;have GWh:=Ha (P:=l.prog) (w:=w) (base:=base) BR D29.fn;have GLe:=JT BR D30.fn D29 GWh D5 GIo;have GFo:=AI BR D31.fn D3 GEa D29 GWh D6 GSq D1 GCs D5 GIo;have GT2:=Pa BR D32.fn D25 GBo D26 GPr D28 GTh;have GK:=Em BR D33.fn D30 GLe D31 GFo D32 GT2 D27 GMa;have GTv:=M6 BR D34.fn D21 GF;have GNa:=Hi D35.fn D22 GI;have GLk:=JQ BR D36.fn D35 GNa;have GVs:=AG D37.fn D35 GNa D33 GK;have GVl:=JI D38.fn D36 GLk D37 GVs;have GTo:=Hb D39.fn D38 GVl D34 GTv;have GLP:=Hm D40.fn D17 GRK D19 GAM D39 GTo;have GC:=J1 (P:=l.prog) (w:=w) (base:=base) BL D41.fn;have GD:=Hr (P:=l.prog) (w:=w) (base:=base) BL D42.fn;have GQ:=Eh (P:=l.prog) (w:=w) (base:=base) BL D43.fn;have GW:=JG BL D44.fn D41 GC D42 GD D43 GQ;have GO:=Hg BL D45.fn D42 GD;have GLf:=JS BL D46.fn D42 GD;have GR:=JP (P:=l.prog) (w:=w) (base:=base) (mg:=mg) D47.fn;have GT:=M5 BL D48.fn D41 GC D44 GW D45 GO D46 GLf D47 GR;have GLo:=M7 (P:=l.prog) (w:=w) (base:=base) BR D49.fn;have GPl:=JL D50.fn D49 GLo;have GTi:=Hc D51.fn D49 GLo;have GPp:=Hf (P:=l.prog) (w:=w) (base:=base) BL D52.fn;have GLc:=Hn BR D53.fn D50 GPl D51 GTi;have GLt:=Ej BR D54.fn D53 GLc D52 GPp D50 GPl;have GSt:=Hd BR D55.fn D42 GD D49 GLo;have GFl:=JY (P:=l.prog) (w:=w) (base:=base) (mg:=mg) D56.fn;have GLi:=JR BL D57.fn D52 GPp D56 GFl;have GLs:=Hl (P:=l.prog) (w:=w) (base:=base) BL D58.fn;have GBe:=J3 (P:=l.prog) (w:=w) (base:=base) BL BL.max D60.fn;have GTs:=Hk BL D59.fn D18 GKT D16 GCK D58 GLs D60 GBe;exact M8 BL (aF X G z_str) eD qD FL D41 GC D48 GT D59 GTs D57 GLi D55 GSt D54 GLt D50 GPl D40 GLP
theorem walk {l:PySem.W.OpenLaw}{q:Program}{d:DefRec}{K:Params→LM}(hn:l.most=some 63)(hdf:d.params.defaults=[])(hY:∀ (w:World) (h:Heap),YP w h→(K w.params).In h)(F:∀ (w:World) (mg:LO) (fa:Addr) (h:Heap),(K w.params).In h→h.Ns mainGlobals mg→mg d.name=some (.ref fa) →
   ∃ fd:FuncData,(∀ (s:Shared) (u:Value),BindsTo s fd ⟨[u],[]⟩ [("_law_script",u)])∧∀ base:Heap,(K w.params).In base→base.Ns mainGlobals mg→bK l.prog w (K w.params) mg base cI 11 fa fd ["_law_script"] (BO (K w.params))) :
  PySem.W.WalkO q loose XP YP l.row.toRowW d [] (fun f vs=>PySem.call f vs) :=
 L2.walk_of (n:=63) (k:=11) (x:="_law_script") (CX:=fun _=>cI) (sp:=fun w=>BO (K w.params)) hn (by decide) hdf ⟨rfl,by decide,by decide,rfl⟩ hY F (fun _ _ a ns hl _ hS=>⟨a,ns,rfl,hS,hl,fun _=>rfl⟩) fun _ _ _ _ _ z=>z
end My
open PySem PySem.W PyProof.Rows
namespace PySem.W.Fast
def tw8041526003759649790:=()
def tw886926942346228908:=()
def tw112218397586245969:=()
def tw17325038782036254723:=()
def tw6749838701106984140:=()
def tw187638506778596527:=()
def tw10669200044400651653:=()
def tw15502166691710923751:=()
def tw840576576227916895:=()
def tw606739788072388033:=()
def tw3374390075330127596:=()
def tw17582007674491604942:=()
def tw9318077136986666188:=()
def tw15812899147568621042:=()
def tw6110382690391854377:=()
def tw530189400224913980:=()
def tw6880256609773483958:=()
def tw9735746842211957771:=()
def tw6404318811390275087:=()
def tw6264397721638946585:=()
def tw1847827519043824038:=()
def tw1952345177710743789:=()
def tw10439235694967828741:=()
def tw3786580031825065524:=()
def tw5530095378401394213:=()
def tw6762209411792003137:=()
def tw2382388704718949587:=()
def tw13653298739554740728:=()
def tw11995173417730483998:=()
def tw12949375886113537042:=()
def tw11971719285164351537:=()
def tw10181210477421754049:=()
def tw6764472711140747342:=()
def tw6945406332275981737:=()
def tw9868082191826362004:=()
def tw12831606113052577794:=()
def tw2582530874857139281:=()
def tw5362234795310744298:=()
def tw10613399751335705939:=()
def tw12952515439239023860:=()
end PySem.W.Fast
set_option maxRecDepth 100000 in
set_option maxHeartbeats 0 in
theorem PySem.Challenge.cw_evenkin_k82_papers_of_pairs_looked_at_holds : PySem.Challenge.rw_evenkin_k82_papers_of_pairs_looked_at.Holds := by
  w_on; o_law; k_head; (case hw => w_witness2)
  k_fill
  refine My.walk (l := PySem.Challenge.rw_evenkin_k82_papers_of_pairs_looked_at) rfl rfl (fun w h Y => PySem.W.kIn_of Y) ?F
  case F =>
    intro w mg fa h KX G hmg
    refine' My.all_mk KX G hmg (My.at_mk ?_ ?_ ?_ ?_) (My.at_mk ?_ ?_ ?_ ?_) (My.at_mk ?_ ?_ ?_ ?_) (My.at_mk ?_ ?_ ?_ ?_) (My.at_mk ?_ ?_ ?_ ?_) (My.at_mk ?_ ?_ ?_ ?_) (My.at_mk ?_ ?_ ?_ ?_) (My.at_mk ?_ ?_ ?_ ?_) (My.at_mk ?_ ?_ ?_ ?_) (My.at_mk ?_ ?_ ?_ ?_) (My.at_mk ?_ ?_ ?_ ?_) (My.at_mk ?_ ?_ ?_ ?_) (My.at_mk ?_ ?_ ?_ ?_) (My.at_mk ?_ ?_ ?_ ?_) (My.at_mk ?_ ?_ ?_ ?_) (My.at_mk ?_ ?_ ?_ ?_) (My.at_mk ?_ ?_ ?_ ?_) (My.at_mk ?_ ?_ ?_ ?_) (My.at_mk ?_ ?_ ?_ ?_) (My.at_mk ?_ ?_ ?_ ?_) (My.at_mk ?_ ?_ ?_ ?_) (My.at_mk ?_ ?_ ?_ ?_) (My.at_mk ?_ ?_ ?_ ?_) (My.at_mk ?_ ?_ ?_ ?_) (My.at_mk ?_ ?_ ?_ ?_) (My.at_mk ?_ ?_ ?_ ?_) (My.at_mk ?_ ?_ ?_ ?_) (My.at_mk ?_ ?_ ?_ ?_) (My.at_mk ?_ ?_ ?_ ?_) (My.at_mk ?_ ?_ ?_ ?_) (My.at_mk ?_ ?_ ?_ ?_) (My.at_mk ?_ ?_ ?_ ?_) (My.at_mk ?_ ?_ ?_ ?_) (My.at_mk ?_ ?_ ?_ ?_) (My.at_mk ?_ ?_ ?_ ?_) (My.at_mk ?_ ?_ ?_ ?_) (My.at_mk ?_ ?_ ?_ ?_) (My.at_mk ?_ ?_ ?_ ?_) (My.at_mk ?_ ?_ ?_ ?_) (My.at_mk ?_ ?_ ?_ ?_) (My.at_mk ?_ ?_ ?_ ?_) (My.at_mk ?_ ?_ ?_ ?_) (My.at_mk ?_ ?_ ?_ ?_) (My.at_mk ?_ ?_ ?_ ?_) (My.at_mk ?_ ?_ ?_ ?_) (My.at_mk ?_ ?_ ?_ ?_) (My.at_mk ?_ ?_ ?_ ?_) (My.at_mk ?_ ?_ ?_ ?_) (My.at_mk ?_ ?_ ?_ ?_) (My.at_mk ?_ ?_ ?_ ?_) (My.at_mk ?_ ?_ ?_ ?_) (My.at_mk ?_ ?_ ?_ ?_) (My.at_mk ?_ ?_ ?_ ?_) (My.at_mk ?_ ?_ ?_ ?_) (My.at_mk ?_ ?_ ?_ ?_) (My.at_mk ?_ ?_ ?_ ?_) (My.at_mk ?_ ?_ ?_ ?_) (My.at_mk ?_ ?_ ?_ ?_) (My.at_mk ?_ ?_ ?_ ?_) (My.at_mk ?_ ?_ ?_ ?_) (My.at_mk ?_ ?_ ?_ ?_) ?aTn ?tbl ?lS ?kS ?qD ?_ ?_ ?_ ?_ ?_ ?_ ?_ ?_ ?_ ?_ ?_ ?_ ?_ ?_ ?_ ?_ ?_ ?_ ?_ ?_
    (case aTn => k_is)
    (case tbl => first | rfl | with_unfolding_all rfl | decide +kernel)
    (case lS => k_is)
    (case kS => first | rfl | with_unfolding_all rfl | decide +kernel)
    (case qD => first | k_is | rfl | decide +kernel)
    all_goals try first | k_is | (unfold My.NN; k_is)
