import PyProof.Rows.All
import Wide.All
import OpenK.AllK
import Wide.FinOn
import Lean
import PyProof.EqAt
import PyProof.EqKinds
import PyProof.TupleCall
import KE.KSortTup
import KE.KSortAsk
import KE.KLam
import KE.KSortKey
import KE.KNestM
import PySem.Challenge.RW_evenkin_k51_whole_held_by_trees
set_option Elab.async false
set_option linter.all false
set_option maxRecDepth 100000
section
open PySem
abbrev LA:=List (List Int)
abbrev LC:=List (Int×Int)
abbrev LD:=List (Addr×Obj)
abbrev LH:=List Int
abbrev LJ:=List Value
abbrev LK:=List Addr
abbrev LL:=List Nat
abbrev LM:=List Str
abbrev LN:=List Expr
abbrev LO:=PySem.W.Frag
abbrev LP:=Value->Shared->Prop
abbrev LQ:=Str->Option Value
abbrev LS:=Option Addr
abbrev LV:=Array Value
abbrev LW:=Option Value
abbrev LX:=List PyData
end
section
open PySem PySem.Spec PyProof.Rows
abbrev aa:=@List.length_map
abbrev ae:=@wpAny_bind
abbrev af:=@List.mem_of_getElem?
abbrev ah:=@List.length_append
abbrev ai:=@Heap.get?_push_of_some
abbrev ak:=@wpAny_pure
abbrev ao:=@List.getElem?_map
abbrev aq:=@List.getElem?_eq_getElem
abbrev av:=@Nat.le_refl
abbrev ax:=@List.getD_eq_getElem?_getD
abbrev aA:=@List.length_range
abbrev aB:=@List.mem_cons_of_mem
abbrev aE:=@List.getElem?_append_right
abbrev aH:=@List.length_cons
abbrev aJ:=@List.map_cons
abbrev aK:=@PySem.W.mg_none_of
abbrev aM:=@List.mem_cons_self
abbrev aN:=@List.getElem?_append_left
abbrev aO:=@List.size_toArray
abbrev aQ:=@Heap.get?_push_size
abbrev aS:=@Heap.lt_size
abbrev aU:=@List.mem_iff_getElem?
abbrev aV:=@List.mem_map
abbrev aX:=@List.mem_singleton
abbrev aY:=@List.getElem?_eq_none
abbrev aZ:=@List.getElem?_eq_some_iff
abbrev a0:=@List.map_append
abbrev ba:=@Nat.lt_of_lt_of_le
abbrev bc:=@List.mem_range
abbrev be:=@List.mem_append
abbrev bg:=@Int.toNat_natCast
abbrev bi:=@decide_eq_true
abbrev bj:=@Nat.le_trans
abbrev bp:=@Nat.zero_le
abbrev bq:=@decide_eq_false
abbrev bu:=@PySem.boot_len
abbrev bB:=@Nat.ne_of_lt
abbrev bC:=@Bool.false_ne_true
abbrev bK:=@Option.some.inj
abbrev bM:=@List.mem_append_right
abbrev bT:=@List.mem_cons
abbrev bU:=@List.map_congr_left
abbrev bX:=@PySem.F.plainAttrs_list
abbrev bY:=@List.length_singleton
abbrev ce:=@List.take_length
abbrev cg:=@Nat.lt_of_le_of_lt
abbrev ck:=@Bool.false_eq_true
abbrev cm:=@List.length_take
abbrev cu:=@Nat.le_of_lt
abbrev cy:=@List.getElem?_range
abbrev cz:=@List.getElem?_replicate
abbrev cA:=@List.nodup_cons
abbrev cB:=@List.mem_append_left
abbrev cC:=@Int.eq_ofNat_of_zero_le
abbrev cF:=@List.map_map
abbrev cH:=@List.filter_cons_of_neg
abbrev cJ:=@List.ext_getElem?
abbrev cN:=@List.length_replicate
abbrev cR:=@decide_eq_true_iff
abbrev cS:=@Array.getElem?_eq_getElem
abbrev cT:=@List.replicate_succ
abbrev cY:=@List.filter_cons_of_pos
abbrev cZ:=@List.reverse_append
abbrev df:=@wpAny_call_entry
abbrev dg:=@Bool.and_eq_true
abbrev dh:=@Nat.pow_le_pow_right
abbrev di:=@List.take_of_length_le
abbrev dj:=@Heap.size_push
abbrev dq:=@PySem.F.type_list_append
abbrev dr:=@PySem.F.slot_list_append
abbrev du:=@PyProof.Rows.callWith_type1
abbrev dy:=@List.length_reverse
abbrev dz:=@List.forIn_cons
abbrev dA:=@Nat.le_add_right
abbrev dB:=@Int.eq_of_mul_eq_mul_right
abbrev dE:=@wpAny_holding
abbrev dG:=@List.sum_cons
abbrev dJ:=@List.take_append_of_le_length
abbrev dL:=@Option.map_eq_some_iff
abbrev dP:=@Nat.lt_irrefl
abbrev dR:=@Nat.ne_of_gt
abbrev dS:=@List.flatten_cons
abbrev dU:=@Int.ne_of_gt
abbrev eE:=@List.take_zero
abbrev eJ:=@Int.emod_lt_of_pos
abbrev eK:=@Bool.and_self
abbrev eX:=@List.lookup_cons
abbrev eZ:=@PySem.mem_of_lookup
abbrev fb:=@Array.length_toList
abbrev fe:=@wpAny_newObj_type
abbrev fi:=@wpAny_seqItems
abbrev fj:=@Bool.not_true
abbrev fq:=@wpAny_ite_split
abbrev ft:=@PySem.W.kia_one
abbrev fw:=@wpAny_Call_Name_kw
abbrev fC:=@wpAny_field
abbrev fD:=@wpAny_callSpecial?_slot
abbrev fF:=@List.length_drop
abbrev fM:=@List.nodup_nil
abbrev fN:=@List.map_inj_left
abbrev fO:=@List.getElem?_set_self
abbrev fQ:=@Int.zero_add
abbrev fY:=@Nat.le_succ
abbrev fZ:=@Int.emod_nonneg
abbrev gv:=@Int.zero_mul
abbrev gy:=@if_false
abbrev gz:=@Nat.pow_lt_pow_right
abbrev gA:=@Nat.mul_le_mul
abbrev gB:=@List.getElem?_set_ne
abbrev gD:=@Int.natAbs_mul
abbrev gE:=@wpAny_truthy_bool
abbrev gH:=@decide_eq_true_eq
abbrev gJ:=@Nat.add_sub_cancel_left
abbrev gQ:=@List.length_set
abbrev gU:=@wpAny_nextOf_list_item
abbrev gY:=@Int.mul_zero
abbrev gZ:=@Heap.get?_update_other
abbrev g9:=@Int.one_mul
abbrev hE:=@Int.mul_one
abbrev hV:=@List.mem_reverse
abbrev ig:=@List.all_eq_true
abbrev ii:=@wpAny_mono
abbrev ij:=@List.zip_cons_cons
abbrev ik:=@Heap.get?_update_self
abbrev iq:=@wpAny_specialOf
abbrev iu:=@List.nil_append
abbrev iA:=@List.mem_filter
abbrev iB:=@List.foldl_cons
abbrev iC:=@List.append_nil
abbrev iF:=@Int.mul_comm
abbrev iH:=@Option.isSome_iff_exists
abbrev iI:=@Int.mul_fdiv_cancel_left
abbrev iM:=@wpAny_isInstance
abbrev iR:=@List.eq_nil_of_length_eq_zero
abbrev iS:=@wpAny_setField_rec
abbrev iW:=@Nat.sub_self
abbrev iZ:=@wpAny_passesOwn
abbrev jb:=@Option.map_some
abbrev jc:=@Nat.min_eq_left
abbrev jd:=@Int.gcd_pos_of_ne_zero_right
abbrev je:=@Bool.eq_iff_iff
abbrev jj:=@wpAny_pyIter_list
abbrev jk:=@of_decide_eq_true
abbrev jm:=@List.nodup_append
abbrev jn:=@List.foldl_append
abbrev jC:=@List.mem_of_mem_take
abbrev jD:=@List.forIn_nil
abbrev jQ:=@Option.getD_some
abbrev jR:=@Nat.add_zero
abbrev jS:=@List.map_set
abbrev jT:=@List.map_nil
abbrev j4:=@Nat.add_lt_add_left
abbrev j5:=@Nat.add_left_cancel
abbrev j6:=@List.length_zipWith
abbrev j7:=@wpAny_comprehension_free
abbrev kh:=@Bool.true_and
abbrev ki:=@wpAny_updateSeq
abbrev kj:=@List.length_nil
abbrev km:=@List.find?_cons
abbrev kq:=@Int.mul_eq_zero
abbrev kC:=@List.getElem_idxOf
abbrev kD:=@List.filter_append
abbrev kE:=@Array.forIn_toList
abbrev kM:=@Nat.pow_add
abbrev kN:=@Nat.exists_eq_add_of_le
abbrev lq:=@Bool.false_and
abbrev lA:=@Array.getElem?_eq_none
abbrev mf:=@List.take_append_drop
abbrev mh:=@List.set_append_right
abbrev mi:=@List.length_filter_le
abbrev mj:=@List.countP_mono_left
abbrev mq:=@wpAny_rule
abbrev mw:=@wpAny_askSetting
abbrev mX:=@Nat.lt_succ_self
abbrev mY:=@Nat.le_of_not_lt
abbrev mZ:=@List.mem_flatten
abbrev m7:=@List.countP_cons
abbrev m8:=@List.any_cons
abbrev nM:=@Nat.mul_le_mul_right
abbrev nP:=@Int.mul_pos
abbrev n6:=@List.zip_append
abbrev n9:=@List.range_succ
abbrev og:=@List.idxOf_cons
abbrev oh:=@List.dropLast_concat_getLast
abbrev om:=@wpAny_typeOf
abbrev pE:=@Nat.not_lt
abbrev pF:=@List.mem_filterMap
abbrev ql:=@List.mem_or_eq_of_mem_set
abbrev qm:=@List.getElem?_zip_eq_some
abbrev qt:=@wpAny_setState_of
abbrev qx:=@Nat.one_mul
abbrev qy:=@Nat.add_mul
abbrev qz:=@List.reverse_cons
abbrev qA:=@List.append_assoc
abbrev qB:=@Int.gcd_dvd_right
abbrev qC:=@wpAny_standAt
abbrev qD:=@wpAny_attempt
abbrev rD:=@List.idxOf_lt_length_iff
abbrev sP:=@PySem.F.plainAttrs_dict
abbrev sQ:=@List.not_mem_nil
abbrev sR:=@List.any_eq_true
abbrev tP:=@Nat.lt_or_ge
abbrev tQ:=@List.filter_eq_nil_iff
abbrev tR:=@List.drop_of_length_le
abbrev tS:=@Int.fmod_nonneg_of_pos
abbrev tU:=@wpAny_execs_nil
abbrev ur:=@Bool.or_eq_true
abbrev vW:=@PySem.F.slot_dict_get
abbrev vZ:=@List.getElem?_zipWith
abbrev v0:=@Int.natAbs_dvd_natAbs
abbrev v8:=@Array.getElem?_toList
abbrev wb:=@wpAny_loadName_local
abbrev wc:=@wpAny_letGo
abbrev wl:=@List.take_succ
abbrev wn:=@Bool.and_eq_true_iff
abbrev yd:=@wpAny_setEntries_of
abbrev zo:=@List.getElem_of_mem
abbrev zq:=@List.flatten_append
abbrev zr:=@List.filterMap_cons
abbrev zt:=@List.countP_eq_zero
abbrev zF:=@wpAny_onRaise
abbrev zG:=@Nat.mul_assoc
abbrev zI:=@List.map_drop
abbrev zJ:=@Int.mul_assoc
abbrev zM:=@wpAny_tupleItemsOf
abbrev B6:=@wpAny_pyIter_slot
abbrev B7:=@wpAny_assign_Name
abbrev DD:=@Nat.zero_mul
abbrev DE:=@Nat.pow_succ
abbrev DF:=@Nat.lt_succ_of_lt
abbrev DH:=@Nat.le_of_eq
abbrev DI:=@List.zip_nil_left
abbrev DJ:=@List.getElem?_inj
abbrev DM:=@Int.add_zero
abbrev DP:=@Bool.or_self
abbrev Ge:=@wpAny_pyHash_int
abbrev Gf:=@wpAny_execs_cons
abbrev Gg:=@wpAny_eqBool_int
abbrev Iz:=@List.isEmpty_nil
abbrev IA:=@List.cons_append
abbrev IC:=@Int.gcd_dvd_left
abbrev IJ:=@Nat.log2_lt
abbrev IL:=@List.drop_append_of_le_length
end
namespace L2
open PySem PySem.Spec PyProof.Rows
theorem F4:1<=sizeLine:=by decide
theorem k9:2<=sizeLine:=by decide
theorem VA:3<=sizeLine:=by decide
theorem Vz:4<=sizeLine:=by decide
abbrev jE:=Sum Int Str
def xF:jE->Value->Bool
 | .inl k,v=>Value.isInt k v
 | .inr x,v=>Value.isStrOf x v
def Vd (w:World):jE->Int
 | .inl k=>hashInt k
 | .inr x=>hashStr w x
theorem gM:∀{k:jE} {v:Value},xF k v=true->(∃i t,k=Sum.inl i/\v=Value.int i t)\/(∃x t,k=Sum.inr x/\v=Value.str x t)
 | .inl i,v,h=>by obtain⟨t,e⟩:=Value.isInt_shape (k:=i) (v:=v) h;exact .inl ⟨i,t,rfl,e⟩
 | .inr x,v,h=>by obtain⟨t,e⟩:=Value.isStrOf_shape (x:=x) (v:=v) h;exact .inr ⟨x,t,rfl,e⟩
theorem HN (i:Int)(t:Tok):xF (.inl i) (.int i t)=true:=by simp[xF,Value.isInt]
theorem HM (x:Str)(t:Tok):xF (.inr x) (.str x t)=true:=by simp[xF,Value.isStrOf]
theorem Rr (a b:Int):decide ((Sum.inl a:jE)=Sum.inl b)=(a==b):=by by_cases e:a=b;subst e;simp;have h:¬(Sum.inl a:jE)=Sum.inl b:=λq=>e (Sum.inl.inj q);rw[bq h];exact(beq_eq_false_iff_ne.mpr e).symm
theorem Ro (a b:Str):decide ((Sum.inr a:jE)=Sum.inr b)=decide (a=b):=by by_cases e:a=b;subst e;simp;have h:¬(Sum.inr a:jE)=Sum.inr b:=λq=>e (Sum.inr.inj q);rw[bq h,bq e]
theorem Rq (a:Int)(b:Str):decide ((Sum.inl a:jE)=Sum.inr b)=false:=bq (λq=>nomatch q)
theorem Rp (a:Str)(b:Int):decide ((Sum.inr a:jE)=Sum.inl b)=false:=bq (λq=>nomatch q)
def fU (prog:Program)(w:World):PySem.KeyKind prog w jE where
 is:=xF
 hash:=Vd w
 inj:=λv a b C hb=>by rcases gM C with⟨i,t,rfl,rfl⟩|⟨x,t,rfl,rfl⟩;rcases gM hb with⟨j,u,rfl,e⟩|⟨y,u,rfl,e⟩;injection e with g _;rw[g];exact nomatch e;rcases gM hb with⟨j,u,rfl,e⟩|⟨y,u,rfl,e⟩;exact nomatch e;injection e with g _;rw[g]
 byValue:=λk v h=>by rcases gM h with⟨i,t,rfl,rfl⟩|⟨x,t,rfl,rfl⟩<;>rfl
 pyHash:=λl h=>by rcases gM l with⟨i,t,rfl,rfl⟩|⟨x,t,rfl,rfl⟩;exact Ge h;exact wpAny_pyHash_str h
 eqBool:=λp l h=>by rcases gM p with⟨i,t,rfl,rfl⟩|⟨x,t,rfl,rfl⟩;rcases gM l with⟨j,u,rfl,rfl⟩|⟨y,u,rfl,rfl⟩;rw[Rr]at h;exact Gg h;rw[Rq]at h;exact SeqAt.EqAt.int_str i t y u _ _ _ _ h;rcases gM l with⟨j,u,rfl,rfl⟩|⟨y,u,rfl,rfl⟩;rw[Rp]at h;exact SeqAt.EqAt.str_int x t j u _ _ _ _ h;rw[Ro]at h;exact wpAny_eqBool_str h
 «strs»:=λk x t v h=>by rcases gM h with⟨i,u,rfl,e⟩|⟨y,u,rfl,e⟩;exact nomatch e;injection e with g _;subst g;cases v<;>rfl
theorem Ba (prog:Program)(w:World)(i:Int)(t:Tok):(fU prog w).is (.inl i) (.int i t)=true:=HN i t
theorem AZ (prog:Program)(w:World)(x:Str)(t:Tok):(fU prog w).is (.inr x) (.str x t)=true:=HM x t
inductive V where
 |non|bl (b:Bool)|int (i:Int)|str (x:Str)|byt (b:Array UInt8)|flt (b:UInt64)|ref (a:Addr)|ty (n:String)
 deriving DecidableEq
def dQ:V->Value->Prop
 | .non,u=>u=Value.none
 | .bl b,u=>u=Value.bool b
 | .int i,u=>∃t,u=Value.int i t
 | .str x,u=>∃t,u=Value.str x t
 | .byt b,u=>∃t,u=Value.bytes b t
 | .flt b,u=>∃t,u=Value.float b t
 | .ref a,u=>u=Value.ref a
 | .ty n,u=>u=Value.type n
abbrev dc:List V->List Value->Prop:=Paired dQ
theorem dc.length {xs:List V}{us:LJ}(r:dc xs us):xs.length=us.length:=Paired.length r
theorem dc.get:∀{xs:List V} {us:LJ} {i:Nat} {x:V},dc xs us->xs[i]?=some x->∃u,us[i]?=some u/\dQ x u
 |_,_,_,_,.nil,e=>by simp at e
 |_,_,0,_,.cons r _,e=>by simp at e;subst e;exact⟨_,rfl,r⟩
 |_,_,i+1,x,.cons _ t,e=>by obtain⟨u,h1,h2⟩:=dc.get (i:=i) (x:=x) t (by simpa using e);exact⟨u,by simpa using h1,h2⟩
theorem dc.set {x:V}{u:Value}(r:dQ x u):∀{xs:List V} {us:LJ} (i:Nat),dc xs us->dc (xs.set i x) (us.set i u)
 |_,_,_,.nil=>.nil
 |_,_,0,.cons _ t=>.cons r t
 |_,_,i+1,.cons q t=>.cons q (dc.set r i t)
theorem dc.append:∀{xs ys:List V} {us ws:LJ},dc xs us->dc ys ws->dc (xs++ys) (us++ws)
 |_,_,_,_,.nil,s=>s
 |_,_,_,_,.cons r t,s=>.cons r (dc.append t s)
theorem dc.take:∀{xs:List V} {us:LJ} (n:Nat),dc xs us->dc (xs.take n) (us.take n)
 |_,_,0,_=>.nil
 |_,_,_+1,.nil=>.nil
 |_,_,n+1,.cons r t=>.cons r (dc.take n t)
theorem dc.drop:∀{xs:List V} {us:LJ} (n:Nat),dc xs us->dc (xs.drop n) (us.drop n)
 |_,_,0,r=>r
 |_,_,_+1,.nil=>.nil
 |_,_,n+1,.cons _ t=>dc.drop n t
def qk:Option V->Option Value->Prop
 |some v,some u=>dQ v u
 |none,none=>True
 |_,_=>False
def KV {κ:Type}:List (κ×V)->List (κ×Value)->Prop:=Paired λ(p:κ×V) (q:κ×Value)=>p.1=q.1/\dQ p.2 q.2
def kV:jE->V
 | .inl i=>.int i
 | .inr x=>.str x
inductive HO where
 |lst (xs:List V)
 |tup (xs:List V)
 |dK (kvs:List (jE×V))|dT (kvs:List (List jE×V))
 |set (S:Int->Bool) (n:Nat)
 |ins (C dx:Addr) (fs:List (Str×V))
 |own (x:Addr)
 |xd (fs:List (Str×V))
 |met (f x:Addr)
 |rng (lo hi:Int)
 |frz (o:Obj) (u:HO)
 |tbl (ps:LV)
 |ext (g:Heap->Prop)
abbrev Hp:=Addr->Option HO
def upd (H:Hp)(a:Addr)(o:HO):Hp:=λb=>if b=a then some o else H b
theorem au {H:Hp}{a:Addr}{o:HO}:upd H a o a=some o:=by unfold upd;rw[if_pos rfl]
theorem aW {H:Hp}{a b:Addr}{o:HO}(h:b≠a):upd H a o b=H b:=by unfold upd;rw[if_neg h]
theorem qH {H:Hp}{a:Addr}{o u:HO}:upd (upd H a o) a u=upd H a u:=by funext b;unfold upd;split<;>rfl
theorem Ta {H:Hp}{a b:Addr}{o u:HO}(h:H a=some o)(h':H b=some u)(d:o≠u):a≠b:=by intro e;subst e;rw[h]at h';exact d (bK h')
theorem aI {H:Hp}{a b:Addr}{o:HO}(h:H a=some o)(h':H b=none):a≠b:=by intro e;subst e;rw[h]at h';cases h'
section
variable (P:Program)(w:World)
def fo (H:Hp)(h:Heap)(a:Addr):HO->Prop
 | .lst xs=>xs.length<=sizeLine/\∃(its:LJ) (n:Nat),dc xs its/\h.get? a=some {cls:=.type "list",data:=.seq its.toArray n}
 | .tup xs=>xs.length<=sizeLine/\∃its:LJ,dc xs its/\IsTup h a its.toArray
 | .dK kvs=>kvs.length<=sizeLine/\(a==sysModules)=false/\∃vs,KV kvs vs/\h.DictOf (fU P w) a vs
 | .dT kvs=>kvs.length<=sizeLine/\(a==sysModules)=false/\∃xs:List (List jE×Addr×Value),
   Paired (λ(p:List jE×V) (q:List jE×Addr×Value)=>p.1=q.1/\H q.2.1=some (.tup (p.1.map kV))/\dQ p.2 q.2.2) kvs xs/\
   ∃o es ep,h.get? a=some o/\o.ExactDict/\o.data=.dict es ep/\es.toList=xs.map (entryOfKey (tupleKind (fU P w)))/\(xs.map (·.1)).Nodup
 | .set S n=>h.SetOf (intKind P w) a S n
 | .ins C dx fs=>H dx=some (.own a)/\fs.length<=1000/\dx≠a/\h.get? a=some (PySem.W.instObj C dx)/\
   ∃mA,h.Ns1 dx mA/\(∀f,qk (fs.lookup f) (mA f))/\PySem.Within mA (fs.map (·.1))
 | .own _=>∃o,h.get? a=some o
 | .xd fs=>∃mA,h.Ns1 a mA/\∀f,qk (fs.lookup f) (mA f)
 | .rng lo hi=>∃t u v,h.get? a=some {cls:=.type "range",data:=.fields #[.int lo t,.int hi u,.int 1 v]}
 | .frz o u=>h.get? a=some o/\fo H h a u
 | .tbl ps=>h.get? a=some {cls:=.none,data:=.fields ps}
 | .met f x=>h.get? a=some (PySem.W.methodObj (.ref f) (.ref x))
 | .ext g=>g h/\(∃o,h.get? a=some o)/\∀h1 h2:Heap,g h1->(∀o,h1.get? a=some o->h2.get? a=some o)->g h2
def pL (H:Hp)(h:Heap):Prop:=∀a o,H a=some o->fo P w H h a o
end
section
variable {P:Program}{w:World}{H H':Hp}{h h':Heap}{a:Addr}{o:HO}
theorem fo.lt (x:fo P w H h a o):a<h.objs.size:=by
 cases o with
 |lst xs=>obtain⟨_,_,_,_,e⟩:=x;exact aS e
 |tup xs=>obtain⟨_,_,_,p⟩:=x;exact p.lt
 |dK kvs=>obtain⟨_,_,_,_,o,_,_,e,_⟩:=x;exact aS e
 |dT kvs=>obtain⟨_,_,_,_,o,_,_,e,_⟩:=x;exact aS e
 |set S n=>obtain⟨o,_,_,_,e,_⟩:=x;exact aS e
 |ins C dx fs=>obtain⟨_,_,_,e,_⟩:=x;exact aS e
 |own y=>obtain⟨_,e⟩:=x;exact aS e
 |xd fs=>obtain⟨_,⟨_,_,_,e,_⟩,_⟩:=x;exact aS e
 |rng lo hi=>obtain⟨_,_,_,e⟩:=x;exact aS e
 |frz ob u=>obtain⟨e,_⟩:=x;exact aS e
 |tbl ps=>exact aS (show h.get? a=some _ from x)
 |met f y=>exact aS (show h.get? a=some _ from x)
 |ext g=>obtain⟨_,⟨_,e⟩,_⟩:=x;exact aS e
theorem Paired.mapP {α β:Type}{F G:α->β->Prop}:∀{l₁:List α} {g:List β},Paired F l₁ g->(∀a b,F a b->G a b)->Paired G l₁ g
 |_,_,.nil,_=>.nil
 |_,_,.cons r t,f=>.cons (f _ _ r) (Paired.mapP t f)
theorem fo.stay (x:fo P w H h a o)(k:∀b u,(b=a\/H b=some (.own a))->h.get? b=some u->h'.get? b=some u)(l:∀b,H b=some (.own a)->H' b=some (.own a))(j:∀b xs,H b=some (.tup xs)->H' b=some (.tup xs)):fo P w H' h' a o:=by
 induction o with
 |lst xs=>obtain⟨z,its,n,r,e⟩:=x;exact⟨z,its,n,r,k _ _ (.inl rfl) e⟩
 |tup xs=>obtain⟨z,its,r,ob,e,c⟩:=x;exact⟨z,its,r,ob,k _ _ (.inl rfl) e,c⟩
 |dK kvs=>obtain⟨z,y,vs,r,ob,es,ep,e,c⟩:=x;exact⟨z,y,vs,r,ob,es,ep,k _ _ (.inl rfl) e,c⟩
 |dT kvs=>obtain⟨z,y,xs,r,ob,es,ep,e,c⟩:=x;exact⟨z,y,xs,Paired.mapP r λp q z=>⟨z.1,j _ _ z.2.1,z.2.2⟩,ob,es,ep,k _ _ (.inl rfl) e,c⟩
 |set S n=>obtain⟨ob,es,ep,t,e,c⟩:=x;exact⟨ob,es,ep,t,k _ _ (.inl rfl) e,c⟩
 |ins C dx fs=>obtain⟨d,z,ne,e,mA,⟨od,es,ep,I,c⟩,r⟩:=x;exact⟨l _ d,z,ne,k _ _ (.inl rfl) e,mA,⟨od,es,ep,k _ _ (.inr d) I,c⟩,r⟩
 |own y=>obtain⟨ob,e⟩:=x;exact⟨ob,k _ _ (.inl rfl) e⟩
 |xd fs=>obtain⟨mA,⟨od,es,ep,e,c⟩,r⟩:=x;exact⟨mA,⟨od,es,ep,k _ _ (.inl rfl) e,c⟩,r⟩
 |rng lo hi=>obtain⟨t,u,v,e⟩:=x;exact⟨t,u,v,k _ _ (.inl rfl) e⟩
 |frz ob u g=>obtain⟨e,q⟩:=x;exact⟨k _ _ (.inl rfl) e,g q⟩
 |tbl ps=>have e:h.get? a=some {cls:=.none,data:=.fields ps}:=x;show h'.get? a=some {cls:=.none,data:=.fields ps};exact k a _ (.inl rfl) e
 |met f y=>have e:h.get? a=some (PySem.W.methodObj (.ref f) (.ref y)):=x;show h'.get? a=some (PySem.W.methodObj (.ref f) (.ref y));exact k a _ (.inl rfl) e
 |ext J=>obtain⟨p,⟨o,e⟩,st⟩:=x;exact⟨st _ _ p λo q=>k _ _ (.inl rfl) q,⟨o,k _ _ (.inl rfl) e⟩,st⟩
theorem pL.lt (x:pL P w H h)(e:H a=some o):a<h.objs.size:=(x a o e).lt
theorem pL.fresh (x:pL P w H h)(e:h.objs.size<=a):H a=none:=by cases q:H a with|none=>rfl|some u=>exact absurd (ba (x.lt q) e) (dP _)
theorem pL.kept (x:pL P w H h)(k:∀b u,h.get? b=some u->h'.get? b=some u):pL P w H h':=λa o e=>
 (x a o e).stay (λb u _ q=>k b u q) (λ_ q=>q) λ_ _ q=>q
theorem pL.laid (x:pL P w H h)(k:∀b u,h.get? b=some u->h'.get? b=some u)(hp:h.objs.size<=a)(new:fo P w (upd H a o) h' a o):pL P w (upd H a o) h':=λb u e=>by have g:=x.fresh hp;by_cases hb:b=a;subst hb;rw[au]at e;cases e;exact new;rw[aW hb]at e;exact(x b u e).stay (λc v _ q=>k c v q) (λc q=>by rw[aW (aI q g)];exact q) λc xs q=>by rw[aW (aI q g)];exact q
end
def Rd (H:Hp)(a:Addr)(u:HO):Prop:=H a=some u\/ ∃o,H a=some (.frz o u)
theorem Rd.ok {P:Program}{w:World}{H:Hp}{h:Heap}{a:Addr}{u:HO}(r:Rd H a u)(x:pL P w H h):fo P w H h a u:=by rcases r with r|⟨o,r⟩;exact x a u r;obtain⟨_,q⟩:=x a _ r;exact q
def Ug:Option HO->Prop
 |some (.lst _)=>True
 |some (.dK _)=>True
 |some (.dT _)=>True
 |some (.set _ _)=>True
 |some (.ins _ _ _)=>True
 |some (.ext _)=>True
 |_=>False
section
variable {P:Program}{w:World}{H:Hp}{h h':Heap}{x e:Addr}{o':HO}
theorem pL.write (ok:pL P w H h)(j:Ug (H x))(C:e=x\/H e=some (.own x))(k:∀b u,b≠e->h.get? b=some u->h'.get? b=some u)(p:∃u,h'.get? e=some u)(new:fo P w (upd H x o') h' x o'):pL P w (upd H x o') h':=λb u q=>by
 have nown:∀c y,H c=some (.own y)->c≠x:=λc y r z=>by subst z;rw[r]at j;exact j
 have ntup:∀c xs,H c=some (.tup xs)->c≠x:=λc xs r z=>by subst z;rw[r]at j;exact j
 by_cases hb:b=x;subst hb;rw[au]at q;cases q;exact new;rw[aW hb]at q;by_cases g:b=e;have t:H b=some (.own x):=by rcases C with z|z;exact absurd (g.trans z) hb;rw[g];exact z
 rw[q]at t;cases t;obtain⟨v,I⟩:=p;exact⟨v,by rw[g];exact I⟩;refine(ok b u q).stay (λc v l r=>k c v ?_ r) (λc r=>by rw[aW (nown c b r)];exact r) λc xs r=>by rw[aW (ntup c xs r)];exact r
 rcases l with rfl|l;exact g;rintro rfl;rcases C with z|z;exact nown c b l z;rw[l]at z;cases z;exact hb rfl
end
structure Un (fs ex:LK)(H H':Hp)(h h':Heap):Prop where
 keep:∀b o,h.get? b=some o->H b=none->b∉fs->b∉ex->h'.get? b=some o
 slot:∀b o,h.get? b=some o->H b=none->b∈fs->b∉ex->∃sl,h'.get? b=some {o with slots:=sl}
 free:∀b o,h.get? b=some o->H b=none->b∉ex->H' b=none
 there:∀b o,h.get? b=some o->b∉ex->∃o',h'.get? b=some o'
 tups:∀b xs,H b=some (.tup xs)->H' b=some (.tup xs)
 frzs:∀b o u,H b=some (.frz o u)->H' b=some (.frz o u)
 tbls:∀b ps,H b=some (.tbl ps)->∃more,H' b=some (.tbl (ps++more))
section
variable {fs fs' ex ex':LK}{H H1 H2:Hp}{h h1 h2 h':Heap}{a x e:Addr}{o:HO}
theorem Un.any (u:Un fs ex H H1 h h1){b:Addr}{ob:Obj}(q:h.get? b=some ob)(n:H b=none)(g:b∉ex):∃j,h1.get? b=some {ob with slots:=j}:=by by_cases hb:b∈fs;exact u.slot b ob q n hb g;exact⟨ob.slots,u.keep b ob q n hb g⟩
theorem Un.kept (k:∀b u,h.get? b=some u->h'.get? b=some u):Un fs ex H H h h':=
 ⟨λb ob q _ _ _=>k b ob q,λb ob q _ _ _=>⟨ob.slots,k b ob q⟩,λ_ _ _ n _=>n,λb ob q _=>⟨ob,k b ob q⟩,λ_ _ q=>q,λ_ _ _ q=>q,λ_ ps q=>⟨#[],by rw[q];simp⟩⟩
theorem Un.refl:Un fs ex H H h h:=Un.kept λ_ _ q=>q
theorem Un.laid (k:∀b u,h.get? b=some u->h'.get? b=some u)(hp:h.objs.size<=a)(g:H a=none):Un fs ex H (upd H a o) h h' where
 keep:=λb u q _ _ _=>k b u q
 slot:=λb u q _ _ _=>⟨u.slots,k b u q⟩
 free:=λb u q n _=>by rw[aW (bB (ba (aS q) hp))];exact n
 there:=λb u q _=>⟨u,k b u q⟩
 tups:=λb xs q=>by rw[aW (aI q g)];exact q
 frzs:=λb u xs q=>by rw[aW (aI q g)];exact q
 tbls:=λb ps q=>⟨#[],by rw[aW (aI q g),q];simp⟩
theorem Un.write (j:Ug (H x))(C:e=x\/H e=some (.own x))(k:∀b u,b≠e->h.get? b=some u->h'.get? b=some u)(p:∃u,h'.get? e=some u):Un fs ex H (upd H x o) h h':=by
 have t:∀b,H b=none->b≠x:=λb n z=>by subst z;rw[n]at j;exact j
 have hb:∀b,H b=none->b≠e:=λb n z=>by subst z;rcases C with r|r;exact t b n r;rw[n]at r;cases r
 have l:∀b u,H b=some u->¬Ug (some u)->b≠x:=λb u q nm z=>by subst z;rw[q]at j;exact nm j
 refine⟨λb u q n _ _=>k b u (hb b n) q,λb u q n _ _=>⟨u.slots,k b u (hb b n) q⟩,λb u q n _=>by rw[aW (t b n)];exact n,λb u q _=>?_,
  λb xs q=>by rw[aW (l b _ q λz=>z)];exact q,λb u xs q=>by rw[aW (l b _ q λz=>z)];exact q,λb ps q=>⟨#[],by rw[aW (l b _ q λz=>z),q];simp⟩⟩
 by_cases g:b=e;subst g;exact p;exact⟨u,k b u g q⟩
end
def Ut (h:Heap)(H:Hp):LK:=(List.range h.objs.size).filter λa=>(H a).isSome
def wj (h:Heap)(H:Hp):Heap:=PySem.W.hideAll h (Ut h H)
theorem HY (h:Heap)(H:Hp):(wj h H).objs.size=h.objs.size:=PySem.W.hideAll_size _ _
theorem vC {h:Heap}{H:Hp}{b:Addr}{o:Obj}(e:h.get? b=some o)(n:H b=none):(wj h H).get? b=some o:=
 PySem.W.hideAll_get _ e λg=>by have q:(H b).isSome=true:=(iA.mp g).2;rw[n]at q;simp at q
theorem N8 {h:Heap}{H:Hp}{b:Addr}{o:Obj}(e:(wj h H).get? b=some o):h.get? b=some o/\H b=none:=by have g:h.get? b=some o:=PySem.W.of_hideAll (Ut h H) e;refine⟨g,?_⟩;cases q:H b with|none=>rfl|some x=>have j:b∈Ut h H:=iA.mpr ⟨bc.mpr (aS g),by simp[q]⟩;have z:(wj h H).get? b=none:=PySem.W.hideAll_none (Ut h H) j;rw[z]at e;cases e
def rC (g h:Heap)(L:Addr):LD:=(List.range h.objs.size).filterMap λa=>if a=L\/(g.get? a).isSome=true then none else(h.get? a).map λo=>(a,o)
theorem tu {g h:Heap}{L a:Addr}{o:Obj}(h1:a≠L)(h2:g.get? a=none)(j:h.get? a=some o):(a,o)∈rC g h L:=
 pF.mpr ⟨a,bc.mpr (aS j),by simp[h1,h2,j]⟩
theorem vi {g h:Heap}{L:Addr}{p:Addr×Obj}(hp:p∈rC g h L):p.1≠L/\g.get? p.1=none/\h.get? p.1=some p.2:=by obtain⟨b,_,e⟩:=pF.mp hp;split at e;cases e;rename_i j;cases q:h.get? b with|none=>rw[q]at e;simp at e|some u=>rw[q]at e;simp only[jb,Option.some.injEq]at e;subst e;refine⟨λz=>j (.inl z),?_,q⟩;show g.get? b=none;cases r:g.get? b with|none=>rfl|some v=>exact(j (.inr (by simp[r]))).elim
def iG (g h:Heap)(L d:Addr):LD:=(rC g h L).filter λp=>decide (p.1≠d)
theorem K3 {g h:Heap}{L:Addr}:News g L h (rC g h L):=λp hp=>let⟨a,b,c⟩:=vi hp;⟨c,a,b⟩
structure Mod (K:LO)(mg:LQ)(base:Heap):Prop where
 kin:K.In base
 glob:base.Ns mainGlobals mg
 blt:∃mb,base.Ns builtinsNs mb/\∀x:Str,x≠"__name__"->mb x=bootBuiltins x
 nolimit:base.NoLimit
structure Cx where
 prog:Program
 w:World
 K:LO
 mg:LQ
 base:Heap
 A:Around
 N:LM
 s₀:Shared
 H₀:Hp
 env:Env
 outer:List Env
 stack:List Env
 ex:LK
 fn:Str->Bool
 calm:Bool
 pn:LD
 xe:LP
def Mj (l:List Env):LK:=l.filterMap (·.frame)
abbrev Cx.fs (X:Cx):LK:=Mj X.outer
def Ux (sc:Scope)(x:Str):Prop:=sc.names.lookup x=some .local\/sc.names.lookup x=some .cell\/sc.names.lookup x=some .free
def MY (sc:Scope)(x:Str):Prop:=sc.names.lookup x=some .local\/sc.names.lookup x=some .cell
def Vw (env:Env)(h:Heap)(m:LQ)(x:Str)(u:Value):Prop:=
 (env.kindOf x=some .local/\m x=some u)\/((env.kindOf x=some .cell\/env.kindOf x=some .free)/\∃c,env.cells.lookup x=some c/\h.IsCell c (some u))
structure Cx.Ok (X:Cx):Prop where
 mod:Mod X.K X.mg X.base
 kind:X.env.scope.kind=.function
 glob:X.env.globals=mainGlobals
 blt:X.env.builtins=builtinsNs
 above:X.s₀.heap.objs.size<=X.env.locals
 inj:∀x y c,X.env.cells.lookup x=some c->X.env.cells.lookup y=some c->x=y
 has:∀x,(X.env.kindOf x=some .cell\/X.env.kindOf x=some .free)->∃c,X.env.cells.lookup x=some c
 cab:∀x c,X.fn x=true->X.env.cells.lookup x=some c->X.s₀.heap.objs.size<=c
 hd:X.calm=true->X.A.handled=none
 frames:X.A.frames=some X.stack
 stk:X.stack=X.outer\/(X.stack=X.env::X.outer/\X.env.frame=some X.env.locals)
 exf:∀b∈X.ex,b≠X.env.locals/\∀x c,X.env.cells.lookup x=some c->c≠b
 bs:∀b o,X.base.get? b=some o->X.s₀.heap.get? b=some o/\X.H₀ b=none
 bsz:X.base.objs.size<=X.s₀.heap.objs.size
 noex:∀b o,X.base.get? b=some o->b∉X.ex
 exfs:∀b∈X.ex,b∉X.fs
 funs:X.s₀.heap.FunFrames X.base X.outer
 frf:∀b∈X.fs,X.H₀ b=none
structure Inv (X:Cx)(pins:LD)(σ:List (Option V))(H:Hp)(s:Shared):Prop where
 ok:X.Ok
 os:s.os=X.s₀.os
 bare:AllBare s.gens
 base:Un X.fs X.ex X.H₀ H X.s₀.heap s.heap
 loc:∃m,s.heap.Ns X.env.locals m/\∀(i:Nat) (x:Str) (v:V),X.N[i]?=some x->σ[i]?=some (some v)->Ux X.env.scope x->∃u,dQ v u/\Vw X.env s.heap m x u
 cell:∀x c,X.env.cells.lookup x=some c->∃v,s.heap.IsCell c v
 free:H X.env.locals=none
 freeC:∀x c,X.env.cells.lookup x=some c->H c=none
 pin:∀p∈X.pn++pins,s.heap.get? p.1=some p.2/\H p.1=none/\p.1≠X.env.locals/\p.1∉X.fs/\∀v,p.2.data≠.cell v
 hok:pL X.prog X.w H s.heap
 len:σ.length=X.N.length
section
variable {X:Cx}{pins:LD}{σ:List (Option V)}{H H':Hp}{s:Shared}{h':Heap}
theorem Cx.Ok.nofr (ok:X.Ok){b:Addr}{o:Obj}(e:X.base.get? b=some o):b∉X.fs:=λhb=>by have:=(ok.funs.mem hb).1;rw[e]at this;cases this
theorem Inv.bs (I:Inv X pins σ H s):∀b o,X.base.get? b=some o->s.heap.get? b=some o/\H b=none:=λb o e=>
 ⟨I.base.keep b o (I.ok.bs b o e).1 (I.ok.bs b o e).2 (I.ok.nofr e) (I.ok.noex b o e),I.base.free b o (I.ok.bs b o e).1 (I.ok.bs b o e).2 (I.ok.noex b o e)⟩
theorem Inv.bk (I:Inv X pins σ H s):∀b o,X.base.get? b=some o->s.heap.get? b=some o:=λb o e=>(I.bs b o e).1
theorem Inv.mod (I:Inv X pins σ H s):Mod X.K X.mg X.base:=I.ok.mod
theorem Inv.kIn (I:Inv X pins σ H s):X.K.In s.heap:=I.ok.mod.kin.keeps I.bk
theorem Inv.nolimit (I:Inv X pins σ H s):s.heap.NoLimit:=I.ok.mod.nolimit.keeps I.bk
theorem Inv.fr (I:Inv X pins σ H s):∃m,Fr X.base X.env.locals s.heap m:=
 let⟨m,g,_⟩:=I.loc
 ⟨m,g,I.bk,bj I.ok.bsz I.ok.above⟩
theorem Inv.lt (I:Inv X pins σ H s):X.env.locals<s.heap.objs.size:=let⟨_,g,_⟩:=I.loc;g.lt
theorem Inv.sz (I:Inv X pins σ H s):X.s₀.heap.objs.size<=s.heap.objs.size:=bj I.ok.above (cu I.lt)
theorem Inv.nofs (I:Inv X pins σ H s){a:Addr}(h:s.heap.objs.size<=a):a∉X.fs:=λhb=>by obtain⟨_,o,g,_⟩:=I.ok.funs.mem hb;exact absurd (ba (aS g) (bj I.sz h)) (dP _)
theorem Inv.cne (I:Inv X pins σ H s):∀x c,X.env.cells.lookup x=some c->c≠X.env.locals:=λx c e z=>by obtain⟨v,o,l,hd⟩:=I.cell x c e;obtain⟨m,⟨o',es,ep,g,j,_⟩,_⟩:=I.loc;rw[z,g]at l;cases l;rw[j]at hd;cases hd
theorem Inv.funs (I:Inv X pins σ H s):s.heap.FunFrames X.base X.outer:=by
 have all:∀(l:List Env),(∀b∈Mj l,b∈X.fs)->X.s₀.heap.FunFrames X.base l->s.heap.FunFrames X.base l:=by intro l;induction l with|nil=>intro _ _;trivial|cons env r p=>intro hs hl;obtain⟨hk,⟨L,o,g,J,C,hd⟩,t⟩:=hl;have j:L∈X.fs:=hs L (by unfold Mj;rw[zr,g];exact aM);obtain⟨T,e⟩:=I.base.slot L o C (I.ok.frf L j) j λz=>I.ok.exfs L z j;exact⟨hk,⟨L,_,g,J,e,hd⟩,p (λb hb=>hs b (by unfold Mj;rw[zr,g];exact aB _ hb)) t⟩
 exact all X.outer (λ_ hb=>hb) I.ok.funs
theorem Inv.stack (I:Inv X pins σ H s):s.heap.FunFrames X.base X.stack:=by rcases I.ok.stk with e|⟨e,j⟩;rw[e];exact I.funs;rw[e];obtain⟨m,g,_⟩:=I.loc;refine .cons (by rw[I.ok.kind];decide) j g ?_ I.funs;exact Heap.get?_none_of_le (bj I.ok.bsz I.ok.above)
theorem Inv.stkSub (I:Inv X pins σ H s):∀b∈Mj X.stack,b∈X.env.locals::X.fs:=λb hb=>by rcases I.ok.stk with e|⟨e,g⟩;rw[e]at hb;exact aB _ hb;rw[e]at hb;unfold Mj at hb;rw[zr,g]at hb;exact hb
theorem Inv.stkFree (I:Inv X pins σ H s):∀b∈Mj X.stack,H b=none:=λb hb=>by rcases bT.mp (I.stkSub b hb)with e|hb;rw[e];exact I.free;obtain⟨_,o,g,_⟩:=I.ok.funs.mem hb;exact I.base.free b o g (I.ok.frf b hb) λz=>I.ok.exfs b z hb
theorem Inv.step {g':Array GenState}{t':Nat}{d':Drawn}{ch:LK}(I:Inv X pins σ H s)(t:∀b∈ch,(b∈X.ex\/X.s₀.heap.objs.size<=b)/\b≠X.env.locals/\(∀x c,X.env.cells.lookup x=some c->c≠b)/\∀p∈X.pn++pins,p.1≠b)(keep:∀b o,b≠X.env.locals->b∉X.fs->b∉ch->s.heap.get? b=some o->H b=none->h'.get? b=some o)(slot:∀b o,b≠X.env.locals->b∈X.fs->b∉ch->s.heap.get? b=some o->H b=none->∃sl,h'.get? b=some {o with slots:=sl})(free:∀b o,b∉ch->s.heap.get? b=some o->H b=none->H' b=none)(there:∀b o,b∉ch->s.heap.get? b=some o->∃o',h'.get? b=some o')(tups:∀b xs,H b=some (.tup xs)->H' b=some (.tup xs))(frzs:∀b o u,H b=some (.frz o u)->H' b=some (.frz o u))(tbls:∀b ps,H b=some (.tbl ps)->∃more,H' b=some (.tbl (ps++more)))(ns:∀m,s.heap.Ns X.env.locals m->h'.Ns X.env.locals m)(hok:pL X.prog X.w H' h')(hg:AllBare g'):
  Inv X pins σ H' {s with heap:=h',gens:=g',drawn:=d',toks:=t'}:=by
 have U:∀b o,X.s₀.heap.get? b=some o->b≠X.env.locals:=λb o e=>bB (ba (aS e) I.ok.above);have C:∀b o,X.s₀.heap.get? b=some o->b∉X.ex->b∉ch:=λb o e g hb=>by rcases(t b hb).1 with z|z;exact g z;exact absurd (ba (aS e) z) (dP _)
 have cellK:∀x c,X.env.cells.lookup x=some c->∀v,s.heap.IsCell c v->h'.IsCell c v:=λx c e v ⟨o,T,hd⟩=>by have j:c∉ch:=λz=>(t c z).2.2.1 x c e rfl;by_cases hc:c∈X.fs;obtain⟨sl,q⟩:=slot c o (I.cne x c e) hc j T (I.freeC x c e);exact⟨_,q,hd⟩;exact⟨o,keep c o (I.cne x c e) hc j T (I.freeC x c e),hd⟩
 refine⟨I.ok,I.os,hg,⟨λb o e n hb g=>?_,λb o e n hb g=>?_,λb o e n g=>?_,λb o e g=>?_,λb xs e=>tups b xs (I.base.tups b xs e),λb o xs e=>frzs b o xs (I.base.frzs b o xs e),λb ps e=>?_⟩,?_,λx c e=>?_,?_,λx c e=>?_,λp hp=>?_,hok,I.len⟩;exact keep b o (U b o e) hb (C b o e g) (I.base.keep b o e n hb g) (I.base.free b o e n g);obtain⟨sl,J⟩:=I.base.slot b o e n hb g;obtain⟨sl',e2⟩:=slot b _ (U b o e) hb (C b o e g) J (I.base.free b o e n g);exact⟨sl',e2⟩;obtain⟨o',J⟩:=I.base.there b o e g;exact free b o' (C b o e g) J (I.base.free b o e n g);obtain⟨o',J⟩:=I.base.there b o e g;exact there b o' (C b o e g) J;obtain⟨m1,J⟩:=I.base.tbls b ps e;obtain⟨m2,e2⟩:=tbls b _ J;exact⟨m1++m2,by rw[e2,Array.append_assoc]⟩;obtain⟨m,hn,hl⟩:=I.loc;refine⟨m,ns m hn,λi x v J e2 e3=>?_⟩;obtain⟨u,r,l⟩:=hl i x v J e2 e3;refine⟨u,r,?_⟩;rcases l with l|⟨k,c,e,z⟩;exact .inl l;exact .inr ⟨k,c,e,cellK x c e _ z⟩;obtain⟨v,z⟩:=I.cell x c e;exact⟨v,cellK x c e v z⟩;obtain⟨m,⟨o,_,_,T,_⟩,_⟩:=I.loc;exact free _ o (λz=>(t _ z).2.1 rfl) T I.free;obtain⟨v,o,T,hd⟩:=I.cell x c e;exact free c o (λz=>(t c z).2.2.1 x c e rfl) T (I.freeC x c e);obtain⟨e,n,ne,nf,d⟩:=I.pin p hp;have j:p.1∉ch:=λz=>(t p.1 z).2.2.2 p hp rfl;exact⟨keep p.1 p.2 ne nf j e n,free p.1 p.2 j e n,ne,nf,d⟩
theorem Inv.un {t':Nat}(I:Inv X pins σ H s)(u:Un X.fs [] H H' s.heap h')(hok:pL X.prog X.w H' h'):Inv X pins σ H' {s with heap:=h',toks:=t'}:=by obtain⟨m,⟨o,es,ep,p,r⟩,_⟩:=id I.loc;obtain⟨T,J⟩:=u.any p I.free (by simp);exact I.step (g':=s.gens) (d':=s.drawn) (ch:=[]) (λ_ z=>nomatch z) (λb o _ hb _ e n=>u.keep b o e n hb (by simp)) (λb o _ hb _ e n=>u.slot b o e n hb (by simp)) (λb o _ e n=>u.free b o e n (by simp)) (λb o _ e=>u.there b o e (by simp)) u.tups u.frzs u.tbls (λU C=>by obtain⟨o',j,l,g,t⟩:=C;rw[p]at g;cases g;exact⟨_,j,l,J,t⟩) hok I.bare
theorem Inv.call {g':Array GenState}{t':Nat}{d':Drawn}{ch:LK}(I:Inv X pins σ H s)(u:Un (Mj X.stack) ch H H' s.heap h')(hok:pL X.prog X.w H' h')(hg:AllBare g')(l:∀b∈ch,(b∈X.ex\/X.s₀.heap.objs.size<=b)/\b≠X.env.locals/\(∀x c,X.env.cells.lookup x=some c->c≠b)/\∀p∈X.pn++pins,p.1≠b):
  Inv X pins σ H' {s with heap:=h',gens:=g',drawn:=d',toks:=t'}:=by obtain⟨m,⟨o,es,ep,T,r⟩,_⟩:=id I.loc;obtain⟨sl,t⟩:=u.any T I.free λz=>(l _ z).2.1 rfl;exact I.step (ch:=ch) l (λb o t hb g e n=>u.keep b o e n (λz=>(bT.mp (I.stkSub b z)).elim t hb) g) (λb o _ _ g e n=>u.any e n g) (λb o g e n=>u.free b o e n g) (λb o g e=>u.there b o e g) u.tups u.frzs u.tbls (λm' hm=>by obtain⟨o',C,J,j,U⟩:=hm;rw[T]at j;cases j;exact⟨_,C,J,t,U⟩) hok hg
theorem Inv.turned {t':Nat}{it:Addr}(I:Inv X pins σ H s)(k:∀b o,b≠it->s.heap.get? b=some o->h'.get? b=some o)(C:H it=none)(l:it≠X.env.locals)(h1:it∈X.ex\/X.s₀.heap.objs.size<=it)(h2:∀x c,X.env.cells.lookup x=some c->c≠it)(T:∀p∈X.pn++pins,p.1≠it):Inv X pins σ H {s with heap:=h',toks:=t'}:=by
 have j:∀b u,H b=some u->b≠it:=λb u e z=>by rw[z,C]at e;cases e
 refine I.step (g':=s.gens) (d':=s.drawn) (ch:=[it]) (λb hb=>?_) (λb o _ _ g e _=>k b o (λz=>g (by simp[z])) e) (λb o _ _ g e _=>⟨o.slots,k b o (λz=>g (by simp[z])) e⟩) (λ_ _ _ _ n=>n)
  (λb o g e=>⟨o,k b o (λz=>g (by simp[z])) e⟩) (λ_ _ e=>e) (λ_ _ _ e=>e) (λb ps e=>⟨#[],by rw[e];simp⟩) (λm J=>?_) (λb u e=>?_) I.bare
 have e:b=it:=by simpa using hb
 subst e;exact⟨h1,l,h2,T⟩;obtain⟨o,es,ep,t,r⟩:=J;exact⟨o,es,ep,k _ o (Ne.symm l) t,r⟩;refine(I.hok b u e).stay (λc v g q=>k c v ?_ q) (λ_ q=>q) λ_ _ q=>q;rcases g with z|z;rw[z];exact j b u e;exact j c _ z
theorem Inv.tok (I:Inv X pins σ H s)(t:Nat):Inv X pins σ H {s with toks:=t}:=I.un (h':=s.heap) (t':=t) Un.refl I.hok
theorem Inv.kept {t':Nat}(I:Inv X pins σ H s)(k:∀b u,s.heap.get? b=some u->h'.get? b=some u):Inv X pins σ H {s with heap:=h',toks:=t'}:=I.un (Un.kept k) (I.hok.kept k)
theorem Inv.laid {a:Addr}{o:HO}{t':Nat}(I:Inv X pins σ H s)(k:∀b u,s.heap.get? b=some u->h'.get? b=some u)(hp:s.heap.objs.size<=a)(new:fo X.prog X.w (upd H a o) h' a o):
  Inv X pins σ (upd H a o) {s with heap:=h',toks:=t'}:=I.un (Un.laid k hp (I.hok.fresh hp)) (I.hok.laid k hp new)
theorem Inv.write {x e:Addr}{o:HO}{t':Nat}(I:Inv X pins σ H s)(j:Ug (H x))(l:e=x\/H e=some (.own x))(k:∀b u,b≠e->s.heap.get? b=some u->h'.get? b=some u)(g:∃u,h'.get? e=some u)(new:fo X.prog X.w (upd H x o) h' x o):Inv X pins σ (upd H x o) {s with heap:=h',toks:=t'}:=I.un (Un.write j l k g) (I.hok.write j l k g new)
theorem Inv.pins_of {pins':LD}(I:Inv X pins σ H s)(h:∀p∈pins',s.heap.get? p.1=some p.2/\H p.1=none/\p.1≠X.env.locals/\p.1∉X.fs/\∀v,p.2.data≠.cell v):Inv X pins' σ H s:=
 ⟨I.ok,I.os,I.bare,I.base,I.loc,I.cell,I.free,I.freeC,λp hp=>(be.mp hp).elim (λz=>I.pin p (cB _ z)) (h p),I.hok,I.len⟩
theorem AX {N:LM}(g:N.Nodup){i j:Nat}{x:Str}(a:N[i]?=some x)(b:N[j]?=some x):i=j:=by obtain⟨h1,p⟩:=aZ.mp a;obtain⟨h2,l⟩:=aZ.mp b;exact(List.getElem_inj g).mp (p.trans l.symm)
theorem rJ {M:Model}{A:Around}{E:LP}{i:Nat}{x:Str}{v:V}{u:Value}{Q:Unit->Shared->Prop}(I:Inv X pins σ H s)(hN:X.N.Nodup)(hi:X.N[i]?=some x)(t:MY X.env.scope x)(r:dQ v u)(h:∀s',Inv X pins (σ.set i (some v)) H s'->(∃a,Heap.SameBut a s.heap s'.heap/\(a=X.env.locals\/X.env.cells.lookup x=some a))->Q () s')(hf:X.fn x=true\/X.env.scope.names.lookup x=some .local:=by first|exact .inl rfl|exact .inr rfl|assumption):wpAny M A (storeName X.env x u) Q E s:=by
 obtain⟨m,hn,hl⟩:=id I.loc;have hcls:(X.env.scope.kind== .class||(X.env.scope.kind== .module&&X.env.locals != X.env.globals))=false:=by rw[I.ok.kind];rfl
 have J:i<σ.length:=by rw[I.len];exact(aZ.mp hi).1
 have cne:=I.cne;have tracked:∀{a:Addr} {h':Heap},(∃o,s.heap.get? a=some o/\H a=none)->Heap.SameBut a s.heap h'->pL X.prog X.w H h':=λ{a h'} ha hs b ob e=>by obtain⟨_,_,hfree⟩:=ha;refine(I.hok b ob e).stay (λc w' l q=>(hs.2 c ?_).trans q) (λ_ q=>q) λ_ _ q=>q;rintro rfl;rcases l with rfl|l;rw[hfree]at e;cases e;rw[hfree]at l;cases l
 rcases t with hk|hk;refine wpAny_storeName_local hk hn (λh' hn' hs=>?_) hcls;obtain⟨oL,_,_,hoL,_⟩:=id hn;refine h _ ⟨I.ok,I.os,I.bare,⟨λb o e n hb t=>?_,λb o e n hb t=>?_,I.base.free,λb o e t=>?_,I.base.tups,I.base.frzs,I.base.tbls⟩,⟨_,hn',λj y v' g C e3=>?_⟩,λy c e=>?_,I.free,I.freeC,λp hp=>?_,tracked ⟨oL,hoL,I.free⟩ hs,by simpa using I.len⟩ ⟨_,hs,.inl rfl⟩;exact(hs.2 b (bB (ba (aS e) I.ok.above))).trans (I.base.keep b o e n hb t);obtain⟨sl,g⟩:=I.base.slot b o e n hb t;exact⟨sl,(hs.2 b (bB (ba (aS e) I.ok.above))).trans g⟩;obtain⟨o',g⟩:=I.base.there b o e t;exact⟨o',(hs.2 b (bB (ba (aS e) I.ok.above))).trans g⟩;by_cases T:j=i;subst T;rw[hi]at g;cases g;rw[fO J]at C;cases C;exact⟨u,r,.inl ⟨hk,by simp⟩⟩;rw[gB (Ne.symm T)]at C;obtain⟨u',r',q⟩:=hl j y v' g C e3;refine⟨u',r',?_⟩;rcases q with⟨k,e⟩|⟨k,c,e,z⟩;refine .inl ⟨k,?_⟩;have:y≠x:=λe=>T (AX hN g (e ▸ hi));simp[this,e];exact .inr ⟨k,c,e,z.sameBut hs (cne y c e)⟩;obtain⟨w',z⟩:=I.cell y c e;exact⟨w',z.sameBut hs (cne y c e)⟩;obtain⟨e,n,ne,nf,d⟩:=I.pin p hp;exact⟨(hs.2 p.1 ne).trans e,n,ne,nf,d⟩;have U:X.fn x=true:=by rcases hf with z|z;exact z;rw[z]at hk;cases hk
 obtain⟨c,l⟩:=I.ok.has x (.inl hk);obtain⟨w',z⟩:=I.cell x c l;refine wpAny_storeName_cell I.ok.kind hk l z (λh' hc' hs=>?_);obtain⟨oc,hoc,hocd⟩:=id z;refine h {s with heap:=h'} ⟨I.ok,I.os,I.bare,⟨λb o e n hb t=>?_,λb o e n hb t=>?_,I.base.free,λb o e t=>?_,I.base.tups,I.base.frzs,I.base.tbls⟩,⟨m,hn.sameBut hs (Ne.symm (cne x c l)),λj y v' g C e3=>?_⟩,λy c' e=>?_,I.free,I.freeC,λp hp=>?_,tracked ⟨oc,hoc,I.freeC x c l⟩ hs,by simpa using I.len⟩ ⟨c,hs,.inr l⟩;exact(hs.2 b (bB (ba (aS e) (I.ok.cab x c U l)))).trans (I.base.keep b o e n hb t);obtain⟨sl,g⟩:=I.base.slot b o e n hb t;exact⟨sl,(hs.2 b (bB (ba (aS e) (I.ok.cab x c U l)))).trans g⟩;obtain⟨o',g⟩:=I.base.there b o e t;exact⟨o',(hs.2 b (bB (ba (aS e) (I.ok.cab x c U l)))).trans g⟩;by_cases T:j=i;subst T;rw[hi]at g;cases g;rw[fO J]at C;cases C;exact⟨u,r,.inr ⟨.inl hk,c,l,hc'⟩⟩;rw[gB (Ne.symm T)]at C;obtain⟨u',r',q⟩:=hl j y v' g C e3;refine⟨u',r',?_⟩;rcases q with q|⟨k,c',e,z'⟩;exact .inl q;refine .inr ⟨k,c',e,z'.sameBut hs ?_⟩;rintro rfl;exact T (AX hN g (I.ok.inj _ _ _ e l ▸ hi));by_cases hcc:c'=c;subst hcc;exact⟨_,hc'⟩;obtain⟨w2,z2⟩:=I.cell y c' e;exact⟨w2,z2.sameBut hs hcc⟩;obtain⟨e,n,ne,nf,d⟩:=I.pin p hp;refine⟨(hs.2 p.1 ?_).trans e,n,ne,nf,d⟩;intro q;rw[q,hoc]at e;have q':oc=p.2:=bK e;exact d w' (by rw[<-q'];exact hocd)
theorem uC {M:Model}{A:Around}{E:LP}{i:Nat}{x:Str}{v:V}{u:Value}{Q:Unit->Shared->Prop}(I:Inv X pins σ H s)(l:X.N.Nodup)(hi:X.N[i]?=some x)(g:MY X.env.scope x)(r:dQ v u)(h:∀s',Inv X pins (σ.set i (some v)) H s'->Q () s')(j:X.fn x=true\/X.env.scope.names.lookup x=some .local:=by first|exact .inl rfl|exact .inr rfl|assumption):wpAny M A (storeName X.env x u) Q E s:=
 rJ I l hi g r (λs' p _=>h s' p) j
theorem Inv.call' {s':Shared}{ch:LK}(I:Inv X pins σ H s)(j:s'.os=s.os)(u:Un (Mj X.stack) ch H H' s.heap s'.heap)(hok:pL X.prog X.w H' s'.heap)(l:AllBare s'.gens)(g:∀b∈ch,(b∈X.ex\/X.s₀.heap.objs.size<=b)/\b≠X.env.locals/\(∀x c,X.env.cells.lookup x=some c->c≠b)/\∀p∈X.pn++pins,p.1≠b):Inv X pins σ H' s':=by obtain⟨h',g',d',t',o'⟩:=s';have e:o'=s.os:=j;subst e;exact I.call (g':=g') (t':=t') (d':=d') u hok l g
end
abbrev XK:=Value->Option Addr->Hp->Prop
abbrev St:=List (Option V)
abbrev VK:=V->Hp->Prop
abbrev LB:=List (List V)
abbrev LI:=List V
abbrev LR:=L2.St->Hp->Prop
abbrev LU:=Option V
abbrev TE:=St->Hp->VK->Prop
abbrev TT:=St->Hp->(Bool->Hp->Prop)->Prop
abbrev TA:=St->Hp->(List V->Hp->Prop)->Prop
structure qr where
 nx:St->Hp->Prop
 rt:VK
 bk:St->Hp->Prop:=λ_ _=>False
 ct:St->Hp->Prop:=λ_ _=>False
abbrev TS:=qr->St->Hp->Prop
inductive Um (X:Cx)(pins:LD)(σ:St)(Q:VK)(u:Value)(s':Shared):Prop|mk (v H':_) (_:Inv X pins σ H' s') (_:dQ v u) (_:Q v H'):Um X pins σ Q u s'
def EP (X:Cx)(pins:LD)(σ:St)(Q:VK)(u:Value)(s':Shared):Prop:=Um X pins σ Q u s'
def TP (X:Cx)(pins:LD)(σ:St)(Q:Bool->Hp->Prop)(b:Bool)(s':Shared):Prop:=∃H',Inv X pins σ H' s'/\Q b H'
inductive Uq (X:Cx)(pins:LD)(σ:St)(Q:List V->Hp->Prop)(us:LJ)(s':Shared):Prop|mk (vs H':_) (_:Inv X pins σ H' s') (_:dc vs us) (_:Q vs H'):Uq X pins σ Q us s'
def AP (X:Cx)(pins:LD)(σ:St)(Q:List V->Hp->Prop)(us:LJ)(s':Shared):Prop:=Uq X pins σ Q us s'
def SP (X:Cx)(pins:LD)(D:qr)(f:Flow)(s':Shared):Prop:=
 match f with
 | .next=>∃g H',Inv X pins g H' s'/\D.nx g H'
 | .brk=>∃g H',Inv X pins g H' s'/\D.bk g H'
 | .cont=>∃g H',Inv X pins g H' s'/\D.ct g H'
 | .ret u=>∃v g H',Inv X pins g H' s'/\dQ v u/\D.rt v H'
@[irreducible] def PE (X:Cx) (e:Expr) (t:TE):Prop:=
 ∀(pins:LD) (s:Shared) (σ:St) (H:Hp) (Q:VK),Inv X pins σ H s->t σ H Q->wpAny (model X.prog X.w) X.A (eval e X.env) (EP X pins σ Q) X.xe s
@[irreducible] def PT (X:Cx) (e:Expr) (t:TT):Prop:=
 ∀(pins:LD) (s:Shared) (σ:St) (H:Hp) (Q:Bool->Hp->Prop),Inv X pins σ H s->t σ H Q->wpAny (model X.prog X.w) X.A (isTrue e X.env (eval e X.env)) (TP X pins σ Q) X.xe s
@[irreducible] def PW (X:Cx) (e:Expr) (t:TT):Prop:=
 ∀(whole:Sem Value) (pins:LD) (s:Shared) (σ:St) (H:Hp) (Q:Bool->Hp->Prop),Inv X pins σ H s->t σ H Q->wpAny (model X.prog X.w) X.A (isTrue e X.env whole) (TP X pins σ Q) X.xe s
theorem PW.pt {X:Cx}{e:Expr}{t:TT}(h:PW X e t):PT X e t:=by with_unfolding_all exact(h _)
@[irreducible] def PA (X:Cx) (es:LN) (t:TA):Prop:=
 ∀(pos:Pos) (pins:LD) (s:Shared) (σ:St) (H:Hp) (Q:List V->Hp->Prop),Inv X pins σ H s->t σ H Q->wpAny (model X.prog X.w) X.A (spliced (backTo pos (starEach es X.env))) (AP X pins σ Q) X.xe s
@[irreducible] def PS (X:Cx) (st:Stmt) (t:TS):Prop:=
 ∀(pins:LD) (s:Shared) (σ:St) (H:Hp) (D:qr),Inv X pins σ H s->t D σ H->wpAny (model X.prog X.w) X.A (exec st X.env) (SP X pins D) X.xe s
@[irreducible] def PSs (X:Cx) (st:List Stmt) (t:TS):Prop:=
 ∀(pins:LD) (s:Shared) (σ:St) (H:Hp) (D:qr),Inv X pins σ H s->t D σ H->wpAny (model X.prog X.w) X.A (execs st X.env) (SP X pins D) X.xe s
theorem gm {α:Type}{t:Sem α}{Q g:α->Shared->Prop}{M:Model}{A:Around}{E:LP}{s:Shared}(h:wpAny M A t Q E s)(j:∀a s,Q a s->g a s):wpAny M A t g E s:=ii h j λ_ _ x=>x
section
variable {X:Cx}
theorem bin {a b:Expr}{ta tb:TE}(U:PE X a ta)(hb:PE X b tb){pins:LD}{s:Shared}{σ:St}{H:Hp}{R:V->V->Hp->Prop}(I:Inv X pins σ H s)(h:ta σ H λx H1=>tb σ H1 λy H2=>R x y H2){α:Type}{Q:α->Shared->Prop}{f:Value->Value->Sem α}(T:∀v u j x y H2,Inv X pins σ H2 j->dQ x v->dQ y u->R x y H2->wpAny (model X.prog X.w) X.A (f v u) Q X.xe j):
  wpAny (model X.prog X.w) X.A (eval a X.env) (λv s₁=>wpAny (model X.prog X.w) X.A (eval b X.env) (λu g=>wpAny (model X.prog X.w) X.A (f v u) Q X.xe g) X.xe s₁) X.xe s:=by with_unfolding_all
 refine gm (U pins s σ H _ I h) λv l ⟨x,H1,I1,t,J⟩=>?_;refine gm (hb pins l σ H1 _ I1 J) λu j ⟨y,H2,I2,p,C⟩=>?_;exact T v u j x y H2 I2 t p C
inductive Jg (i:Nat)(σ:L2.St)(H:Hp)(Q:VK):Prop|mk (v:_) (_:σ[i]?=some (some v)) (_:Q v H):Jg i σ H Q
def pQ (i:Nat):TE:=λσ H Q=>Jg i σ H Q
def tC (v:V):TE:=λ_ H Q=>Q v H
theorem QG {i:Nat}{x:Str}{pos:Pos}(J:X.N[i]?=some x)(p:Ux X.env.scope x)(hd:(x==("__debug__":Str))=false:=by decide)(g:(x==("__classdict__":Str))=false:=by decide):PE X (.Name x pos) (pQ i):=by with_unfolding_all
 intro pins s σ H Q I h;obtain⟨v,e,h⟩:=h;obtain⟨m,t,hl⟩:=I.loc;obtain⟨u,r,l⟩:=hl i x v J e p;have fin:EP X pins σ Q u s:=⟨v,H,I,r,h⟩;rcases l with⟨hk,C⟩|⟨hk,c,j,hcell⟩;exact wpAny_Name (wb I.ok.kind hk t C fin) hd;rcases hk with hk|hk;exact wpAny_Name (wpAny_loadName_cell I.ok.kind hk j hcell fin) hd;exact wpAny_Name (wpAny_loadName_free I.ok.kind hk j hcell fin g) hd
theorem ar {i j pos}:PE X (.Constant (.int i) j pos) (tC (.int i)):=by with_unfolding_all exact(λ_ _ _ H _ I h=>wpAny_Constant_int ⟨.int i,H,I.tok _,⟨_,rfl⟩,h⟩)
theorem jf {b j pos}:PE X (.Constant (.bool b) j pos) (tC (.bl b)):=by with_unfolding_all exact(λ_ _ _ H _ I h=>Constant_bool ⟨.bl b,H,I,rfl,h⟩)
theorem jO {j pos}:PE X (.Constant .none j pos) (tC .non):=by with_unfolding_all exact(λ_ _ _ H _ I h=>Constant_none ⟨.non,H,I,rfl,h⟩)
theorem hJ {x j pos}:PE X (.Constant (.str x) j pos) (tC (.str x)):=by with_unfolding_all exact(λ_ _ _ H _ I h=>Calls.Constant_str ⟨.str x,H,I.tok _,⟨_,rfl⟩,h⟩)
def Gl (X:Cx)(x:Str):Prop:=X.env.kindOf x=some .globalImplicit
theorem yT {E:LP}{pins:LD}{s:Shared}{σ:St}{H:Hp}{x:Str}{u:Value}{pos:Pos}{Q:LP}(I:Inv X pins σ H s)(j:Gl X x)(g:X.mg x=some u)(h:Q u s)(hd:(x==("__debug__":Str))=false:=by decide):wpAny (model X.prog X.w) X.A (eval (.Name x pos) X.env) Q E s:=
 Calls.Name_function_global I.ok.kind j (Calls.loadGlobal_global (by rw[I.ok.glob];exact I.mod.glob.keeps I.bk) g h) hd
theorem ke {E:LP}{pins:LD}{s:Shared}{σ:St}{H:Hp}{x:Str}{u:Value}{pos:Pos}{Q:LP}(I:Inv X pins σ H s)(p:Gl X x)(l:X.mg x=none)(g:bootBuiltins x=some u)(h:Q u s)(j:x≠"__name__":=by decide)(hd:(x==("__debug__":Str))=false:=by decide):wpAny (model X.prog X.w) X.A (eval (.Name x pos) X.env) Q E s:=by obtain⟨t,h1,h2⟩:=I.mod.blt;exact Calls.Name_function_global I.ok.kind p (Calls.loadGlobal_builtin (by rw[I.ok.glob];exact I.mod.glob.keeps I.bk) l (by rw[I.ok.blt];exact h1.keeps I.bk) ((h2 x j).trans g) h) hd
theorem NG {x:Str}{v:V}{u:Value}{pos:Pos}(j:Gl X x)(g:X.mg x=some u)(r:dQ v u)(hd:(x==("__debug__":Str))=false:=by decide):PE X (.Name x pos) (tC v):=by with_unfolding_all exact(λ_ _ _ H _ I h=>yT I j g ⟨v,H,I,r,h⟩ hd)
theorem ph {x:Str}{v:V}{u:Value}{pos:Pos}(p:Gl X x)(l:X.mg x=none)(g:bootBuiltins x=some u)(r:dQ v u)(j:x≠"__name__":=by decide)(hd:(x==("__debug__":Str))=false:=by decide):PE X (.Name x pos) (tC v):=by with_unfolding_all exact(λ_ _ _ H _ I h=>ke I p l g ⟨v,H,I,r,h⟩ j hd)
variable {a b:Expr}{ta tb:TE}{pos:Pos}
@[irreducible] def PC (X:Cx) (op:CmpOp) (a b:Expr) (t:TE):Prop:=
 ∀(pins:LD) (s:Shared) (σ:St) (H:Hp) (Q:VK),Inv X pins σ H s->t σ H Q->
  wpAny (model X.prog X.w) X.A (eval a X.env) (λv s₁=>wpAny (model X.prog X.w) X.A (eval b X.env) (λu g=>wpAny (model X.prog X.w) X.A (compareOp op v u) (EP X pins σ Q) X.xe g) X.xe s₁) X.xe s
inductive Sx (Q:Bool->Hp->Prop)(x:V)(H1:Hp):Prop|mk (c:_) (_:x=.bl c) (_:Q c H1):Sx Q x H1
def tB (t:TE):TT:=λσ H Q=>t σ H λx H1=>Sx Q x H1
theorem U1 {op:CmpOp}{t:TE}(h:PC X op a b t)(h1:behindInMarks op b=false:=by first|exact nobehind _ (by decide) (by decide)|rfl):PT X (.Compare a [op] [b] pos) (tB t):=by with_unfolding_all
 intro pins s σ H Q I l;refine wpAny_isTrue_Compare1 (gm (h pins s σ H _ I l) λv T h1=>gm h1 λu J h2=>gm h2 λc C ⟨x,H1,p,g,j⟩=>?_) h1;obtain⟨d,rfl,q⟩:=j;cases g;exact gE ⟨H1,p,q⟩
theorem jK {e:Expr}{t:TE}(h:PE X e t)(p:∀whole,isTrue e X.env whole=(do let v<-whole;standAt e.pos;holding [v] (truthy v)):=by intro _;rfl):PT X e (tB t):=by with_unfolding_all
 intro pins s σ H Q I l;refine isTrue_plain (gm (h pins s σ H _ I l) λv J ⟨x,H1,C,g,j⟩=>?_) (p _);obtain⟨d,rfl,q⟩:=j;cases g;exact gE ⟨H1,C,q⟩
variable {tA tB':TT}{iG:LN}
def Ql (t u:TT):TT:=λσ H Q=>t σ H λc H1=>if c=true then u σ H1 Q else Q false H1
def VT (t u:TT):TT:=λσ H Q=>t σ H λc H1=>if c=true then Q true H1 else u σ H1 Q
def UJ (t:TT):TT:=λσ H Q=>t σ H λc H1=>Q (!c) H1
theorem pe (g:PT X a tA):PW X (.BoolOp .And [a] pos) tA:=by with_unfolding_all
 intro j pins s σ H Q I h;refine isTrue_and (gm (g pins s σ H Q I h) λc l e=>?_);cases c with|true=>exact isTrue_and_nil e|false=>exact e
theorem jJ (g:PT X a tA):PW X (.BoolOp .Or [a] pos) tA:=by with_unfolding_all
 intro j pins s σ H Q I h;refine isTrue_or (gm (g pins s σ H Q I h) λc l e=>?_);cases c with|false=>exact isTrue_or_nil e|true=>exact e
theorem pW (t:PT X a tA)(hb:PW X (.BoolOp .And (b::iG) pos) tB'):PW X (.BoolOp .And (a::b::iG) pos) (Ql tA tB'):=by with_unfolding_all
 intro l pins s σ H Q I h;refine isTrue_and (gm (t pins s σ H _ I h) λc p ⟨H1,j,g⟩=>?_);cases c with|true=>exact hb l pins p σ H1 Q j g|false=>exact⟨H1,j,g⟩
theorem kT (t:PT X a tA)(hb:PW X (.BoolOp .Or (b::iG) pos) tB'):PW X (.BoolOp .Or (a::b::iG) pos) (VT tA tB'):=by with_unfolding_all
 intro l pins s σ H Q I h;refine isTrue_or (gm (t pins s σ H _ I h) λc p ⟨H1,j,g⟩=>?_);cases c with|true=>exact⟨H1,j,g⟩|false=>exact hb l pins p σ H1 Q j g
theorem l5 (g:PT X a tA):PT X (.UnaryOp .Not a pos) (UJ tA):=by with_unfolding_all
 intro pins s σ H Q I h;exact isTrue_not (g pins s σ H (λc H1=>Q (!c) H1) I h)
inductive DY (tb:TE)(σ:L2.St)(Q:VK)(x:V)(H1:Hp):Prop|mk (c:_) (_:x=.bl c) (_:if c=true then tb σ H1 Q else Q (.bl false) H1):DY tb σ Q x H1
def Sy (ta tb:TE):TE:=λσ H Q=>ta σ H λx H1=>DY tb σ Q x H1
inductive Ji (tb:TE)(σ:L2.St)(Q:VK)(x:V)(H1:Hp):Prop|mk (c:_) (_:x=.bl c) (_:if c=true then Q (.bl true) H1 else tb σ H1 Q):Ji tb σ Q x H1
def UI (ta tb:TE):TE:=λσ H Q=>ta σ H λx H1=>Ji tb σ Q x H1
theorem ny {op}{t:TE}(h:PE X a t):PE X (.BoolOp op [a] pos) t:=by with_unfolding_all exact(λpins s σ H Q I g=>BoolOp_one (h pins s σ H Q I g))
theorem nz (t:PE X a ta)(hb:PE X (.BoolOp .And (b::iG) pos) tb):PE X (.BoolOp .And (a::b::iG) pos) (Sy ta tb):=by with_unfolding_all
 intro pins s σ H Q I h;refine BoolOp_and (gm (t pins s σ H _ I h) λv l ⟨x,H1,j,p,g⟩=>?_);obtain⟨c,rfl,g⟩:=g;cases p;refine gE ?_;cases c with|true=>exact hb pins l σ H1 Q j g|false=>exact⟨.bl false,H1,j,rfl,g⟩
theorem PJ (t:PE X a ta)(hb:PE X (.BoolOp .Or (b::iG) pos) tb):PE X (.BoolOp .Or (a::b::iG) pos) (UI ta tb):=by with_unfolding_all
 intro pins s σ H Q I h;refine BoolOp_or (gm (t pins s σ H _ I h) λv l ⟨x,H1,j,p,g⟩=>?_);obtain⟨c,rfl,g⟩:=g;cases p;refine gE ?_;cases c with|false=>exact hb pins l σ H1 Q j g|true=>exact⟨.bl true,H1,j,rfl,g⟩
def VV (t:TT)(ta tb:TE):TE:=λσ H Q=>t σ H λc H1=>if c=true then ta σ H1 Q else tb σ H1 Q
theorem mN {c:Expr}(p:PT X c tA)(t:PE X a ta)(hb:PE X b tb):PE X (.IfExp c a b pos) (VV tA ta tb):=by with_unfolding_all
 intro pins s σ H Q I h;refine wpAny_IfExp (gm (p pins s σ H _ I h) λd g ⟨H1,l,j⟩=>?_);cases d with|true=>exact t pins g σ H1 Q l j|false=>exact hb pins g σ H1 Q l j
end
def bW (K:LO)(H:Hp)(a:Addr)(xs:LI):Prop:=
 Rd H a (.lst xs)\/
  ∃(o:Obj) (its:LV) (n:Nat),K.lookup a=some o/\o.cls=.type "list"/\o.dict=none/\o.data=.seq its n/\its.size<=sizeLine/\dc xs its.toList
def dH (K:LO)(H:Hp)(a:Addr)(xs:LI):Prop:=
 Rd H a (.tup xs)\/
  ∃(o:Obj) (its:LV) (n:Nat),K.lookup a=some o/\o.cls=.type "tuple"/\o.data=.seq its n/\its.size<=sizeLine/\dc xs its.toList
def Vk:Value->LU
 | .none=>some .non
 | .bool b=>some (.bl b)
 | .int i _=>some (.int i)
 | .str x _=>some (.str x)
 | .bytes b _=>some (.byt b)
 | .float b _=>some (.flt b)
 | .ref a=>some (.ref a)
 | .type n=>some (.ty n)
 |_=>none
theorem dQ.abs {x:V}{u:Value}(r:dQ x u):Vk u=some x:=by
 cases x with
 |non=>cases r;rfl
 |bl _=>cases r;rfl
 |int _=>obtain⟨t,rfl⟩:=r;rfl
 |str _=>obtain⟨t,rfl⟩:=r;rfl
 |byt _=>obtain⟨t,rfl⟩:=r;rfl
 |flt _=>obtain⟨t,rfl⟩:=r;rfl
 |ref _=>cases r;rfl
 |ty _=>cases r;rfl
theorem dQ.inj {x y:V}{u:Value}(r:dQ x u)(q:dQ y u):x=y:=bK (r.abs.symm.trans q.abs)
theorem dc.inj:∀{xs ys:LI} {us:LJ},dc xs us->dc ys us->xs=ys
 |_,_,_,.nil,.nil=>rfl
 |_,_,_,.cons r t,.cons g t'=>by rw[r.inj g,dc.inj t t']
section
variable {X:Cx}{pins:LD}{σ:St}{H:Hp}{s:Shared}{a:Addr}{xs ys:LI}
theorem bW.of {K:LO}(h:H a=some (.lst xs)):bW K H a xs:=.inl (.inl h)
theorem dH.of {K:LO}(h:H a=some (.tup xs)):dH K H a xs:=.inl (.inl h)
theorem Inv.list (I:Inv X pins σ H s)(h:bW X.K H a xs):∃its:LJ,dc xs its/\PlainL s.heap a its.toArray/\xs.length<=sizeLine:=by rcases h with h|⟨o,its,n,hk,g,hd,hs,hz,r⟩;obtain⟨z,its,n,r,e⟩:=h.ok I.hok;exact⟨its,r,⟨_,n,e,rfl,rfl,rfl⟩,z⟩;refine⟨its.toList,r,⟨o,n,I.kIn a o hk,g,hd,by simpa using hs⟩,?_⟩;have e:=r.length;simp only[fb]at e;lia
theorem Inv.tuple (I:Inv X pins σ H s)(h:dH X.K H a xs):∃its:LJ,dc xs its/\IsTup s.heap a its.toArray/\xs.length<=sizeLine:=by rcases h with h|⟨o,its,n,hk,g,hs,hz,r⟩;obtain⟨z,its,r,p⟩:=h.ok I.hok;exact⟨its,r,p,z⟩;refine⟨its.toList,r,⟨o,I.kIn a o hk,g,n,by simpa using hs⟩,?_⟩;have e:=r.length;simp only[fb]at e;lia
theorem Inv.list_inj (I:Inv X pins σ H s)(h:bW X.K H a xs)(h':bW X.K H a ys):xs=ys:=by
 obtain⟨its,r,⟨o,n,e,_,_,d⟩,_⟩:=I.list h;obtain⟨its',j,⟨o',p,g,_,_,d'⟩,_⟩:=I.list h';rw[e]at g;cases g;rw[d]at d';injection d' with l _;have:its=its':=by simpa using congrArg Array.toList l
 subst this;exact r.inj j
theorem Inv.tuple_inj (I:Inv X pins σ H s)(h:dH X.K H a xs)(h':dH X.K H a ys):xs=ys:=by
 obtain⟨its,r,⟨o,e,_,n,d⟩,_⟩:=I.tuple h;obtain⟨its',j,⟨o',g,_,p,d'⟩,_⟩:=I.tuple h';rw[e]at g;cases g;rw[d]at d';injection d' with l _;have:its=its':=by simpa using congrArg Array.toList l
 subst this;exact r.inj j
end
abbrev Cx.wish (X:Cx)(E:LP):Cx:={X with xe:=E}
abbrev Cx.nox (X:Cx):Cx:=X.wish λ_ _=>False
theorem Cx.Ok.wish {X:Cx}(ok:X.Ok)(E:LP):(X.wish E).Ok:=
 ⟨ok.mod,ok.kind,ok.glob,ok.blt,ok.above,ok.inj,ok.has,ok.cab,ok.hd,ok.frames,ok.stk,ok.exf,ok.bs,ok.bsz,ok.noex,ok.exfs,ok.funs,ok.frf⟩
theorem Cx.Ok.unwish {X:Cx}{E:LP}(ok:(X.wish E).Ok):X.Ok:=
 ⟨ok.mod,ok.kind,ok.glob,ok.blt,ok.above,ok.inj,ok.has,ok.cab,ok.hd,ok.frames,ok.stk,ok.exf,ok.bs,ok.bsz,ok.noex,ok.exfs,ok.funs,ok.frf⟩
section
variable {X:Cx}{pins:LD}{σ:St}{H:Hp}{s:Shared}{E:LP}
theorem Inv.wish (I:Inv X pins σ H s)(E:LP):Inv (X.wish E) pins σ H s:=⟨I.ok.wish E,I.os,I.bare,I.base,I.loc,I.cell,I.free,I.freeC,I.pin,I.hok,I.len⟩
theorem Inv.unwish (I:Inv (X.wish E) pins σ H s):Inv X pins σ H s:=⟨I.ok.unwish,I.os,I.bare,I.base,I.loc,I.cell,I.free,I.freeC,I.pin,I.hok,I.len⟩
theorem SP.unwish {D:qr}{f:Flow}{s':Shared}(h:SP (X.wish E) pins D f s'):SP X pins D f s':=by
 cases f with
 |next=>obtain⟨g,H',I,q⟩:=h;exact⟨g,H',I.unwish,q⟩
 |brk=>obtain⟨g,H',I,q⟩:=h;exact⟨g,H',I.unwish,q⟩
 |cont=>obtain⟨g,H',I,q⟩:=h;exact⟨g,H',I.unwish,q⟩
 |ret u=>obtain⟨v,g,H',I,r,q⟩:=h;exact⟨v,g,H',I.unwish,r,q⟩
theorem PSs.nox {st:List Stmt}{t:TS}(h:PSs X.nox st t):PSs X st t:=by with_unfolding_all exact(λpins s σ H D I g=>
 ii (h pins s σ H D (I.wish _) g) (λ_ _ q=>q.unwish) λ_ _ z=>False.elim z)
end
section
variable {X:Cx}{st:Stmt}{iG:List Stmt}{t u:TS}{e:Expr}{te:TE}{pos:Pos}
def Sr:TS:=λD σ H=>D.nx σ H
def bN (t u:TS):TS:=λD σ H=>t {D with nx:=u D} σ H
theorem cE:PSs X [] Sr:=by with_unfolding_all exact(λ_ _ σ H _ I h=>tU ⟨σ,H,I,h⟩)
theorem am (h1:PS X st t)(h2:PSs X iG u):PSs X (st::iG) (bN t u):=by with_unfolding_all
 intro pins s σ H D I h;refine Gf (gm (h1 pins s σ H {D with nx:=u D} I h) λf j q=>?_);cases f with
 |next=>obtain⟨g,H',l,q⟩:=q;exact h2 pins j g H' D l q
 |ret v=>exact q
 |brk=>exact q
 |cont=>exact q
theorem aC (h1:PS X st t):PSs X [st] t:=by with_unfolding_all
 intro pins s σ H D I h;refine Gf (gm (h1 pins s σ H D I h) λf g q=>?_);cases f with|next=>exact tU q|ret v=>exact q|brk=>exact q|cont=>exact q
theorem Inv.quiet {pins:LD}{σ:St}{H:Hp}{s:Shared}(I:Inv X pins σ H s):interactive X.env=false:=by simp[interactive,I.ok.kind]
def Sw (te:TE):TS:=λD σ H=>te σ H λ_ H1=>D.nx σ H1
theorem g0 (j:PE X e te)(hs:swapsWith e none pos.line X.env=pure false:=by rfl):PS X (.Expr e pos) (Sw te):=by with_unfolding_all
 intro pins s σ H D I h;exact wpAny_Expr_any (gm (j pins s σ H _ I h) λv p ⟨x,H1,l,t,g⟩=>⟨σ,H1,l,g⟩) I.quiet hs
def UH (te:TE):TS:=λD σ H=>te σ H D.rt
theorem bw (l:PE X e te):PS X (.Return (some e) pos) (UH te):=by with_unfolding_all
 intro pins s σ H D I h;exact wpAny_Return_some (gm (l pins s σ H _ I h) λv t ⟨x,H1,p,g,j⟩=>⟨x,σ,H1,p,g,j⟩)
def gL (c:TT)(t u:TS):TS:=λD σ H=>c σ H λb H1=>if b=true then t D σ H1 else u D σ H1
theorem dX {c:Expr}{a b:List Stmt}{tc:TT}(p:PT X c tc)(C:PSs X a t)(hb:PSs X b u):PS X (.If c a b pos) (gL tc t u):=by with_unfolding_all
 intro pins s σ H D I h;refine wpAny_If (gm (p pins s σ H _ I h) λd g ⟨H1,l,j⟩=>?_);cases d with|true=>exact C pins g σ H1 D l j|false=>exact hb pins g σ H1 D l j
def Qi:TS:=λ_ _ _=>False
theorem jL {g:List Stmt}:PSs X g Qi:=by with_unfolding_all exact(λ_ _ _ _ _ _ h=>h.elim)
end
abbrev TG:=V->St->Hp->(St->Hp->Prop)->Prop
abbrev O7:=List V->St->Hp->(St->Hp->Prop)->Prop
@[irreducible] def PG (X:Cx) (target:Expr) (t:TG):Prop:=
 ∀(pins:LD) (s:Shared) (σ:St) (H:Hp) (v:V) (u:Value) (Q:St->Hp->Prop),Inv X pins σ H s->dQ v u->t v σ H Q->
  wpAny (model X.prog X.w) X.A (assign target X.env u) (λ_ s'=>∃g H',Inv X pins g H' s'/\Q g H') X.xe s
@[irreducible] def PGs (X:Cx) (ts:LN) (t:O7):Prop:=
 ∀(pins:LD) (s:Shared) (σ:St) (H:Hp) (vs:LI) (us:LJ) (Q:St->Hp->Prop),Inv X pins σ H s->dc vs us->t vs σ H Q->
  wpAny (model X.prog X.w) X.A (assignInOrder ((assignEach ts X.env).map (·.2)) us) (λ_ s'=>∃g H',Inv X pins g H' s'/\Q g H') X.xe s
abbrev RZ:=V->V->V->Hp->(Hp->Prop)->Prop
def Uf (X:Cx)(t:RZ):Prop:=
 ∀(pins:LD) (s:Shared) (σ:St) (H:Hp) (o i v:V) (g j u:Value) (Q:Hp->Prop),Inv X pins σ H s->dQ o g->dQ i j->dQ v u->t o i v H Q->
  wpAny (model X.prog X.w) X.A (setItem g j u) (λ_ s'=>∃H',Inv X pins σ H' s'/\Q H') X.xe s
abbrev Uc:=V->V->Hp->VK->Prop
def VL (X:Cx)(op:Operator)(t:Uc):Prop:=
 ∀(pins:LD) (s:Shared) (σ:St) (H:Hp) (x y:V) (v u:Value) (Q:VK),Inv X pins σ H s->dQ x v->dQ y u->t x y H Q->
  wpAny (model X.prog X.w) X.A (inplaceOp op v u) (EP X pins σ Q) X.xe s
section
variable {X:Cx}{pos:Pos}
def mV (i:Nat):TG:=λv σ H Q=>Q (σ.set i (some v)) H
theorem ui {i:Nat}{x:Str}(l:X.N.Nodup)(hi:X.N[i]?=some x)(g:MY X.env.scope x)(j:X.fn x=true\/X.env.scope.names.lookup x=some .local:=by first|exact .inl rfl|exact .inr rfl|assumption):PG X (.Name x pos) (mV i):=by with_unfolding_all
 intro pins s σ H v u Q I r h;exact B7 (uC I l hi g r (λs' p=>⟨_,H,p,h⟩) j)
theorem l9 (i:Nat){x:Str}(l:X.N.Nodup)(hi:X.N[i]?=some x:=by rfl)(g:MY X.env.scope x:=by first|exact Or.inl rfl|exact Or.inr rfl)(j:X.fn x=true\/X.env.scope.names.lookup x=some .local:=by first|exact .inl rfl|exact .inr rfl|assumption):PG X (.Name x pos) (mV i):=ui l hi g j
def TL:O7:=λvs σ H Q=>vs=[]/\Q σ H
inductive FC (t:TG)(u:O7)(vs:LI)(σ:L2.St)(H:Hp)(Q:LR):Prop|mk (v r:_) (_:vs=v::r) (_:t v σ H λg H'=>u r g H' Q):FC t u vs σ H Q
def Mi (t:TG)(u:O7):O7:=λvs σ H Q=>FC t u vs σ H Q
theorem lN:PGs X [] TL:=by with_unfolding_all
 intro pins s σ H vs us Q I r h;obtain⟨e,h⟩:=h;subst e;cases r;exact assignInOrder_nil ⟨σ,H,I,h⟩
theorem gc {e:Expr}{es:LN}{t:TG}{u:O7}(h1:PG X e t)(h2:PGs X es u)(hs:(assignEach (e::es) X.env).map (·.2)=assign e X.env::(assignEach es X.env).map (·.2):=by rfl):PGs X (e::es) (Mi t u):=by with_unfolding_all
 intro pins s σ H vs us Q I r h;obtain⟨v,T,C,h⟩:=h;subst C;cases r with|cons r l=>rw[hs];refine assignInOrder_cons (gm (h1 pins s σ H _ _ _ I r h) λ_ j ⟨g,H1,J,p⟩=>?_);exact h2 pins j g H1 _ _ Q J l p
inductive Mh (K:LO)(n:Nat)(t:O7)(v:V)(σ:L2.St)(H:Hp)(Q:LR):Prop|mk (a xs:_) (_:v=.ref a) (_:dH K H a xs) (_:xs.length=n) (_:t xs σ H Q):Mh K n t v σ H Q
def TK (K:LO)(n:Nat)(t:O7):TG:=λv σ H Q=>Mh K n t v σ H Q
theorem oG {es:LN}{k:Nat}{t:O7}{n:Nat}(U:X.calm=true)(h:PGs X es t)(T:(assignEach es X.env).length=n:=by rfl)(j:(assignEach es X.env).findIdx? (·.1)=none:=by rfl):PG X (.Tuple es k pos) (TK X.K n t):=by with_unfolding_all
 intro pins s σ H v u Q I r g;obtain⟨a,xs,e1,J,hl,g⟩:=g;subst e1;cases r;obtain⟨its,l,C,hz⟩:=I.tuple J;refine assign_Tuple_tuple (I.ok.hd U) C (by simp[T,<-hl,l.length]) j λh' p=>?_;have I1:Inv X pins σ H {s with heap:=h'}:=I.kept (t':=s.toks) λb o e=>p b o (bB (aS e)) e;exact h pins _ σ H xs _ Q I1 (by simpa using l) g
def Vh (to ti:TE)(t:RZ):TG:=λv σ H Q=>to σ H λo H1=>ti σ H1 λi H2=>t o i v H2 λg=>Q σ g
theorem oH {o i:Expr}{to ti:TE}{t:RZ}(ho:PE X o to)(hi:PE X i ti)(hs:Uf X t)(ha:∀v,assign (.Subscript o i pos) X.env v=(do
   let g<-holding [v] (eval o X.env);let j<-holding [v,g] (eval i X.env)
   standAt pos
   holding [v,g,j] (setItem g j v)
   release [v,g,j] []):=by intro _;rfl):PG X (.Subscript o i pos) (Vh to ti t):=by with_unfolding_all
 intro pins s σ H v u Q I r h;rw[ha];refine ae (dE (gm (ho pins s σ H _ I h) λg p ⟨x,H1,I1,J,q1⟩=>?_));refine ae (dE (gm (hi pins p σ H1 _ I1 q1) λj l ⟨y,H2,I2,C,U⟩=>?_));refine ae (qC (ae (dE (gm (hs pins l σ H2 x y v g j u _ I2 J C r U) λ_ s3 ⟨H3,I3,T⟩=>?_))));exact wpAny_release ⟨σ,H3,I3,T⟩
def Jm (te:TE)(g:TG):TS:=λD σ H=>te σ H λx H1=>g x σ H1 D.nx
theorem jM {tg e:Expr}{te:TE}{g:TG}(J:PE X e te)(C:PG X tg g)(hs:swapsWithSole [tg] e pos.line X.env=pure false:=by rfl)(t:swappedStores [tg] e X.env=pure none:=by rfl)(h1:(assignEach [tg] X.env).map (·.2)=[assign tg X.env]:=by rfl):PS X (.Assign [tg] e pos) (Jm te g):=by with_unfolding_all
 intro pins s σ H D I h;refine wpAny_Assign_stores (gm (J pins s σ H _ I h) λv j ⟨x,H1,T,l,p⟩=>?_) hs t;rw[h1];exact gm (C pins j σ H1 x v _ T l p) λ_ U q=>q
theorem QC {i:Nat}{x:Str}{e:Expr}{te:TE}{pos':Pos}(C:X.N.Nodup)(hi:X.N[i]?=some x)(l:MY X.env.scope x)(t:PE X e te)(hs:swapsWith e (some (.Name x pos')) pos.line X.env=pure false:=by rfl)(p:X.fn x=true\/X.env.scope.names.lookup x=some .local:=by first|exact .inl rfl|exact .inr rfl|assumption):
  PS X (.Assign [.Name x pos'] e pos) (Jm te (mV i)):=by with_unfolding_all
 intro pins s σ H D I h;refine wpAny_Assign_Name (gm (t pins s σ H _ I h) λv s1 ⟨y,H1,T,g,j⟩=>?_) hs;exact uC T C hi l g (λU J=>⟨_,H1,J,j⟩) p
theorem fk (i:Nat){x:Str}{e:Expr}{te:TE}{pos':Pos}(p:X.N.Nodup)(l:PE X e te)(hi:X.N[i]?=some x:=by rfl)(g:MY X.env.scope x:=by first|exact Or.inl rfl|exact Or.inr rfl)(hs:swapsWith e (some (.Name x pos')) pos.line X.env=pure false:=by rfl)(j:X.fn x=true\/X.env.scope.names.lookup x=some .local:=by first|exact .inl rfl|exact .inr rfl|assumption):PS X (.Assign [.Name x pos'] e pos) (Jm te (mV i)):=QC p hi g l hs j
inductive Jl (i:Nat)(te:TE)(ti:Uc)(D:qr)(σ:L2.St)(H:Hp):Prop|mk (x:_) (_:σ[i]?=some (some x)) (_:te σ H λy H1=>ti x y H1 λz H2=>D.nx (σ.set i (some z)) H2):Jl i te ti D σ H
def UO (i:Nat)(te:TE)(ti:Uc):TS:=λD σ H=>Jl i te ti D σ H
theorem QD {i:Nat}{x:Str}{e:Expr}{te:TE}{op:Operator}{ti:Uc}{pos':Pos}(hN:X.N.Nodup)(hi:X.N[i]?=some x)(t:MY X.env.scope x)(he:PE X e te)(ho:VL X op ti)(hf:X.fn x=true\/X.env.scope.names.lookup x=some .local:=by first|exact .inl rfl|exact .inr rfl|assumption):
  PS X (.AugAssign (.Name x pos') op e pos) (UO i te ti):=by with_unfolding_all
 intro pins s σ H D I h;obtain⟨v,e1,h⟩:=h;obtain⟨m,hn,hl⟩:=I.loc;have p:Ux X.env.scope x:=by rcases t with k|k;exact .inl k;exact .inr (.inl k)
 obtain⟨u,r,l⟩:=hl i x v hi e1 p;refine wpAny_AugAssign_Name ?_;have go:wpAny (model X.prog X.w) X.A (eval e X.env) (λw j=>wpAny (model X.prog X.w) X.A (inplaceOp op u w) (λr g=>wpAny (model X.prog X.w) X.A (storeName X.env x r) (λ_=>SP X pins D .next) X.xe g) X.xe j) X.xe s:=by refine gm (he pins s σ H _ I h) λw C ⟨y,H1,I1,T,q1⟩=>?_;refine gm (ho pins C σ H1 v y u w _ I1 r T q1) λz s2 ⟨zv,H2,I2,J,U⟩=>?_;exact uC I2 hN hi t J (λs3 I3=>⟨_,H2,I3,U⟩) hf
 rcases l with⟨hk,hm⟩|⟨hk,c,hc,hcell⟩;exact wb I.ok.kind hk hn hm go;rcases hk with hk|hk;exact wpAny_loadName_cell I.ok.kind hk hc hcell go;rcases t with k|k;have:X.env.scope.names.lookup x=some .free:=hk;rw[k]at this;cases this;have:X.env.scope.names.lookup x=some .free:=hk;rw[k]at this;cases this
inductive P1 (f:Int->Int->Int)(x:V)(y:V)(H:Hp)(Q:VK):Prop|mk (i j:_) (_:x=.int i) (_:y=.int j) (_:Q (.int (f i j)) H):P1 f x y H Q
def V0 (f:Int->Int->Int):Uc:=λx y H Q=>P1 f x y H Q
theorem Rv:VL X .Add (V0 λi j=>i+j):=by intro pins s σ H x y v u Q I l g h;obtain⟨i,j,C,p,q⟩:=h;subst C;subst p;obtain⟨t,rfl⟩:=l;obtain⟨t',rfl⟩:=g;exact iadd_int ⟨.int _,H,I.tok _,⟨_,rfl⟩,q⟩
def yg (c:TT)(tb:TS):TS:=λD σ H=>∃W:Nat->St->Hp->Prop,(∃m,W m σ H)/\∀m σ H,W m σ H->
 c σ H λb H1=>if b=true then∃N:St->Hp->Prop,(∀g H',N g H'->∃j,j<m/\W j g H')/\tb {D with nx:=N,ct:=N,bk:=D.nx} σ H1 else D.nx σ H1
theorem oF {c:Expr}{body:List Stmt}{tc:TT}{tb:TS}(hp:PassesOwn (model X.prog X.w) X.A X.env X.xe)(hc:PT X c tc)(hb:PSs X body tb):PS X (.While c body [] pos) (yg tc tb):=by with_unfolding_all
 intro pins s σ H D I h;obtain⟨W,⟨m0,w0⟩,turn⟩:=h;refine wpAny_While (codeAny_whileLoop (λn s'=>∃l H',Inv X pins l H' s'/\W n l H') ?_ m0 ⟨σ,H,I,w0⟩);rintro n s1 ⟨j,H1,I1,w1⟩;refine iZ hp (gm (hc pins s1 j H1 _ I1 (turn n j H1 w1)) λb s2 ⟨H2,I2,C⟩=>?_);cases b with
 |true=>
  obtain⟨N,hN,C⟩:=C;rw[if_pos rfl];refine iZ hp (gm (hb pins s2 j H2 _ I2 C) λf s3 t=>?_);cases f with
  |next=>obtain⟨g,p,I3,T⟩:=t;obtain⟨U,hm,J⟩:=hN g p T;exact⟨U,hm,g,p,I3,J⟩
  |cont=>obtain⟨g,p,I3,T⟩:=t;obtain⟨U,hm,J⟩:=hN g p T;exact⟨U,hm,g,p,I3,J⟩
  |brk=>exact t
  |ret v=>exact t
 |false=>rw[if_neg bC];exact tU ⟨j,H2,I2,C⟩
end
structure It where
 go:Nat->Hp->Prop
 yld:Nat->Hp->V->Hp->Prop
 stop:Nat->Hp->Prop
def qp (X:Cx)(pins:LD)(H:Hp)(b:Addr):Prop:=
 H b=none/\b≠X.env.locals/\b∉X.fs/\(b∈X.ex\/X.s₀.heap.objs.size<=b)/\(∀x c,X.env.cells.lookup x=some c->c≠b)/\∀p∈X.pn++pins,p.1≠b
theorem Inv.fpOk {X:Cx}{pins:LD}{σ:St}{H H':Hp}{s:Shared}{b:Addr}(I:Inv X pins σ H s)(hb:s.heap.objs.size<=b)(g:H' b=none):qp X pins H' b:=by refine⟨g,dR (ba I.lt hb),I.nofs hb,.inr (bj I.sz hb),λx c e z=>?_,λp hp z=>?_⟩;obtain⟨v,q⟩:=I.cell x c e;exact absurd (ba q.lt (by rw[z];exact hb)) (dP _);exact absurd (ba (aS (I.pin p hp).1) (by rw[z];exact hb)) (dP _)
structure DB (P:Program)(w:World)(K:LO)(tg:Expr)(J:It)(fp:LK)(it:Addr)(tn:Nat->Heap->Prop):Prop where
 mem:it∈fp
 obj:∀i h,tn i h->∀b∈fp,∃o,h.get? b=some o/\∀v,o.data≠.cell v
 keep:∀i h h',tn i h->(∀b∈fp,∀o,h.get? b=some o->h'.get? b=some o)->tn i h'
 item:∀(X:Cx),X.prog=P->X.w=w->X.K=K->X.calm=true->∀(i:Nat) (pins:LD) (s:Shared) (σ:St) (H:Hp) (E:LP),Inv X pins σ H s->(∀b∈fp,qp X pins H b)->tn i s.heap->J.go i H->
  wpAny (model P w) X.A (pyNext (.ref it)) (λr s1=>∃u,r=some u/\
   wpAny (model P w) X.A (letOwnedTupleGo tg (.ref it) u) (λ_ s2=>∃x H',Inv X pins σ H' s2/\dQ x u/\J.yld i H x H'/\tn (i+1) s2.heap/\∀b∈fp,H' b=none) E s1) E s
 done:∀(X:Cx),X.prog=P->X.w=w->X.K=K->X.calm=true->∀(i:Nat) (pins:LD) (s:Shared) (σ:St) (H:Hp) (E:LP),Inv X pins σ H s->(∀b∈fp,qp X pins H b)->tn i s.heap->J.stop i H->
  wpAny (model P w) X.A (pyNext (.ref it)) (λr s1=>r=none/\Inv X pins σ H s1) E s
 self:∀(A:Around) (i:Nat) (s:Shared) (Q:LP) (E:LP),tn i s.heap->Q (.ref it) s->wpAny (model P w) A (pyIter (.ref it)) Q E s
abbrev TI:=St->Hp->(It->Hp->Prop)->Prop
inductive Qb (X:Cx)(pins:LD)(σ:St)(tg:Expr)(R:It->Hp->Prop)(g:Value)(j:Shared):Prop|mk (it:Addr) (fp:LK) (l:Nat->Heap->Prop) (J:It) (H':Hp) (_:g=.ref it) (_:Inv X pins σ H' j) (_:DB X.prog X.w X.K tg J fp it l) (_:l 0 j.heap) (_:(∀b∈fp,qp X pins H' b)) (_:R J H'):Qb X pins σ tg R g j
def VM (X:Cx)(pins:LD)(σ:St)(tg:Expr)(R:It->Hp->Prop)(g:Value)(j:Shared):Prop:=Qb X pins σ tg R g j
@[irreducible] def PI (X:Cx) (tg iter:Expr) (wi:TI):Prop:=
 ∀(pins:LD) (s:Shared) (σ:St) (H:Hp) (R:It->Hp->Prop),Inv X pins σ H s->wi σ H R->
  wpAny (model X.prog X.w) X.A (eval iter X.env) (λv g=>wpAny (model X.prog X.w) X.A (pyIter v) (VM X pins σ tg R) X.xe g) X.xe s
theorem Mg {M:Model}{A:Around}{E:LP}{s:Shared}{tg:Expr}{it:Addr}{u:Value}{o:Obj}{n:String}{vs:LV}{Q:Unit->Shared->Prop}(j:s.heap.get? it=some o)(p:o.cls=.type n)(hd:o.data=.fields vs)(l:["enumerate","zip","dict_itemiterator","dict_reverseitemiterator","odict_iterator","itertools.zip_longest","itertools.pairwise"].contains n=false)(g:Q () s):wpAny M A (letOwnedTupleGo tg (.ref it) u) Q E s:=by
 unfold letOwnedTupleGo;cases tg<;>first
  |exact ak g
  |(cases u<;>first
      |exact ak g
      | (refine ae (wpAny_load j ?_)
         rw[p,hd];show wpAny M A (if(["enumerate","zip","dict_itemiterator","dict_reverseitemiterator","odict_iterator","itertools.zip_longest","itertools.pairwise"].contains n&&vs[0]?==some (rawInt _))=true then _ else _) Q E s;rw[if_neg (by intro h;rw[l,lq]at h;cases h)];exact ak g))
def zu (K:LO)(a:Addr):It:=
 ⟨λi H=>∃xs x,bW K H a xs/\xs[i]?=some x,λi H x H'=>H'=H/\∀xs,bW K H a xs->xs[i]?=some x,λi H=>∃xs,bW K H a xs/\xs.length<=i⟩
def Ul (K:LO)(a:Addr):It:=
 ⟨λi H=>∃xs x,dH K H a xs/\xs[i]?=some x,λi H x H'=>H'=H/\∀xs,dH K H a xs->xs[i]?=some x,λi H=>∃xs,dH K H a xs/\xs.length<=i⟩
def MZ (lo:Int)(n:Nat):It:=⟨λi _=>i<n,λi H x H'=>H'=H/\x=.int (lo+i),λi _=>n<=i⟩
theorem Gh {P:Program}{w:World}{K:LO}{tg:Expr}(a it:Addr):DB P w K tg (zu K a) [it] it (λi h=>h.IsListIter it a i)where
 mem:=by simp
 obj:=λi h st b hb=>by
  have e:b=it:=by simpa using hb
  subst e;obtain⟨o,e,c,d⟩:=st;exact⟨o,e,λv z=>by rw[d]at z;cases z⟩
 keep:=λi h h' st k=>st.at λo e=>k it (by simp) o e
 item:=by intro X U J hK hc i pins s σ H E I l st T;subst U J hK;obtain⟨xs,x,j,C⟩:=T;obtain⟨its,t,p,hz⟩:=I.list j;obtain⟨u,hu,ru⟩:=t.get C;obtain⟨f0,f1,f2,f3,f4,f5⟩:=l it (by simp);refine wpAny_pyNext_list_item st p.isList (x:=u) (by simpa using hu) λh' g sb=>?_;have I1:Inv X pins σ H {s with heap:=h'}:=I.turned (t':=s.toks) (λb o hb e=>(sb.2 b hb).trans e) f0 f1 f3 f4 f5;obtain⟨o,e,c,d⟩:=id g;exact⟨u,rfl,Mg (s:={s with heap:=h'}) e c d (by decide) ⟨x,H,I1,ru,⟨rfl,λys hy=>by rw[I.list_inj hy j];exact C⟩,g,λb hb=>(l b hb).1⟩⟩
 done:=by intro X U J hK hc i pins s σ H E I l st T;subst U J hK;obtain⟨xs,j,C⟩:=T;obtain⟨its,t,p,hz⟩:=I.list j;obtain⟨f0,f1,f2,f3,f4,f5⟩:=l it (by simp);have hl:=t.length;exact wpAny_pyNext_list_end (I.ok.hd hc) st p.isList (by simp;lia) λh' eb=>⟨rfl,I.turned (t':=s.toks) (λb o hb e=>eb b o hb e) f0 f1 f3 f4 f5⟩
 self:=λ_ _ _ _ _ st h=>wpAny_pyIter_listiter st h
theorem B9 {P:Program}{w:World}{K:LO}{tg:Expr}(a it:Addr):DB P w K tg (Ul K a) [it] it (λi h=>h.IsTupleIter it a i)where
 mem:=by simp
 obj:=λi h st b hb=>by
  have e:b=it:=by simpa using hb
  subst e;obtain⟨o,e,c,d⟩:=st;exact⟨o,e,λv z=>by rw[d]at z;cases z⟩
 keep:=λi h h' st k=>st.at λo e=>k it (by simp) o e
 item:=by intro X U J hK hc i pins s σ H E I l st T;subst U J hK;obtain⟨xs,x,j,C⟩:=T;obtain⟨its,t,p,hz⟩:=I.tuple j;obtain⟨u,hu,ru⟩:=t.get C;obtain⟨f0,f1,f2,f3,f4,f5⟩:=l it (by simp);refine wpAny_pyNext_tuple_item st (show s.heap.IsTuple a its.toArray from p) (x:=u) (by simpa using hu) λh' g sb=>?_;have I1:Inv X pins σ H {s with heap:=h'}:=I.turned (t':=s.toks) (λb o hb e=>(sb.2 b hb).trans e) f0 f1 f3 f4 f5;obtain⟨o,e,c,d⟩:=id g;exact⟨u,rfl,Mg (s:={s with heap:=h'}) e c d (by decide) ⟨x,H,I1,ru,⟨rfl,λys hy=>by rw[I.tuple_inj hy j];exact C⟩,g,λb hb=>(l b hb).1⟩⟩
 done:=by intro X U J hK hc i pins s σ H E I l st T;subst U J hK;obtain⟨xs,j,C⟩:=T;obtain⟨its,t,p,hz⟩:=I.tuple j;obtain⟨f0,f1,f2,f3,f4,f5⟩:=l it (by simp);have hl:=t.length;exact wpAny_pyNext_tuple_end (I.ok.hd hc) st (show s.heap.IsTuple a its.toArray from p) (by simp;lia) λh' eb=>⟨rfl,I.turned (t':=s.toks) (λb o hb e=>eb b o hb e) f0 f1 f3 f4 f5⟩
 self:=λ_ _ _ _ _ st h=>wpAny_pyIter_tupleiter st h
theorem Ca {P:Program}{w:World}{K:LO}{tg:Expr}(it:Addr)(lo:Int)(n:Nat):DB P w K tg (MZ lo n) [it] it (λi h=>IsRangeIter h it (lo+(i:Nat)*1) ((n:Int)-(i:Nat)) 1)where
 mem:=by simp
 obj:=λi h st b hb=>by
  have e:b=it:=by simpa using hb
  subst e;exact⟨_,st,λv z=>by have z':Data.fields _=Data.cell v:=z;cases z'⟩
 keep:=λi h h' st k=>k it (by simp) _ st
 item:=by intro X J l T C i pins s σ H E I j st p;subst J l T;obtain⟨f0,f1,f2,f3,f4,U⟩:=j it (by simp);have W:=Walks.range (prog:=X.prog) (w:=X.w) (I.ok.hd C) it lo 1 n;refine W.item i s _ _ p st λv h' tk hv g kk=>?_;obtain⟨t,rfl⟩:=hv;have I1:Inv X pins σ H {s with heap:=h',toks:=tk}:=I.turned (λb o hb e=>kk b o (by simpa using hb) e) f0 f1 f3 f4 U;refine⟨_,rfl,Mg (s:={s with heap:=h',toks:=tk}) (n:="range_iterator") g rfl rfl (by decide) ⟨.int (lo+i),H,I1,⟨t,?_⟩,⟨rfl,rfl⟩,g,λb hb=>(j b hb).1⟩⟩;rw[hE]
 done:=by intro X J l T C i pins s σ H E I j st p;subst J l T;obtain⟨f0,f1,f2,f3,f4,U⟩:=j it (by simp);exact wpAny_pyNext_range_end (I.ok.hd C) st (by have:n<=i:=p;lia) λh' eb=>⟨rfl,I.turned (t':=s.toks) (λb o hb e=>eb b o hb e) f0 f1 f3 f4 U⟩
 self:=λ_ _ _ _ _ st h=>wpAny_pyIter_rangeiter st h
section
variable {X:Cx}{tg:Expr}
inductive Fx (K:LO)(R:It->Hp->Prop)(x:V)(H1:Hp):Prop|mk (a:_) (_:x=.ref a) (_:(∃xs,bW K H1 a xs)) (_:R (zu K a) H1):Fx K R x H1
def P2 (K:LO)(tl:TE):TI:=λσ H R=>tl σ H λx H1=>Fx K R x H1
inductive Mb (K:LO)(R:It->Hp->Prop)(x:V)(H1:Hp):Prop|mk (a:_) (_:x=.ref a) (_:(∃xs,dH K H1 a xs)) (_:R (Ul K a) H1):Mb K R x H1
def Vg (K:LO)(tl:TE):TI:=λσ H R=>tl σ H λx H1=>Mb K R x H1
theorem cK {l:Expr}{tl:TE}(hl:PE X l tl):PI X tg l (P2 X.K tl):=by with_unfolding_all
 intro pins s σ H R I h;refine gm (hl pins s σ H _ I h) λv g ⟨x,H1,j,t,C⟩=>?_;obtain⟨a,e,⟨xs,J⟩,q⟩:=C;subst e;cases t;obtain⟨its,T,p,hz⟩:=j.list J;refine jj p.isList ?_;refine⟨g.heap.objs.size,[g.heap.objs.size],_,_,H1,rfl,j.kept (t':=g.toks) λb o e=>ai _ e,Gh a _,⟨_,aQ _ rfl,rfl,rfl⟩,λb hb=>?_,q⟩;have e:b=g.heap.objs.size:=by simpa using hb
 subst e;exact j.fpOk (av _) (j.hok.fresh (av _))
theorem QF {l:Expr}{tl:TE}(hl:PE X l tl):PI X tg l (Vg X.K tl):=by with_unfolding_all
 intro pins s σ H R I h;refine gm (hl pins s σ H _ I h) λv g ⟨x,H1,j,t,C⟩=>?_;obtain⟨a,e,⟨xs,J⟩,q⟩:=C;subst e;cases t;obtain⟨its,T,p,hz⟩:=j.tuple J;refine wpAny_pyIter_tuple (show g.heap.IsTuple a its.toArray from p) ?_;refine⟨g.heap.objs.size,[g.heap.objs.size],_,_,H1,rfl,j.kept (t':=g.toks) λb o e=>ai _ e,B9 a _,⟨_,aQ _ rfl,rfl,rfl⟩,λb hb=>?_,q⟩;have e:b=g.heap.objs.size:=by simpa using hb
 subst e;exact j.fpOk (av _) (j.hok.fresh (av _))
theorem AJ {pins:LD}{σ:St}{H:Hp}{s:Shared}{R:It->Hp->Prop}{E:LP}{lo hi:Int}{t u v:Tok}{tk:Nat}(I:Inv X pins σ H s)(h1:-(2^62)<=lo)(h2:lo<2^62)(l:-(2^62)<=hi)(j:hi<2^62)(q:R (MZ lo (hi-lo).toNat) H):wpAny (model X.prog X.w) X.A (pyIter (.ref s.heap.objs.size)) (VM X pins σ tg R) E {s with heap:=s.heap.push {cls:=.type "range",data:=.fields #[.int lo t,.int hi u,.int 1 v]},toks:=tk}:=by
 refine wpAny_pyIter_range (IsRange.new ..) (small_one h1 h2 l j) ?_;have g:Inv X pins σ H {s with heap:=s.heap.push {cls:=.type "range",data:=.fields #[.int lo t,.int hi u,.int 1 v]},toks:=tk}:=I.kept λb o e=>ai _ e;refine⟨(s.heap.push {cls:=.type "range",data:=.fields #[.int lo t,.int hi u,.int 1 v]}).objs.size,[(s.heap.push {cls:=.type "range",data:=.fields #[.int lo t,.int hi u,.int 1 v]}).objs.size],_,_,H,rfl,
  g.kept (t':=tk) λb o e=>ai _ e,Ca _ lo (hi-lo).toNat,?_,λb hb=>?_,q⟩
 have C:lo+((0:Nat):Int)*1=lo:=by simp
 have p:(((hi-lo).toNat:Nat):Int)-((0:Nat):Int)=Builtin.Range.rangeSize lo hi 1:=by rw[rangeSize_one];split<;>lia
 show IsRangeIter _ _ (lo+((0:Nat):Int)*1) ((((hi-lo).toNat:Nat):Int)-((0:Nat):Int)) 1;rw[C,p];exact aQ _ rfl;have e:b=(s.heap.push {cls:=.type "range",data:=.fields #[.int lo t,.int hi u,.int 1 v]}).objs.size:=by simpa using hb
 subst e;exact g.fpOk (av _) (g.hok.fresh (av _))
inductive Fw (R:It->Hp->Prop)(vs:LI)(H1:Hp):Prop|mk (j:Int) (_:vs=[.int j]) (_:-(2^62)<=j) (_:j<2^62) (_:R (MZ 0 j.toNat) H1):Fw R vs H1
def TH (ta:TA):TI:=λσ H R=>ta σ H λvs H1=>Fw R vs H1
inductive Fv (R:It->Hp->Prop)(vs:LI)(H1:Hp):Prop|mk (i j:Int) (_:vs=[.int i,.int j]) (_:(-(2^62)<=i/\i<2^62/\-(2^62)<=j/\j<2^62)) (_:R (MZ i (j-i).toNat) H1):Fv R vs H1
def TF (ta:TA):TI:=λσ H R=>ta σ H λvs H1=>Fv R vs H1
theorem fT {a:Expr}{ta:TA}{p pos:Pos}(U:Gl X "range")(T:X.mg "range"=none)(ha:PA X [a] ta)(hs:starEach [a] X.env=[(false,eval a X.env)]:=by rfl):PI X tg (.Call (.Name "range" p) [a] [] pos) (TH ta):=by with_unfolding_all
 intro pins s σ H R I h;refine Call_ (ke I U T boot_range (du (gm (ha pos pins s σ H _ I h) λus s1 ⟨vs,H1,I1,C,g⟩=>?_) hs rfl));obtain⟨j,e,g,J,q⟩:=g;subst e;cases C with|cons r l=>cases l;obtain⟨t,rfl⟩:=r;exact call_range_1 (AJ I1 (by lia) (by lia) g J (by simpa using q))
theorem xz {a b:Expr}{ta:TA}{p pos:Pos}(hg:Gl X "range")(hm:X.mg "range"=none)(ha:PA X [a,b] ta)(hs:starEach [a,b] X.env=[(false,eval a X.env),(false,eval b X.env)]:=by rfl)(g:starEach [b] X.env=[(false,eval b X.env)]:=by rfl):
  PI X tg (.Call (.Name "range" p) [a,b] [] pos) (TF ta):=by with_unfolding_all
 intro pins s σ H R I h;refine Call_ (ke I hg hm boot_range (du (gm (ha pos pins s σ H _ I h) λus s1 ⟨vs,H1,I1,J,C⟩=>?_) (by rw[hs,g]) (by rw[g];rfl)));obtain⟨i,j,e,⟨C,q2,q3,U⟩,q⟩:=C;subst e;cases J with|cons r l=>cases l with|cons T l=>cases l;obtain⟨t,rfl⟩:=r;obtain⟨t',rfl⟩:=T;exact call_range_2 (AJ I1 C q2 q3 U q)
def i0 (wi:TI)(g:TG)(tb:TS):TS:=λD σ H=>wi σ H λJ H1=>∃W:Nat->Nat->St->Hp->Prop,(∃m,W 0 m σ H1)/\∀i m σ H,W i m σ H->
 (J.stop i H/\D.nx σ H)\/(J.go i H/\∃N:St->Hp->Prop,(∀j H',N j H'->∃p,p<m/\W (i+1) p j H')/\∀x H',J.yld i H x H'->g x σ H' λl H2=>tb {D with nx:=N,ct:=N,bk:=D.nx} l H2)
def yH (fp:LK)(h:Heap):LD:=fp.filterMap λb=>(h.get? b).map λo=>(b,o)
theorem jP {fp:LK}{h:Heap}{b:Addr}{o:Obj}(hb:b∈fp)(e:h.get? b=some o):(b,o)∈yH fp h:=pF.mpr ⟨b,hb,by rw[e];rfl⟩
theorem Hr {fp:LK}{h:Heap}{p:Addr×Obj}(hp:p∈yH fp h):p.1∈fp/\h.get? p.1=some p.2:=by obtain⟨b,hb,e⟩:=pF.mp hp;cases q:h.get? b with|none=>rw[q]at e;cases e|some o=>rw[q]at e;have g:(b,o)=p:=bK e;subst g;exact⟨hb,q⟩
theorem Inv.pinned {pins:LD}{σ:St}{H:Hp}{s:Shared}{fp:LK}(I:Inv X pins σ H s)(l:∀b∈fp,qp X pins H b)(j:∀b∈fp,∃o,s.heap.get? b=some o/\∀v,o.data≠.cell v):Inv X (pins++yH fp s.heap) σ H s:=
 I.pins_of λp hp=>(be.mp hp).elim (λz=>I.pin p (bM _ z)) λz=>by obtain⟨hb,e⟩:=Hr z;obtain⟨t,f1,f2,_⟩:=l p.1 hb;obtain⟨o,g,d⟩:=j p.1 hb;rw[e]at g;cases g;exact⟨e,t,f1,f2,d⟩
theorem Inv.unpinned {pins pl:LD}{σ:St}{H:Hp}{s:Shared}(I:Inv X (pins++pl) σ H s):Inv X pins σ H s:=I.pins_of λp hp=>I.pin p (bM _ (cB _ hp))
theorem eQ {iter:Expr}{body:List Stmt}{wi:TI}{g:TG}{tb:TS}{pos:Pos}(hp:PassesOwn (model X.prog X.w) X.A X.env X.xe)(hc:X.calm=true)(hi:PI X tg iter wi)(hg:PG X tg g)(hb:PSs X body tb)(hs:∀x,foldedSetIterable iter X.env x=pure x:=by intro _;rfl):PS X (.For tg iter body [] pos) (i0 wi g tb):=by with_unfolding_all
 intro pins s σ H D I h;refine wpAny_For (gm (hi pins s σ H _ I h) λv s1 h1=>gm h1 λitv s2 h2=>?_) hs;obtain⟨it,fp,tn,J,H2,e,I2,T,st2,f2,W,⟨m0,w0⟩,turn⟩:=h2;subst e;have stat:∀{H':Hp},(∀b∈fp,H' b=none)->∀b∈fp,qp X pins H' b:=λhn b hb=>⟨hn b hb,(f2 b hb).2⟩;refine codeAny_forLoop_any (λn s'=>∃i p H',Inv X pins p H' s'/\tn i s'.heap/\(∀b∈fp,H' b=none)/\W i n p H') ?_ m0 ⟨0,σ,H2,I2,st2,λb hb=>(f2 b hb).1,w0⟩;rintro n s3 ⟨i,l,H3,I3,st3,fr3,w3⟩;rcases turn i n l H3 w3 with⟨stop,qn⟩|⟨go,N,hN,step⟩
 ·refine iZ hp (gm (T.done X rfl rfl rfl hc i pins s3 l H3 X.xe I3 (stat fr3) st3 stop) λr s4 ⟨hr,I4⟩=>?_)
  subst hr;exact tU ⟨l,H3,I4,qn⟩
 ·refine iZ hp (gm (T.item X rfl rfl rfl hc i pins s3 l H3 X.xe I3 (stat fr3) st3 go) λr s4 ⟨u,hr,h4⟩=>?_)
  subst hr;refine iZ hp (gm h4 λ_ s5 ⟨x,H5,I5,r5,y5,st5,fr5⟩=>?_);have I5':=I5.pinned (stat fr5) (T.obj _ _ st5);refine iZ hp (gm (hg _ s5 l H5 x u _ I5' r5 (step x H5 y5)) λ_ s6 ⟨σ6,H6,I6,q6⟩=>?_);refine iZ hp (gm (hb _ s6 σ6 H6 _ I6 q6) λf s7 U=>?_);have again:∀{j:St} {C:Hp},Inv X (pins++yH fp s5.heap) j C s7->N j C->∃m,m<n/\∃i p H',Inv X pins p H' s7/\tn i s7.heap/\(∀b∈fp,H' b=none)/\W i m p H':=λ{j C} t n7=>by obtain⟨m',hm,w7⟩:=hN j C n7;refine⟨m',hm,i+1,j,C,t.unpinned,T.keep _ _ _ st5 λb hb o e=>(t.pin (b,o) (bM _ (bM _ (jP hb e)))).1,λb hb=>?_,w7⟩;obtain⟨o,e,d⟩:=T.obj _ _ st5 b hb;exact(t.pin (b,o) (bM _ (bM _ (jP hb e)))).2.1
  cases f with
  |next=>obtain⟨j,C,t,n7⟩:=U;exact again t n7
  |cont=>obtain⟨j,C,t,n7⟩:=U;exact again t n7
  |brk=>obtain⟨j,C,t,U⟩:=U;exact⟨j,C,t.unpinned,U⟩
  |ret v=>obtain⟨x7,j,C,t,r7,U⟩:=U;exact⟨x7,j,C,t.unpinned,r7,U⟩
end
theorem gi {K:LO}{a:Addr}{xs:LI}{g:TG}{tb:TS}{D:qr}{σ:St}{H:Hp}(j:Nat->St->Hp->Prop)(h0:j 0 σ H)(hl:∀i σ H,i<=xs.length->j i σ H->bW K H a xs)(hs:∀i x σ H,xs[i]?=some x->j i σ H->g x σ H λl H2=>tb {D with nx:=j (i+1),ct:=j (i+1),bk:=D.nx} l H2)(hd:∀σ H,j xs.length σ H->D.nx σ H):
  ∃W:Nat->Nat->St->Hp->Prop,(∃m,W 0 m σ H)/\∀i m σ H,W i m σ H->
   ((zu K a).stop i H/\D.nx σ H)\/((zu K a).go i H/\∃N:St->Hp->Prop,(∀t H',N t H'->∃I,I<m/\W (i+1) I t H')/\∀x H',(zu K a).yld i H x H'->g x σ H' λl H2=>tb {D with nx:=N,ct:=N,bk:=D.nx} l H2):=by
 refine⟨λi m σ H=>m=xs.length-i/\i<=xs.length/\j i σ H,⟨xs.length,by simp,bp _,h0⟩,?_⟩;rintro i m σ H ⟨rfl,hi,p⟩;have q:=hl i σ H hi p;by_cases C:i<xs.length;refine .inr ⟨⟨xs,xs[i],q,by simp[C]⟩,j (i+1),λt H' p'=>⟨xs.length-(i+1),by lia,rfl,C,p'⟩,λx H' y=>?_⟩;obtain⟨e,y⟩:=y;subst e;exact hs i x σ _ (y xs q) p;have e:i=xs.length:=by lia
 subst e;exact .inl ⟨⟨xs,q,av _⟩,hd σ H p⟩
theorem OP {K:LO}{a:Addr}{xs:LI}{g:TG}{tb:TS}{D:qr}{σ:St}{H:Hp}(j:Nat->St->Hp->Prop)(h0:j 0 σ H)(hl:∀i σ H,i<=xs.length->j i σ H->dH K H a xs)(hs:∀i x σ H,xs[i]?=some x->j i σ H->g x σ H λl H2=>tb {D with nx:=j (i+1),ct:=j (i+1),bk:=D.nx} l H2)(hd:∀σ H,j xs.length σ H->D.nx σ H):
  ∃W:Nat->Nat->St->Hp->Prop,(∃m,W 0 m σ H)/\∀i m σ H,W i m σ H->
   ((Ul K a).stop i H/\D.nx σ H)\/((Ul K a).go i H/\∃N:St->Hp->Prop,(∀t H',N t H'->∃I,I<m/\W (i+1) I t H')/\∀x H',(Ul K a).yld i H x H'->g x σ H' λl H2=>tb {D with nx:=N,ct:=N,bk:=D.nx} l H2):=by
 refine⟨λi m σ H=>m=xs.length-i/\i<=xs.length/\j i σ H,⟨xs.length,by simp,bp _,h0⟩,?_⟩;rintro i m σ H ⟨rfl,hi,p⟩;have q:=hl i σ H hi p;by_cases C:i<xs.length;refine .inr ⟨⟨xs,xs[i],q,by simp[C]⟩,j (i+1),λt H' p'=>⟨xs.length-(i+1),by lia,rfl,C,p'⟩,λx H' y=>?_⟩;obtain⟨e,y⟩:=y;subst e;exact hs i x σ _ (y xs q) p;have e:i=xs.length:=by lia
 subst e;exact .inl ⟨⟨xs,q,av _⟩,hd σ H p⟩
theorem gG {lo:Int}{n:Nat}{g:TG}{tb:TS}{D:qr}{σ:St}{H:Hp}(C:Nat->St->Hp->Prop)(h0:C 0 σ H)(hs:∀i σ H,i<n->C i σ H->g (.int (lo+i)) σ H λj H2=>tb {D with nx:=C (i+1),ct:=C (i+1),bk:=D.nx} j H2)(hd:∀σ H,C n σ H->D.nx σ H):
  ∃W:Nat->Nat->St->Hp->Prop,(∃m,W 0 m σ H)/\∀i m σ H,W i m σ H->
   ((MZ lo n).stop i H/\D.nx σ H)\/((MZ lo n).go i H/\∃N:St->Hp->Prop,(∀l H',N l H'->∃I,I<m/\W (i+1) I l H')/\∀x H',(MZ lo n).yld i H x H'->g x σ H' λj H2=>tb {D with nx:=N,ct:=N,bk:=D.nx} j H2):=by
 refine⟨λi m σ H=>m=n-i/\i<=n/\C i σ H,⟨n,by simp,bp _,h0⟩,?_⟩;rintro i m σ H ⟨rfl,hi,p⟩;by_cases t:i<n;refine .inr ⟨t,C (i+1),λl H' p'=>⟨n-(i+1),by lia,rfl,t,p'⟩,λx H' y=>?_⟩;obtain⟨e,y⟩:=y;subst e y;exact hs i σ _ t p;have e:i=n:=by lia
 subst e;exact .inl ⟨av _,hd σ H p⟩
theorem uu {c:TT}{tb:TS}{D:qr}{σ:St}{H:Hp}(t:St->Hp->Prop)(j:St->Hp->Nat)(h0:t σ H)(hs:∀σ H,t σ H->c σ H λb H1=>if b=true then tb {D with nx:=λg H'=>t g H'/\j g H'<j σ H,ct:=λg H'=>t g H'/\j g H'<j σ H,bk:=D.nx} σ H1 else D.nx σ H1)(mono:∀σ H Q C,(∀b H1,Q b H1->C b H1)->c σ H Q->c σ H C):yg c tb D σ H:=by refine⟨λm σ H=>m=j σ H/\t σ H,⟨_,rfl,h0⟩,?_⟩;rintro m σ H ⟨rfl,p⟩;refine mono σ H _ _ (λb H1 q=>?_) (hs σ H p);cases b with|true=>exact⟨_,λg H' ⟨p',l⟩=>⟨_,l,rfl,p'⟩,q⟩|false=>exact q
abbrev R2:=V->V->Hp->VK->Prop
def qv (X:Cx)(f:Value->Value->Sem Value)(r:R2):Prop:=
 ∀(pins:LD) (s:Shared) (σ:St) (H:Hp) (x y:V) (v u:Value) (Q:VK),Inv X pins σ H s->dQ x v->dQ y u->r x y H Q->
  wpAny (model X.prog X.w) X.A (f v u) (EP X pins σ Q) X.xe s
def Vn (X:Cx)(f:Value->Sem Value)(r:V->Hp->VK->Prop):Prop:=
 ∀(pins:LD) (s:Shared) (σ:St) (H:Hp) (x:V) (v:Value) (Q:VK),Inv X pins σ H s->dQ x v->r x H Q->
  wpAny (model X.prog X.w) X.A (f v) (EP X pins σ Q) X.xe s
def k5 (X:Cx)(f:Value)(r:List V->Hp->VK->Prop):Prop:=
 ∀(pins:LD) (s:Shared) (σ:St) (H:Hp) (xs:LI) (us:LJ) (Q:VK),Inv X pins σ H s->dc xs us->r xs H Q->
  wpAny (model X.prog X.w) X.A (call f us) (EP X pins σ Q) X.xe s
def Vo (X:Cx)(r:V->Hp->(Bool->Hp->Prop)->Prop):Prop:=
 ∀(pins:LD) (s:Shared) (σ:St) (H:Hp) (x:V) (v:Value) (Q:Bool->Hp->Prop),Inv X pins σ H s->dQ x v->r x H Q->
  wpAny (model X.prog X.w) X.A (truthy v) (TP X pins σ Q) X.xe s
def B1 (r:R2)(ta tb:TE):TE:=λσ H Q=>ta σ H λx H1=>tb σ H1 λy H2=>r x y H2 Q
def VC (r:V->Hp->VK->Prop)(ta:TE):TE:=λσ H Q=>ta σ H λx H1=>r x H1 Q
inductive SV (C:Int->Int->Prop)(g:Int->Int->V)(x:V)(y:V)(H:Hp)(Q:VK):Prop|mk (i j:_) (_:x=.int i) (_:y=.int j) (_:C i j) (_:Q (g i j) H):SV C g x y H Q
def rI (C:Int->Int->Prop)(g:Int->Int->V):R2:=λx y H Q=>SV C g x y H Q
inductive PD (g:Int->Int->V)(x:V)(y:V)(H:Hp)(Q:VK):Prop|mk (i j:_) (_:x=.int i) (_:y=.int j) (_:Q (g i j) H):PD g x y H Q
def Qz (g:Int->Int->V):R2:=λx y H Q=>PD g x y H Q
inductive SL (g:Int->V)(x:V)(H:Hp)(Q:VK):Prop|mk (i:_) (_:x=.int i) (_:Q (g i) H):SL g x H Q
def rU (g:Int->V):V->Hp->VK->Prop:=λx H Q=>SL g x H Q
section
variable {X:Cx}{a b c:Expr}{ta tb tc:TE}{pos:Pos}
theorem RT (U:PE X a ta)(hb:PE X b tb){pins:LD}{s:Shared}{σ:St}{H:Hp}{R:V->V->Hp->Prop}(I:Inv X pins σ H s)(h:ta σ H λx H1=>tb σ H1 λy H2=>R x y H2){Q:LP}{f:Value->Value->Sem Value}(T:∀v u j x y H2,Inv X pins σ H2 j->dQ x v->dQ y u->R x y H2->wpAny (model X.prog X.w) X.A (f v u) Q X.xe j):
  wpAny (model X.prog X.w) X.A (eval a X.env) (λv s₁=>wpAny (model X.prog X.w) X.A (eval b X.env) (λu g=>wpAny (model X.prog X.w) X.A (f v u) Q X.xe g) X.xe s₁) X.xe s:=by with_unfolding_all
 refine gm (U pins s σ H _ I h) λv l ⟨x,H1,I1,t,J⟩=>?_;refine gm (hb pins l σ H1 _ I1 J) λu j ⟨y,H2,I2,p,C⟩=>?_;exact T v u j x y H2 I2 t p C
theorem bR {op:Operator}{r:R2}(p:qv X (binaryOp op) r)(t:PE X a ta)(hb:PE X b tb):PE X (.BinOp a op b pos) (B1 r ta tb):=by with_unfolding_all
 intro pins s σ H Q I h;exact wpAny_BinOp (RT t hb I h λv u g x y H2 C l j q=>p pins g σ H2 x y v u Q C l j q)
theorem PH {op:UnaryOp}{r:V->Hp->VK->Prop}(p:Vn X (unaryOp op) r)(t:PE X a ta):PE X (.UnaryOp op a pos) (VC r ta):=by with_unfolding_all
 intro pins s σ H Q I h;exact UnaryOp_ (gm (t pins s σ H _ I h) λv g ⟨x,H1,C,j,l⟩=>p pins g σ H1 x v Q C j l)
theorem PL {f:Value->Value->Sem Value}{C:Int->Int->Prop}{g:Int->Int->Int}(rule:∀(i j:Int) (t u:Tok) (s:Shared) (Q:LP) (E:LP),C i j->Q (.int (g i j) s.toks) {s with toks:=s.toks+1}->wpAny (model X.prog X.w) X.A (f (.int i t) (.int j u)) Q E s):
  qv X f (rI C λi j=>.int (g i j)):=by intro pins s σ H x y v u Q I p l h;obtain⟨i,j,rfl,rfl,J,q⟩:=h;obtain⟨t,rfl⟩:=p;obtain⟨t',rfl⟩:=l;exact rule i j t t' s _ _ J ⟨.int (g i j),H,I.tok _,⟨_,rfl⟩,q⟩
theorem SX {f:Value->Value->Sem Value}{g:Int->Int->Int}(rule:∀(i j:Int) (t u:Tok) (s:Shared) (Q:LP) (E:LP),Q (.int (g i j) s.toks) {s with toks:=s.toks+1}->wpAny (model X.prog X.w) X.A (f (.int i t) (.int j u)) Q E s):
  qv X f (Qz λi j=>.int (g i j)):=by intro pins s σ H x y v u Q I p l h;obtain⟨i,j,rfl,rfl,q⟩:=h;obtain⟨t,rfl⟩:=p;obtain⟨t',rfl⟩:=l;exact rule i j t t' s _ _ ⟨.int (g i j),H,I.tok _,⟨_,rfl⟩,q⟩
theorem QK {f:Value->Value->Sem Value}{g:Int->Int->Bool}(rule:∀(i j:Int) (t u:Tok) (s:Shared) (Q:LP) (E:LP),Q (.bool (g i j)) s->wpAny (model X.prog X.w) X.A (f (.int i t) (.int j u)) Q E s):
  qv X f (Qz λi j=>.bl (g i j)):=by intro pins s σ H x y v u Q I p l h;obtain⟨i,j,rfl,rfl,q⟩:=h;obtain⟨t,rfl⟩:=p;obtain⟨t',rfl⟩:=l;exact rule i j t t' s _ _ ⟨.bl (g i j),H,I,rfl,q⟩
def Vy (i j:Int):Prop:=0<j/\j<1073741824
def Vx (i j:Int):Prop:=0<=j/\j<=1000000/\i.natAbs<2^64
def Ph (i j:Int):Prop:=(-(2^64)<i/\i<2^64)\/(-(2^64)<j/\j<2^64)
theorem Ph.ok {i j:Int}(h:Ph i j):IntMulOk i j:=by rcases h with⟨h1,h2⟩|⟨h1,h2⟩;exact .of_left (intBits_le_64 h1 h2);exact .of_right (intBits_le_64 h1 h2)
theorem gt:qv X (binaryOp .Add) (Qz λi j=>.int (i+j)):=SX λ_ _ _ _ _ _ _ q=>add_int q
theorem vh:qv X (binaryOp .Sub) (Qz λi j=>.int (i-j)):=SX λ_ _ _ _ _ _ _ q=>sub_int q
theorem i8:qv X (binaryOp .Mult) (rI Ph λi j=>.int (i*j)):=PL λ_ _ _ _ _ _ _ g q=>mul_int q g.ok
theorem nB:qv X (binaryOp .FloorDiv) (rI Vy λi j=>.int (i/j)):=PL λi j _ _ _ _ _ g q=>by have h1:(0:Int)<j:=g.1;have h2:j<1073741824:=g.2;exact floordiv_int (by lia) (by rw[Int.fdiv_eq_ediv_of_nonneg i (by lia)];exact q) (.inl (PyProof.noPylong_small (by lia)))
theorem gR:qv X (binaryOp .Mod) (rI (λ_ j=>0<j) λi j=>.int (i%j)):=PL λi j _ _ _ _ _ g q=>by have h1:(0:Int)<j:=g;exact mod_int' (by lia) (by rw[Int.fmod_eq_emod_of_nonneg i (by lia)];exact q)
theorem Fg:qv X (binaryOp .Mod) (rI (λ_ j=>j≠0) λi j=>.int (i.fmod j)):=PL λ_ _ _ _ _ _ _ g q=>mod_int' g q
theorem QI:qv X (binaryOp .Pow) (rI Vx λi j=>.int (i^j.toNat)):=PL λ_ _ _ _ _ _ _ g q=>pow_int_small g.1 g.2.1 g.2.2 q
theorem VP {f:Value->Sem Value}{g:Int->Int}(rule:∀(i:Int) (t:Tok) (s:Shared) (Q:LP) (E:LP),Q (.int (g i) s.toks) {s with toks:=s.toks+1}->wpAny (model X.prog X.w) X.A (f (.int i t)) Q E s):
  Vn X f (rU λi=>.int (g i)):=by intro pins s σ H x v Q I j h;obtain⟨i,rfl,q⟩:=h;obtain⟨t,rfl⟩:=j;exact rule i t s _ _ ⟨.int (g i),H,I.tok _,⟨_,rfl⟩,q⟩
theorem IU:Vn X (unaryOp .USub) (rU λi=>.int (-i)):=VP λ_ _ _ _ _ q=>neg_int q
end
def SC:V->V->Bool
 | .non,.non=>true| .non,.int _=>true| .int _,.non=>true| .non,.bl _=>true| .bl _,.non=>true| .non,.str _=>true| .str _,.non=>true
 | .int _,.int _=>true| .bl _,.bl _=>true| .str _,.str _=>true| .byt _,.byt _=>true
 | .int _,.str _=>true| .str _,.int _=>true| .bl _,.str _=>true| .str _,.bl _=>true
 |_,_=>false
def VY:R2:=λx y H Q=>SC x y=true/\Q (.bl (decide (x=y))) H
def UW:R2:=λx y H Q=>SC x y=true/\Q (.bl (!decide (x=y))) H
theorem FJ {i j:Int}:decide (V.int i=V.int j)=(i==j):=by rw[je];simp
theorem Mv {i j:Bool}:decide (V.bl i=V.bl j)=(i==j):=by rw[je];simp
theorem FF {i j:Str}:decide (V.str i=V.str j)=(i==j):=by rw[je];simp
theorem FK {i j:Array UInt8}:decide (V.byt i=V.byt j)=(i.toList==j.toList):=by rw[je];cases i;cases j;simp
section
variable {X:Cx}{a b c:Expr}{ta tb tc:TE}{pos:Pos}
theorem dZ {pins:LD}{σ:St}{H:Hp}{s:Shared}{Q:VK}{k k':Bool}(I:Inv X pins σ H s)(q:Q (.bl k) H)(e:k=k'):EP X pins σ Q (.bool k') s:=by subst e;exact⟨.bl k,H,I,rfl,q⟩
theorem gh:qv X (compareOp .Eq) VY:=by
 intro pins s σ H x y v u Q I l g h;obtain⟨hs,q⟩:=h;cases x with
 |non=>
  cases l;cases y with
  |non=>cases g;exact PySem.EqNone.eq_none_none (dZ I q (by simp))
  |bl j=>cases g;exact PySem.EqNone.eq_none_bool (dZ I q (by simp))
  |int j=>obtain⟨t',rfl⟩:=g;exact PySem.EqNone.eq_none_int (dZ I q (by simp))
  |str j=>obtain⟨t',rfl⟩:=g;exact PySem.EqNone.eq_none_str (dZ I q (by simp))
  |_=>exact absurd (show false=true from hs) bC
 |bl i=>
  cases l;cases y with
  |non=>cases g;exact PySem.EqNone.eq_bool_none (dZ I q (by simp))
  |bl j=>cases g;exact eq_bool (dZ I q Mv)
  |str j=>obtain⟨t',rfl⟩:=g;exact PySem.EqMixed.eq_bool_str (dZ I q (by simp))
  |_=>exact absurd (show false=true from hs) bC
 |int i=>
  obtain⟨t,rfl⟩:=l;cases y with
  |non=>cases g;exact PySem.EqNone.eq_int_none (dZ I q (by simp))
  |int j=>obtain⟨t',rfl⟩:=g;exact eq_int (dZ I q FJ)
  |str j=>obtain⟨t',rfl⟩:=g;exact PySem.EqMixed.eq_int_str (dZ I q (by simp))
  |_=>exact absurd (show false=true from hs) bC
 |str i=>
  obtain⟨t,rfl⟩:=l;cases y with
  |non=>cases g;exact PySem.EqNone.eq_str_none (dZ I q (by simp))
  |bl j=>cases g;exact PySem.EqMixed.eq_str_bool (dZ I q (by simp))
  |int j=>obtain⟨t',rfl⟩:=g;exact PySem.EqMixed.eq_str_int (dZ I q (by simp))
  |str j=>obtain⟨t',rfl⟩:=g;exact eq_str (dZ I q FF)
  |_=>exact absurd (show false=true from hs) bC
 |byt i=>
  obtain⟨t,rfl⟩:=l;cases y with
  |byt j=>obtain⟨t',rfl⟩:=g;exact PySem.W.eq_bytes (dZ I q FK)
  |_=>exact absurd (show false=true from hs) bC
 |_=>cases y<;>exact absurd (show false=true from hs) bC
theorem jF:qv X (compareOp .NotEq) UW:=by
 intro pins s σ H x y v u Q I l g h;obtain⟨hs,q⟩:=h;cases x with
 |non=>
  cases l;cases y with
  |non=>cases g;exact PySem.EqNone.ne_none_none (dZ I q (by simp))
  |bl j=>cases g;exact PySem.EqNone.ne_none_bool (dZ I q (by simp))
  |int j=>obtain⟨t',rfl⟩:=g;exact PySem.EqNone.ne_none_int (dZ I q (by simp))
  |str j=>obtain⟨t',rfl⟩:=g;exact PySem.EqNone.ne_none_str (dZ I q (by simp))
  |_=>exact absurd (show false=true from hs) bC
 |bl i=>
  cases l;cases y with
  |non=>cases g;exact PySem.EqNone.ne_bool_none (dZ I q (by simp))
  |bl j=>cases g;exact ne_bool (dZ I q (congrArg not Mv))
  |str j=>obtain⟨t',rfl⟩:=g;exact PySem.EqMixed.ne_bool_str (dZ I q (by simp))
  |_=>exact absurd (show false=true from hs) bC
 |int i=>
  obtain⟨t,rfl⟩:=l;cases y with
  |non=>cases g;exact PySem.EqNone.ne_int_none (dZ I q (by simp))
  |int j=>obtain⟨t',rfl⟩:=g;exact ne_int (dZ I q (congrArg not FJ))
  |str j=>obtain⟨t',rfl⟩:=g;exact PySem.EqMixed.ne_int_str (dZ I q (by simp))
  |_=>exact absurd (show false=true from hs) bC
 |str i=>
  obtain⟨t,rfl⟩:=l;cases y with
  |non=>cases g;exact PySem.EqNone.ne_str_none (dZ I q (by simp))
  |bl j=>cases g;exact PySem.EqMixed.ne_str_bool (dZ I q (by simp))
  |int j=>obtain⟨t',rfl⟩:=g;exact PySem.EqMixed.ne_str_int (dZ I q (by simp))
  |str j=>obtain⟨t',rfl⟩:=g;exact ne_str (dZ I q (congrArg not FF))
  |_=>exact absurd (show false=true from hs) bC
 |byt i=>
  obtain⟨t,rfl⟩:=l;cases y with
  |byt j=>obtain⟨t',rfl⟩:=g;exact PySem.W.ne_bytes (dZ I q (congrArg not FK))
  |_=>exact absurd (show false=true from hs) bC
 |_=>cases y<;>exact absurd (show false=true from hs) bC
theorem AO:qv X (compareOp .Lt) (Qz λi j=>.bl (decide (i<j))):=QK λ_ _ _ _ _ _ _ q=>lt_int q
theorem AQ:qv X (compareOp .Gt) (Qz λi j=>.bl (decide (j<i))):=QK λ_ _ _ _ _ _ _ q=>gt_int q
theorem SW:qv X (compareOp .GtE) (Qz λi j=>.bl (decide (j<=i))):=QK λ_ _ _ _ _ _ _ q=>ge_int q
theorem yO:qv X (compareOp .Is) (λx y H Q=>y=.non/\Q (.bl (decide (x=.non))) H):=by
 intro pins s σ H x y v u Q I g j h;obtain⟨rfl,q⟩:=h;cases j;refine is_none_gen (dZ I q ?_);cases x<;>first
  |(cases g;rfl)
  |(obtain⟨t,rfl⟩:=g;rfl)
theorem NI:qv X (compareOp .IsNot) (λx y H Q=>y=.non/\Q (.bl (!decide (x=.non))) H):=by
 intro pins s σ H x y v u Q I g j h;obtain⟨rfl,q⟩:=h;cases j;refine isnot_none_gen (dZ I q ?_);cases x<;>first
  |(cases g;rfl)
  |(obtain⟨t,rfl⟩:=g;rfl)
theorem bO (b:Expr){op:CmpOp}(h:op≠.In:=by decide)(h2:op≠.NotIn:=by decide):behindInMarks op b=false:=by
 have j:(op==CmpOp.In)=false:=by cases op<;>first|rfl|exact absurd rfl h
 have g:(op==CmpOp.NotIn)=false:=by cases op<;>first|rfl|exact absurd rfl h2
 cases b<;>simp[behindInMarks,j,g]
theorem fH {op:CmpOp}{r:R2}(p:qv X (compareOp op) r)(C:PE X a ta)(hb:PE X b tb)(t:behindInMarks op b=false):PE X (.Compare a [op] [b] pos) (B1 r ta tb):=by with_unfolding_all
 intro pins s σ H Q I h;exact wpAny_Compare1 (RT C hb I h λv u g x y H2 J l j q=>p pins g σ H2 x y v u Q J l j q) t
inductive DV (Q:Bool->Hp->Prop)(x:V)(H':Hp):Prop|mk (k:_) (_:x=.bl k) (_:Q k H'):DV Q x H'
def Jh (t:TE):TT:=λσ H Q=>t σ H λx H'=>DV Q x H'
theorem bV {op:CmpOp}{r:R2}(U:qv X (compareOp op) r)(ha:PE X a ta)(hb:PE X b tb)(hm:behindInMarks op b=false):PT X (.Compare a [op] [b] pos) (Jh (B1 r ta tb)):=by with_unfolding_all
 intro pins s σ H Q I h;refine wpAny_isTrue_Compare1 (gm (ha pins s σ H _ I h) λv j ⟨x,H1,I1,t,T⟩=>gm (hb pins j σ H1 _ I1 T) λu g ⟨y,H2,I2,p,J⟩=>
  gm (U pins g σ H2 x y v u _ I2 t p J) λc s3 ⟨z,H3,I3,l,k,e,C⟩=>?_) hm
 subst e;cases l;exact gE ⟨H3,I3,C⟩
def RW (K:LO)(x:V)(H:Hp)(k:Bool):Prop:=
 match x with
 | .non=>k=false
 | .bl b=>k=b
 | .int i=>k=(i != 0)
 | .str y=>y.length<=sizeLine/\k=((y.length:Int) != 0)
 | .byt y=>y.size<=sizeLine/\k=((y.size:Int) != 0)
 | .ref p=>(∃xs,bW K H p xs/\k=!xs.isEmpty)\/(∃xs,dH K H p xs/\k=!xs.isEmpty)\/ ∃kvs,H p=some (.dK kvs)/\k=!kvs.isEmpty
 |_=>False
theorem Dj {κ:Type}{kvs:List (κ×V)}{vs:List (κ×Value)}(r:KV kvs vs):(!vs.isEmpty)=!kvs.isEmpty:=by cases r<;>rfl
theorem vz {xs:LI}{its:LJ}(r:dc xs its):(!its.toArray.isEmpty)=!xs.isEmpty:=by cases r<;>simp
theorem sB:(sizeLine:Nat)<2^63:=by rw[sizeLine_eq];decide
theorem IZ:Vo X (λx H Q=>∃k,RW X.K x H k/\Q k H):=by
 intro pins s σ H x v Q I j h;obtain⟨k,e,q⟩:=h;have hl:=sB;have hs:sizeLine=16777216:=sizeLine_eq;cases x with
 |non=>cases j;have g:k=false:=e;subst g;exact truthy_none ⟨H,I,q⟩
 |bl b=>cases j;have g:k=b:=e;subst g;exact gE ⟨H,I,q⟩
 |int i=>obtain⟨t,rfl⟩:=j;have g:k=(i != 0):=e;subst g;exact PySem.P.truthy_int ⟨H,I,q⟩
 |str y=>obtain⟨t,rfl⟩:=j;obtain⟨C,g⟩:y.length<=sizeLine/\k=((y.length:Int) != 0):=e;subst g;exact PySem.P.truthy_str (by lia) ⟨H,I.tok _,q⟩
 |byt y=>obtain⟨t,rfl⟩:=j;obtain⟨C,g⟩:y.size<=sizeLine/\k=((y.size:Int) != 0):=e;subst g;exact PySem.W.truthy_bytes (by lia) ⟨H,I.tok _,q⟩
 |ref p=>cases j;have g:(∃xs,bW X.K H p xs/\k=!xs.isEmpty)\/(∃xs,dH X.K H p xs/\k=!xs.isEmpty)\/ ∃kvs,H p=some (.dK kvs)/\k=!kvs.isEmpty:=e;rcases g with⟨xs,l,g⟩|⟨xs,l,g⟩|⟨kvs,l,g⟩;subst g;obtain⟨its,r,pl,hz⟩:=I.list l;have hlen:=r.length;exact wpAny_truthy_list pl.isList (by simp only[aO];lia) ⟨H,I.tok _,by rw[vz r];exact q⟩;subst g;obtain⟨its,r,pl,hz⟩:=I.tuple l;have hlen:=r.length;exact truthy_tuple pl (by simp only[aO];lia) ⟨H,I.tok _,by rw[vz r];exact q⟩;subst g;obtain⟨hz,J,vs,r,m⟩:kvs.length<=sizeLine/\(p==sysModules)=false/\∃vs,KV kvs vs/\s.heap.DictOf (fU X.prog X.w) p vs:=I.hok p _ l;have hlen:kvs.length=vs.length:=Paired.length r;exact wpAny_truthy_dict J m (by lia) ⟨H,I.tok _,by rw[Dj r];exact q⟩
 |_=>exact(show False from e).elim
theorem vf (t:PE X a ta)(p:∀whole,isTrue a X.env whole=(do let v<-whole;standAt a.pos;holding [v] (truthy v))):
  PT X a (λσ H Q=>ta σ H λx H'=>∃k,RW X.K x H' k/\Q k H'):=by with_unfolding_all
 intro pins s σ H Q I h;exact isTrue_plain (gm (t pins s σ H _ I h) λv g ⟨x,H1,C,j,l⟩=>IZ pins g σ H1 x v Q C j l) (p _)
theorem lB {x:V}{us:LJ}(r:dc [x] us):∃u,us=[u]/\dQ x u:=by cases r with|cons j g=>cases g;exact⟨_,rfl,j⟩
theorem IR {x y:V}{us:LJ}(r:dc [x,y] us):∃u g,us=[u,g]/\dQ x u/\dQ y g:=by cases r with|cons t p=>cases p with|cons l j=>cases j;exact⟨_,_,rfl,t,l⟩
theorem BQ:k5 X (.builtin "abs") (λxs H Q=>∃i,xs=[.int i]/\Q (.int (if i<0 then -i else i)) H):=by intro pins s σ H xs us Q I r h;obtain⟨i,rfl,q⟩:=h;obtain⟨u,rfl,t,rfl⟩:=lB r;exact call_abs_int λu tk=>⟨.int (if i<0 then -i else i),H,I.tok _,⟨_,rfl⟩,q⟩
theorem Im (l:X.calm=true):k5 X (.builtin "max") (λxs H Q=>∃i j,xs=[.int i,.int j]/\Q (.int (if j>i then j else i)) H):=by intro pins s σ H xs us Q I r h;obtain⟨i,j,rfl,q⟩:=h;obtain⟨u,p,rfl,⟨t,rfl⟩,⟨t',rfl⟩⟩:=IR r;refine max_two_ints (I.ok.hd l) λh' tk k=>⟨_,H,I.kept k,?_,q⟩;by_cases g:j>i;rw[if_pos g,if_pos g];exact⟨_,rfl⟩;rw[if_neg g,if_neg g];exact⟨_,rfl⟩
theorem sM:k5 X (.type "int") (λxs H Q=>(∃i,xs=[.int i]/\Q (.int i) H)\/ ∃k,xs=[.bl k]/\Q (.int (if k then 1 else 0)) H):=by intro pins s σ H xs us Q I r h;rcases h with⟨i,rfl,q⟩|⟨k,rfl,q⟩;obtain⟨u,rfl,t,rfl⟩:=lB r;exact call_int_int ⟨.int i,H,I,⟨_,rfl⟩,q⟩;obtain⟨u,rfl,g⟩:=lB r;cases g;exact call_int_bool ⟨.int (if k then 1 else 0),H,I.tok _,⟨_,rfl⟩,q⟩
end
structure BX (h:Heap)(x dx C:Addr)(mA:LQ):Prop where
 obj:h.get? x=some (PySem.W.instObj C dx)
 ns:h.Ns1 dx mA
 ne:dx≠x
theorem HI {h:Heap}{dx:Addr}{mA:LQ}(n:h.Ns1 dx mA):∃od,h.get? dx=some od/\∀name,PySem.W.lookIn name od=some (mA name):=by
 obtain⟨o,es,ep,j,hd,hk,_,l⟩:=n;refine⟨o,j,λname=>?_⟩;have e:=l name;unfold nsFind findBy at e;rw[<-Array.find?_toList]at e;unfold PySem.W.lookIn;rw[hd];dsimp only;split;rename_i y q;rw[q]at e;exact congrArg some e;rename_i q;rw[q]at e;have a:es.toList.any (·.refKey)=false:=by rw[List.any_eq_false];intro y g;obtain⟨z,t,hkey⟩:=hk y (Array.mem_toList_iff.mp g);simp[DictEntry.refKey,hkey]
 have a':¬es.toList.any (·.refKey)=true:=by rw[a];exact bC
 rw[if_neg a'];exact congrArg some e
theorem BX.look {h:Heap}{x dx C:Addr}{mA:LQ}(I:BX h x dx C mA):∃od,PySem.W.InstAt h x (PySem.W.instObj C dx) C (some od)/\∀name,PySem.W.lookIn name od=some (mA name):=
 let⟨od,g,hl⟩:=HI I.ns
 ⟨od,⟨I.obj,rfl,rfl,g⟩,hl⟩
section
variable {prog:Program}{w:World}{A:Around}{E:LP}{s:Shared}{K:LO}{x dx C f:Addr}{mA:LQ}{name:Str}{v:Value}
theorem FB {expr:Bool}{Q:LP}(X:K.In s.heap)(I:BX s.heap x dx C mA)(p:PySem.W.plainGet K C name=true)(l:PySem.W.hasDictIn K C=true)(t:PySem.W.findIn K (.ref C) name=some none)(j:mA name=some v)(g:PySem.W.handedIn v=true)(h:Q v {s with toks:=s.toks+1}):
  wpAny (model prog w) A (getAttr (.ref x) name expr) Q E s:=by obtain⟨od,J,hl⟩:=I.look;exact PySem.W.get_value X J (PySem.W.plainGet_of p).1 (PySem.W.findObj_own l t rfl (by rw[hl,j])) g h
theorem Nd {ns:LM}{Q:Unit->Shared->Prop}(X:K.In s.heap)(I:BX s.heap x dx C mA)(hs:PySem.W.findIn K (.ref C) "__setattr__"=some (some (.builtin "object.__setattr__")))(hp:PySem.W.plainOver K C=true)(ht:PySem.W.takerIn K C name=some none)(hh:PySem.W.hasDictIn K C=true)(hw:PySem.Within mA ns)(hsz:ns.length<=sizeLine)(h:∀h',BX h' x dx C (λy=>if y=name then some v else mA y)->Heap.SameBut dx s.heap h'->Q () {s with heap:=h',toks:=s.toks+2}):
  wpAny (model prog w) A (setAttr (.ref x) name v) Q E s:=by obtain⟨od,J,hl⟩:=I.look;refine PySem.W.set_plain X J hs (PySem.W.osa_open (s:={s with toks:=s.toks+1}) (r:=none) X J hp ht λb=>?_);obtain⟨cd,hc,t⟩:=PySem.W.any_some hh;have U:s.heap.get? x=some ⟨.ref C,some dx,.plain,#[]⟩:=I.obj;refine ae (ak (ae (ae (wpAny_loadPart U (ae (PySem.W.Looks.here (s:={s with toks:=s.toks+1}) (PySem.W.looks_clsIn X hc) ?_))))));rw[t];refine ak (a:=some dx) (ae (ak (ae ?_)));refine wpAny_nsSet1 (s:={s with toks:=s.toks+1}) I.ns λh' j g=>?_;obtain⟨oD,esD,epD,l,p,T⟩:=j.count (PySem.Within.cons name v hw);refine ae (wpAny_lookBehind l (by rw[p];exact pastItsLine_dict (bj T (by rw[aH];lia))) ?_);exact ak (h _ ⟨(g.2 _ (Ne.symm I.ne)).trans I.obj,j,I.ne⟩ g)
theorem Li {R:Result->Shared->Prop}{vs:LJ}{kw:List (Str×Value)}(X:K.In s.heap)(j:PySem.W.makesIn K C=true)(hi:PySem.W.findIn K (.ref C) "__init__"=some (some (.ref f)))(l:PySem.W.typeIn K (.ref f)=some (.type "function"))(h:codeAny (model prog w) (A.under (.builtin "type.__call__" ⟨.ref C::vs,kw⟩)) (.call (.ref f) ⟨.ref (s.heap.objs.size+1)::vs,kw⟩) (PySem.W.InitBack (s.heap.objs.size+1) R)
   {s with heap:=(s.heap.push PySem.W.emptyDict).push (PySem.W.instObj C s.heap.objs.size)}):
  codeAny (model prog w) A (.call (.ref C) ⟨vs,kw⟩) R s:=by obtain⟨p,g,d,t,os⟩:=s;exact PySem.W.make_core (PySem.W.makes_of X j) (PySem.W.looks_findIn X hi) (λself=>PySem.W.bind_fn X self l) (.inl rfl) h
end
def pC (f:Str)(v:V):List (Str×V)->List (Str×V)
 |[]=>[(f,v)]
 |(g,x)::r=>if g=f then(g,v)::r else(g,x)::pC f v r
theorem tz (f g:Str)(v:V):∀fs:List (Str×V),(pC f v fs).lookup g=if g=f then some v else fs.lookup g
 |[]=>by show List.lookup g [(f,v)]=_;by_cases h:g=f;have hb:(g==f)=true:=beq_iff_eq.mpr h;simp only[List.lookup,hb,if_pos h];have hb:(g==f)=false:=beq_eq_false_iff_ne.mpr h;simp only[List.lookup,hb,if_neg h]
 |(k,x)::r=>by have j:=tz f g v r;rw[show pC f v ((k,x)::r)=(if k=f then(k,v)::r else(k,x)::pC f v r)from rfl];by_cases hk:k=f;rw[if_pos hk];by_cases h:g=k;have hb:(g==k)=true:=beq_iff_eq.mpr h;simp only[List.lookup,hb,if_pos (h.trans hk)];have hb:(g==k)=false:=beq_eq_false_iff_ne.mpr h;simp only[List.lookup,hb,if_neg λe:g=f=>h (e.trans hk.symm)];rw[if_neg hk];by_cases h:g=k;have hb:(g==k)=true:=beq_iff_eq.mpr h;simp only[List.lookup,hb,if_neg λe:g=f=>hk (h.symm.trans e)];have hb:(g==k)=false:=beq_eq_false_iff_ne.mpr h;simp only[List.lookup,hb];exact j
theorem sF (f:Str)(v:V):∀fs:List (Str×V),f∈(pC f v fs).map (·.1)/\∀g,g∈fs.map (·.1)->g∈(pC f v fs).map (·.1)
 |[]=>⟨by simp[pC],λg h=>by simp at h⟩
 |(k,x)::r=>by obtain⟨i1,i2⟩:=sF f v r;rw[show pC f v ((k,x)::r)=(if k=f then(k,v)::r else(k,x)::pC f v r)from rfl];by_cases hk:k=f;rw[if_pos hk];subst hk;exact⟨by simp,λg h=>by simpa using h⟩;rw[if_neg hk];refine⟨?_,λg h=>?_⟩;rw[aJ];exact aB _ i1;rw[aJ]at h ⊢;rcases bT.mp h with e|e;exact bT.mpr (.inl e);exact aB _ (i2 g e)
theorem tE (f:Str)(v:V):∀fs:List (Str×V),(pC f v fs).length<=fs.length+1
 |[]=>by simp[pC]
 |(k,x)::r=>by have g:=tE f v r;rw[show pC f v ((k,x)::r)=(if k=f then(k,v)::r else(k,x)::pC f v r)from rfl];by_cases hk:k=f;rw[if_pos hk,aH,aH];lia;rw[if_neg hk,aH,aH];lia
theorem qk.some_of {v:V}{o:LW}(r:qk (some v) o):∃u,o=some u/\dQ v u:=by cases o with|none=>exact(show False from r).elim|some u=>exact⟨u,rfl,r⟩
theorem HZ {v:V}{u:Value}(r:dQ v u):PySem.W.handedIn u=true:=by
 cases v with
 |non=>cases(show u=Value.none from r);rfl
 |bl b=>cases(show u=Value.bool b from r);rfl
 |int i=>obtain⟨t,e⟩:=(show∃t,u=Value.int i t from r);cases e;rfl
 |str x=>obtain⟨t,e⟩:=(show∃t,u=Value.str x t from r);cases e;rfl
 |byt b=>obtain⟨t,e⟩:=(show∃t,u=Value.bytes b t from r);cases e;rfl
 |flt b=>obtain⟨t,e⟩:=(show∃t,u=Value.float b t from r);cases e;rfl
 |ref a=>cases(show u=Value.ref a from r);rfl
 |ty n=>cases(show u=Value.type n from r);rfl
section
variable {P:Program}{w:World}{H H':Hp}{h h':Heap}{a C dx:Addr}{fs fs':List (Str×V)}
theorem uk (hok:pL P w H h)(e:H a=some (.ins C dx fs)):∃mA,BX h a dx C mA/\(∀f,qk (fs.lookup f) (mA f))/\PySem.Within mA (fs.map (·.1))/\fs.length<=1000/\H dx=some (.own a):=by obtain⟨d,z,ne,ob,mA,n,r,q⟩:=(show fo P w H h a (.ins C dx fs)from hok a _ e);exact⟨mA,⟨ob,n,ne⟩,r,q,z,d⟩
end
structure Pe (K:LO)(C:Addr):Prop where
 pg:PySem.W.plainGet K C Str.empty=true
 hd:PySem.W.hasDictIn K C=true
 po:PySem.W.plainOver K C=true
 sa:PySem.W.findIn K (.ref C) "__setattr__"=some (some (.builtin "object.__setattr__"))
theorem Pe.get {K:LO}{C:Addr}(c:Pe K C)(f:Str):PySem.W.plainGet K C f=true:=c.pg
def kg (K:LO)(C:Addr)(f:Str):Prop:=PySem.W.findIn K (.ref C) f=some none
theorem kg.taker {K:LO}{C:Addr}{f:Str}(n:kg K C f):PySem.W.takerIn K C f=some none:=by unfold PySem.W.takerIn;rw[show PySem.W.findIn K (.ref C) f=some none from n];rfl
section
variable {X:Cx}{pins:LD}{σ:St}{H:Hp}{s:Shared}{a C dx:Addr}{fs:List (Str×V)}{f:Str}{v:V}{A:Around}{E:LP}
theorem Dk {b:Bool}{Q:LP}(I:Inv X pins σ H s)(e:H a=some (.ins C dx fs))(c:Pe X.K C)(n:kg X.K C f)(l:fs.lookup f=some v)(h:∀u s',Inv X pins σ H s'->dQ v u->Q u s'):wpAny (model X.prog X.w) A (getAttr (.ref a) f b) Q E s:=by obtain⟨mA,O,r,_,_,_⟩:=uk I.hok e;obtain⟨u,j,g⟩:=qk.some_of (v:=v) (o:=mA f) (by rw[<-l];exact r f);exact FB I.kIn O (c.get f) c.hd n j (HZ g) (h u _ (I.tok _) g)
theorem Cy {y:V}{u:Value}{Q:Unit->Shared->Prop}(I:Inv X pins σ H s)(e:H a=some (.ins C dx fs))(c:Pe X.K C)(n:kg X.K C f)(hl:fs.length<1000)(t:dQ y u)(h:∀s',Inv X pins σ (upd H a (.ins C dx (pC f y fs))) s'->Q () s'):wpAny (model X.prog X.w) A (setAttr (.ref a) f u) Q E s:=by
 obtain⟨mA,O,r,wi,_,l⟩:=uk I.hok e;have hz:(fs.map (·.1)).length<=sizeLine:=by rw[aa,sizeLine_eq];lia
 refine Nd I.kIn O c.sa c.po n.taker c.hd wi hz λh' j p=>h _ ?_;have hd:∃o,h'.get? dx=some o:=let⟨o,_,_,T,_⟩:=j.ns;⟨o,T⟩;refine I.write (x:=a) (e:=dx) (by rw[e];exact True.intro) (.inr l) (λb q hb z=>(p.2 b hb).trans z) hd ?_;refine⟨by rw[aW O.ne];exact l,?_,O.ne,j.obj,_,j.ns,λg=>?_,λg J=>?_⟩;have:=tE f y fs;lia;show qk ((pC f y fs).lookup g) (if g=f then some u else mA g);rw[tz];by_cases q:g=f;rw[if_pos q,if_pos q];exact t;rw[if_neg q,if_neg q];exact r g;by_cases q:g=f;rw[q];exact(sF f y fs).1;refine(sF f y fs).2 g (wi g λz=>J ?_);show(if g=f then some u else mA g)=none;rw[if_neg q];exact z
theorem Inv.made (I:Inv X pins σ H s):Inv X pins σ (upd (upd H s.heap.objs.size (.own (s.heap.objs.size+1))) (s.heap.objs.size+1) (.ins C s.heap.objs.size []))
  {s with heap:=(s.heap.push PySem.W.emptyDict).push (PySem.W.instObj C s.heap.objs.size)}:=by
 have g:(s.heap.push PySem.W.emptyDict).get? s.heap.objs.size=some PySem.W.emptyDict:=aQ s.heap rfl;have t:((s.heap.push PySem.W.emptyDict).push (PySem.W.instObj C s.heap.objs.size)).get? (s.heap.objs.size+1)=some (PySem.W.instObj C s.heap.objs.size):=by have:=aQ (s.heap.push PySem.W.emptyDict) (o:=PySem.W.instObj C s.heap.objs.size) rfl;rwa[dj]at this
 have p:(s.heap.push PySem.W.emptyDict).Ns s.heap.objs.size (λ_=>none):=⟨PySem.W.emptyDict,#[],_,g,rfl,(λe l=>absurd l (by simp)),λ_=>rfl⟩;have J:=I.laid (a:=s.heap.objs.size) (o:=.own (s.heap.objs.size+1)) (h':=s.heap.push PySem.W.emptyDict) (t':=s.toks) (λb u q=>ai _ q) (av _) ⟨_,g⟩;refine J.laid (a:=s.heap.objs.size+1) (o:=.ins C s.heap.objs.size []) (t':=s.toks) (λb u q=>ai _ q) (DH (dj _ _)) ?_;have ne:s.heap.objs.size≠s.heap.objs.size+1:=bB (mX _);refine⟨by rw[aW ne,au],bp _,ne,t,λ_=>none,(Heap.Ns1.of_empty p).at λo q=>ai _ q,λ_=>True.intro,λy j=>absurd rfl j⟩
theorem FV {prog:Program}{w:World}{env:Env}{e:Expr}{f:Str}{pos:Pos}{s:Shared}{Q:LP}(hb:attributeBase e f env (eval e env)=eval e env)(h:wpAny (model prog w) A (eval e env) (λo s₁=>wpAny (model prog w) A (getAttr o f true) Q E s₁) E s):wpAny (model prog w) A (eval (.Attribute e f pos) env) Q E s:=
 Attribute_any_ h (by rw[arm_eval_Attribute,hb])
end
inductive Jj (K:LO)(f:Str)(Q:VK)(x:V)(H1:Hp):Prop|mk (a C dx fs v:_) (_:x=.ref a) (_:H1 a=some (.ins C dx fs)) (_:Pe K C) (_:kg K C f) (_:fs.lookup f=some v) (_:Q v H1):Jj K f Q x H1
def UM (K:LO)(ta:TE)(f:Str):TE:=λσ H Q=>ta σ H λx H1=>Jj K f Q x H1
inductive JV (K:LO)(f:Str)(D:qr)(σ:L2.St)(y:V)(x:V)(H2:Hp):Prop|mk (a C dx fs:_) (_:x=.ref a) (_:H2 a=some (.ins C dx fs)) (_:Pe K C) (_:kg K C f) (_:fs.length<1000) (_:D.nx σ (upd H2 a (.ins C dx (pC f y fs)))):JV K f D σ y x H2
def UR (K:LO)(ta tv:TE)(f:Str):TS:=λD σ H=>tv σ H λy H1=>ta σ H1 λx H2=>JV K f D σ y x H2
section
variable {X:Cx}{o e value:Expr}{f:Str}{pos pos' tpos:Pos}{ta tv:TE}
theorem im (p:PE X e ta)(hb:attributeBase e f X.env (eval e X.env)=eval e X.env):PE X (.Attribute e f pos) (UM X.K ta f):=by with_unfolding_all
 intro pins s σ H Q I h;refine FV hb (gm (p pins s σ H _ I h) λu s1 ⟨x,H1,T,g,a,C,dx,fs,v,ex,t,c,n,l,q⟩=>?_);subst ex;obtain rfl:u=Value.ref a:=g;exact Dk T t c n l λU s2 J j=>⟨v,H1,J,j,q⟩
theorem sj (U:PE X o ta)(T:PE X value tv)(hs:swapsWith value (some (.Attribute o f pos')) pos.line X.env=pure false):PS X (.Assign [.Attribute o f pos'] value pos) (UR X.K ta tv f):=by with_unfolding_all
 intro pins s σ H D I h;refine plainObj_wpAny_Assign_Attribute (gm (T pins s σ H _ I h) λu g ⟨y,H1,I1,j,q⟩=>gm (U pins g σ H1 _ I1 q) λJ s2 ⟨x,H2,I2,p,a,C,dx,fs,ex,ea,c,n,l,t⟩=>?_) hs;subst ex;obtain rfl:J=Value.ref a:=p;exact Cy I2 ea c n l j λs3 I3=>⟨σ,_,I3,t⟩
end
section
variable {X:Cx}{pins:LD}{σ:St}{H:Hp}{s:Shared}{A:Around}{E:LP}{Q:LP}{c:Value}{b:Bool}
inductive sO (K:LO)(H:Hp):V->Value->Prop where
 |non:sO K H .non (.type "NoneType")
 |bl (x:Bool):sO K H (.bl x) (.type "bool")
 |int (i:Int):sO K H (.int i) (.type "int")
 |str (x:Str):sO K H (.str x) (.type "str")
 |flt (x:UInt64):sO K H (.flt x) (.type "float")
 |lst {a:Addr} {xs:LI} (e:H a=some (.lst xs)):sO K H (.ref a) (.type "list")
 |frz {a:Addr} {o:Obj} {xs:LI} (e:H a=some (.frz o (.lst xs))):sO K H (.ref a) (.type "list")
 |tup {a:Addr} {xs:LI} (e:H a=some (.tup xs)):sO K H (.ref a) (.type "tuple")
 |dK {a:Addr} {kvs:List (jE×V)} (e:H a=some (.dK kvs)):sO K H (.ref a) (.type "dict")
 |dT {a:Addr} {kvs:List (List jE×V)} (e:H a=some (.dT kvs)):sO K H (.ref a) (.type "dict")
 |ins {a C dx:Addr} {fs:List (Str×V)} (e:H a=some (.ins C dx fs)) (cl:Pe K C) (p:PySem.W.findIn K (.ref C) "__class__"=some (some (.builtin "object.__class__")))
   (j:PySem.W.specialIn K (.builtin "object.__class__") "__get__"=some (some (.builtin "getset_descriptor.__get__"))) (g:PySem.W.takesIn K (.builtin "object.__class__")=some true)
   (l:PySem.W.mroIn K C (.type "object")=some true):sO K H (.ref a) (.ref C)
theorem HP {x:V}{u t:Value}(I:Inv X pins σ H s)(g:dQ x u)(ty:sO X.K H x t)(e:PySem.W.kitOne X.K t c=some b)(h:∀tk,Q (.bool b) {s with toks:=tk}):
  wpAny (model X.prog X.w) A (call (.builtin "isinstance") [u,c]) Q E s:=by
 cases ty with
 |non=>cases(show u=Value.none from g);exact ft PySem.W.kitx_none I.kIn True.intro e (λz=>nomatch z) h
 |bl y=>cases(show u=Value.bool y from g);exact ft PySem.W.kitx_bool I.kIn True.intro e (λz=>nomatch z) h
 |int i=>obtain⟨t,q⟩:=(show∃t,u=Value.int i t from g);cases q;exact ft PySem.W.kitx_int I.kIn True.intro e (λz=>nomatch z) h
 |str y=>obtain⟨t,q⟩:=(show∃t,u=Value.str y t from g);cases q;exact ft PySem.W.kitx_str I.kIn True.intro e (λz=>nomatch z) h
 |flt y=>obtain⟨t,q⟩:=(show∃t,u=Value.float y t from g);cases q;exact ft PySem.W.kitx_float I.kIn True.intro e (λz=>nomatch z) h
 | @lst a xs j=>cases(show u=Value.ref a from g);obtain⟨_,_,n,_,h1⟩:=(show fo X.prog X.w H s.heap a (.lst xs)from I.hok a _ j);exact ft PySem.W.kitx_list I.kIn ⟨_,h1,rfl⟩ e (λz=>nomatch z) h
 | @frz a ob xs j=>cases(show u=Value.ref a from g);obtain⟨_,_,_,n,_,h1⟩:=(show fo X.prog X.w H s.heap a (.frz ob (.lst xs))from I.hok a _ j);exact ft PySem.W.kitx_list I.kIn ⟨_,h1,rfl⟩ e (λz=>nomatch z) h
 | @tup a xs j=>cases(show u=Value.ref a from g);obtain⟨_,_,_,p⟩:=(show fo X.prog X.w H s.heap a (.tup xs)from I.hok a _ j);obtain⟨o,h1,h2,_⟩:=p;exact ft PySem.W.kitx_tuple I.kIn ⟨o,h1,h2⟩ e (λz=>nomatch z) h
 | @dK a kvs j=>cases(show u=Value.ref a from g);obtain⟨_,_,vs,_,p⟩:=(show fo X.prog X.w H s.heap a (.dK kvs)from I.hok a _ j);obtain⟨o,es,ep,h1,h2,_⟩:=p;exact ft PySem.W.kitx_dict I.kIn ⟨o,h1,h2.1⟩ e (λz=>nomatch z) h
 | @dT a kvs j=>cases(show u=Value.ref a from g);obtain⟨_,_,xs,_,o,es,ep,h1,h2,_⟩:=(show fo X.prog X.w H s.heap a (.dT kvs)from I.hok a _ j);exact ft PySem.W.kitx_dict I.kIn ⟨o,h1,h2.1⟩ e (λz=>nomatch z) h
 | @ins a C dx fs j cl ha T l U=>cases(show u=Value.ref a from g);obtain⟨mA,O,_⟩:=uk I.hok j;obtain⟨od,J,_⟩:=O.look;exact ft (PySem.W.kitx_own (cl.get _) cl.hd ha T l U) I.kIn J e (λz=>nomatch z) h
end
structure ji (k:Nat)(A:Around):Prop where
 hd:A.handled=none
 dp:A.depth+3*k+5<recursionLimit
 un:A.units+16*k+200<cLine
 gd:A.guards=some []
theorem ji.mono {j k:Nat}{A:Around}(r:ji k A)(h:j<=k):ji j A:=⟨r.hd,by have:=r.dp;lia,by have:=r.un;lia,r.gd⟩
theorem ji.deeper {k:Nat}{A:Around}(r:ji (k+1) A)(env:Env):ji k (A.deeper env):=
 ⟨r.hd,by have:=r.dp;show A.depth+1+3*k+5<_;lia,by have:=r.un;show A.units+3+16*k+200<_;lia,r.gd⟩
theorem C7 {A:Around}{C:Addr}{us:LJ}{kw:List (Str×Value)}:(A.under (.builtin "type.__call__" ⟨.ref C::us,kw⟩)).depth=A.depth+1:=by first|rfl|simp[Around.under,Code.weight,Code.isCreation,Code.isGuard,Code.isCaller,Code.frames,Code.isFrame,guardIds]
theorem C5 {A:Around}{C:Addr}{us:LJ}{kw:List (Str×Value)}:(A.under (.builtin "type.__call__" ⟨.ref C::us,kw⟩)).units=A.units+1:=by first|rfl|simp[Around.under,Code.cUnits,Code.frames,Code.isFrame]
theorem ji.make {k:Nat}{A:Around}(r:ji (k+1) A)(C:Addr)(us:LJ)(kw:List (Str×Value)):ji k (A.under (.builtin "type.__call__" ⟨.ref C::us,kw⟩)):=
 ⟨r.hd,by have:=r.dp;rw[C7];lia,by have:=r.un;rw[C5];lia,by first|exact r.gd|simpa[Around.under,Code.guards,Code.isGuard,pushGuards,guardIds]using r.gd⟩
theorem ji.depth {k:Nat}{A:Around}(r:ji k A):A.depth<recursionLimit:=by have:=r.dp;lia
theorem ji.units {k:Nat}{A:Around}(r:ji k A):A.units+64<cLine:=by have:=r.un;lia
def Qh:TA:=λ_ H Q=>Q [] H
def DX (ta:TE)(tr:TA):TA:=λσ H Q=>ta σ H λx H1=>tr σ H1 λxs H2=>Q (x::xs) H2
section
variable {X:Cx}{e:Expr}{es:LN}{te:TE}{t:TA}{pos:Pos}
theorem aj:PA X [] Qh:=by with_unfolding_all exact(λ_ _ _ _ H Q I h=>Calls.spliced_nil ⟨[],H,I,.nil,h⟩)
theorem ac (T:PE X e te)(J:PA X es t)(hs:starEach (e::es) X.env=(false,eval e X.env)::starEach es X.env:=by rfl):PA X (e::es) (DX te t):=by with_unfolding_all
 intro pos pins s σ H Q I h;rw[hs];show wpAny _ _ (spliced ((false,eval e X.env)::backTo pos (starEach es X.env))) _ _ s;refine Calls.spliced_cons (gm (T pins s σ H _ I h) λu g ⟨x,H1,I1,l,C⟩=>?_);exact gm (J pos pins g σ H1 _ I1 C) λus s2 ⟨xs,H2,U,j,p⟩=>⟨x::xs,H2,U,.cons l j,p⟩
def Qg (t:TA):TE:=λσ H Q=>t σ H λxs H1=>xs.length<=sizeLine/\∀p,H1 p=none->Q (.ref p) (upd H1 p (.tup xs))
def UK (t:TA):TE:=λσ H Q=>t σ H λxs H1=>xs.length<=sizeLine/\∀p,H1 p=none->Q (.ref p) (upd H1 p (.lst xs))
theorem dm {l}(h:PA X es t):PE X (.Tuple es l pos) (Qg t):=by with_unfolding_all
 intro pins s σ H Q I p;refine wpAny_Tuple_spliced (gm (h pos pins s σ H _ I p) λus g ⟨xs,H1,j,r,z,q⟩=>⟨by rw[<-r.length];exact z,?_⟩);have C:H1 g.heap.objs.size=none:=j.hok.fresh (av _);refine⟨.ref g.heap.objs.size,upd H1 g.heap.objs.size (.tup xs),j.laid (t':=g.toks) (λb u e=>ai _ e) (av _) ?_,rfl,q _ C⟩;exact⟨z,us,r,⟨_,aQ _ rfl,rfl,_,rfl⟩⟩
theorem dC (h:PA X es t):PE X (.List es pos) (UK t):=by with_unfolding_all
 intro pins s σ H Q I l;refine wpAny_List_spliced (gm (h pos pins s σ H _ I l) λus g ⟨xs,H1,j,r,z,q⟩=>⟨by rw[<-r.length];exact z,?_⟩);have p:H1 g.heap.objs.size=none:=j.hok.fresh (av _);refine⟨.ref g.heap.objs.size,upd H1 g.heap.objs.size (.lst xs),j.laid (t':=g.toks) (λb u e=>ai _ e) (av _) ?_,rfl,q _ p⟩;exact⟨z,us,0,r,aQ _ rfl⟩
end
abbrev Sp:=List V->Hp->VK->XK->Prop
abbrev Pg:=List Env->Hp->Shared->XK->Value->Shared->Prop
structure DN (P:Program)(w:World)(K:LO)(mg:LQ)(base:Heap)(A:Around)(outer:List Env)(s:Shared)(H:Hp):Prop where
 frames:A.frames=some outer
 mod:Mod K mg base
 bs:∀b o,base.get? b=some o->s.heap.get? b=some o/\H b=none
 bsz:base.objs.size<=s.heap.objs.size
 funs:s.heap.FunFrames base outer
 frf:∀b∈Mj outer,H b=none
 hok:pL P w H s.heap
 bare:AllBare s.gens
inductive Up (outer:List Env)(P:Program)(w:World)(H:Hp)(s:Shared)(Q:VK)(u:Value)(s':Shared):Prop|mk (v H':_) (_:s'.os=s.os) (_:AllBare s'.gens) (_:Un (Mj outer) [] H H' s.heap s'.heap) (_:pL P w H' s'.heap) (_:dQ v u) (_:Q v H'):Up outer P w H s Q u s'
def CE (outer:List Env)(P:Program)(w:World)(H:Hp)(s:Shared)(Q:VK)(u:Value)(s':Shared):Prop:=Up outer P w H s Q u s'
def CR (CX:Pg)(outer:List Env)(P:Program)(w:World)(H:Hp)(s:Shared)(Q:VK)(E:XK)(r:Result)(s':Shared):Prop:=
 match r with
 | .ok (.ret u)=>CE outer P w H s Q u s'
 | .ok _=>False
 | .error e=>CX outer H s E e s'
structure cW (P:Program)(w:World)(K:LO)(mg:LQ)(base:Heap)(CX:Pg)(k:Nat)(f:Addr)(fd:FuncData)(ps:LM)(sp:Sp):Prop where
 len:∀vs H Q E,sp vs H Q E->vs.length=ps.length
 run:∀(A:Around) (outer:List Env) (s:Shared) (H:Hp) (args:Args) (us:LJ) (vs:LI) (Q:VK) (E:XK),ji k A->DN P w K mg base A outer s H->BindsTo s fd args (ps.zip us)->dc vs us->sp vs H Q E->
  codeAny (model P w) A (.call (.ref f) args) (CR CX outer P w H s Q E) s
theorem DN.make {P:Program}{w:World}{K:LO}{mg:LQ}{base:Heap}{A:Around}{outer:List Env}{s:Shared}{H:Hp}(e:DN P w K mg base A outer s H)(C:Addr)(us:LJ)(kw:List (Str×Value)):
  DN P w K mg base (A.under (.builtin "type.__call__" ⟨.ref C::us,kw⟩)) outer s H:=⟨by first|exact e.frames|(simpa[Around.under,Code.envs,Code.isFrame,pushEnvs]using e.frames),e.mod,e.bs,e.bsz,e.funs,e.frf,e.hok,e.bare⟩
section
variable {X:Cx}{pins:LD}{σ:St}{H:Hp}{s s':Shared}
theorem Inv.env0 (I:Inv X pins σ H s):DN X.prog X.w X.K X.mg X.base X.A X.stack s H:=
 ⟨I.ok.frames,I.ok.mod,I.bs,bj I.ok.bsz I.sz,I.stack,I.stkFree,I.hok,I.bare⟩
theorem Inv.after {Q:VK}{u:Value}(I:Inv X pins σ H s)(h:CE X.stack X.prog X.w H s Q u s'):EP X pins σ Q u s':=by obtain⟨v,H',os,bare,un,hok,r,q⟩:=h;obtain⟨l,g,d,t,j⟩:=s';obtain rfl:j=s.os:=os;exact⟨v,H',I.call (h':=l) (g':=g) (d':=d) (t':=t) (ch:=[]) un hok bare (λb z=>absurd z (by simp)),r,q⟩
end
def Jk (sp:Sp)(dvs:LI)(E:XK)(t:TA):TE:=λσ H Q=>t σ H λvs H1=>sp (vs++dvs) H1 Q E
def Ss (C:Addr)(sp:Sp)(dvs:LI)(E:XK)(t:TA):TE:=λσ H Q=>t σ H λvs H1=>∀x dx,H1 x=none->H1 dx=none->dx≠x->
 sp (.ref x::(vs++dvs)) (upd (upd H1 dx (.own x)) x (.ins C dx [])) (λv H2=>v=.non/\Q (.ref x) H2) E
def pM (K:LO)(fd:FuncData)(ps:LM)(ds:LJ):Prop:=
 ∀(s:Shared) (us:LJ),K.In s.heap->(us++ds).length=ps.length->BindsTo s fd ⟨us,[]⟩ (ps.zip (us++ds))
theorem pM.all {K:LO}{fd:FuncData}{ps:LM}(h:∀us:LJ,us.length=ps.length->bindArgs fd ⟨us,[]⟩=pure (ps.zip us)):pM K fd ps []:=λs us _ hl=>by rw[iC]at hl ⊢;exact .of_eq (h us hl)
def vX (CX:Pg)(X:Cx)(E:XK):Prop:=∀(pins:LD) (σ:St) (H:Hp) (s:Shared) (e:Value) (s':Shared),Inv X pins σ H s->CX X.stack H s E e s'->X.xe e s'
section
variable {X:Cx}{CX:Pg}{k:Nat}{f C:Addr}{fd:FuncData}{ps:LM}{sp:Sp}{dvs:LI}{ds:LJ}{E:XK}{x m:Str}{p pos apos:Pos}{e o:Expr}{es:LN}{ta:TE}{t:TA}
theorem Qx {pins:LD}{σ:St}{H:Hp}{s:Shared}{Q:VK}{us:LJ}{vs:LI}(F:cW X.prog X.w X.K X.mg X.base CX k f fd ps sp)(p:ji k X.A)(hb:pM X.K fd ps ds)(hd:dc dvs ds)(l:vX CX X E)(I:Inv X pins σ H s)(r:dc vs us)(h:sp (vs++dvs) H Q E):wpAny (model X.prog X.w) X.A (call (.ref f) us) (EP X pins σ Q) X.xe s:=by
 have j:dc (vs++dvs) (us++ds):=r.append hd;have hl:(us++ds).length=ps.length:=by rw[<-j.length];exact F.len _ _ _ _ h
 refine wpAny_call (codeAny_mono (F.run X.A X.stack s H ⟨us,[]⟩ (us++ds) (vs++dvs) Q E p I.env0 (hb s us I.kIn hl) j h) λr s' g=>?_);cases r with|error e=>exact l pins σ H s e s' I g|ok t=>cases t with|ret u=>exact I.after g|next=>exact False.elim g|brk=>exact False.elim g|cont=>exact False.elim g
theorem NH (F:cW X.prog X.w X.K X.mg X.base CX k f fd ps sp)(J:ji k X.A)(U:Gl X x)(T:X.mg x=some (.ref f))(hk:PySem.W.keepIn X.K (.ref f)=true)(hb:pM X.K fd ps ds)(hd:dc dvs ds)(C:vX CX X E)(ha:PA X (e::es) t)(j:(x==("__debug__":Str))=false:=by decide)(he:starEach (e::es) X.env=(false,eval e X.env)::starEach es X.env:=by rfl)(g:(backTo pos (starEach es X.env)).any (·.1)=false:=by rfl):
  PE X (.Call (.Name x p) (e::es) [] pos) (Jk sp dvs E t):=by with_unfolding_all
 intro pins s σ H Q I h;refine fw (yT I U T ?_ j);refine PySem.W.callWith_K (h₀:=X.base) I.ok.mod.kin hk (gm (ha pos pins s σ H _ I h) λus s1 ⟨vs,H1,l,r,q⟩=>⟨l.kIn,?_⟩) he g;exact Qx F J hb hd C l r q
structure Mk (K:LO)(C f:Addr):Prop where
 makes:PySem.W.makesIn K C=true
 init:PySem.W.findIn K (.ref C) "__init__"=some (some (.ref f))
 fn:PySem.W.isFn K (.ref f)=true
 kp:PySem.W.keepIn K (.ref C)=true
theorem JW {pins:LD}{σ:St}{H:Hp}{s:Shared}{Q:VK}{us:LJ}{vs:LI}(M:Mk X.K C f)(F:cW X.prog X.w X.K X.mg X.base CX k f fd ps sp)(U:ji (k+1) X.A)(hb:pM X.K fd ps ds)(hd:dc dvs ds)(T:vX CX X E)(I:Inv X pins σ H s)(r:dc vs us)(h:∀x dx,H x=none->H dx=none->dx≠x->sp (.ref x::(vs++dvs)) (upd (upd H dx (.own x)) x (.ins C dx [])) (λv H2=>v=.non/\Q (.ref x) H2) E):
  wpAny (model X.prog X.w) X.A (call (.ref C) us) (EP X pins σ Q) X.xe s:=by
 have p:=h (s.heap.objs.size+1) s.heap.objs.size (I.hok.fresh (fY _)) (I.hok.fresh (av _)) (bB (mX _));have j:=Inv.made (C:=C) I;have l:dc (V.ref (s.heap.objs.size+1)::(vs++dvs)) (Value.ref (s.heap.objs.size+1)::(us++ds)):=.cons rfl (r.append hd);have hl:(Value.ref (s.heap.objs.size+1)::us++ds).length=ps.length:=by have e:=l.length;rw[F.len _ _ _ _ p]at e;exact e.symm
 refine wpAny_call (Li (f:=f) I.kIn M.makes M.init (beq_iff_eq.mp M.fn) (codeAny_mono (F.run _ X.stack _ _ ⟨Value.ref (s.heap.objs.size+1)::us,[]⟩ (Value.ref (s.heap.objs.size+1)::(us++ds)) _ _ E (U.make C us [])
  (j.env0.make C us []) (hb _ (Value.ref (s.heap.objs.size+1)::us) j.kIn hl) l p) λr s' g=>?_))
 cases r with
 |error e=>exact T pins σ _ _ e s' j g
 |ok fl=>
  cases fl with
  |ret u=>obtain⟨v,H',I3,t,ev,J⟩:=j.after g;subst ev;exact⟨t,⟨V.ref (s.heap.objs.size+1),H',I3,rfl,J⟩⟩
  |next=>exact False.elim g
  |brk=>exact False.elim g
  |cont=>exact False.elim g
theorem yL (M:Mk X.K C f)(F:cW X.prog X.w X.K X.mg X.base CX k f fd ps sp)(T:ji (k+1) X.A)(hg:Gl X x)(U:X.mg x=some (.ref C))(hb:pM X.K fd ps ds)(hd:dc dvs ds)(J:vX CX X E)(ha:PA X (e::es) t)(j:(x==("__debug__":Str))=false:=by decide)(he:starEach (e::es) X.env=(false,eval e X.env)::starEach es X.env:=by rfl)(g:(backTo pos (starEach es X.env)).any (·.1)=false:=by rfl):
  PE X (.Call (.Name x p) (e::es) [] pos) (Ss C sp dvs E t):=by with_unfolding_all
 intro pins s σ H Q I h;refine fw (yT I hg U ?_ j);refine PySem.W.callWith_K (h₀:=X.base) I.ok.mod.kin M.kp (gm (ha pos pins s σ H _ I h) λus s1 ⟨vs,H1,l,r,q⟩=>⟨l.kIn,?_⟩) he g;exact JW M F T hb hd J l r q
end
@[irreducible] def PK (X:Cx) (kws:List Keyword) (t:TA):Prop:=
 ∀(pos:Pos) (pins:LD) (s:Shared) (σ:St) (H:Hp) (Q:List V->Hp->Prop),Inv X pins σ H s->t σ H Q->wpAny (model X.prog X.w) X.A (evalAll ((backToKw pos (keywordEach kws X.env)).map (·.2))) (AP X pins σ Q) X.xe s
section
variable {X:Cx}{CX:Pg}{k:Nat}{f C:Addr}{fd:FuncData}{ps ks:LM}{sp:Sp}{E:XK}{x m:Str}{p pos apos kpos:Pos}{e o:Expr}{es:LN}{kws:List Keyword}{te ta:TE}{t tk:TA}{nm:Option Str}
theorem QE:PK X [] Qh:=by with_unfolding_all exact(λ_ _ _ _ H Q I h=>wpAny_evalAll_nil ⟨[],H,I,.nil,h⟩)
theorem ND (T:PE X e te)(J:PK X kws t):PK X (⟨nm,e,kpos⟩::kws) (DX te t):=by with_unfolding_all
 intro pos pins s σ H Q I h;show wpAny _ _ (evalAll ((do let v<-eval e X.env;standAt pos;pure v)::(backToKw pos (keywordEach kws X.env)).map (·.2))) _ _ s;refine wpAny_evalAll_cons (ae (gm (T pins s σ H _ I h) λu g ⟨x,H1,I1,l,C⟩=>ae (qC (ak ?_))));exact gm (J pos pins g σ H1 _ I1 C) λus s2 ⟨xs,H2,U,j,p⟩=>⟨x::xs,H2,U,.cons l j,p⟩
variable {g:List Value->List Value->LJ}{gV:List V->List V->LI}
end
structure bv (N P:LM)(sc:Scope):Prop where
 kind:sc.kind=.function:=by rfl
 co:sc.isCoroutine=false:=by rfl
 gen:sc.isGenerator=false:=by rfl
 nd:N.Nodup:=by decide+kernel
 pre:N.take P.length=P:=by rfl
 par:∀x∈P,sc.names.lookup x=some .local\/sc.names.lookup x=some .cell:=by decide+kernel
 nofree:∀y∈sc.names,y.2≠.free:=by decide+kernel
theorem xU {kindOf:Str->Option NameKind}{x:Str}:∀{binds:List (Str×Value)} {m:LQ},(∀v,(x,v)∉binds)->bindL kindOf binds m x=m x
 |[],_,_=>rfl
 |(n,v)::r,m,h=>by
  unfold bindL;rw[xU λw g=>h w (aB _ g)];split;have:x≠n:=by rintro rfl;exact h v aM
  simp[this];rfl
theorem xW {kindOf:Str->Option NameKind}{x:Str}:∀{binds:List (Str×Value)} {m:LQ},(∀v,(x,v)∉binds)->bindC kindOf binds m x=m x
 |[],_,_=>rfl
 |(n,v)::r,m,h=>by
  unfold bindC;rw[xW λw g=>h w (aB _ g)];split;rfl;have:x≠n:=by rintro rfl;exact h v aM
  simp[this]
theorem xV {kindOf:Str->Option NameKind}{x:Str}{v:Value}:∀{P:LM} {vs:LJ} {i:Nat} {m:LQ},P.Nodup->P[i]?=some x->vs[i]?=some v->kindOf x=some .local->
  bindL kindOf (P.zip vs) m x=some v
 |[],_,_,_,_,h,_,_=>by simp at h
 |_::_,[],_,_,_,_,h,_=>by simp at h
 |p::P,w::vs,0,m,nd,h1,h2,hk=>by simp at h1 h2;subst h1;subst h2;show bindL kindOf ((p,w)::P.zip vs) m p=_;unfold bindL;rw[xU λv g=>(cA.mp nd).1 (List.of_mem_zip g).1,if_pos hk];simp
 |p::P,w::vs,i+1,m,nd,h1,h2,hk=>by show bindL kindOf ((p,w)::P.zip vs) m x=_;unfold bindL;exact xV (i:=i) (cA.mp nd).2 (by simpa using h1) (by simpa using h2) hk
theorem xX {kindOf:Str->Option NameKind}{x:Str}{v:Value}:∀{P:LM} {vs:LJ} {i:Nat} {m:LQ},P.Nodup->P[i]?=some x->vs[i]?=some v->kindOf x≠some .local->
  bindC kindOf (P.zip vs) m x=some v
 |[],_,_,_,_,h,_,_=>by simp at h
 |_::_,[],_,_,_,_,h,_=>by simp at h
 |p::P,w::vs,0,m,nd,h1,h2,hk=>by simp at h1 h2;subst h1;subst h2;show bindC kindOf ((p,w)::P.zip vs) m p=_;unfold bindC;rw[xW λv g=>(cA.mp nd).1 (List.of_mem_zip g).1,if_neg hk];simp
 |p::P,w::vs,i+1,m,nd,h1,h2,hk=>by show bindC kindOf ((p,w)::P.zip vs) m x=_;unfold bindC;exact xX (i:=i) (cA.mp nd).2 (by simpa using h1) (by simpa using h2) hk
def start (N:LM)(vs:LI):St:=vs.map some++List.replicate (N.length-vs.length) none
def vO (CX:Pg)(P:Program)(w:World)(K:LO)(mg:LQ)(base:Heap)(N:LM)(qual:Str)(scope:Scope)(f:Addr)(j:Value)(A:Around)(outer:List Env)(s:Shared)(H:Hp)(E:XK):Cx where
 prog:=P
 w:=w
 K:=K
 mg:=mg
 base:=base
 A:=A.deeper (envOfC qual scope s.heap.objs.size f j)
 N:=N
 s₀:=s
 H₀:=H
 env:=envOfC qual scope s.heap.objs.size f j
 outer:=outer
 stack:=envOfC qual scope s.heap.objs.size f j::outer
 ex:=[]
 calm:=true
 fn:=λ_=>true
 pn:=[]
 xe:=λe s'=>wpAny (model P w) (A.deeper (envOfC qual scope s.heap.objs.size f j)) (leaving (envOfC qual scope s.heap.objs.size f j) e) (λ_ g=>CX outer H s E e g) (λl g=>CX outer H s E l g) s'
theorem BJ {sc:Scope}{n:Nat}{x:Str}(h:sc.names.lookup x=some .cell):∃c,(cellsFrom n sc.names []).lookup x=some c:=by have q:=PySem.W.cellsFrom_some sc.names n [] (.inl h);exact iH.mp q
theorem HQ {CX:Pg}{P:Program}{w:World}{K:LO}{mg:LQ}{base:Heap}{N ps:LM}{qual:Str}{scope:Scope}{f:Addr}{C:Value}{A:Around}{outer:List Env}{s I:Shared}{H:Hp}{E:XK}{us:LJ}{vs:LI}(S:bv N ps scope)(hd:A.handled=none)(g:DN P w K mg base A outer s H)(hl:vs.length=ps.length)(r:dc vs us)(x:InCallC s s.heap.objs.size (bindL (envOfC qual scope s.heap.objs.size f C).kindOf (ps.zip us) λ_=>none) (cellsFrom (s.heap.objs.size+1) scope.names []) (bindC (envOfC qual scope s.heap.objs.size f C).kindOf (ps.zip us) λ_=>none) I):
  Inv (vO CX P w K mg base N qual scope f C A outer s H E) [] (start N vs) H I:=by
 have U:ps.length<=N.length:=by have:=congrArg List.length S.pre;rw[cm]at this;lia
 obtain⟨h1,tk,rfl,hk⟩:=x.done;have j:∀b:Addr,b∉(vO CX P w K mg base N qual scope f C A outer s H E).ex:=λb z=>absurd (show b∈([]:LK)from z) (by simp);refine⟨⟨g.mod,S.kind,rfl,rfl,av _,λy z c h1 h2=>?_,λy l=>?_,λy c _ h=>?_,λ_=>hd,Around.frames_deeper g.frames,.inr ⟨rfl,rfl⟩,λb z=>absurd z (j b),g.bs,g.bsz,λb _ _=>j b,λb z=>absurd z (j b),g.funs,g.frf⟩,
  rfl,g.bare,Un.kept hk,⟨_,x.toInCall.ns,λi y v h1 h2 h3=>?_⟩,λy c h=>⟨_,x.cell y c h⟩,g.hok.fresh (av _),λy c h=>?_,λp hp=>absurd (show p∈([]:LD)from hp) (by simp),g.hok.kept hk,?_⟩
 exact name_of_addr x.apart (eZ h1) (eZ h2);have l:scope.names.lookup y=some .cell\/scope.names.lookup y=some .free:=l;rcases l with l|l;exact BJ l;exact absurd rfl (S.nofree _ (eZ l));exact cu (x.above y c (eZ h));have hi:i<vs.length:=by unfold start at h2;by_cases hi:i<vs.length;exact hi;rw[aE (by simpa using hi)]at h2;rw[cz]at h2;split at h2<;>cases h2
 have ha:vs[i]?=some v:=by unfold start at h2;rw[aN (by simpa using hi),ao]at h2;cases e:vs[i]? with|none=>rw[e]at h2;cases h2|some a=>rw[e]at h2;cases h2;rfl
 obtain⟨u,J,T⟩:=r.get ha;have hp:ps[i]?=some y:=by rw[<-S.pre,List.getElem?_take_of_lt (by lia)];exact h1
 have t:ps.Nodup:=by rw[<-S.pre];exact S.nd.sublist (List.take_sublist _ _)
 refine⟨u,T,?_⟩;rcases S.par y (af hp)with k|k;exact .inl ⟨k,xV t hp J k⟩;obtain⟨c,e⟩:=BJ (n:=s.heap.objs.size+1) k;refine .inr ⟨.inl k,c,e,?_⟩;have q:=x.cell y c e;rw[xX t hp J (by show scope.names.lookup y≠_;rw[k];decide)]at q;exact q;exact g.hok.fresh (cu (x.above y c (eZ h)));unfold start;show _=N.length;rw[ah,aa,cN];lia
theorem P6 {CX:Pg}{P:Program}{w:World}{K:LO}{mg:LQ}{base:Heap}{k:Nat}{f:Addr}{name qual:Str}{g:Arguments}{body:List Stmt}{scope:Scope}{dV kV doc pm cdv ct oc:Value}{an od:LS}{osl:Array (LW)}{N ps:LM}{sp:Sp}(lk:K.lookup f=some ⟨oc,od,.func (PySem.W.fnOf name qual g body scope dV kV doc pm an cdv ct),osl⟩)(hcd:PySem.W.codeIn K cdv qual=true)(S:bv N ps scope)(len:∀vs H Q E,sp vs H Q E->vs.length=ps.length)(hbody:∀(A:Around) (outer:List Env) (s:Shared) (H:Hp) (vs:LI) (Q:VK) (E:XK),ji k (A.deeper (envOfC qual scope s.heap.objs.size f cdv))->sp vs H Q E->
   ∃t,PSs (vO CX P w K mg base N qual scope f cdv A outer s H E) body t/\t {nx:=λ_ H'=>Q .non H',rt:=Q} (start N vs) H):
  cW P w K mg base CX (k+1) f (PySem.W.fnOf name qual g body scope dV kV doc pm an cdv ct) ps sp:=by with_unfolding_all
 refine⟨len,λA outer s H args us vs Q E U p hb r l=>?_⟩;have hl:=len _ _ _ _ l;have KX:K.In s.heap:=p.mod.kin.keeps λb o e=>(p.bs b o e).1;have T:s.heap.NoLimit:=p.mod.nolimit.keeps λb o e=>(p.bs b o e).1;have hkind:∀y∈ps.zip us,scope.names.lookup y.1=some .local\/(scope.names.lookup y.1=some .cell/\((cellsFrom (s.heap.objs.size+1) scope.names []).lookup y.1).isSome=true):=λ⟨n,v⟩ hy=>by rcases S.par n (List.of_mem_zip hy).1 with q|q;exact .inl q;exact .inr ⟨q,PySem.W.cellsFrom_some _ _ _ (.inl q)⟩
 refine codeAny_call_function U.depth (KX _ _ lk) rfl S.co S.gen rfl (PySem.W.codeRec_of KX hcd) (hb _ _ _ _ ?_);refine wpAny_newFunctionEnv_cells S.kind hkind λenv he s1 x=>?_;subst he;refine⟨T.keeps x.toInCall.keep,codeAny_func ?_⟩;obtain⟨t,ht,hq⟩:=hbody A outer s H vs Q E (U.deeper _) l;have I:Inv (vO CX P w K mg base N qual scope f cdv A outer s H E) [] (start N vs) H s1:=HQ S U.hd p hl r x;refine ii (ht [] s1 (start N vs) H _ I hq) (λfl s' hs=>?_) λe s' hs=>hs;have fin:∀{j:St} {H':Hp} {v:V} {u:Value},Inv (vO CX P w K mg base N qual scope f cdv A outer s H E) [] j H' s'->dQ v u->Q v H'->CE outer P w H s Q u s':=
  λ{j H' v u} J C q=>⟨v,H',J.os,J.bare,J.base,J.hok,C,q⟩
 cases fl with
 |ret u=>obtain⟨v,j,H',J,C,q⟩:=hs;exact fin J C q
 |next=>obtain⟨j,H',J,q⟩:=hs;exact fin (v:=V.non) (u:=Value.none) J rfl q
 |brk=>obtain⟨_,_,_,q⟩:=hs;exact False.elim q
 |cont=>obtain⟨_,_,_,q⟩:=hs;exact False.elim q
section
variable {X:Cx}{x:Str}{p pos:Pos}{e:Expr}{es:LN}{t:TA}{id T:String}{r:List V->Hp->VK->Prop}
def VE (r:List V->Hp->VK->Prop)(t:TA):TE:=λσ H Q=>t σ H λvs H1=>r vs H1 Q
theorem bE (hc:k5 X (.builtin id) r)(hg:Gl X x)(hm:X.mg x=none)(T:bootBuiltins x=some (.builtin id))(ha:PA X (e::es) t)(U:x≠"__name__":=by decide)(j:(x==("__debug__":Str))=false:=by decide)(he:starEach (e::es) X.env=(false,eval e X.env)::starEach es X.env:=by rfl)(g:(backTo pos (starEach es X.env)).any (·.1)=false:=by rfl):PE X (.Call (.Name x p) (e::es) [] pos) (VE r t):=by with_unfolding_all
 intro pins s σ H Q I h;refine fw (ke I hg hm T ?_ U j);exact PyProof.Rows.callWith_builtin1 (gm (ha pos pins s σ H _ I h) λus l ⟨vs,H1,I1,C,J⟩=>hc pins l σ H1 vs us Q I1 C J) he g
theorem kJ (hc:k5 X (.type T) r)(hg:Gl X x)(hm:X.mg x=none)(U:bootBuiltins x=some (.type T))(ha:PA X (e::es) t)(hn:x≠"__name__":=by decide)(j:(x==("__debug__":Str))=false:=by decide)(he:starEach (e::es) X.env=(false,eval e X.env)::starEach es X.env:=by rfl)(g:(backTo pos (starEach es X.env)).any (·.1)=false:=by rfl):PE X (.Call (.Name x p) (e::es) [] pos) (VE r t):=by with_unfolding_all
 intro pins s σ H Q I h;refine fw (ke I hg hm U ?_ hn j);exact du (gm (ha pos pins s σ H _ I h) λus l ⟨vs,H1,I1,C,J⟩=>hc pins l σ H1 vs us Q I1 C J) he g
end
end L2
namespace HT
open PySem PyProof.Rows
section
open PySem.SeqAt
open PySem.AutoSeq1 (wpAny_loadPart')
open PySem.MeetsSeq PySem.MeetsSeq2 PySem.MeetsSeq3
end
section
variable {prog:Program}{w:World}{A:Around}{E:LP}{s:Shared}
def sIx (n d:Nat):Option Int->Nat
 |none=>d
 |some v=>if v<0 then(v+(n:Int)).toNat else min v.toNat n
theorem sIx_none (n d:Nat):sIx n d none=d:=rfl
theorem sIx_nat (n d k:Nat):sIx n d (some (k:Int))=min k n:=by show(if(k:Int)<0 then((k:Int)+(n:Int)).toNat else min (k:Int).toNat n)=min k n;rw[if_neg (by lia),bg]
theorem Qw (n d:Nat)(hd:d<=n)(o:Option Int):sIx n d o<=n:=by cases o with|none=>exact hd|some v=>show(if v<0 then(v+(n:Int)).toNat else min v.toNat n)<=n;by_cases g:v<0;rw[if_pos g];lia;rw[if_neg g];exact Nat.min_le_right _ _
theorem FR (v:Int)(n d:Nat):(if v<0 then max (v+(n:Int)) 0 else min v (n:Int))=((sIx n d (some v):Nat):Int):=by show(if v<0 then max (v+(n:Int)) 0 else min v (n:Int))=(((if v<0 then(v+(n:Int)).toNat else min v.toNat n):Nat):Int);by_cases g:v<0;simp only[if_pos g];lia;simp only[if_neg g];lia
theorem Dv (lo hi:Option Int)(n:Nat):Builtin.Slice.sliceAdjust lo hi 1 (n:Int)=(((sIx n 0 lo:Nat):Int),((sIx n n hi:Nat):Int)):=by
 have h1:¬((1:Int)<0):=by lia
 unfold Builtin.Slice.sliceAdjust;simp only[h1,gy];refine Prod.ext ?_ ?_;cases lo with|none=>rfl|some v=>exact FR v n 0
 cases hi with|none=>rfl|some v=>exact FR v n n
theorem CM (i j:Nat):Builtin.Slice.slicePlaces (i:Int) (j:Int) 1=j-i:=by
 unfold Builtin.Slice.slicePlaces;have h1:(1:Int)>0:=by lia
 simp only[h1,if_true,Int.ediv_one];split<;>lia
theorem uP {v:Value}{o:Option Int}{Q:Option Int->Shared->Prop}(p:IsPart v o)(h:Q o s):wpAny (model prog w) A (Builtin.Slice.slicePartIndex v) Q E s:=by cases p with|none=>exact slicePart_none h|int i t=>exact slicePart_int h
theorem rK {t:Addr}{p l:Value}{lo hi:Option Int}{n:Nat}{Q:Int×Int×Nat->Shared->Prop}(hs:s.heap.IsSliceOf t p l .none)(pl:IsPart p lo)(C:IsPart l hi)(h:Q (((sIx n 0 lo:Nat):Int),1,sIx n n hi-sIx n 0 lo) s):wpAny (model prog w) A (Builtin.Slice.sliceApplied (.ref t) (pure (n:Int))) Q E s:=by obtain⟨os,g,I,j⟩:=id hs;unfold Builtin.Slice.sliceApplied Builtin.Slice.sliceFields;refine ae (ae (fC g j (x:=p) rfl (ae (fC g j (x:=l) rfl (ae (fC g j (x:=.none) rfl (ak ?_)))))));refine ae (slicePart_none ?_);show wpAny _ _ (if((1:Int)==0)=true then _ else _) _ _ s;rw[if_neg (by decide)];refine ae (uP pl (ae (uP C (ae (ak ?_)))));show wpAny _ _ (match Builtin.Slice.sliceAdjust lo hi 1 (n:Int)with|(lo,hi)=>pure (lo,(1:Int),Builtin.Slice.slicePlaces lo hi 1)) _ _ s;rw[Dv lo hi n];show wpAny _ _ (pure (((sIx n 0 lo:Nat):Int),(1:Int),Builtin.Slice.slicePlaces ((sIx n 0 lo:Nat):Int) ((sIx n n hi:Nat):Int) 1)) _ _ s;rw[CM];exact ak h
theorem Kr (xs:LV)(i k:Nat):((List.range k).filterMap λ(m:Nat)=>xs[((i:Int)+(m:Int)*1).toNat]?).toArray=((xs.toList.drop i).take k).toArray:=by
 have e:(λ(m:Nat)=>xs[((i:Int)+(m:Int)*1).toNat]?)=λm=>xs[i+m]?:=by
  funext m;have:((i:Int)+(m:Int)*1).toNat=i+m:=by lia
  rw[this]
 rw[e];have:=pick_run xs i k;rw[List.filterMap_map]at this;have g:((λx=>xs[x]?)∘λx=>i+x)=λm=>xs[i+m]?:=rfl;rw[g]at this;rw[this]
theorem getItem_tuple_cut {t j:Addr}{items:LV}{T J:Value}{lo hi:Option Int}{Q:LP}(g:IsTup s.heap t items)(hs:s.heap.IsSliceOf j T J .none)(pl:IsPart T lo)(U:IsPart J hi)(hw:¬(sIx items.size 0 lo=0/\sIx items.size items.size hi=items.size))(h:Q (.ref s.heap.objs.size) {s with heap:=s.heap.push {cls:=.type "tuple",data:=.seq ((items.toList.drop (sIx items.size 0 lo)).take (sIx items.size items.size hi-sIx items.size 0 lo)).toArray}})(hsz:items.size<=sizeLine):wpAny (model prog w) A (getItem (.ref t) (.ref j)) Q E s:=by
 have htake:sizeOk (.seq ((items.toList.drop (sIx items.size 0 lo)).take (sIx items.size items.size hi-sIx items.size 0 lo)).toArray):=by show((items.toList.drop (sIx items.size 0 lo)).take (sIx items.size items.size hi-sIx items.size 0 lo)).toArray.size<=sizeLine;rw[aO,cm,fF,fb];lia
 have hj:sIx items.size items.size hi<=items.size:=Qw _ _ (av _) hi;obtain⟨os,l,C,hds⟩:=id hs;have I:s.TypeIs (.ref j) "slice":=⟨os,l,C⟩;unfold getItem
 try with_reducible refine dE ?_
 first|refine ae (ak ?_)|skip
 refine ae (wpAny_sequenceKey g.typeIs (by decide) ?_);refine ae (fD (name:=Str.ofString "__getitem__") g.typeIs PyProof.Rows.slot_tuple_getitem
  (df PyProof.Rows.slot_tuple_getitem g.typeIs entry_tuple_getitem ?_ (args_tuple_getitem _ _)))
 show wpAny _ _ (Builtin.Tuple.tupleItemsOf (.ref t)>>=_) _ _ s;refine ae (tupleItemsOf_ g ?_);refine ae (om I ?_);rw[if_pos (by decide)];refine ae (rK hs pl U ?_);have p:¬((((sIx items.size 0 lo:Nat):Int)==0&&(1:Int)==1&&(sIx items.size items.size hi-sIx items.size 0 lo)==items.size)=true):=by intro q;rw[dg,dg]at q;have q1:((sIx items.size 0 lo:Nat):Int)=0:=eq_of_beq q.1.1;have q2:sIx items.size items.size hi-sIx items.size 0 lo=items.size:=eq_of_beq q.2;exact hw ⟨by lia,by lia⟩
 show wpAny _ _ (if(((sIx items.size 0 lo:Nat):Int)==0&&(1:Int)==1&&(sIx items.size items.size hi-sIx items.size 0 lo)==items.size)=true then _ else _) _ _ s;rw[if_neg p,Kr];first
  |exact ae (m:=Builtin.Tuple.tupleExact _) (fe (ak ⟨_,rfl,ak h⟩) htake)
  |exact ae (m:=Builtin.Tuple.tupleExact _) (fe (ae (ak (ak ⟨_,rfl,ak h⟩))) htake)
  |exact ae (ae (m:=Builtin.Tuple.tupleExact _) (fe (ak (ak ⟨_,rfl,ak h⟩)) htake))
  |exact ae (ae (m:=Builtin.Tuple.tupleExact _) (fe (ak ⟨_,rfl,ak h⟩) htake))
end
end HT
namespace L2
open PySem PySem.Spec PyProof.Rows
abbrev TO:=St->Hp->(Option Int->Hp->Prop)->Prop
@[irreducible] def PO (X:Cx) (e:Option Expr) (t:TO):Prop:=
 ∀(pins:LD) (s:Shared) (σ:St) (H:Hp) (Q:Option Int->Hp->Prop),Inv X pins σ H s->t σ H Q->
  wpAny (model X.prog X.w) X.A (evalPart e X.env) (λu s'=>∃o H',Inv X pins σ H' s'/\IsPart u o/\Q o H') X.xe s
def M5:TO:=λ_ H Q=>Q none H
inductive DW (Q:Option Int->Hp->Prop)(x:V)(H1:Hp):Prop|mk (i:_) (_:x=.int i) (_:Q (some i) H1):DW Q x H1
def So (t:TE):TO:=λσ H Q=>t σ H λx H1=>DW Q x H1
theorem qi {ns:LH}:∀{us:LJ},dc (ns.map V.int) us->IntsAre us ns:=by induction ns with|nil=>intro us r;rw[jT]at r;cases r;exact .nil|cons n ns l=>intro us r;rw[aJ]at r;cases r with|cons j g=>obtain⟨t,e⟩:=j;subst e;exact .cons n t (l g)
section
variable {X:Cx}{e:Expr}{te:TE}{lo hi:Option Expr}{tl th:TO}{pos p2:Pos}
theorem lK:PO X none M5:=by with_unfolding_all
 intro pins s σ H Q I h;rw[evalPart_none];exact ak ⟨none,H,I,.none,h⟩
theorem jV (h:PE X e te):PO X (some e) (So te):=by with_unfolding_all
 intro pins s σ H Q I l;rw[evalPart_some];refine gm (h pins s σ H _ I l) λu C ⟨x,H1,p,g,j⟩=>?_;obtain⟨i,rfl,q⟩:=j;obtain⟨t,rfl⟩:=g;exact⟨some i,H1,p,.int i t,q⟩
def UA (X:Cx)(r:V->Option Int->Option Int->Hp->VK->Prop):Prop:=
 ∀(pins:LD) (s:Shared) (σ:St) (H:Hp) (x:V) (v j g:Value) (lo hi:Option Int) (l:Addr) (Q:VK),Inv X pins σ H s->dQ x v->s.heap.IsSliceOf l j g .none->IsPart j lo->IsPart g hi->r x lo hi H Q->
  ∃T id,typeLookup (.type T) "__getitem__"=pure (some (.builtin id))/\s.TypeIs v T/\wpAny (model X.prog X.w) X.A (getItem v (.ref l)) (EP X pins σ Q) X.xe s
def VQ (r:V->Option Int->Option Int->Hp->VK->Prop)(te:TE)(tl th:TO):TE:=λσ H Q=>te σ H λx H1=>tl σ H1 λl H2=>th σ H2 λu g=>r x l u g Q
theorem jp {r:V->Option Int->Option Int->Hp->VK->Prop}(hr:UA X r)(he:PE X e te)(hl:PO X lo tl)(hu:PO X hi th):PE X (.Subscript e (.Slice lo hi none p2) pos) (VQ r te tl th):=by with_unfolding_all
 intro pins s σ H Q I h;refine Subscript_ (gm (he pins s σ H _ I h) λv J ⟨x,H1,I1,U,q1⟩=>?_);refine wpAny_Slice (gm (hl pins J σ H1 _ I1 q1) λp C ⟨l,H2,I2,pl,q2⟩=>gm (hu pins C σ H2 _ I2 q2) λj g ⟨u,t,I3,pu,q3⟩=>?_);rw[evalPart_none];refine ak ?_;have I4:Inv X pins σ t {g with heap:=g.heap.push {cls:=.type "slice",data:=.fields #[p,j,.none]}}:=I3.kept (t':=g.toks) λb ob q=>ai _ q;obtain⟨T,id,hT,ht,hg⟩:=hr pins {g with heap:=g.heap.push {cls:=.type "slice",data:=.fields #[p,j,.none]}} σ t x v p j l u g.heap.objs.size Q I4 U (Heap.IsSliceOf.new ..) pl pu q3;show wpAny (model X.prog X.w) X.A (subscriptTail e (.Slice lo hi none p2) v (.ref g.heap.objs.size)) (EP X pins σ Q) X.xe {g with heap:=g.heap.push {cls:=.type "slice",data:=.fields #[p,j,.none]}};exact tail_any (ops:=[.ref g.heap.objs.size,v]) ht hT hg (by with_unfolding_all rfl)
def oN (xs:LI)(lo hi:Option Int):LI:=(xs.drop (HT.sIx xs.length 0 lo)).take (HT.sIx xs.length xs.length hi-HT.sIx xs.length 0 lo)
theorem tK (xs:LI)(lo hi:Option Int):(oN xs lo hi).length<=xs.length:=by unfold oN;rw[cm,fF];lia
inductive J3 (K:LO)(x:V)(lo:Option Int)(hi:Option Int)(H:Hp)(Q:VK):Prop|mk (a xs:_) (_:x=.ref a) (_:dH K H a xs) (_:¬(HT.sIx xs.length 0 lo=0/\HT.sIx xs.length xs.length hi=xs.length)) (_:∀p,H p=none->Q (.ref p) (upd H p (.tup (oN xs lo hi)))):J3 K x lo hi H Q
def US (K:LO):V->Option Int->Option Int->Hp->VK->Prop:=λx lo hi H Q=>J3 K x lo hi H Q
theorem Qp:UA X (US X.K):=by
 intro pins s σ H x v J C lo hi T Q I j hs pl l h;obtain⟨a,xs,rfl,p,t,q⟩:=h;cases j;obtain⟨its,r,g,hz⟩:=I.tuple p;have hlen:its.toArray.size=xs.length:=by rw[aO];exact r.length.symm
 refine⟨"tuple",_,PyProof.Rows.slot_tuple_getitem.lookup,g.typeIs,?_⟩;refine HT.getItem_tuple_cut g hs pl l (by rw[hlen];exact t) ?_ (by rw[hlen];exact hz);rw[hlen];refine⟨.ref s.heap.objs.size,_,I.laid (t':=s.toks) (o:=.tup (oN xs lo hi)) (λb ob q=>ai _ q) (av _) ?_,rfl,q _ (I.hok.fresh (av _))⟩;exact⟨bj (tK xs lo hi) hz,_,(r.drop (HT.sIx xs.length 0 lo)).take (HT.sIx xs.length xs.length hi-HT.sIx xs.length 0 lo),IsTup.new _ _⟩
end
def MV (n:Nat)(i:Int):Option Nat:=if 0<=i then(if i<n then some i.toNat else none)else if -(n:Int)<=i then some (i+n).toNat else none
def pK {α:Type}(xs:List α)(i:Int):Option α:=(MV xs.length i).bind λj=>xs[j]?
theorem Ft {n:Nat}{i:Int}{j:Nat}(h:MV n i=some j):seqIndex? i n=some j/\j<n/\-(n:Int)<=i/\i<n:=by unfold MV at h;by_cases h0:0<=i;rw[if_pos h0]at h;by_cases h1:i<n;rw[if_pos h1]at h;have e:i.toNat=j:=bK h;exact⟨by rw[seqIndex_of h0 h1,e],by lia,by lia,h1⟩;rw[if_neg h1]at h;cases h;rw[if_neg h0]at h;by_cases h1:-(n:Int)<=i;rw[if_pos h1]at h;have e:(i+n).toNat=j:=bK h;exact⟨by rw[seqIndex_neg (by lia) h1,e],by lia,h1,by lia⟩;rw[if_neg h1]at h;cases h
theorem FW {α:Type}{xs:List α}{i:Int}{v:α}(h:pK xs i=some v):∃j,seqIndex? i xs.length=some j/\xs[j]?=some v/\j<xs.length/\-(xs.length:Int)<=i/\i<xs.length:=by unfold pK at h;cases e:MV xs.length i with|none=>rw[e]at h;cases h|some j=>rw[e]at h;obtain⟨h1,h2,l,g⟩:=Ft e;exact⟨j,h1,h,h2,l,g⟩
theorem cV {α:Type}{xs:List α}{j:Nat}{v:α}(h:xs[j]?=some v):pK xs (j:Int)=some v:=by
 have g:j<xs.length:=(aZ.mp h).1;have e:MV xs.length (j:Int)=some j:=by unfold MV;rw[if_pos (by lia),if_pos (by lia)];simp
 unfold pK;rw[e];exact h
def O8 (b:Expr):Prop:=∀o i,subscripted b false o i=operate [o,i] (getItem o i)
def Si (X:Cx)(r:R2):Prop:=
 ∀(value slice:Expr) (pins:LD) (s:Shared) (σ:St) (H:Hp) (x y:V) (v u:Value) (Q:VK),Inv X pins σ H s->dQ x v->dQ y u->r x y H Q->
  subscripted slice false v u=operate [v,u] (getItem v u)->wpAny (model X.prog X.w) X.A (subscriptTail value slice v u) (EP X pins σ Q) X.xe s
def Vu (X:Cx)(id:String)(r:V->List V->Hp->VK->Prop):Prop:=
 ∀(pins:LD) (s:Shared) (σ:St) (H:Hp) (x:V) (xs:LI) (v:Value) (us:LJ) (Q:VK),Inv X pins σ H s->dQ x v->dc xs us->r x xs H Q->
  wpAny (model X.prog X.w) X.A (call (.builtin id) (v::us)) (EP X pins σ Q) X.xe s
section
variable {X:Cx}{a b:Expr}{ta tb:TE}{pos:Pos}
theorem bf {r:R2}(p:Si X r)(t:PE X a ta)(hb:PE X b tb)(hs:O8 b:=by exactλ_ _=>rfl):PE X (.Subscript a b pos) (B1 r ta tb):=by with_unfolding_all
 intro pins s σ H Q I h;exact Subscript_ (RT t hb I h λv u g x y H2 C l j q=>p a b pins g σ H2 x y v u Q C l j q (hs _ _))
inductive Ki (K:LO)(x:V)(y:V)(H:Hp)(Q:VK):Prop|mk (p xs i v:_) (_:x=.ref p) (_:y=.int i) (_:bW K H p xs) (_:pK xs i=some v) (_:Q v H):Ki K x y H Q
def yD (K:LO):R2:=λx y H Q=>Ki K x y H Q
inductive Kh (K:LO)(x:V)(y:V)(H:Hp)(Q:VK):Prop|mk (p xs i v:_) (_:x=.ref p) (_:y=.int i) (_:dH K H p xs) (_:pK xs i=some v) (_:Q v H):Kh K x y H Q
def GY (K:LO):R2:=λx y H Q=>Kh K x y H Q
theorem cD:Si X (yD X.K):=by
 intro value slice pins s σ H x y v u Q I T J h hs;obtain⟨p,xs,i,z,rfl,rfl,U,he,q⟩:=h;cases T;obtain⟨t,rfl⟩:=J;obtain⟨its,r,pl,hz⟩:=I.list U;obtain⟨j,h1,h2,h3,h4,h5⟩:=FW he;obtain⟨w,C,g⟩:=r.get h2;have hl:=r.length;have hn:=sB;have fin:EP X pins σ Q w s:=⟨z,H,I,g,q⟩;by_cases h0:0<=i;have l:i.toNat=j:=by rw[seqIndex_of h0 h5]at h1;exact bK h1
 exact item_listR pl.isList h0 (by lia) (by rw[l];simpa using C) fin hs;have l:(i+(its.toArray.size:Int)).toNat=j:=by rw[seqIndex_neg (by lia) h4]at h1;rw[aO,<-hl];exact bK h1
 exact subscriptTail_builtinR (x:=w) pl.isList.typeIs slot_list_getitem.lookup
  (wpAny_getItem_list_neg (Q:=λr s'=>r=w/\EP X pins σ Q r s') pl.isList (by lia) (by rw[aO]<;>lia) (by lia) (by rw[l];simpa using C) ⟨rfl,fin⟩) hs
theorem bL:Si X (GY X.K):=by
 intro value slice pins s σ H x y v u Q I C l h hs;obtain⟨p,xs,i,z,rfl,rfl,J,T,q⟩:=h;cases C;obtain⟨t,rfl⟩:=l;obtain⟨its,r,pl,hz⟩:=I.tuple J;obtain⟨j,h1,h2,h3,h4,h5⟩:=FW T;obtain⟨w,U,g⟩:=r.get h2;have hl:=r.length;have hn:=sB;have fin:EP X pins σ Q w s:=⟨z,H,I,g,q⟩;exact subscriptTail_builtinR (x:=w) pl.typeIs slot_tuple_getitem.lookup
  (getItem_tuple (j:=j) (Q:=λr s'=>r=w/\EP X pins σ Q r s') pl (by lia) (by lia) (by rw[aO,<-hl];exact h1) (by simpa using U) ⟨rfl,fin⟩) hs
theorem C4 (its:LJ)(n j:Nat)(u:Value):Obj.mapSeq (·.setIfInBounds j u) {cls:=.type "list",data:=.seq its.toArray n}={cls:=.type "list",data:=.seq (its.set j u).toArray n}:=by simp[Obj.mapSeq]
theorem Inv.lst {pins:LD}{σ:St}{H:Hp}{s:Shared}{p:Addr}{xs:LI}(I:Inv X pins σ H s)(h:H p=some (.lst xs)):
  ∃(its:LJ) (n:Nat),dc xs its/\s.heap.get? p=some {cls:=.type "list",data:=.seq its.toArray n}/\xs.length<=sizeLine:=by obtain⟨z,its,n,r,e⟩:=I.hok p _ h;exact⟨its,n,r,e,z⟩
theorem Inv.lstUpd {pins:LD}{σ:St}{H:Hp}{s:Shared}{p:Addr}{xs ys:LI}{its its':LJ}{n g:Nat}{f:Obj->Obj}(I:Inv X pins σ H s)(h:H p=some (.lst xs))(l:s.heap.get? p=some {cls:=.type "list",data:=.seq its.toArray n})(j:f {cls:=.type "list",data:=.seq its.toArray n}={cls:=.type "list",data:=.seq its'.toArray g})(r:dc ys its')(hz:ys.length<=sizeLine)(t:Nat):
  Inv X pins σ (upd H p (.lst ys)) {s with heap:=s.heap.update p f,toks:=t}:=by
 have e:(s.heap.update p f).get? p=some {cls:=.type "list",data:=.seq its'.toArray g}:=by rw[ik f l (by rw[j]<;>rfl),j]
 refine I.write (x:=p) (e:=p) (by rw[h];trivial) (.inl rfl) (λb u hb q=>(gZ _ _ (Ne.symm hb)).trans q) ⟨_,e⟩ ?_;exact⟨hz,its',g,r,e⟩
inductive E4 (o:V)(i:V)(v:V)(H:Hp)(Q:Hp->Prop):Prop|mk (p xs k j:_) (_:o=.ref p) (_:i=.int k) (_:H p=some (.lst xs)) (_:MV xs.length k=some j) (_:Q (upd H p (.lst (xs.set j v)))):E4 o i v H Q
def SS:V->V->V->Hp->(Hp->Prop)->Prop:=λo i v H Q=>E4 o i v H Q
theorem jY:Uf X SS:=by
 intro pins s σ H o i v ov iv u Q I U ri T h;obtain⟨p,xs,k,j,rfl,rfl,hp,hj,q⟩:=h;cases U;obtain⟨t,rfl⟩:=ri;obtain⟨its,n,r,g,hz⟩:=I.lst hp;obtain⟨h1,h2,C,l⟩:=Ft hj;have hl:=r.length;have hn:=sB;have J:Inv X pins σ (upd H p (.lst (xs.set j v))) {s with heap:=s.heap.update p (Obj.mapSeq (·.setIfInBounds j u))}:=
  I.lstUpd hp g (C4 its n j u) (r.set T j) (by rw[gQ];exact hz) s.toks
 by_cases h0:0<=k;have hk:k.toNat=j:=by rw[seqIndex_of h0 l]at h1;exact bK h1
 exact PySem.W.ki_setAt g h0 (by lia) (by rw[aO,<-hl];exact l) (by rw[hk];exact⟨_,J,q⟩);have hk:(k+(its.toArray.size:Int)).toNat=j:=by rw[seqIndex_neg (by lia) C]at h1;rw[aO,<-hl];exact bK h1
 exact PySem.W.ki_setBack g (by lia) (by rw[aO,<-hl];exact C) (by lia) (by rw[hk];exact⟨_,J,q⟩)
theorem yr (lo hi:Option Int)(n:Nat):(sliceBounds lo hi none n).1=((HT.sIx n 0 lo:Nat):Int)/\(sliceBounds lo hi none n).2.1=((HT.sIx n n hi:Nat):Int)/\(sliceBounds lo hi none n).2.2=1:=by
 refine⟨?_,?_,rfl⟩;cases lo with|none=>simp[sliceBounds,HT.sIx]|some i=>simp only[sliceBounds,HT.sIx,Option.getD_none,show(1:Int)>0 by decide,if_true];by_cases h:i<0;simp only[h,if_true]<;>lia;simp only[h,gy]<;>lia
 cases hi with|none=>simp[sliceBounds,HT.sIx]|some i=>simp only[sliceBounds,HT.sIx,Option.getD_none,show(1:Int)>0 by decide,if_true];by_cases h:i<0;simp only[h,if_true]<;>lia;simp only[h,gy]<;>lia
theorem wf (its:LJ)(lo hi:Option Int):slicePick its.toArray lo hi none=((its.drop (HT.sIx its.length 0 lo)).take (HT.sIx its.length its.length hi-HT.sIx its.length 0 lo)).toArray:=by obtain⟨h1,h2,g⟩:=yr lo hi its.toArray.size;unfold slicePick;rw[h1,h2,g];simp only[sliceRange_one,pick_run,aO]<;>rfl
inductive Ka (K:LO)(x:V)(lo:Option Int)(hi:Option Int)(H:Hp)(Q:VK):Prop|mk (a xs:_) (_:x=.ref a) (_:bW K H a xs) (_:∀p,H p=none->Q (.ref p) (upd H p (.lst (oN xs lo hi)))):Ka K x lo hi H Q
def SQ (K:LO):V->Option Int->Option Int->Hp->VK->Prop:=λx lo hi H Q=>Ka K x lo hi H Q
theorem lH:UA X (SQ X.K):=by intro pins s σ H x v C t lo hi J Q I j hs pl l h;obtain⟨a,xs,rfl,p,q⟩:=h;cases j;obtain⟨its,r,g,hz⟩:=I.list p;have hlen:=r.length;refine⟨"list",_,slot_list_getitem.lookup,g.isList.typeIs,?_⟩;refine wpAny_getItem_list_slice g.isList hs pl l .none (by simp) ?_ (by rw[aO]<;>lia);rw[wf,<-hlen];refine⟨.ref s.heap.objs.size,_,I.laid (t':=s.toks) (o:=.lst (oN xs lo hi)) (λb ob q=>ai _ q) (av _) ?_,rfl,q _ (I.hok.fresh (av _))⟩;exact⟨bj (tK xs lo hi) hz,_,0,(r.drop (HT.sIx xs.length 0 lo)).take (HT.sIx xs.length xs.length hi-HT.sIx xs.length 0 lo),aQ _ rfl⟩
inductive Kg (K:LO)(xs:LI)(H:Hp)(Q:VK):Prop|mk (p ys:_) (_:xs=[.ref p]) (_:(bW K H p ys\/dH K H p ys)) (_:Q (.int ys.length) H):Kg K xs H Q
def SU (K:LO):List V->Hp->VK->Prop:=λxs H Q=>Kg K xs H Q
theorem bQ:k5 X (.builtin "len") (SU X.K):=by intro pins s σ H xs us Q I r h;obtain⟨p,ys,rfl,g,q⟩:=h;obtain⟨u,rfl,l⟩:=lB r;cases l;have t:=sB;rcases g with g|g;obtain⟨its,j,pl,hz⟩:=I.list g;have hlen:=j.length;exact Calls.call_len_list pl.isList (by simp only[aO]<;>lia) ⟨.int ys.length,H,I.tok _,⟨s.toks+1,by rw[aO,hlen]⟩,q⟩;obtain⟨its,j,pl,hz⟩:=I.tuple g;have hlen:=j.length;exact len_tuple pl (by simp only[aO]<;>lia) ⟨.int ys.length,H,I.tok _,⟨s.toks+1,by rw[aO,hlen]⟩,q⟩
def UF (K:LO)(T:String)(x:V)(H:Hp):Prop:=match x with
 | .str _=>T="str"
 | .int _=>T="int"
 | .ref p=>(T="list"/\∃xs,bW K H p xs)\/(T="tuple"/\∃o,K.lookup p=some o/\o.cls=.type "tuple"/\o.dict=none)\/
   (T="dict"/\((∃kvs,H p=some (.dK kvs))\/ ∃kvs,H p=some (.dT kvs)))\/(T="set"/\∃S n,H p=some (.set S n))
 |_=>False
theorem IV {pins:LD}{σ:St}{H:Hp}{s:Shared}{T:String}{x:V}{v:Value}(I:Inv X pins σ H s)(r:dQ x v)(ty:UF X.K T x H):
  s.TypeIs v T/\∀a,v=.ref a->∃ob,s.heap.get? a=some ob/\ob.dict=none:=by
 cases x with
 |str z=>obtain⟨t,rfl⟩:=r;cases(show T="str" from ty);exact⟨typeIs_str s z t,λ_ e=>nomatch e⟩
 |int i=>obtain⟨t,rfl⟩:=r;cases(show T="int" from ty);exact⟨typeIs_int s i t,λ_ e=>nomatch e⟩
 |ref p=>
  cases r;rcases ty with⟨rfl,xs,j⟩|⟨rfl,o,hk,l,hd⟩|⟨rfl,hk⟩|⟨rfl,S,n,hk⟩;obtain⟨its,_,pl,_⟩:=I.list j;refine⟨pl.isList.typeIs,λa e=>?_⟩;cases e;obtain⟨o,n,e,c,hd,_⟩:=pl;exact⟨o,e,hd⟩;refine⟨⟨o,I.kIn p o hk,l⟩,λa e=>?_⟩;cases e;exact⟨o,I.kIn _ o hk,hd⟩;have z:∃o,s.heap.get? p=some o/\o.ExactDict:=by rcases hk with⟨kvs,hk⟩|⟨kvs,hk⟩;obtain⟨_,_,_,_,o,_,_,e,ex,_⟩:=I.hok p _ hk;exact⟨o,e,ex⟩;obtain⟨_,_,_,_,o,_,_,e,ex,_⟩:=I.hok p _ hk;exact⟨o,e,ex⟩
  obtain⟨o,e,ex⟩:=z;refine⟨⟨o,e,ex.1⟩,λa g=>?_⟩;cases g;exact⟨o,e,ex.2.1⟩;obtain⟨o,_,_,_,e,ex,_⟩:=I.hok p _ hk;refine⟨⟨o,e,ex.1⟩,λa g=>?_⟩;cases g;exact⟨o,e,ex.2.1⟩
 |_=>exact False.elim ty
def UN (K:LO)(T:String)(r:V->List V->Hp->VK->Prop)(to:TE):TE:=λσ H Q=>to σ H λx H1=>UF K T x H1/\r x [] H1 Q
def VW (K:LO)(T:String)(r:V->List V->Hp->VK->Prop)(to:TE)(t:TA):TE:=λσ H Q=>to σ H λx H1=>UF K T x H1/\t σ H1 λxs H2=>r x xs H2 Q
variable {o e:Expr}{es:LN}{to:TE}{t:TA}{name:Str}{apos cpos:Pos}{T id:String}{r:V->List V->Hp->VK->Prop}
theorem vg (C:PlainAttrs T)(slot:Slot T name id)(g:typeOf (.builtin id)=pure (.type "method_descriptor"))(U:Vu X id r)(J:PE X o to)(hbase:attributeBase o name X.env (eval o X.env)=eval o X.env:=by rfl)(hline:(apos.endLine==cpos.line)=true:=by rfl):PE X (.Call (.Attribute o name apos) [] [] cpos) (UN X.K T r to):=by with_unfolding_all
 intro pins s σ H Q I h;refine wpAny_Call_method0_late hbase hline (gm (J pins s σ H _ I h) λv p ⟨x,H1,l,j,ty,t⟩=>?_);obtain⟨h1,h2⟩:=IV l j ty;exact⟨T,id,C,slot,g,h1,h2,Calls.callWith_builtin rfl (PySem.evalArgs_none (U pins p σ H1 x [] v [] Q l j .nil t))⟩
theorem mO (pa:PlainAttrs T)(slot:Slot T name id)(g:typeOf (.builtin id)=pure (.type "method_descriptor"))(hm:Vu X id r)(ho:PE X o to)(ha:PA X (e::es) t)(hbase:attributeBase o name X.env (eval o X.env)=eval o X.env:=by rfl)(hfew:((backTo cpos (starEach (e::es) X.env)).all (λx=>!x.1)&&(backToKw cpos (keywordEach [] X.env)).all (λx=>x.1.isSome)
   &&decide ((e::es).length+([]:List Keyword).length+(if([]:List Keyword).isEmpty then 0 else 1)<30))=true:=by rfl)(hline:(apos.endLine==cpos.line)=true:=by rfl)(hs:starEach (e::es) X.env=(false,eval e X.env)::starEach es X.env:=by rfl)(hplain:(backTo cpos (starEach es X.env)).any (·.1)=false:=by rfl):
  PE X (.Call (.Attribute o name apos) (e::es) [] cpos) (VW X.K T r to t):=by with_unfolding_all
 intro pins s σ H Q I h;refine wpAny_Call_method_late hbase hfew hline rfl (gm (ho pins s σ H _ I h) λv J ⟨x,H1,p,j,ty,q1⟩=>?_);obtain⟨h1,h2⟩:=IV p j ty;refine⟨T,id,pa,slot,g,h1,h2,?_⟩;have l:=ha cpos pins J σ H1 _ p q1;rw[hs]at l ⊢;refine Calls.callWith_builtin (by show(false||(backTo cpos (starEach es X.env)).any (·.1))=false;rw[hplain]<;>rfl) (Calls.evalArgs_plain ?_);exact gm l λus C ⟨vs,H2,I2,U,q2⟩=>hm pins C σ H2 x vs v us Q I2 j U q2
end
def O9 (X:Cx)(id:String)(r:V->List V->Hp->VK->Prop):Prop:=
 ∀(pins:LD) (s:Shared) (σ:St) (H:Hp) (x:V) (xs:LI) (v:Value) (us:LJ) (Q:VK),Inv X pins σ H s->dQ x v->dc xs us->r x xs H Q->
  wpAny (model X.prog X.w) X.A (call (.builtin id) (v::us)) (EP X pins σ Q) X.xe s
theorem dc.one:∀{x:V} {us:LJ},dc [x] us->∃u,us=[u]/\dQ x u
 |_,_,.cons r .nil=>⟨_,rfl,r⟩
theorem dc.two:∀{x y:V} {us:LJ},dc [x,y] us->∃u v,us=[u,v]/\dQ x u/\dQ y v
 |_,_,_,.cons r (.cons q .nil)=>⟨_,_,rfl,r,q⟩
theorem dc.zero:∀{us:LJ},dc [] us->us=[]
 |_,.nil=>rfl
theorem dc.dropLast {xs:LI}{us:LJ}(h:dc xs us):dc xs.dropLast us.dropLast:=by induction h with|nil=>exact .nil|cons r t g=>cases t with|nil=>exact .nil|cons q t'=>exact .cons r g
theorem dc.reverse {xs:LI}{us:LJ}(h:dc xs us):dc xs.reverse us.reverse:=by induction h with|nil=>exact .nil|cons r t g=>rw[qz,qz];exact dc.append g (.cons r .nil)
theorem dc.rep {xs:LI}{us:LJ}(h:dc xs us):∀k:Nat,dc (List.replicate k xs).flatten (List.replicate k us).flatten
 |0=>.nil
 |k+1=>by rw[cT,cT,dS,dS];exact dc.append h (dc.rep h k)
theorem Dp {α:Type}(l:List α):l.eraseIdx (l.length-1)=l.dropLast:=by
 induction l with
 |nil=>rfl
 |cons a r g=>
  cases r with
  |nil=>rfl
  |cons b r=>
   have e:(a::b::r).length-1=((b::r).length-1)+1:=by have h1:(a::b::r).length=r.length+2:=rfl;have h2:(b::r).length=r.length+1:=rfl;lia
   rw[e,List.eraseIdx_cons_succ,g]
   all_goals rfl
theorem xK (its:LJ):∀(k:Nat) (g:LJ),
  List.foldl (λl j=>l++j) g.toArray (List.replicate k its.toArray)=(g++(List.replicate k its).flatten).toArray
 |0,g=>by simp
 |k+1,g=>by
  have e:g.toArray++its.toArray=(g++its).toArray:=by simp
  have p:(g++its)++(List.replicate k its).flatten=g++(List.replicate (k+1) its).flatten:=by rw[cT,dS,qA]
  rw[<-p,<-xK its k (g++its),<-e,cT,iB]
section
variable {X:Cx}{pins:LD}{σ:St}{H:Hp}{s:Shared}{l b:Addr}{xs ys zs:LI}
theorem Inv.lset {its its':LJ}{n:Nat}{f:Array Value->LV}{t':Nat}(I:Inv X pins σ H s)(t:H l=some (.lst xs))(e:s.heap.get? l=some {cls:=.type "list",data:=.seq its.toArray n})(p:f its.toArray=its'.toArray)(g:dc ys its')(hz:ys.length<=sizeLine):
  Inv X pins σ (upd H l (.lst ys)) {s with heap:=s.heap.update l (Obj.mapSeq f),toks:=t'}:=by have q:=PySem.IsL.update e f;rw[p]at q;refine I.write (x:=l) (e:=l) (by rw[t];exact trivial) (.inl rfl) (λb' u hb j=>(gZ s.heap (Obj.mapSeq f) (Ne.symm hb)).trans j) ⟨_,q⟩ ?_;exact⟨hz,its',_,g,q⟩
theorem Inv.lnew {its:LJ}{t':Nat}(I:Inv X pins σ H s)(g:dc ys its)(hz:ys.length<=sizeLine):
  Inv X pins σ (upd H s.heap.objs.size (.lst ys)) {s with heap:=s.heap.push {cls:=.type "list",data:=.seq its.toArray},toks:=t'}:=
 I.laid (λ_ _ q=>ai _ q) (av _) ⟨hz,its,0,g,aQ _ rfl⟩
theorem Inv.fresh (I:Inv X pins σ H s):H s.heap.objs.size=none:=I.hok.fresh (av _)
theorem Inv.lstM (I:Inv X pins σ H s)(g:H l=some (.lst xs)):xs.length<=sizeLine/\∃(its:LJ) (n:Nat),dc xs its/\xs.length=its.length/\s.heap.get? l=some {cls:=.type "list",data:=.seq its.toArray n}:=by obtain⟨z,its,n,r,e⟩:=I.hok l _ g;exact⟨z,its,n,r,r.length,e⟩
theorem vk {n:Nat}(h:n<=sizeLine):Builtin.List.listTooLong n=false:=by unfold Builtin.List.listTooLong;exact bq (by lia)
end
section
variable {X:Cx}
inductive xx (x:V)(vs:LI)(H:Hp)(Q:VK):Prop|mk (l xs y:_) (_:x=.ref l) (_:vs=[y]) (_:H l=some (.lst xs)) (_:xs.length<sizeLine) (_:Q .non (upd H l (.lst (xs++[y])))):xx x vs H Q
def Ny:V->List V->Hp->VK->Prop:=λx vs H Q=>xx x vs H Q
theorem ir:O9 X "list.append" Ny:=by intro pins s σ H x vs v us Q I j p h;obtain⟨l,xs,y,rfl,rfl,g,hz,q⟩:=h;cases j;obtain⟨u,rfl,t⟩:=p.one;obtain⟨z,its,n,r,hl,e⟩:=I.lstM g;refine call_meets F.slot_list_append ⟨_,e,rfl⟩ F.entry_list_append (F.args_list_append_2 _ _) (PySem.list_append l its.toArray n u (by rw[aO];lia)) ⟨e,?_⟩;refine⟨.non,_,I.lset (its':=its++[u]) g e (by simp) (r.append (.cons t .nil)) ?_,rfl,q⟩;rw[ah,bY];lia
inductive xt (x:V)(vs:LI)(H:Hp)(Q:VK):Prop|mk (l b xs zs:_) (_:x=.ref l) (_:vs=[.ref b]) (_:H l=some (.lst xs)) (_:H b=some (.lst zs)) (_:xs.length+zs.length<=sizeLine) (_:Q .non (upd H l (.lst (xs++zs)))):xt x vs H Q
def Nv:V->List V->Hp->VK->Prop:=λx vs H Q=>xt x vs H Q
theorem HB:O9 X "list.extend" Nv:=by
 intro pins s σ H x vs v us Q I j p h;obtain⟨l,b,xs,zs,rfl,rfl,g,U,hz,q⟩:=h;cases j;obtain⟨u,rfl,t⟩:=p.one;cases t;obtain⟨z,its,n,r,hl,e⟩:=I.lstM g;obtain⟨z2,its2,J,C,T,e2⟩:=I.lstM U;have hsz:its.toArray.size+its2.toArray.size<=sizeLine:=by rw[aO,aO];lia
 have hlong:¬(!its.toArray.isEmpty&&Builtin.List.listTooLong (its.toArray.size+its2.toArray.size))=true:=by rw[vk hsz,Bool.and_false];exact bC
 refine call_meets F.slot_list_extend ⟨_,e,rfl⟩ F.entry_list_extend (F.args_list_extend_2 _ _)
  (AutoSeq1.list_extend_list_list_0 l its.toArray n b its2.toArray J hlong (by rw[aO];lia) (by lia)) ⟨e,e2,?_⟩
 refine⟨.non,_,I.lset (its':=its++its2) g e (by simp) (r.append C) ?_,rfl,q⟩;rw[ah];lia
inductive Ke (x:V)(vs:LI)(H:Hp)(Q:VK):Prop|mk (l xs y:_) (_:x=.ref l) (_:vs=[]) (_:H l=some (.lst xs)) (_:xs[xs.length-1]?=some y) (_:Q y (upd H l (.lst xs.dropLast))):Ke x vs H Q
def UU:V->List V->Hp->VK->Prop:=λx vs H Q=>Ke x vs H Q
theorem Q8:O9 X "list.pop" UU:=by
 intro pins s σ H x vs v us Q I t C h;obtain⟨l,xs,y,rfl,rfl,p,T,q⟩:=h;cases t;have j:=C.zero;subst j;obtain⟨z,its,n,r,hl,e⟩:=I.lstM p;obtain⟨u,U,J⟩:=r.get T;have g:its.toArray[its.toArray.size-1]?=some u:=by show its.toArray[its.length-1]?=some u;rw[<-v8,<-hl];exact U
 refine call_meets F.slot_list_pop ⟨_,e,rfl⟩ F.entry_list_pop (F.args_list_pop_1 _) (MeetsSeq.list_pop_last l its.toArray n u g (by rw[aO];lia)) ⟨e,?_⟩;refine⟨y,_,I.lset (its':=its.dropLast) p e ?_ r.dropLast ?_,J,q⟩;show its.toArray.eraseIdxIfInBounds (its.toArray.size-1)=its.dropLast.toArray;rw[aO,List.eraseIdxIfInBounds_toArray,Dp];rw[List.length_dropLast];lia
inductive vc (x:V)(vs:LI)(H:Hp)(Q:VK):Prop|mk (l xs:_) (_:x=.ref l) (_:vs=[]) (_:H l=some (.lst xs)) (_:Q .non (upd H l (.lst xs.reverse))):vc x vs H Q
def Kb:V->List V->Hp->VK->Prop:=λx vs H Q=>vc x vs H Q
theorem CY:O9 X "list.reverse" Kb:=by intro pins s σ H x vs v us Q I p t h;obtain⟨l,xs,rfl,rfl,j,q⟩:=h;cases p;have g:=t.zero;subst g;obtain⟨z,its,n,r,hl,e⟩:=I.lstM j;refine call_meets F.slot_list_reverse ⟨_,e,rfl⟩ F.entry_list_reverse (F.args_list_reverse_1 _) (AutoSeq1.list_reverse_list_0 l its.toArray n (by rw[aO];lia)) ⟨e,?_⟩;refine⟨.non,_,I.lset (its':=its.reverse) j e (by simp) r.reverse ?_,rfl,q⟩;rw[dy];lia
inductive AL (x:V)(vs:LI)(H:Hp)(Q:VK):Prop|mk (l xs:_) (_:x=.ref l) (_:vs=[]) (_:H l=some (.lst xs)) (_:Q .non (upd H l (.lst []))):AL x vs H Q
def QA:V->List V->Hp->VK->Prop:=λx vs H Q=>AL x vs H Q
theorem AY:O9 X "list.clear" QA:=by intro pins s σ H x vs v us Q I p t h;obtain⟨l,xs,rfl,rfl,j,q⟩:=h;cases p;have g:=t.zero;subst g;obtain⟨z,its,n,r,hl,e⟩:=I.lstM j;refine call_meets F.slot_list_clear ⟨_,e,rfl⟩ F.entry_list_clear (F.args_list_clear_1 _) (AutoSeq1.list_clear_list_0 l its.toArray n (by rw[aO];lia)) ⟨e,?_⟩;exact⟨.non,_,I.lset (its':=[]) (ys:=[]) j e rfl .nil (bp _),rfl,q⟩
inductive Km (x:V)(y:V)(H:Hp)(Q:VK):Prop|mk (l b xs zs:_) (_:x=.ref l) (_:y=.ref b) (_:H l=some (.lst xs)) (_:H b=some (.lst zs)) (_:xs.length+zs.length<=sizeLine) (_:∀p,H p=none->Q (.ref p) (upd H p (.lst (xs++zs)))):Km x y H Q
def UZ:R2:=λx y H Q=>Km x y H Q
theorem qf:qv X (binaryOp .Add) UZ:=by
 intro pins s σ H x y v u Q I j g h;obtain⟨l,b,xs,zs,rfl,rfl,C,J,hz,q⟩:=h;cases j;cases g;obtain⟨z,its,n,r,hl,e⟩:=I.lstM C;obtain⟨z2,its2,n2,p,t,U⟩:=I.lstM J;refine PySem.P.add_list e U ?_ (by rw[aO,aO];lia);have T:its.toArray++its2.toArray=(its++its2).toArray:=by simp
 rw[T];exact⟨.ref _,_,I.lnew (t':=s.toks) (r.append p) (by rw[ah];lia),rfl,q _ I.fresh⟩
inductive Kc (x:V)(y:V)(H:Hp)(Q:VK):Prop|mk (l k xs:_) (_:x=.ref l) (_:y=.int k) (_:H l=some (.lst xs)) (_:-(2^63)<=k) (_:k<2^63) (_:xs.length*k.toNat<=sizeLine) (_:∀p,H p=none->Q (.ref p) (upd H p (.lst (List.replicate k.toNat xs).flatten))):Kc x y H Q
def UT:R2:=λx y H Q=>Kc x y H Q
theorem On {α:Type}(xs:List α)(k:Nat):(List.replicate k xs).flatten.length=k*xs.length:=by induction k with|zero=>simp|succ k g=>rw[cT,dS,ah,g,Nat.succ_mul,Nat.add_comm]
theorem p7:qv X (binaryOp .Mult) UT:=by
 intro pins s σ H x y v u Q I C p h;obtain⟨l,k,xs,rfl,rfl,J,h1,h2,hz,q⟩:=h;cases C;obtain⟨t,rfl⟩:=p;obtain⟨z,its,n,r,hl,e⟩:=I.lstM J;have hlen:its.toArray.size*k.toNat<=sizeLine:=by rw[aO,<-hl];exact hz
 have hcap:¬its.toArray.size*k.toNat>(2^63-1)/8:=by
  have:(sizeLine:Nat)<=(2^63-1)/8:=by decide
  lia
 have hfit:¬(!Builtin.List.listFitsIndex k)=true:=by rw[fitsIndex_both h1 h2];exact bC
 have hlong:¬Builtin.List.listTooLong (its.toArray.size*k.toNat)=true:=by rw[vk hlen];exact bC
 have hnew:List.foldl (λj g=>j++g) #[] (List.replicate (if its.toArray.isEmpty=true then 0 else k.toNat) its.toArray)=(List.replicate k.toNat its).flatten.toArray:=by
  have f0:∀m:Nat,List.foldl (λj g=>j++g) #[] (List.replicate m its.toArray)=(List.replicate m its).flatten.toArray:=λm=>by have:=xK its m [];rw[iu]at this;exact this
  rw[f0];cases its with|nil=>simp|cons a r'=>rw[if_neg (by simp)]
 refine wpAny_binaryOp_repeat_ref (T:="list") (U:="int") (by decide) ⟨_,e,rfl⟩ (λs'=>typeIs_int s' k t) noFill_list_mul F.fills_int_mul F.slot_int_rmul repeat_list F.slot_int_index.lookup
  (call_meets F.slot_int_rmul (typeIs_int s k t) F.entry_int_rmul (F.args_int_rmul_2 _ _) (int___rmul___int_list k t l its.toArray n)
   ⟨e,rfl,⟨_,e,rfl⟩,call_meets F.slot_list_mul ⟨_,e,rfl⟩ F.entry_list_mul (F.args_list_mul_2 _ _) (AutoListH.list___mul___list_int_3 l its.toArray n k t hfit hcap hlong) ⟨e,?_⟩⟩)
 rw[hnew];exact⟨.ref _,_,I.lnew (t':=s.toks) (r.rep k.toNat) (by rw[On,Nat.mul_comm];exact hz),rfl,q _ I.fresh⟩
end
section
variable {prog:Program}{w:World}{A:Around}{E:LP}{s:Shared}
end
section
variable {X:Cx}
end
end L2
namespace Att
open PySem PySem.W PySem.Calls PyProof.Rows
theorem tN {P:Params}{h:Heap}:∀(ns:LH) (vs:LJ),WellAll P h vs (ns.map WData.int)->IntsAre vs ns:=by intro ns;induction ns with|nil=>intro vs w;rw[jT]at w;cases w;exact .nil|cons n ns g=>intro vs w;rw[aJ]at w;cases w with|cons a b=>cases a;exact .cons _ _ (g _ b)
theorem Gv {l:OpenLaw}{n:Nat}(hn:l.most=some n){P:Params}{h:Heap}{args:List WData}{vals:LJ}(hpre:l.row.toRowW.claim.pre args=true)(p:WellAll P h vals args):
  ∃a vs ns,vals=[Value.ref a]/\args=[WData.list (ns.map WData.int)]/\h.get? a=some {cls:=.type "list",data:=.seq vs.toArray}/\IntsAre vs ns/\ns.length<=n:=by
 have t:WShape.hasAll [] args [.list .int]=true:=(pre_splitW hpre).1;have C:l.pre.holds [] {args:=args}=true:=(pre_splitW hpre).2;obtain⟨d,r,rfl,h1,h2⟩:=hasAllW_cons t;obtain rfl:=hasAllW_nil h2;obtain⟨xs,rfl,h3⟩:=hasW_list h1;obtain⟨ns,rfl⟩:=items_int h3;have hlen:ns.length<=n:=by
  unfold OpenLaw.pre at C;have j:(WTm.not (.lt (.lit (.int (n:Int))) (.len (.arg 0)))).holds [] {args:=[.list (ns.map .int)]}=true:=by have j:=(holds_andW C).1;rw[hn]at j;exact j
  have g:=condW_of j (w_not (w_lt w_lit (w_len_list (w_arg rfl))));rw[aa]at g;refine mY λq=>?_;have T:(n:Int)<((ns.length:Nat):Int):=by lia
  first
   |(rw[bi T]at g;exact absurd g (by decide))
   |(simp at g;lia)
 cases p with|cons J I=>cases I;cases J with|list U hall=>exact⟨_,_,ns,rfl,rfl,U,tN ns _ hall,hlen⟩
theorem He (l:OpenLaw)(args:List WData):l.row.toRowW.claim.post args (.bool true) args=true:=
 postW_of (r:=l.row.toRowW) (X:=(true==true))
  (show WShape.has [] (.bool true) .bool=true by first|rfl|decide|simp[WShape.has,WShape.arms,WShape.armsAll])
  (show(WTm.eq .res (.lit (.bool true))).value [] {args:=args,res:=some (.bool true),after:=args}=some (.bool (true==true))from w_eq_bool (w_res rfl) w_lit) rfl
theorem attach_call {l:OpenLaw}{n:Nat}{q:Program}{loose:LM}{XP:(LQ)->Heap->Prop}{YP:World->Heap->Prop}{d:DefRec}(hn:l.most=some n)(C:d.params.defaults=[])(call:∀(w:World) (s₀ s₁:Shared) (mg j:LQ) (fa:Addr) (o:Obj) (pm g doc:Value) (a:Addr) (vs:LJ) (ns:LH),
   Ground q loose [] XP w s₀ mg j s₁.heap->YP w s₁.heap->
   s₁.heap.get? fa=some o->o.data=.func (docDef d.name d.params d.body d.scope pm g doc)->s₁.heap.CodeRec g d.name->mg d.name=some (.ref fa)->
   s₁.heap.get? a=some {cls:=.type "list",data:=.seq vs.toArray}->IntsAre vs ns->ns.length<=n->s₁.gens=#[]->
   codeAny (model l.prog w) callerA (.call (.ref fa) ⟨[.ref a],[]⟩) (λr s'=>r=.ok (.ret (.bool true))/\OldK s₁.heap s'.heap/\s'.os=s₁.os/\AllBare s'.gens) s₁):
  WalkO q loose XP YP l.row.toRowW d [] (λf vs=>PySem.call f vs):=by intro w s₀ s₁ mg j G Y fa o pm g doc dV kV ho hd I J t hg args vals as hpre hlay T p hlo;obtain rfl:dV=.none:=Dflts.none J C;obtain rfl:kV=.none:=Dflts.noKw J;obtain⟨a,vs,ns,rfl,rfl,hobj,hints,hlen⟩:=Gv hn hpre p;refine enter_call (codeAny_mono (call w s₀ s₁ mg j fa o pm g doc a vs ns G Y ho (fd_plain hd) I t hobj hints hlen hg) λr s' U=>?_);obtain⟨rfl,h2,h3,h4⟩:=U;exact⟨.inl ⟨.bool true,.bool true,[],rfl,λ_=>rfl,.bool true,He l _,λ_=>⟨List.Pairwise.nil,λ_ hm=>(nomatch hm)⟩⟩,h2,h3,h4⟩
section
variable {prog:Program}{w:World}{A:Around}{E:LP}{s:Shared}{K:Frag}
end
end Att
namespace L2
open PySem PySem.Spec PyProof.Rows
theorem oU:∀{vs:LJ} {ns:LH},IntsAre vs ns->dc (ns.map V.int) vs
 |_,_,.nil=>.nil
 |_,_,.cons n t h=>.cons ⟨t,rfl⟩ (oU h)
end L2
namespace L2
open PySem PySem.Spec PyProof.Rows
def jW (s:Stmt):Arguments:=match s with
 | .FunctionDef _ a _ _ _ _ _ _ _ _=>a
 |_=>{posonlyargs:=[],args:=[],vararg:=none,kwonlyargs:=[],kw_defaults:=[],kwarg:=none,defaults:=[]}
def gO (s:Stmt):List Stmt:=match s with
 | .FunctionDef _ _ b _ _ _ _ _ _ _=>b
 |_=>[]
def aw (s:Stmt):Scope:=match s with
 | .FunctionDef _ _ _ _ _ _ sc _ _ _=>sc
 |_=>{kind:=.function,names:=[],isGenerator:=false,isCoroutine:=false}
abbrev gK:Pg:=λ_ _ _ _ _ _=>False
abbrev E0:XK:=λ_ _ _=>False
theorem Fe {X:Cx}:vX gK X E0:=λ_ _ _ _ _ _ _ h=>h.elim
structure Fun (K:LO)(x qual:Str)(st:Stmt)(f:Addr)(fd:FuncData):Prop where
 ex:∃(oc:Value) (od:LS) (kV doc pm:Value) (an:LS) (cdv ct:Value) (osl:Array (LW)),
  fd=PySem.W.fnOf x qual (jW st) (gO st) (aw st) .none kV doc pm an cdv ct/\K.lookup f=some ⟨oc,od,.func fd,osl⟩/\PySem.W.codeIn K cdv qual=true
 kp:PySem.W.keepIn K (.ref f)=true
section
variable {P:Program}{w:World}{K:LO}{mg:LQ}{base:Heap}
theorem Fun.ok {x qual:Str}{st:Stmt}{f:Addr}{fd:FuncData}{N ps:LM}{k:Nat}{sp:Sp}(F:Fun K x qual st f fd)(S:bv N ps (aw st))(len:∀vs H Q E,sp vs H Q E->vs.length=ps.length)(hbody:∀(cdv:Value) (A:Around) (outer:List Env) (s:Shared) (H:Hp) (vs:LI) (Q:VK) (E:XK),ji k (A.deeper (envOfC qual (aw st) s.heap.objs.size f cdv))->sp vs H Q E->
   ∃t,PSs (vO gK P w K mg base N qual (aw st) f cdv A outer s H E).nox (gO st) t/\t {nx:=λ_ H'=>Q .non H',rt:=Q} (start N vs) H):cW P w K mg base gK (k+1) f fd ps sp:=by obtain⟨oc,od,kV,doc,pm,an,cdv,ct,osl,rfl,lk,j⟩:=F.ex;refine P6 lk j S len λA outer s H vs Q E l g=>?_;obtain⟨t,h,q⟩:=hbody cdv A outer s H vs Q E l g;exact⟨t,h.nox,q⟩
theorem Fun.o {x qual:Str}{st:Stmt}{f:Addr}{fd:FuncData}{N ps:LM}{k:Nat}{sp:Sp}(F:Fun K x qual st f fd)(S:bv N ps (aw st))(hbody:∀(cdv:Value) (A:Around) (outer:List Env) (s:Shared) (H:Hp) (vs:LI) (Q:VK) (E:XK),ji k (A.deeper (envOfC qual (aw st) s.heap.objs.size f cdv))->sp vs H Q E->
   ∃t,PSs (vO gK P w K mg base N qual (aw st) f cdv A outer s H E).nox (gO st) t/\t {nx:=λ_ H'=>Q .non H',rt:=Q} (start N vs) H)(len:∀vs H Q E,sp vs H Q E->vs.length=ps.length:=by intro _ _ _ _ h;cases h;subst_vars;rfl):cW P w K mg base gK (k+1) f fd ps sp:=F.ok S len hbody
theorem Fun.oq {x qual:Str}{st:Stmt}{f:Addr}{fd:FuncData}{N ps:LM}{k:Nat}{sp:Sp}(F:Fun K x qual st f fd)(S:bv N ps (aw st))(hbody:∀(cdv:Value) (A:Around) (outer:List Env) (s:Shared) (H:Hp) (vs:LI) (Q:VK) (E:XK),ji k (A.deeper (envOfC qual (aw st) s.heap.objs.size f cdv))->sp vs H Q E->
   ∃t,PSs (vO gK P w K mg base N qual (aw st) f cdv A outer s H E).nox (gO st) t/\t {nx:=λ_ H'=>Q .non H',rt:=Q} (start N vs) H)(len:∀vs H Q E,sp vs H Q E->vs.length=ps.length:=by intro _ _ _ _ h;repeat (first|exact congrArg List.length h.1|obtain⟨_,h⟩:=h)):cW P w K mg base gK (k+1) f fd ps sp:=F.ok S len hbody
theorem Fun.q {x qual:Str}{st:Stmt}{f:Addr}{fd:FuncData}{N ps:LM}{k:Nat}{sp:Sp}(F:Fun K x qual st f fd)(S:bv N ps (aw st))(hbody:∀{cdv:Value} {A:Around} {outer:List Env} {s:Shared} {E:XK} (H:Hp) (vs:LI) (Q:VK),ji k (A.deeper (envOfC qual (aw st) s.heap.objs.size f cdv))->sp vs H Q E->
   ∃t,PSs (vO gK P w K mg base N qual (aw st) f cdv A outer s H E).nox (gO st) t/\t {nx:=λ_ H'=>Q .non H',rt:=Q} (start N vs) H)(len:∀vs H Q E,sp vs H Q E->vs.length=ps.length:=by intro _ _ _ _ h;cases h;subst_vars;rfl):cW P w K mg base gK (k+1) f fd ps sp:=F.ok S len λ_ _ _ _ H vs Q _=>hbody H vs Q
theorem Fun.qq {x qual:Str}{st:Stmt}{f:Addr}{fd:FuncData}{N ps:LM}{k:Nat}{sp:Sp}(F:Fun K x qual st f fd)(S:bv N ps (aw st))(hbody:∀{cdv:Value} {A:Around} {outer:List Env} {s:Shared} {E:XK} (H:Hp) (vs:LI) (Q:VK),ji k (A.deeper (envOfC qual (aw st) s.heap.objs.size f cdv))->sp vs H Q E->
   ∃t,PSs (vO gK P w K mg base N qual (aw st) f cdv A outer s H E).nox (gO st) t/\t {nx:=λ_ H'=>Q .non H',rt:=Q} (start N vs) H)(len:∀vs H Q E,sp vs H Q E->vs.length=ps.length:=by intro _ _ _ _ h;repeat (first|exact congrArg List.length h.1|obtain⟨_,h⟩:=h)):cW P w K mg base gK (k+1) f fd ps sp:=F.ok S len λ_ _ _ _ H vs Q _=>hbody H vs Q
theorem Fun.binds {x qual:Str}{st:Stmt}{f:Addr}{fd:FuncData}{ps:LM}(F:Fun K x qual st f fd)(h:∀(kV doc pm:Value) (an:LS) (cdv ct:Value) (us:LJ),us.length=ps.length->bindArgs (PySem.W.fnOf x qual (jW st) (gO st) (aw st) .none kV doc pm an cdv ct) ⟨us,[]⟩=pure (ps.zip us)):pM K fd ps []:=by obtain⟨oc,od,kV,doc,pm,an,cdv,ct,osl,rfl,lk,g⟩:=F.ex;exact .all (h kV doc pm an cdv ct)
theorem yZ {x qual:Str}{st:Stmt}{f:Addr}{oc:Value}{od an:LS}{osl:Array (LW)}{kV doc pm cdv ct:Value}(l:K.lookup f=some ⟨oc,od,.func (PySem.W.fnOf x qual (jW st) (gO st) (aw st) .none kV doc pm an cdv ct),osl⟩)(c:PySem.W.codeIn K cdv qual=true)(k:PySem.W.keepIn K (.ref f)=true):Fun K x qual st f (PySem.W.fnOf x qual (jW st) (gO st) (aw st) .none kV doc pm an cdv ct):=⟨⟨oc,od,kV,doc,pm,an,cdv,ct,osl,rfl,l,c⟩,k⟩
end
theorem P3 {A:Around}{k:Nat}(g:ji k A):A.units+1<cLine:=cg (Nat.add_le_add_left (by decide:1<=64) _) g.units
theorem cq {n:Nat}(h:n<=1000):n<sizeLine:=cg h (by decide)
section
variable {X:Cx}
theorem pv (i:Nat){x:Str}{pos:Pos}(l:X.N[i]?=some x:=by rfl)(j:Ux X.env.scope x:=by first|exact Or.inl rfl|exact Or.inr (Or.inl rfl)|exact Or.inr (Or.inr rfl))(hd:(x==("__debug__":Str))=false:=by decide)(g:(x==("__classdict__":Str))=false:=by decide):PE X (.Name x pos) (pQ i):=QG l j hd g
end
theorem gu {A B:Prop}(h:B):if false=true then A else B:=by rw[if_neg bC];exact h
theorem iV {A B:Prop}(h:A):if true=true then A else B:=by rw[if_pos rfl];exact h
theorem iP {c A B:Prop}[Decidable c](g:c)(h:B):if(!decide c)=true then A else B:=by rw[bi g];exact gu h
def Same (H H':Hp):Prop:=∀b o,H b=some o->H' b=some o
theorem Same.refl (H:Hp):Same H H:=λ_ _ h=>h
theorem Same.trans {H H1 H2:Hp}(a:Same H H1)(b:Same H1 H2):Same H H2:=λc o h=>b c o (a c o h)
theorem Same.free {H H':Hp}(e:Same H H'){l:Addr}(h:H' l=Option.none):H l=Option.none:=by cases q:H l with|none=>rfl|some o=>rw[e l o q]at h;cases h
theorem Same.seq {K:LO}{H H':Hp}{a:Addr}{xs:LI}(e:Same H H')(h:bW K H a xs):bW K H' a xs:=by rcases h with(h|⟨o,h⟩)|h;exact .inl (.inl (e _ _ h));exact .inl (.inr ⟨o,e _ _ h⟩);exact .inr h
end L2
set_option maxHeartbeats 4000000
set_option exponentiation.threshold 2000
namespace L2
open PySem PySem.Spec PyProof.Rows
section
variable {X:Cx}
theorem FT {i:Int}{n:Nat}(h:i.natAbs<2^n):Builtin.Int.intBits i<=n:=by
 by_cases hz:i=0;subst hz;have e:Builtin.Int.intBits 0=0:=by decide
 rw[e];exact bp _;have h0:i.natAbs≠0:=by lia
 have:=(IJ h0).mpr h;unfold Builtin.Int.intBits;split;exact bp _;lia
theorem jh:k5 X (.builtin "isinstance") (λxs H Q=>∃x t n b,xs=[x,.ty n]/\sO X.K H x t/\PySem.W.kitOne X.K t (.type n)=some b/\Q (.bl b) H):=by intro pins s σ H xs us Q I r h;obtain⟨x,t,n,b,rfl,ty,e,q⟩:=h;obtain⟨u,j,rfl,l,g⟩:=IR r;cases(show j=Value.type n from g);exact HP I l ty e λtk=>⟨.bl b,H,I.tok _,rfl,q⟩
mutual
inductive DA (K:LO)(ok:Addr->Prop)(H:Hp):V->PyData->Prop
 |non:DA K ok H .non .none
 |bl (b:Bool):DA K ok H (.bl b) (.bool b)
 |int (i:Int):DA K ok H (.int i) (.int i)
 |str (x:Str):DA K ok H (.str x) (.str x)
 |lst {a:Addr} {vs:LI} {ds:LX}:ok a->bW K H a vs->DAs K ok H vs ds->DA K ok H (.ref a) (.list ds)
 |tup {a:Addr} {vs:LI} {ds:LX}:ok a->dH K H a vs->DAs K ok H vs ds->DA K ok H (.ref a) (.tuple ds)
inductive DAs (K:LO)(ok:Addr->Prop)(H:Hp):List V->List PyData->Prop
 |nil:DAs K ok H [] []
 |cons {v:V} {d:PyData} {vs:LI} {ds:LX}:DA K ok H v d->DAs K ok H vs ds->DAs K ok H (v::vs) (d::ds)
end
abbrev any (_:Addr):Prop:=True
def DL (ok:Addr->Prop)(H H':Hp):Prop:=∀b o,ok b->H b=some o->H' b=some o
theorem Same.keep {ok:Addr->Prop}{H H':Hp}(e:Same H H'):DL ok H H':=λb o _ h=>e b o h
theorem DL.seq {K:LO}{ok:Addr->Prop}{H H':Hp}{a:Addr}{xs:LI}(e:DL ok H H')(n:ok a)(h:bW K H a xs):bW K H' a xs:=by rcases h with(h|⟨o,h⟩)|h;exact .inl (.inl (e _ _ n h));exact .inl (.inr ⟨o,e _ _ n h⟩);exact .inr h
theorem DL.seqT {K:LO}{ok:Addr->Prop}{H H':Hp}{a:Addr}{xs:LI}(e:DL ok H H')(n:ok a)(h:dH K H a xs):dH K H' a xs:=by rcases h with(h|⟨o,h⟩)|h;exact .inl (.inl (e _ _ n h));exact .inl (.inr ⟨o,e _ _ n h⟩);exact .inr h
theorem Same.seqT {K:LO}{H H':Hp}{a:Addr}{xs:LI}(e:Same H H')(h:dH K H a xs):dH K H' a xs:=(e.keep (ok:=any)).seqT trivial h
theorem Same.upd {H:Hp}{p:Addr}{o:HO}(h:H p=none):Same H (upd H p o):=λb u e=>by rw[aW (aI e h)];exact e
theorem nw {H:Hp}{x:Addr}(o:HO)(h:H x=none):∃H',upd H x o=H'/\Same H H'/\H' x=some o:=⟨_,rfl,Same.upd h,au⟩
mutual
theorem DA.mono {K:LO}{ok g:Addr->Prop}{H H':Hp}(e:DL ok H H')(m:∀a,ok a->g a):∀{v:V} {d:PyData},DA K ok H v d->DA K g H' v d
 |_,_,.non=>.non
 |_,_,.bl b=>.bl b
 |_,_,.int i=>.int i
 |_,_,.str x=>.str x
 |_,_,.lst n s r=>.lst (m _ n) (e.seq n s) (DAs.mono e m r)
 |_,_,.tup n s r=>.tup (m _ n) (e.seqT n s) (DAs.mono e m r)
theorem DAs.mono {K:LO}{ok g:Addr->Prop}{H H':Hp}(e:DL ok H H')(m:∀a,ok a->g a):∀{v:LI} {d:LX},DAs K ok H v d->DAs K g H' v d
 |_,_,.nil=>.nil
 |_,_,.cons a r=>.cons (DA.mono e m a) (DAs.mono e m r)
end
mutual
theorem DA.reads {ok:Addr->Prop}{pins:LD}{σ:St}{H:Hp}{s:Shared}(I:Inv X pins σ H s):∀{v:V} {d:PyData} {u:Value},DA X.K ok H v d->dQ v u->∃as,Reads s.heap u d as
 |_,_,_,.non,r=>by cases r;exact⟨_,.none⟩
 |_,_,_,.bl b,r=>by cases r;exact⟨_,.bool b⟩
 |_,_,_,.int i,r=>by obtain⟨t,rfl⟩:=r;exact⟨_,.int i t⟩
 |_,_,_,.str x,r=>by obtain⟨t,rfl⟩:=r;exact⟨_,.str x t⟩
 |_,_,_,.lst _ h q,r=>by cases r;obtain⟨its,g,⟨o,n,e,c,_,d⟩,_⟩:=I.list h;obtain⟨as,p⟩:=DAs.reads I q g;exact⟨_,.list e c d (by simpa using p)⟩
 |_,_,_,.tup _ h q,r=>by cases r;obtain⟨its,g,⟨o,e,c,n,d⟩,_⟩:=I.tuple h;obtain⟨as,p⟩:=DAs.reads I q g;exact⟨_,.tuple e c d (by simpa using p)⟩
theorem DAs.reads {ok:Addr->Prop}{pins:LD}{σ:St}{H:Hp}{s:Shared}(I:Inv X pins σ H s):∀{v:LI} {d:LX} {u:LJ},DAs X.K ok H v d->dc v u->∃as,ReadsAll s.heap u d as
 |_,_,_,.nil,r=>by cases r;exact⟨_,.nil⟩
 |_,_,_,.cons a q,r=>by cases r with|cons j g=>obtain⟨as,p⟩:=DA.reads I a j;obtain⟨bs,p'⟩:=DAs.reads I q g;exact⟨_,.cons p p'⟩
end
inductive Kl (K:LO)(x:V)(y:V)(H:Hp)(Q:VK):Prop|mk (d e:_) (_:DA K any H x d) (_:DA K any H y e) (_:(d.canLay0=true/\e.canLay0=true/\d.depth<=64)) (_:Q (.bl (PyData.eqv d e)) H):Kl K x y H Q
def UY (K:LO):R2:=λx y H Q=>Kl K x y H Q
inductive Kf (K:LO)(x:V)(y:V)(H:Hp)(Q:VK):Prop|mk (d e:_) (_:DA K any H x d) (_:DA K any H y e) (_:(d.canLay0=true/\e.canLay0=true/\d.depth<=64)) (_:Q (.bl (!PyData.eqv d e)) H):Kf K x y H Q
def UV (K:LO):R2:=λx y H Q=>Kf K x y H Q
theorem qe (C:X.A.units+64<cLine):qv X (compareOp .Eq) (UY X.K):=by intro pins s σ H x y v u Q I j g h;obtain⟨d,e,hd,p,⟨l1,l2,t⟩,q⟩:=h;obtain⟨as,l⟩:=hd.reads I j;obtain⟨bs,p2⟩:=p.reads I g;exact PySem.SeqAt.compareEq_reads l p2 l1 l2 (by lia) ⟨.bl _,H,I,rfl,q⟩
theorem p9 (C:X.A.units+64<cLine):qv X (compareOp .NotEq) (UV X.K):=by intro pins s σ H x y v u Q I j g h;obtain⟨d,e,hd,p,⟨l1,l2,t⟩,q⟩:=h;obtain⟨as,l⟩:=hd.reads I j;obtain⟨bs,p2⟩:=p.reads I g;exact PySem.SeqAt.compareNe_reads l p2 l1 l2 (by lia) ⟨.bl _,H,I,rfl,q⟩
end
theorem tF {c A B:Prop}[Decidable c](g:¬c)(h:A):if(!decide c)=true then A else B:=by rw[bq g];exact iV h
theorem jr {c A B:Prop}[Decidable c](g:c)(h:A):if decide c=true then A else B:=by rw[bi g];exact iV h
theorem js {c A B:Prop}[Decidable c](g:¬c)(h:B):if decide c=true then A else B:=by rw[bq g];exact gu h
structure Dn (K:LO)(mg:LQ)(x:Str)(st:Stmt)(ps:LM)(f:Addr)(fd:FuncData):Prop where
 fn:Fun K x x st f fd
 gl:mg x=some (.ref f)
 bd:pM K fd ps []
section
variable {X:Cx}{k:Nat}{f:Addr}{fd:FuncData}{x:Str}{st:Stmt}{ps:LM}{sp:Sp}{e:Expr}{es:LN}{p pos:Pos}{t:TA}
theorem Fb (D:Dn X.K X.mg x st ps f fd)(G:cW X.prog X.w X.K X.mg X.base gK k f fd ps sp)(l:ji k X.A)(C:Gl X x)(I:PA X (e::es) t)(j:(x==("__debug__":Str))=false:=by decide)(hs:starEach (e::es) X.env=(false,eval e X.env)::starEach es X.env:=by rfl)(g:(backTo pos (starEach es X.env)).any (·.1)=false:=by rfl):PE X (.Call (.Name x p) (e::es) [] pos) (Jk sp [] E0 t):=
 NH G l C D.gl D.fn.kp D.bd .nil Fe I j hs g
abbrev Cl (P:Program)(w:World)(K:LO)(mg:LQ)(base:Heap)(x:Str)(st:Stmt)(ps:LM)(k:Nat)(sp:Sp):Prop:=∃f fd,Dn K mg x st ps f fd/\cW P w K mg base gK k f fd ps sp
theorem cl {P:Program}{w:World}{K:LO}{mg:LQ}{base:Heap}(D:Dn K mg x st ps f fd)(G:cW P w K mg base gK k f fd ps sp):Cl P w K mg base x st ps k sp:=⟨f,fd,D,G⟩
theorem bH (C:Cl X.prog X.w X.K X.mg X.base x st ps k sp)(l:ji k X.A)(I:Gl X x)(J:PA X (e::es) t)(j:(x==("__debug__":Str))=false:=by decide)(hs:starEach (e::es) X.env=(false,eval e X.env)::starEach es X.env:=by rfl)(g:(backTo pos (starEach es X.env)).any (·.1)=false:=by rfl):PE X (.Call (.Name x p) (e::es) [] pos) (Jk sp [] E0 t):=by obtain⟨_,_,D,G⟩:=C;exact Fb D G l I J j hs g
end
def nK (cells:List (Str×Addr)):List (Str×NameKind)->List (Str×Addr)->List (Str×Addr)
 |[],g=>g
 |(n,k)::r,g=>nK cells r (if(k== .free)=true then(match cells.lookup n with|some c=>(n,c)::g|none=>g)else g)
theorem nG {c:Str->NameKind->Bool}{y:Str}:∀(names:List (Str×NameKind)),(names.map λ(n,k)=>if c n k=true then(n,NameKind.cell)else(n,k)).lookup y=(names.lookup y).map λk=>if c y k=true then NameKind.cell else k
 |[]=>rfl
 |(n,k)::r=>by
  have l:=nG (c:=c) (y:=y) r;show List.lookup y ((if c n k=true then(n,NameKind.cell)else(n,k))::_)=_;cases j:y==n with
  |true=>
   have e:y=n:=by simpa using j
   subst e;by_cases g:c y k=true;rw[if_pos g];simp[eX,g];rw[if_neg g];simp[eX,g]
  |false=>by_cases g:c n k=true;rw[if_pos g];simp only[eX,j];exact l;rw[if_neg g];simp only[eX,j];exact l
theorem qZ {sc:Scope}{env:Env}{y:Str}{k:NameKind}(h:(relabel sc env).names.lookup y=some k):∃j,(y,j)∈sc.names/\(k=j\/(k=.cell/\j=.free)):=by have e:=nG (c:=λn k=>k==NameKind.free&&env.scope.kind== .function&&env.kindOf n==some .cell) (y:=y) sc.names;have h':(sc.names.map λ(n,k)=>if(k==NameKind.free&&env.scope.kind== .function&&env.kindOf n==some .cell)=true then(n,NameKind.cell)else(n,k)).lookup y=some k:=h;rw[e]at h';cases q:sc.names.lookup y with|none=>rw[q]at h';cases h'|some j=>rw[q]at h';refine⟨j,eZ q,?_⟩;have g:(if(j==NameKind.free&&env.scope.kind== .function&&env.kindOf y==some .cell)=true then NameKind.cell else j)=k:=bK h';by_cases l:(j==NameKind.free&&env.scope.kind== .function&&env.kindOf y==some .cell)=true;rw[if_pos l]at g;refine .inr ⟨g.symm,?_⟩;have:=(wn.mp (wn.mp l).1).1;simpa using this;rw[if_neg l]at g;exact .inl g.symm
theorem BF {cells:List (Str×Addr)}:∀(names:List (Str×NameKind)) (g:List (Str×Addr)),(∀y c,g.lookup y=some c->cells.lookup y=some c)->∀y c,(nK cells names g).lookup y=some c->cells.lookup y=some c
 |[],_,h=>h
 |(n,k)::r,g,h=>by
  refine BF r _ λy c=>?_;by_cases hk:(k==NameKind.free)=true;rw[if_pos hk];cases q:cells.lookup n with
  |none=>exact h y c
  |some d=>
   intro e;show cells.lookup y=some c;have j:List.lookup y ((n,d)::g)=some c:=e;rw[eX]at j;cases l:y==n with
   |true=>
    rw[l]at j;have:y=n:=by simpa using l
    subst this;rw[q];exact j
   |false=>rw[l]at j;exact h y c j
  rw[if_neg hk];exact h y c
theorem BI {cells:List (Str×Addr)}{y:Str}:∀(names:List (Str×NameKind)) (g:List (Str×Addr)),(g.lookup y).isSome=true->((nK cells names g).lookup y).isSome=true
 |[],_,h=>h
 |(n,k)::r,g,h=>by
  refine BI r _ ?_;by_cases hk:(k==NameKind.free)=true;rw[if_pos hk];cases q:cells.lookup n with|none=>exact h|some d=>show(List.lookup y ((n,d)::g)).isSome=true;rw[eX];cases j:y==n with|true=>rfl|false=>exact h
  rw[if_neg hk];exact h
theorem BH {cells:List (Str×Addr)}{y:Str}(j:(cells.lookup y).isSome=true):∀(names:List (Str×NameKind)) (g:List (Str×Addr)),(y,NameKind.free)∈names->((nK cells names g).lookup y).isSome=true
 |(n,k)::r,g,h=>by rcases bT.mp h with e|h;cases e;refine BI r _ ?_;rw[if_pos (by rfl)];obtain⟨c,q⟩:=iH.mp j;rw[q];show(List.lookup y ((y,c)::g)).isSome=true;rw[eX,beq_self_eq_true];rfl;exact BH j r _ h
theorem BN {env:Env}{y:Str}{c:Addr}(h:env.cells.lookup y=some c):cellOf env y=pure c:=by unfold cellOf;rw[h]
theorem nJ {sc:Scope}{env:Env}(h:∀y∈sc.names,y.2=.free->(env.cells.lookup y.1).isSome=true):closureFor sc env=pure (nK env.cells sc.names []):=by
 have all:∀(names:List (Str×NameKind)) (g:List (Str×Addr)),(∀y∈names,y.2=.free->(env.cells.lookup y.1).isSome=true)->
   (forIn names g λ(x:Str×NameKind) (t:List (Str×Addr))=>(do
    let(name,kind):=x;if(kind== .free)=true then let c<-cellOf env name;pure (ForInStep.yield ((name,c)::t))else pure (ForInStep.yield t):Sem (ForInStep (List (Str×Addr)))))=pure (nK env.cells names g):=by intro names;induction names with|nil=>intro g _;rfl|cons a r p=>intro g l;obtain⟨n,k⟩:=a;rw[dz];by_cases hk:(k==NameKind.free)=true;obtain⟨c,q⟩:=iH.mp (l (n,k) aM (by simpa using hk));simp only[hk,if_true,BN q,pure_bind];rw[p _ λy j=>l y (aB _ j)];show pure (nK env.cells r ((n,c)::g))=pure (nK env.cells r (if(k==NameKind.free)=true then _ else g));rw[if_pos hk,q];simp only[hk,ck,gy,pure_bind];rw[p _ λy j=>l y (aB _ j)];show pure (nK env.cells r g)=pure (nK env.cells r (if(k==NameKind.free)=true then _ else g));rw[if_neg hk]
 unfold closureFor;first
  |exact(congrArg (λz=>z>>=pure) (all sc.names [] h)).trans (by simp)
  | (have e:=all sc.names [] h
     simp only[bind_pure]at e ⊢;exact e)
def pZ (sc:Scope)(x:Str)(n:Nat):List (Str×Addr):=if sc.names.lookup x=some .cell then[(x,n)]else[]
theorem nH {α:Type}:∀{l:List (Str×α)} {y:Str} {k:α},(l.map (·.1)).Nodup->(y,k)∈l->l.lookup y=some k
 |(n,v)::r,y,k,nd,h=>by
  rw[eX];have g:(n::r.map (·.1)).Nodup:=nd;obtain⟨h1,h2⟩:=cA.mp g;rcases bT.mp h with e|h;cases e;rw[beq_self_eq_true];have ne:(y==n)=false:=by rw[beq_eq_false_iff_ne];exactλe=>h1 (aV.mpr ⟨(y,k),h,e⟩)
  rw[ne];exact nH h2 h
theorem kZ {g:List (Str×Addr)}:∀{names:List (Str×NameKind)} {n:Nat},(∀y∈names,y.2≠.cell)->cellsFrom n names g=g
 |[],_,_=>rfl
 |(y,k)::r,n,h=>by unfold cellsFrom;rw[if_neg (by simpa using h (y,k) aM)];exact kZ λz hz=>h z (aB _ hz)
theorem oE:∀{names:List (Str×NameKind)} {h:Heap},(∀y∈names,y.2≠.cell)->pushCells h names=h
 |[],_,_=>rfl
 |(y,k)::r,h,g=>by unfold pushCells;rw[if_neg (by simpa using g (y,k) aM)];exact oE λz hz=>g z (aB _ hz)
theorem pJ {x:Str}{g:List (Str×Addr)}:∀{names:List (Str×NameKind)} {n:Nat},(names.map (·.1)).Nodup->(∀y∈names,y.2=.cell->y.1=x)->(x,NameKind.cell)∈names->cellsFrom n names g=(x,n)::g
 |(y,k)::r,n,nd,l,p=>by have j:(y::r.map (·.1)).Nodup:=nd;obtain⟨h1,h2⟩:=cA.mp j;unfold cellsFrom;by_cases hk:(k==NameKind.cell)=true;rw[if_pos hk];have e:y=x:=l (y,k) aM (by simpa using hk);subst e;refine kZ λz hz t=>h1 (aV.mpr ⟨z,hz,?_⟩);exact l z (aB _ hz) t;rw[if_neg hk];rcases bT.mp p with e|p;cases e;exact absurd rfl hk;exact pJ h2 (λz hz=>l z (aB _ hz)) p
theorem pI {x:Str}:∀{names:List (Str×NameKind)} {h:Heap},(names.map (·.1)).Nodup->(∀y∈names,y.2=.cell->y.1=x)->(x,NameKind.cell)∈names->pushCells h names=h.push {cls:=.type "cell",data:=.cell none}
 |(y,k)::r,h,nd,j,l=>by have g:(y::r.map (·.1)).Nodup:=nd;obtain⟨h1,h2⟩:=cA.mp g;unfold pushCells;by_cases hk:(k==NameKind.cell)=true;rw[if_pos hk];have e:y=x:=j (y,k) aM (by simpa using hk);subst e;refine oE λz hz p=>h1 (aV.mpr ⟨z,hz,?_⟩);exact j z (aB _ hz) p;rw[if_neg hk];rcases bT.mp l with e|l;cases e;exact absurd rfl hk;exact pI h2 (λz hz=>j z (aB _ hz)) l
theorem Ht {M:Model}{A:Around}{E:LP}{s:Shared}{scope:Scope}{globals:Addr}{closure:List (Str×Addr)}{qual:Str}{func:LS}{code:Value}{outer:Env}{builtins:Addr}{Q:Env->Shared->Prop}(j:Q (newEnv scope s.heap.objs.size globals (cellsFrom (s.heap.objs.size+1) scope.names closure) qual func code (some outer) builtins) {s with heap:=pushCells (s.heap.push {cls:=.type "dict",data:=.dict #[]}) scope.names}):
  wpAny M A (newFunctionEnv scope globals closure [] qual func code (some outer) builtins) Q E s:=by simp only[newFunctionEnv,Option.isSome_some,if_true];refine ae (wpAny_alloc ?_);refine ae (wpAny_layCells _ (λname kind cells=>by cases g:kind==NameKind.cell<;>simp[g]) _ _ _ _ ?_);rw[show({s with heap:=s.heap.push {cls:=.type "dict",data:=.dict #[]}}:Shared).heap.objs.size=s.heap.objs.size+1 from dj ..];exact ae (ak (ak j))
theorem AN {sc:Scope}{x y:Str}{n:Nat}{c:Addr}{cl:List (Str×Addr)}(h:(pZ sc x n++cl).lookup y=some c):(y=x/\c=n/\sc.names.lookup x=some .cell)\/cl.lookup y=some c:=by
 unfold pZ at h;by_cases g:sc.names.lookup x=some .cell;rw[if_pos g]at h;have h':List.lookup y ((x,n)::cl)=some c:=h;rw[eX]at h';cases e:y==x with|true=>rw[e]at h';exact .inl ⟨by simpa using e,(bK h').symm,g⟩|false=>rw[e]at h';exact .inr h'
 rw[if_neg g]at h;exact .inr h
theorem CO {sc:Scope}{x y:Str}{n:Nat}{cl:List (Str×Addr)}(h:y≠x):(pZ sc x n++cl).lookup y=cl.lookup y:=by unfold pZ;by_cases g:sc.names.lookup x=some .cell;rw[if_pos g];show List.lookup y ((x,n)::cl)=_;rw[eX,beq_eq_false_iff_ne.mpr h];rw[if_neg g];rfl
theorem xA {sc:Scope}{x:Str}{n:Nat}{cl:List (Str×Addr)}(h:sc.names.lookup x=some .cell):(pZ sc x n++cl).lookup x=some n:=by unfold pZ;rw[if_pos h];show List.lookup x ((x,n)::cl)=_;rw[eX,beq_self_eq_true]
section
variable {X:Cx}{pins:LD}{σ:St}{H:Hp}{s:Shared}{sc:Scope}{x:Str}{fp:LK}
theorem GX {sc:Scope}{env:Env}{x:Str}(h:sc.names.lookup x=some .cell):(relabel sc env).names.lookup x=some .cell:=by have e:=nG (c:=λn k=>k==NameKind.free&&env.scope.kind== .function&&env.kindOf n==some .cell) (y:=x) sc.names;show(sc.names.map λ(n,k)=>if(k==NameKind.free&&env.scope.kind== .function&&env.kindOf n==some .cell)=true then(n,NameKind.cell)else(n,k)).lookup x=some .cell;rw[e,h];rfl
def VD (ti:TI)(te:TE):TE:=λσ H Q=>ti σ H λJ H1=>∀D,H1 D=none->∃W:Nat->Nat->List V->Hp->Prop,(∃m,W 0 m [] (upd H1 D (.lst [])))/\
 ∀i m ys H',W i m ys H'->H' D=some (.lst ys)/\((J.stop i H'/\Q (.ref D) H')\/(J.go i H'/\∀z H2,J.yld i H' z H2->te (σ++[some z]) H2 λv j=>j D=some (.lst ys)/\ys.length<sizeLine/\∃g,g<m/\W (i+1) g (ys++[v]) (upd j D (.lst (ys++[v])))))
end
section
variable {X:Cx}
theorem tM:k5 X (.builtin "sorted") (λxs H Q=>∃(p:Addr) (ns:LH),xs=[.ref p]/\bW X.K H p (ns.map V.int)/\ns.length<64/\∀(l:Addr) (g:LH),H l=none->g.Perm ns->g.Pairwise (·<=·)->Q (.ref l) (upd H l (.lst (g.map V.int)))):=by intro pins s σ H xs us Q I r h;obtain⟨p,ns,rfl,C,hl,q⟩:=h;obtain⟨u,rfl,t⟩:=lB r;cases t;obtain⟨its,j,pl,hz⟩:=I.list C;have U:IntsAre its ns:=qi j;have hlen:=j.length;rw[aa]at hlen;refine sorted_ints pl.isList U (by lia) λout g a1 a2 a3=>?_;obtain⟨e,T⟩:=sortedAll_at s.heap its out;have J:H (s.heap.objs.size+1)=none:=I.hok.fresh (fY _);refine⟨.ref (s.heap.objs.size+1),_,I.laid (t':=s.toks) (λb o z=>sortedAll_old z) (fY _) ?_,rfl,q _ g J a2 a3⟩;refine⟨?_,out.toList,e,oU a1,T⟩;rw[aa,a2.length_eq];exact cu (cq (by lia))
end
theorem kA {K:LO}{a:Addr}{xs:LI}{te:TE}{Q:Hp->Prop}{σ:St}{H1:Hp}{D:Addr}(g:Nat->List V->Hp->Prop)(h0:g 0 [] (upd H1 D (.lst [])))(hl:∀i ys H',i<=xs.length->g i ys H'->bW K H' a xs/\H' D=some (.lst ys))(hs:∀i x ys H',xs[i]?=some x->g i ys H'->te (σ++[some x]) H' λv j=>j D=some (.lst ys)/\ys.length<sizeLine/\g (i+1) (ys++[v]) (upd j D (.lst (ys++[v]))))(hd:∀ys H',g xs.length ys H'->Q H')(mono:∀σ H Q C,(∀v H1,Q v H1->C v H1)->te σ H Q->te σ H C):
  ∃W:Nat->Nat->List V->Hp->Prop,(∃m,W 0 m [] (upd H1 D (.lst [])))/\
   ∀i m ys H',W i m ys H'->H' D=some (.lst ys)/\(((zu K a).stop i H'/\Q H')\/((zu K a).go i H'/\∀z H2,(zu K a).yld i H' z H2->te (σ++[some z]) H2 λv j=>j D=some (.lst ys)/\ys.length<sizeLine/\∃t,t<m/\W (i+1) t (ys++[v]) (upd j D (.lst (ys++[v]))))):=by
 refine⟨λi m ys H'=>m=xs.length-i/\i<=xs.length/\g i ys H',⟨xs.length,by simp,bp _,h0⟩,?_⟩;rintro i m ys H' ⟨rfl,hi,p⟩;obtain⟨q,U⟩:=hl i ys H' hi p;refine⟨U,?_⟩;by_cases l:i<xs.length;refine .inr ⟨⟨xs,xs[i],q,by simp[l]⟩,λz H2 y=>?_⟩;obtain⟨e,y⟩:=y;subst e;refine mono _ _ _ _ (λv j ⟨T,J,I⟩=>⟨T,J,xs.length-(i+1),by lia,rfl,l,I⟩) (hs i z ys _ (y xs q) p);have e:i=xs.length:=by lia
 subst e;exact .inl ⟨⟨xs,q,av _⟩,hd ys H' p⟩
theorem rk {lo:Int}{n:Nat}{te:TE}{Q:Hp->Prop}{σ:St}{H1:Hp}{D:Addr}(j:Nat->List V->Hp->Prop)(h0:j 0 [] (upd H1 D (.lst [])))(hl:∀i ys H',i<=n->j i ys H'->H' D=some (.lst ys))(hs:∀i ys H',i<n->j i ys H'->te (σ++[some (.int (lo+(i:Nat)))]) H' λv l=>l D=some (.lst ys)/\ys.length<sizeLine/\j (i+1) (ys++[v]) (upd l D (.lst (ys++[v]))))(hd:∀ys H',j n ys H'->Q H')(mono:∀σ H Q C,(∀v H1,Q v H1->C v H1)->te σ H Q->te σ H C):
  ∃W:Nat->Nat->List V->Hp->Prop,(∃m,W 0 m [] (upd H1 D (.lst [])))/\
   ∀i m ys H',W i m ys H'->H' D=some (.lst ys)/\(((MZ lo n).stop i H'/\Q H')\/((MZ lo n).go i H'/\∀z H2,(MZ lo n).yld i H' z H2->te (σ++[some z]) H2 λv l=>l D=some (.lst ys)/\ys.length<sizeLine/\∃t,t<m/\W (i+1) t (ys++[v]) (upd l D (.lst (ys++[v]))))):=by
 refine⟨λi m ys H'=>m=n-i/\i<=n/\j i ys H',⟨n,by simp,bp _,h0⟩,?_⟩;rintro i m ys H' ⟨rfl,hi,p⟩;refine⟨hl i ys H' hi p,?_⟩;by_cases g:i<n;refine .inr ⟨g,λz H2 y=>?_⟩;obtain⟨e,y⟩:=y;subst e y;refine mono _ _ _ _ (λv l ⟨T,J,I⟩=>⟨T,J,n-(i+1),by lia,rfl,g,I⟩) (hs i ys _ g p);have e:i=n:=by lia
 subst e;exact .inl ⟨av _,hd ys H' p⟩
section
variable {X:Cx}
theorem jv (T:X.calm=true):k5 X (.builtin "sum") (λxs H Q=>∃(p:Addr) (ns:LH),xs=[.ref p]/\bW X.K H p (ns.map V.int)/\Q (.int ns.sum) H):=by
 intro pins s σ H xs us Q I r h;obtain⟨p,ns,rfl,J,q⟩:=h;obtain⟨u,rfl,t⟩:=lB r;cases t;obtain⟨its,C,pl,hz⟩:=I.list J;have l:IntsAre its ns:=qi C;obtain⟨ys,j⟩:=l.allInts.items;have g:s.heap.IsList p (intItems ys):=j ▸ pl.isList;refine sum_intListG (I.ok.hd T) g λh' tk t' hk=>?_;have e1:ns=ys.toList.map (·.1):=by rw[<-nums_intItems,<-j];exact(show numsOf its.toArray.toList=ns from l.numsOf).symm
 have U:preSum (numAt ys) ys.size=ns.sum:=by rw[preSum_eq,di (by simp),e1]
 rw[U];exact⟨.int ns.sum,H,I.kept hk,⟨_,rfl⟩,q⟩
end
section
variable {X:Cx}{pins:LD}{σ:List (LU)}{H:Hp}{s:Shared}{h':Heap}
theorem Inv.turnedL {t':Nat}{its:LK}(I:Inv X pins σ H s)(k:∀b o,b∉its->s.heap.get? b=some o->h'.get? b=some o)(l:∀b∈its,qp X pins H b):Inv X pins σ H {s with heap:=h',toks:=t'}:=by
 have j:∀b u,H b=some u->b∉its:=λb u e z=>by rw[(l b z).1]at e;cases e
 refine I.step (g':=s.gens) (d':=s.drawn) (ch:=its) (λb hb=>?_) (λb o _ _ g e _=>k b o g e) (λb o _ _ g e _=>⟨o.slots,k b o g e⟩) (λ_ _ _ _ n=>n)
  (λb o g e=>⟨o,k b o g e⟩) (λ_ _ e=>e) (λ_ _ _ e=>e) (λb ps e=>⟨#[],by rw[e];simp⟩) (λm t=>?_) (λb u e=>?_) I.bare
 obtain⟨U,f1,f2,T,J,C⟩:=l b hb;exact⟨T,f1,J,C⟩;obtain⟨o,es,ep,p,r⟩:=t;exact⟨o,es,ep,k _ o (λz=>(l _ z).2.1 rfl) p,r⟩;refine(I.hok b u e).stay (λc v g q=>k c v ?_ q) (λ_ q=>q) λ_ _ q=>q;rcases g with z|z;rw[z];exact j b u e;exact j c _ z
end
def Sc (K:LO)(a b:Addr):It:=
 ⟨λi H=>∃xs ys x y,bW K H a xs/\bW K H b ys/\xs[i]?=some x/\ys[i]?=some y,
  λi H z H'=>∃t x y,z=.ref t/\H t=none/\H'=upd H t (.tup [x,y])/\(∀xs,bW K H a xs->xs[i]?=some x)/\∀ys,bW K H b ys->ys[i]?=some y,
  λi H=>∃xs ys,bW K H a xs/\bW K H b ys/\(xs.length<=i\/ys.length<=i)⟩
structure VO (z TI TO i1 i2:Addr):Prop where
 a1:TI≠z
 a2:TO≠z
 a3:i1≠z
 a4:i2≠z
 a5:TI≠TO
 a6:TI≠i1
 a7:TI≠i2
 a8:TO≠i1
 a9:TO≠i2
 b1:i1≠i2
def VJ (z TI TO i1 i2 a b:Addr)(i:Nat)(h:Heap):Prop:=IsZip h z TI TO .none/\IsPair h TI (.ref i1) (.ref i2)/\(∃c d,IsPair h TO c d)/\h.IsListIter i1 a i/\h.IsListIter i2 b i
theorem oP {h:Heap}{a b:Addr}{o o':Obj}(e:h.get? a=some o)(g:h.get? b=some o')(n:o.cls≠o'.cls):a≠b:=λz=>by subst z;rw[e]at g;cases g;exact n rfl
theorem VB {h:Heap}{z TI TO i1 i2 a b:Addr}{i:Nat}{xs ys:LV}(D:VO z TI TO i1 i2)(st:VJ z TI TO i1 i2 a b i h)(U:h.IsList a xs)(hb:h.IsList b ys):ZipApart z TI TO i1 i2 a b:=by
 obtain⟨hz,hTI,⟨c,d,g⟩,⟨o1,I,T,_⟩,⟨o2,C,J,_⟩⟩:=st;obtain⟨oa,l,t,_⟩:=U;obtain⟨ob,j,p,_⟩:=hb;exact⟨D.a1,D.a2,D.a3,D.a4,D.a5,D.a6,D.a7,D.a8,D.a9,D.b1,
  oP l hz (by rw[t];show Value.type "list"≠Value.type "zip";decide),oP l g (by rw[t];show Value.type "list"≠Value.type "tuple";decide),oP l I (by rw[t,T];decide),oP l C (by rw[t,J];decide),
  oP j hz (by rw[p];show Value.type "list"≠Value.type "zip";decide),oP j g (by rw[p];show Value.type "list"≠Value.type "tuple";decide),oP j I (by rw[p,T];decide),oP j C (by rw[p,J];decide)⟩
theorem IX {P:Program}{w:World}{K:LO}{elts:LN}{ek:Nat}{epos:Pos}{z TI TO i1 i2 a b:Addr}(D:VO z TI TO i1 i2):DB P w K (.Tuple elts ek epos) (Sc K a b) [z,TI,TO,i1,i2] z (VJ z TI TO i1 i2 a b)where
 mem:=by simp
 obj:=λi h st c hc=>by
  obtain⟨hz,j,⟨p,q,l⟩,⟨o1,e1,c1,d1⟩,⟨o2,e2,c2,d2⟩⟩:=st;have g:c=z\/c=TI\/c=TO\/c=i1\/c=i2:=by simpa using hc
  rcases g with rfl|rfl|rfl|rfl|rfl;exact⟨_,hz,λv e=>by cases e⟩;exact⟨_,j,λv e=>by cases e⟩;exact⟨_,l,λv e=>by cases e⟩;exact⟨_,e1,λv e=>by rw[d1]at e;cases e⟩;exact⟨_,e2,λv e=>by rw[d2]at e;cases e⟩
 keep:=λi h h' st k=>by obtain⟨hz,j,⟨p,q,l⟩,l1,l2⟩:=st;exact⟨k z (by simp) _ hz,k TI (by simp) _ j,⟨p,q,k TO (by simp) _ l⟩,l1.at λo e=>k i1 (by simp) o e,l2.at λo e=>k i2 (by simp) o e⟩
 item:=by
  intro X hP C hK hc i pins s σ H E I hf st hg;subst hP C hK;obtain⟨xs,ys,x,y,hx,hy,ex,ey⟩:=hg;obtain⟨ia,ra,U,za⟩:=I.list hx;obtain⟨ib,rb,T,zb⟩:=I.list hy;obtain⟨u,hu,ru⟩:=ra.get ex;obtain⟨v,hv,rv⟩:=rb.get ey;have A:=VB D st U.isList T.isList;have stl:=st;obtain⟨hz,j,⟨p,q,l⟩,l1,l2⟩:=st;refine wpAny_pyNext_zip_item A hz j l l1 l2 U.isList T.isList (x:=u) (y:=v) (by simpa using hu) (by simpa using hv) λh' a1 a2 a3 a4 a5 a6 a7=>?_;refine⟨_,rfl,wpAny_letOwnedTupleGo_zip a1 λh2 b1 J=>?_⟩;have hT:H s.heap.objs.size=none:=I.hok.fresh (av _);have ltz:∀c o,s.heap.get? c=some o->s.heap.objs.size≠c:=λc o e=>dR (aS e);have hTI':=a7 _ _ D.a1 D.a5 D.a6 D.a7 j;have Tz:s.heap.objs.size≠z:=ltz _ _ hz;have aT:h2.get? s.heap.objs.size=some {cls:=.type "tuple",data:=.seq #[u,v]}:=J.extBut _ _ Tz a5;have k2:∀c o,c≠z->c≠TO->c≠i1->c≠i2->s.heap.get? c=some o->h2.get? c=some o:=λc o n1 n2 n3 n4 e=>J.extBut _ _ n1 (a7 c o n1 n2 n3 n4 e);have I1:Inv X pins σ (upd H s.heap.objs.size (.tup [x,y])) {s with heap:=s.heap.push {cls:=.type "tuple",data:=.seq #[u,v]}}:=by refine I.laid (t':=s.toks) (λc o e=>ai _ e) (av _) ?_;exact⟨k9,[u,v],.cons ru (.cons rv .nil),IsTup.new s.heap _⟩
  have hf1:∀c∈[z,TI,TO,i1,i2],qp X pins (upd H s.heap.objs.size (.tup [x,y])) c:=λc g=>by
   obtain⟨f0,f⟩:=hf c g;refine⟨?_,f⟩;have:∃o,s.heap.get? c=some o:=by
    have hc'':c=z\/c=TI\/c=TO\/c=i1\/c=i2:=by simpa using g
    obtain⟨o1,e1,_⟩:=l1;obtain⟨o2,e2,_⟩:=l2;rcases hc'' with rfl|rfl|rfl|rfl|rfl;exact⟨_,hz⟩;exact⟨_,j⟩;exact⟨_,l⟩;exact⟨_,e1⟩;exact⟨_,e2⟩
   obtain⟨o,e⟩:=this;rw[aW (ltz c o e).symm];exact f0
  have I2:Inv X pins σ (upd H s.heap.objs.size (.tup [x,y])) {s with heap:=h2}:=by
   refine Inv.turnedL (s:={s with heap:=s.heap.push {cls:=.type "tuple",data:=.seq #[u,v]}}) (h':=h2) (t':=s.toks) (its:=[z,TI,TO,i1,i2]) I1 (λc o g e=>?_) hf1;have hc'':¬(c=z\/c=TI\/c=TO\/c=i1\/c=i2):=by simpa using g
   by_cases hcs:c=s.heap.objs.size;subst hcs;have e':(s.heap.push {cls:=.type "tuple",data:=.seq #[u,v]}).get? s.heap.objs.size=some o:=e;rw[aQ _ rfl]at e';cases e';exact aT;have hlt:c<(s.heap.push {cls:=.type "tuple",data:=.seq #[u,v]}).objs.size:=aS e;rw[dj]at hlt;refine k2 c o (λt=>hc'' (.inl t)) (λt=>hc'' (.inr (.inr (.inl t)))) (λt=>hc'' (.inr (.inr (.inr (.inl t))))) (λt=>hc'' (.inr (.inr (.inr (.inr t))))) ?_;rw[<-e];exact(Heap.get?_push_ne _ _ _ hcs).symm
  refine⟨.ref s.heap.objs.size,_,I2,rfl,⟨_,x,y,rfl,hT,rfl,λws C=>by rw[I.list_inj C hx];exact ex,λws C=>by rw[I.list_inj C hy];exact ey⟩,?_,λc g=>(hf1 c g).1⟩;exact⟨b1,J.extBut _ _ D.a1 hTI',⟨_,_,J.extBut _ _ D.a2 a2⟩,a3.extBut J.extBut D.a3,a4.extBut J.extBut D.a4⟩
 done:=by
  intro X hP C hK hc i pins s σ H E I hf st hg;subst hP C hK;obtain⟨xs,ys,hx,hy,hl⟩:=hg;obtain⟨ia,ra,U,za⟩:=I.list hx;obtain⟨ib,rb,T,zb⟩:=I.list hy;have A:=VB D st U.isList T.isList;have hla:=ra.length;have hlb:=rb.length;obtain⟨hz,j,⟨p,q,l⟩,l1,l2⟩:=st;refine wpAny_pyNext_zip_end (I.ok.hd hc) A hz j l l1 l2 U.isList T.isList (by rcases hl with hl|hl;exact .inl (by simp;lia);exact .inr (by simp;lia)) λh' k=>⟨rfl,?_⟩;exact I.turnedL (t':=s.toks) (its:=[z,TI,TO,i1,i2]) (λc o g e=>by
   have hc'':¬(c=z\/c=TI\/c=TO\/c=i1\/c=i2):=by simpa using g
   exact k c o (λt=>hc'' (.inl t)) (λt=>hc'' (.inr (.inr (.inl t)))) (λt=>hc'' (.inr (.inr (.inr (.inl t))))) (λt=>hc'' (.inr (.inr (.inr (.inr t))))) e) hf
 self:=λ_ _ _ _ _ st h=>wpAny_pyIter_zip st.1 h
section
variable {X:Cx}
inductive Ma (K:LO)(R:It->Hp->Prop)(vs:LI)(H1:Hp):Prop|mk (a b:_) (_:vs=[.ref a,.ref b]) (_:(∃xs,bW K H1 a xs)) (_:(∃ys,bW K H1 b ys)) (_:R (Sc K a b) H1):Ma K R vs H1
def Vf (K:LO)(ta:TA):TI:=λσ H R=>ta σ H λvs H1=>Ma K R vs H1
theorem BU:bootBuiltins "zip"=some (.type "zip"):=by decide+kernel
theorem pX {elts:LN}{ek:Nat}{epos:Pos}{a b:Expr}{ta:TA}{p pos:Pos}(hg:Gl X "zip")(hm:X.mg "zip"=none)(ha:PA X [a,b] ta)(hs:starEach [a,b] X.env=[(false,eval a X.env),(false,eval b X.env)]:=by rfl)(j:starEach [b] X.env=[(false,eval b X.env)]:=by rfl):
  PI X (.Tuple elts ek epos) (.Call (.Name "zip" p) [a,b] [] pos) (Vf X.K ta):=by with_unfolding_all
 intro pins s σ H R I h;refine Call_ (ke I hg hm BU (du (gm (ha pos pins s σ H _ I h) λus g ⟨vs,H1,l,r1,q1⟩=>?_) (by rw[hs,j]) (by rw[j];rfl)));obtain⟨l1,l2,e,⟨xs,hx⟩,⟨ys,hy⟩,q⟩:=q1;subst e;obtain⟨u,v,rfl,ru,rv⟩:=IR r1;cases ru;cases rv;obtain⟨ia,ra,pa,za⟩:=l.list hx;obtain⟨ib,rb,pb,zb⟩:=l.list hy;refine call_zip_2 pa.isList pb.isList λh' hz U T C t hsz hk=>wpAny_pyIter_zip hz ?_;have fr:∀b,g.heap.objs.size<=b->qp X pins H1 b:=λb hb=>l.fpOk hb (l.hok.fresh hb);refine⟨_,[g.heap.objs.size+4,g.heap.objs.size+2,g.heap.objs.size+3,g.heap.objs.size,g.heap.objs.size+1],_,_,H1,rfl,l.kept (t':=g.toks) hk,
  IX (TI:=g.heap.objs.size+2) (TO:=g.heap.objs.size+3) (i1:=g.heap.objs.size) (i2:=g.heap.objs.size+1) (a:=l1) (b:=l2) ?_,⟨hz,U,⟨_,_,T⟩,C,t⟩,λb hb=>?_,q⟩
 generalize g.heap.objs.size=n;have ne:∀{x y:Nat},x≠y->(n+x:Nat)≠n+y:=λh e=>h (j5 e);exact⟨ne (by decide),ne (by decide),ne (x:=0) (by decide),ne (by decide),ne (by decide),ne (y:=0) (by decide),ne (by decide),ne (y:=0) (by decide),ne (by decide),ne (x:=0) (by decide)⟩;have J:b=g.heap.objs.size+4\/b=g.heap.objs.size+2\/b=g.heap.objs.size+3\/b=g.heap.objs.size\/b=g.heap.objs.size+1:=by simpa using hb
 rcases J with rfl|rfl|rfl|rfl|rfl;exact fr _ (dA _ _);exact fr _ (dA _ _);exact fr _ (dA _ _);exact fr _ (av _);exact fr _ (dA _ _)
def Ci (D:List (Str×Int)):List (Str×PyProof.Rows.KTD.Dat):=D.map λp=>(p.1,.flat (.int p.2))
structure RY (K:LO)(a:Addr)(D:List (Str×Int)):Prop where
 lk:PyProof.Rows.KTD.tabLook (PyProof.Rows.KTD.datLooks λb=>K.lookup b) (λb=>K.lookup b) a (Ci D)=true
inductive AK (a:Addr)(D:List (Str×Int))(x:V)(y:V)(H:Hp)(Q:VK):Prop|mk (k i:_) (_:x=.ref a) (_:y=.str k) (_:PyProof.Rows.KTD.datumAt k D=some i) (_:Q (.int i) H):AK a D x y H Q
def Qy (a:Addr)(D:List (Str×Int)):R2:=λx y H Q=>AK a D x y H Q
theorem vA {k:Str}{i:Int}:∀{D:List (Str×Int)},PyProof.Rows.KTD.datumAt k D=some i->PyProof.Rows.KTD.inKeys k (Ci D)=true
 |[],h=>by cases h
 |(x,d)::D,h=>by have h':(if decide (k=x)=true then some d else PyProof.Rows.KTD.datumAt k D)=some i:=h;show(decide (k=x)||PyProof.Rows.KTD.inKeys k (Ci D))=true;by_cases e:k=x;rw[bi e];rfl;rw[bq e]at h' ⊢;exact vA (by simpa using h')
theorem xP {h:Heap}{k:Str}{i:Int}{P:Value->Prop}(hp:∀t,P (.int i t)):∀{D:List (Str×Int)},PyProof.Rows.KTD.datumAt k D=some i->PyProof.Rows.KTD.EachL h k P (Ci D)
 |[],h=>by cases h
 |[(x,d)],h=>by have h':(if decide (k=x)=true then some d else none)=some i:=h;refine PyProof.Rows.KTD.eachL_last λe=>?_;rw[if_pos (bi e)]at h';cases h';exact PyProof.Rows.KTD.opened_int hp
 |(x,d)::p::D,h=>by have h':(if decide (k=x)=true then some d else PyProof.Rows.KTD.datumAt k (p::D))=some i:=h;refine PyProof.Rows.KTD.eachL_ite ?_;by_cases e:k=x;rw[if_pos (bi e)]at h' ⊢;cases h';exact PyProof.Rows.KTD.opened_int hp;rw[if_neg (by simpa using e)]at h' ⊢;exact xP hp h'
theorem xy:∀D:List (Str×Int),((Ci D).all λp=>PyProof.Rows.KTD.plain p.2)=true
 |[]=>rfl
 |(x,d)::D=>xy D
theorem Rs {a:Addr}{D:List (Str×Int)}(T:RY X.K a D):Si X (Qy a D):=by intro value slice pins s σ H x y v u Q I j g h hs;obtain⟨k,i,rfl,rfl,hk,q⟩:=h;cases j;obtain⟨t,rfl⟩:=g;have TT:PyProof.Rows.KTD.TextTab X.base a (Ci D):=PyProof.Rows.KTD.text_of_look (λb o e=>I.mod.kin b o e) T.lk;exact PyProof.Rows.KTD.item_textA ⟨TT,I.bk⟩ (xy D) (vA hk) (xP (λt'=>⟨.int i,H,I.tok _,⟨_,rfl⟩,q⟩) hk) hs
end
def MX (y:Str):Str:="."++y
def gj (N xs:LM):LM:=N.map (λy=>if y∈xs then MX y else y)++xs
def hU (sc:Scope):Str:=((sc.names.find? λy=>y.2== .cell).map (·.1)).getD Str.empty
structure cn (S:Scope)(N:LM)(sc:Scope)(xs:LM):Prop where
 uniq:(sc.names.map (·.1)).Nodup:=by decide+kernel
 kind:sc.kind=.function:=by rfl
 names:∀y∈sc.names,y.2=.local->sc.names.lookup y.1=some .local:=by decide+kernel
 loc:∀x∈xs,sc.names.lookup x=some .local\/sc.names.lookup x=some .cell:=by decide+kernel
 free:∀y∈sc.names,y.2=.free->S.names.lookup y.1=some .cell\/S.names.lookup y.1=some .free:=by decide+kernel
 only:∀y∈sc.names,y.2=.local->y.1∈xs\/y.1=".0":=by decide+kernel
 onlyC:∀y∈sc.names,y.2=.cell->y.1=hU sc/\y.1∈xs:=by decide+kernel
 ne:∀y∈sc.names,∀x∈xs,y.1≠MX x:=by decide+kernel
 dot:∀y∈N,y≠".0":=by decide+kernel
 nd:(gj N xs).Nodup:=by decide+kernel
def Cx.blks (X:Cx)(g:LM)(sc:Scope)(s₀:Shared)(H₀:Hp)(fp:LK):Cx:=
 {X with N:=g,s₀:=s₀,H₀:=H₀,env:=compEnvC sc (pZ sc (hU sc) (s₀.heap.objs.size+1)++nK X.env.cells sc.names []) s₀.heap.objs.size X.env,outer:=X.stack,stack:=X.stack,ex:=fp,fn:=λy=>decide (y=hU sc/\sc.names.lookup (hU sc)=some .cell),pn:=[],xe:=λ_ _=>False}
theorem cn.cells {S:Scope}{N:LM}{sc:Scope}{xs:LM}(L:cn S N sc xs)(n:Nat)(cl:List (Str×Addr)):cellsFrom n sc.names cl=pZ sc (hU sc) n++cl:=by unfold pZ;by_cases h:sc.names.lookup (hU sc)=some .cell;rw[if_pos h];exact pJ L.uniq (λy g j=>(L.onlyC y g j).1) (eZ h);rw[if_neg h];exact kZ λy g j=>h (nH L.uniq (by rw[<-(L.onlyC y g j).1,<-j];exact g))
theorem cn.heap {S:Scope}{N:LM}{sc:Scope}{xs:LM}(L:cn S N sc xs)(h:Heap):(∀b o,h.get? b=some o->(pushCells h sc.names).get? b=some o)/\(sc.names.lookup (hU sc)=some .cell->(pushCells h sc.names).IsCell h.objs.size none):=by refine⟨λb o e=>pushCells_keeps _ _ b o e,λg=>?_⟩;rw[pI L.uniq (λy j g=>(L.onlyC y j g).1) (eZ g)];exact⟨_,aQ _ rfl,rfl⟩
section
variable {X:Cx}{pins:LD}{σ:St}{H:Hp}{s:Shared}{sc:Scope}{xs:LM}{fp:LK}
theorem Ir (N xs:LM):(gj N xs).length=N.length+xs.length:=by simp[gj]
theorem MC {N xs:LM}{i:Nat}{y:Str}(h:(gj N xs)[i]?=some y)(hi:i<N.length):∃g,N[i]?=some g/\((g∈xs/\y=MX g)\/(g∉xs/\y=g)):=by unfold gj at h;rw[aN (by simpa using hi),ao]at h;cases q:N[i]? with|none=>rw[q]at h;cases h|some g=>rw[q]at h;refine⟨g,rfl,?_⟩;have h':(if g∈xs then MX g else g)=y:=bK h;by_cases e:g∈xs;rw[if_pos e]at h';exact .inl ⟨e,h'.symm⟩;rw[if_neg e]at h';exact .inr ⟨e,h'.symm⟩
theorem Inv.has_cells (I:Inv X pins σ H s){S:Scope}(L:cn S X.N sc xs)(l:X.env.scope=S):∀y∈sc.names,y.2=.free->(X.env.cells.lookup y.1).isSome=true:=λy g j=>by
 have k:X.env.kindOf y.1=some .cell\/X.env.kindOf y.1=some .free:=by show X.env.scope.names.lookup y.1=_\/X.env.scope.names.lookup y.1=_;rw[l];exact L.free y g j
 obtain⟨c,e⟩:=I.ok.has y.1 k;rw[e];rfl
theorem Inv.blks (I:Inv X pins σ H s){S:Scope}(L:cn S X.N sc xs)(hS:X.env.scope=S)(hf:∀b∈fp,qp X pins H b)(hb:∀b∈fp,b<s.heap.objs.size){h1:Heap}{tk:Nat}{m:LQ}(hn:h1.Ns s.heap.objs.size m)(hk:∀b o,s.heap.get? b=some o->h1.get? b=some o)(hoc:sc.names.lookup (hU sc)=some .cell->h1.IsCell (s.heap.objs.size+1) none):Inv (X.blks (gj X.N xs) sc s H fp) [] (σ++xs.map λ_=>none) H {s with heap:=h1,toks:=tk}:=by
 have sub:∀y c,(nK X.env.cells sc.names []).lookup y=some c->X.env.cells.lookup y=some c:=BF sc.names [] λ_ _ z=>by cases z
 have sub2:∀y c,(pZ sc (hU sc) (s.heap.objs.size+1)++nK X.env.cells sc.names []).lookup y=some c->(y=hU sc/\c=s.heap.objs.size+1/\sc.names.lookup (hU sc)=some .cell)\/X.env.cells.lookup y=some c:=λy c e=>
  (AN e).imp id (sub y c)
 have ltc:∀y c,X.env.cells.lookup y=some c->c<s.heap.objs.size:=λy c e=>by obtain⟨v,z⟩:=I.cell y c e;exact z.lt
 have fkey:∀y,(y,NameKind.free)∈sc.names->(pZ sc (hU sc) (s.heap.objs.size+1)++nK X.env.cells sc.names []).lookup y=(nK X.env.cells sc.names []).lookup y:=λy C=>by
  by_cases h:sc.names.lookup (hU sc)=some .cell;exact CO λe=>by have z:=nH L.uniq C;rw[e,h]at z;cases z
  unfold pZ;rw[if_neg h];rfl
 have hasC:∀y,(y,NameKind.free)∈sc.names->∃c,(pZ sc (hU sc) (s.heap.objs.size+1)++nK X.env.cells sc.names []).lookup y=some c:=λy C=>by rw[fkey y C];exact iH.mp (BH (I.has_cells L hS (y,.free) C rfl) sc.names [] C)
 have kinds:∀y k,(relabel sc X.env).names.lookup y=some k->(k=.cell\/k=.free)->(y,NameKind.free)∈sc.names\/(y=hU sc/\sc.names.lookup (hU sc)=some .cell/\y∈xs):=λy k e hk=>by obtain⟨k0,J,q⟩:=qZ e;rcases q with rfl|⟨_,rfl⟩;rcases hk with rfl|rfl;obtain⟨e1,j⟩:=L.onlyC _ J rfl;have e1':y=hU sc:=e1;exact .inr ⟨e1',by rw[<-e1'];exact nH L.uniq J,j⟩;exact .inl J;exact .inl J
 have stk:=I.stkSub;refine⟨⟨I.ok.mod,L.kind,I.ok.glob,I.ok.blt,av _,λy z c e1 j=>?_,λy C=>?_,λy c z e=>?_,I.ok.hd,I.ok.frames,.inl rfl,λb g=>?_,I.bs,bj I.ok.bsz I.sz,λb o e g=>?_,λb g z=>?_,I.stack,I.stkFree⟩,
  rfl,I.bare,Un.kept hk,⟨m,hn,λi y v e1 j e3=>?_⟩,λy c e=>?_,I.hok.fresh (av _),λy c e=>?_,λp hp=>absurd (show p∈([]:LD)from hp) (by simp),I.hok.kept hk,?_⟩
 rcases sub2 y c e1 with⟨q1,t,_⟩|q<;>rcases sub2 z c j with⟨q1',q2',_⟩|q';rw[q1,q1'];have l:=ltc z c q';rw[t]at l;exact absurd l (pE.mpr (fY _));have l:=ltc y c q;rw[q2']at l;exact absurd l (pE.mpr (fY _));exact I.ok.inj y z c q q';have hy':(relabel sc X.env).names.lookup y=some .cell\/(relabel sc X.env).names.lookup y=some .free:=C;have z:(y,NameKind.free)∈sc.names\/(y=hU sc/\sc.names.lookup (hU sc)=some .cell/\y∈xs):=by rcases hy' with e|e;exact kinds y _ e (.inl rfl);exact kinds y _ e (.inr rfl)
 rcases z with z|⟨rfl,z,_⟩;exact hasC y z;exact⟨_,xA z⟩;have z':decide (y=hU sc/\sc.names.lookup (hU sc)=some .cell)=true:=z;obtain⟨rfl,z2⟩:=jk z';have e':(pZ sc (hU sc) (s.heap.objs.size+1)++nK X.env.cells sc.names []).lookup (hU sc)=some c:=e;rw[xA z2]at e';cases e';exact fY _;obtain⟨f0,f1,f2,f3,f4,f5⟩:=hf b g;refine⟨bB (hb b g),λy c e z=>?_⟩;rcases sub2 y c e with⟨_,t,_⟩|q;have l:=hb b g;rw[<-z,t]at l;exact absurd l (pE.mpr (fY _));exact f4 y c q z;obtain⟨f0,f1,f2,f3,f4,f5⟩:=hf b g;rcases f3 with z|z;exact I.ok.noex b o e z;exact absurd (ba (aS (I.ok.bs b o e).1) z) (dP _);obtain⟨f0,f1,f2,f3,f4,f5⟩:=hf b g;rcases bT.mp (stk b z)with q|q;exact f1 q;exact f2 q;have hl:σ.length=X.N.length:=I.len;have hi:i<X.N.length:=by by_cases hi:i<σ.length;lia;rw[aE (by lia),ao]at j;cases q:xs[i-σ.length]? with|none=>rw[q]at j;cases j|some n=>rw[q]at j;cases j
 rw[aN (by lia)]at j;obtain⟨y0,g1,g2⟩:=MC e1 hi;have vis:∃k,(relabel sc X.env).names.lookup y=some k/\(k=.local\/k=.cell\/k=.free):=by rcases e3 with q|q|q;exact⟨_,q,.inl rfl⟩;exact⟨_,q,.inr (.inl rfl)⟩;exact⟨_,q,.inr (.inr rfl)⟩
 obtain⟨k,q,hk'⟩:=vis;obtain⟨k0,J,q0⟩:=qZ q;rcases g2 with⟨g2,rfl⟩|⟨g2,rfl⟩;exact absurd rfl (L.ne _ J _ g2);have hkc:k=.cell\/k=.free:=by rcases hk' with rfl|z;exfalso;rcases q0 with rfl|⟨z,_⟩;rcases L.only _ J rfl with z|z;exact g2 z;exact L.dot y (af g1) z;cases z;exact z
 have T:(y,NameKind.free)∈sc.names:=(kinds y k q hkc).resolve_right λz=>g2 z.2.2;have visX:X.env.scope.names.lookup y=some .cell\/X.env.scope.names.lookup y=some .free:=by rw[hS];exact L.free _ T rfl
 obtain⟨m0,_,hl0⟩:=I.loc;obtain⟨u,r,lk⟩:=hl0 i y v g1 j (.inr visX);refine⟨u,r,?_⟩;rcases lk with⟨z,_⟩|⟨_,c,ec,hc⟩;exfalso;have z':X.env.scope.names.lookup y=some .local:=z;rcases visX with w'|w'<;>rw[z']at w'<;>cases w';obtain⟨c',U⟩:=hasC y T;have:c'=c:=by rw[fkey y T]at U;exact bK ((sub y c' U).symm.trans ec)
 subst this;refine .inr ⟨?_,c',U,?_⟩;rcases hkc with rfl|rfl;exact .inl q;exact .inr q;obtain⟨o,ho,hd⟩:=hc;exact⟨o,hk _ _ ho,hd⟩;rcases sub2 y c e with⟨_,t,q3⟩|q;rw[t];exact⟨_,hoc q3⟩;obtain⟨v,o,ho,hd⟩:=I.cell y c q;exact⟨v,o,hk _ _ ho,hd⟩;rcases sub2 y c e with⟨_,t,_⟩|q;rw[t];exact I.hok.fresh (fY _);exact I.freeC y c q;rw[ah,aa,I.len];exact(Ir X.N xs).symm
def Ue (X:Cx)(g:LN)(t:TT):Prop:=
 ∀(pins:LD) (s:Shared) (σ:St) (H:Hp) (Q:Bool->Hp->Prop),Inv X pins σ H s->t σ H Q->
  wpAny (model X.prog X.w) X.A (forIn g true λc r=>if r=true then do let ok<-isTrue c X.env (eval c X.env);pure (ForInStep.yield ok)else pure (ForInStep.yield r)) (TP X pins σ Q) X.xe s
def Cj:TT:=λ_ H Q=>Q true H
theorem lJ:Ue X [] Cj:=λ_ _ _ H _ I h=>wpAny_tests_nil ⟨H,I,h⟩
theorem yF {c:Expr}{t:TT}(h:PT X c t):Ue X [c] t:=by with_unfolding_all exact(λpins s σ H Q I q=>wpAny_tests_one (h pins s σ H Q I q))
theorem Ij {prog:Program}{w:World}{A:Around}{R:Result->Shared->Prop}{elt target iter:Expr}{T:LN}{scope:Scope}{pos:Pos}{it acc:Value}{env:Env}(I:Nat->Shared->Prop)(turn:∀n s,I n s->wpAny (model prog w) A (pyNext it) (λr s₁=>match r with
   |none=>R (.ok .next) s₁
   |some v=>wpAny (model prog w) A (letOwnedTupleGo target it v) (λ_ j=>wpAny (model prog w) A (assign target env v) (λ_ t=>
     wpAny (model prog w) A (forIn T true λc r=>if r=true then do let ok<-isTrue c env (eval c env);pure (ForInStep.yield ok)else pure (ForInStep.yield r)) (λok g=>
      if ok=true then wpAny (model prog w) A (eval elt env) (λx p=>
       wpAny (model prog w) A (call (.builtin "list.append") [acc,x]) (λ_ l=>∃m,m<n/\I m l) (λ_ _=>False) p) (λ_ _=>False) g
      else∃m,m<n/\I m g) (λ_ _=>False) t) (λ_ _=>False) j) (λ_ _=>False) s₁) (λ_ _=>False) s)(n:Nat)(h:I n s):codeAny (model prog w) A (.compLoop (.ListComp elt [⟨target,iter,T,0⟩] scope pos) 0 it acc env) R s:=by refine codeAny_loop rfl I (λn s hI=>?_) n h;show wpAny _ A ((compTurn (.ListComp elt [⟨target,iter,T,0⟩] scope pos) 0 it acc env).onRaise λx=>do noteFrame x env;theTreesLotGoes x) _ _ s;refine wpAny_noted ?_;rw[compTurn_list];refine ae (qC (ae (ii (turn n s hI) (λr s₁ J=>?_) λ_ _ z=>z.elim)));cases r with|none=>exact ak J|some v=>refine ae (ii J (λ_ j U=>?_) λ_ _ z=>z.elim);refine ae (ii U (λ_ t h₂=>ae (ii h₂ (λok g C=>?_) λ_ _ z=>z.elim)) λ_ _ z=>z.elim);cases ok with|false=>exact ak ⟨rfl,C⟩|true=>exact ae (ae (ii C (λx p h₄=>ae (ii h₄ (λ_ l h₅=>ak (ak ⟨rfl,h₅⟩)) λ_ _ z=>z.elim)) λ_ _ z=>z.elim))
def Qc (n:Nat)(J:It)(g:TG)(tt:TT)(te:TE)(σ:St)(H1:Hp)(Q:VK):Prop:=∀D,H1 D=none->∃W:Nat->Nat->List V->Hp->Prop,(∃m,W 0 m [] (upd H1 D (.lst [])))/\
 ∀i m ys H',W i m ys H'->H' D=some (.lst ys)/\((J.stop i H'/\Q (.ref D) H')\/(J.go i H'/\∀z H2,J.yld i H' z H2->∀os:St,os.length=n->g z (σ++os) H2 λj t=>(∃l:St,j=σ++l/\l.length=n)/\tt j t λok H4=>
  if ok=true then te j H4 λv H5=>H5 D=some (.lst ys)/\ys.length<sizeLine/\∃p,p<m/\W (i+1) p (ys++[v]) (upd H5 D (.lst (ys++[v])))else∃p,p<m/\W (i+1) p ys H4))
def Sv (n:Nat)(ti:TI)(g:TG)(tt:TT)(te:TE):TE:=λσ H Q=>ti σ H λJ H1=>Qc n J g tt te σ H1 Q
theorem rj {elt iter target:Expr}{U:LN}{pos:Pos}{g:TG}{tt:TT}{te:TE}{S:Scope}{use:Option (Value->Sem Unit)}{QQ:LP}{Q:VK}{it:Addr}{tn:Nat->Heap->Prop}{J:It}(hc:X.calm=true)(L:cn S X.N sc xs)(hS:X.env.scope=S)(hg:∀(s₀:Shared) (H₀:Hp) (fp:LK),PG (X.blks (gj X.N xs) sc s₀ H₀ fp) target g)(ht:∀(s₀:Shared) (H₀:Hp) (fp:LK),Ue (X.blks (gj X.N xs) sc s₀ H₀ fp) U tt)(he:∀(s₀:Shared) (H₀:Hp) (fp:LK),PE (X.blks (gj X.N xs) sc s₀ H₀ fp) elt te)(I:Inv X pins σ H s)(T:DB X.prog X.w X.K target J fp it tn)(st:tn 0 s.heap)(hf:∀b∈fp,qp X pins H b)(h:Qc xs.length J g tt te σ H Q)(fin:∀(D C:Addr) (H':Hp) (s':Shared) (m:LQ),Inv X pins σ H' s'->Q (.ref D) H'->s'.heap.Ns C m->H' C=none->s.heap.objs.size<=C->(∀p∈X.pn++pins,p.1≠C)->C≠X.env.locals->(∀y c,X.env.cells.lookup y=some c->c≠C)->compPost (model X.prog X.w) X.A X.xe use QQ (.ref D) C (.ok .next) s'):
  wpAny (model X.prog X.w) X.A (newList []) (λacc s₃=>wpAny (model X.prog X.w) X.A (newFunctionEnv sc X.env.globals (nK X.env.cells sc.names []) [] X.env.qual none .none (some X.env)) (λcenv s₄=>
   codeAny (model X.prog X.w) X.A (.compStart (.ListComp elt [⟨target,iter,U,0⟩] sc pos) 0 (.ref it) acc {cenv with scope:=relabel sc X.env}) (compPost (model X.prog X.w) X.A X.xe use QQ acc cenv.locals) s₄) X.xe s₃) X.xe s:=by with_unfolding_all
 refine fe ?_;have hD:H s.heap.objs.size=none:=I.hok.fresh (av _);obtain⟨W,⟨m0,w0⟩,turn⟩:=h s.heap.objs.size hD;have I2:Inv X pins σ (upd H s.heap.objs.size (.lst [])) {s with heap:=s.heap.push {cls:=.type "list",data:=.seq ([]:LJ).toArray}}:=I.lnew (t':=s.toks) .nil (bp _);have lt0:∀b∈fp,b<s.heap.objs.size:=λb hb=>by obtain⟨o,e,_⟩:=T.obj 0 s.heap st b hb;exact aS e
 have hf2:∀b∈fp,qp X pins (upd H s.heap.objs.size (.lst [])) b:=λb hb=>by obtain⟨f0,f⟩:=hf b hb;exact⟨by rw[aW (bB (lt0 b hb))];exact f0,f⟩
 have st2:tn 0 (s.heap.push {cls:=.type "list",data:=.seq ([]:LJ).toArray}):=T.keep 0 _ _ st λb _ o e=>ai _ e;generalize hs2:({s with heap:=s.heap.push {cls:=.type "list",data:=.seq ([]:LJ).toArray}}:Shared)=j at I2;have eh:j.heap=s.heap.push {cls:=.type "list",data:=.seq ([]:LJ).toArray}:=by rw[<-hs2]
 have lt2:∀b∈fp,b<j.heap.objs.size:=λb hb=>by rw[eh,dj];exact DF (lt0 b hb)
 rw[<-eh]at st2;have le2:s.heap.objs.size<=j.heap.objs.size:=by rw[eh,dj];exact fY _
 show wpAny _ _ _ _ _ j;refine Ht ?_;rw[L.cells];have hp0:=L.heap (j.heap.push {cls:=.type "dict",data:=.dict #[]});have hns0:(j.heap.push {cls:=.type "dict",data:=.dict #[]}).Ns j.heap.objs.size _:=Heap.Ns.new j.heap (.type "dict");have hns₁:=hns0.keeps hp0.1;have hoc:=hp0.2;rw[dj]at hoc;have keep:∀b o,j.heap.get? b=some o->(pushCells (j.heap.push {cls:=.type "dict",data:=.dict #[]}) sc.names).get? b=some o:=λb o e=>hp0.1 b o (ai _ e);generalize pushCells (j.heap.push {cls:=.type "dict",data:=.dict #[]}) sc.names=t at hns₁ hoc keep ⊢;have J0:Inv (X.blks (gj X.N xs) sc j (upd H s.heap.objs.size (.lst [])) fp) [] (σ++xs.map λ_=>none) (upd H s.heap.objs.size (.lst [])) {j with heap:=t}:=I2.blks (tk:=j.toks) L hS hf2 lt2 hns₁ keep hoc;have st3:tn 0 t:=T.keep 0 _ _ st2 λb _ o e=>keep b o e;have stat:∀{H':Hp},(∀b∈fp,H' b=none)->∀b∈fp,qp (X.blks (gj X.N xs) sc j (upd H s.heap.objs.size (.lst [])) fp) [] H' b:=λ{H'} hn b hb=>by have o1:=J0.ok.exf b hb;exact⟨hn b hb,o1.1,J0.ok.exfs b hb,.inl hb,o1.2,λp hp=>absurd (show p∈([]:LD)from hp) (by simp)⟩
 have loop:codeAny (model X.prog X.w) X.A (.compLoop (.ListComp elt [⟨target,iter,U,0⟩] sc pos) 0 (.ref it) (.ref s.heap.objs.size) (compEnvC sc (pZ sc (hU sc) (j.heap.objs.size+1)++nK X.env.cells sc.names []) j.heap.objs.size X.env))
   (compPost (model X.prog X.w) X.A X.xe use QQ (.ref s.heap.objs.size) j.heap.objs.size) {j with heap:=t}:=by
  refine Ij (λn s'=>∃i ys H' os,os.length=xs.length/\Inv (X.blks (gj X.N xs) sc j (upd H s.heap.objs.size (.lst [])) fp) [] (σ++os) H' s'/\tn i s'.heap/\(∀b∈fp,H' b=none)/\W i n ys H') ?_ m0 ⟨0,[],_,xs.map λ_=>none,by simp,J0,st3,λb hb=>(hf2 b hb).1,w0⟩;rintro n s4 ⟨i,ys,H4,os,los,J4,st4,fr4,w4⟩;obtain⟨hD4,tt'⟩:=turn i n ys H4 w4;rcases tt' with⟨stop,q⟩|⟨go,step⟩
  ·refine gm (T.done (X.blks (gj X.N xs) sc j (upd H s.heap.objs.size (.lst [])) fp) rfl rfl rfl hc i [] s4 _ H4 _ J4 (stat fr4) st4 stop) λr s5 ⟨hr,J5⟩=>?_
   subst hr;have I5:Inv X pins σ H4 s5:=I2.call' J5.os J5.base J5.hok J5.bare λb hb=>by obtain⟨f0,f1,f2,f3,f4,f5⟩:=hf2 b hb;exact⟨f3,f1,f4,f5⟩
   obtain⟨m5,n5,_⟩:=J5.loc;exact fin _ _ H4 s5 m5 I5 q n5 J5.free le2 (λp hp z=>by have:=aS (I2.pin p hp).1;rw[z]at this;exact dP _ this) (dR I2.lt) (λy c e z=>by obtain⟨v,o,ho,_⟩:=I2.cell y c e;have:=aS ho;rw[z]at this;exact dP _ this)
  refine gm (T.item (X.blks (gj X.N xs) sc j (upd H s.heap.objs.size (.lst [])) fp) rfl rfl rfl hc i [] s4 _ H4 _ J4 (stat fr4) st4 go) λr s5 ⟨u,hr,h5⟩=>?_;subst hr;refine gm h5 λ_ s6 ⟨z,H6,J6,r6,y6,l,fr6⟩=>?_;have J6':=J6.pinned (stat fr6) (T.obj _ _ l);refine gm (hg j (upd H s.heap.objs.size (.lst [])) fp _ s6 _ H6 z u _ J6' r6 (step z H6 y6 os los)) λ_ s7 ⟨σ7,H7,J7,⟨os',e7,l7⟩,t7⟩=>?_;subst e7;refine gm (ht j (upd H s.heap.objs.size (.lst [])) fp _ s7 _ H7 _ J7 t7) λok s8 ⟨H8,J8,t8⟩=>?_;cases ok with
  |false=>rw[if_neg bC]at t8 ⊢;obtain⟨m',hm,w8⟩:=t8;refine⟨m',hm,i+1,ys,_,os',l7,J8.unpinned,T.keep _ _ _ l λb hb o e=>(J8.pin (b,o) (bM _ (bM _ (jP hb e)))).1,λb hb=>?_,w8⟩;obtain⟨o',e',_⟩:=T.obj _ _ l b hb;exact(J8.pin (b,o') (bM _ (bM _ (jP hb e')))).2.1
  |true=>rw[if_pos rfl]at t8 ⊢;refine gm (he j (upd H s.heap.objs.size (.lst [])) fp _ s8 _ H8 _ J8 t8) λvv s9 ⟨v,H9,J9,r9,hD9,hz9,m',hm,w9⟩=>?_;refine gm (ir (X:=X.blks (gj X.N xs) sc j (upd H s.heap.objs.size (.lst [])) fp) _ s9 _ H9 (.ref s.heap.objs.size) [v] (.ref s.heap.objs.size) [vv] (λ_ H'=>H'=upd H9 s.heap.objs.size (.lst (ys++[v]))) J9 rfl (.cons r9 .nil) ⟨_,ys,v,rfl,rfl,hD9,hz9,rfl⟩) λ_ s10 ⟨_,H10,J10,_,e10⟩=>?_;subst e10;refine⟨m',hm,i+1,ys++[v],_,os',l7,J10.unpinned,T.keep _ _ _ l λb hb o e=>(J10.pin (b,o) (bM _ (bM _ (jP hb e)))).1,λb hb=>?_,w9⟩;obtain⟨o',e',_⟩:=T.obj _ _ l b hb;exact(J10.pin (b,o') (bM _ (bM _ (jP hb e')))).2.1
 refine codeAny_compStart_list loop (T.self _ 0 _ _ _ st3 loop)
theorem yN {t iter target:Expr}{j:LN}{pos:Pos}{ti:TI}{g:TG}{tt:TT}{te:TE}{S:Scope}(hc:X.calm=true)(L:cn S X.N sc xs)(hS:X.env.scope=S)(hi:PI X target iter ti)(hg:∀(s₀:Shared) (H₀:Hp) (fp:LK),PG (X.blks (gj X.N xs) sc s₀ H₀ fp) target g)(ht:∀(s₀:Shared) (H₀:Hp) (fp:LK),Ue (X.blks (gj X.N xs) sc s₀ H₀ fp) j tt)(he:∀(s₀:Shared) (H₀:Hp) (fp:LK),PE (X.blks (gj X.N xs) sc s₀ H₀ fp) t te)(hs:∀x,foldedSetIterable iter X.env x=pure x:=by intro _;rfl):
  PE X (.ListComp t [⟨target,iter,j,0⟩] sc pos) (Sv xs.length ti g tt te):=by with_unfolding_all
 intro pins s σ H Q I h;rw[eval_ListComp];refine j7 (use:=none) rfl hs (nJ (I.has_cells L hS)) L.kind L.names (gm (hi pins s σ H _ I h) λxv s₁ p=>gm p λitv s₂ l=>?_);obtain⟨it,fp,tn,J,H2,rfl,I2,T,U,f2,q2⟩:=l;refine rj hc L hS hg ht he I2 T U f2 q2 ?_;intro D C H' s' m I' q hn hC hle hp hL hcl;refine⟨m,hn,λh' hs'=>?_⟩;have I3:Inv X pins σ H' {s' with heap:=h'}:=I'.turned (t':=s'.toks) (λb o hb e=>(hs'.2 b hb).trans e) hC hL (.inr (bj I2.sz hle)) hcl hp;exact⟨.ref D,H',I3,rfl,q⟩
theorem mK {l iter target:Expr}{j:LN}{i:Nat}{y:Str}{py pos spos:Pos}{ti:TI}{g:TG}{tt:TT}{te:TE}{S:Scope}(hN:X.N.Nodup)(hi:X.N[i]?=some y)(hy:MY X.env.scope y)(hc:X.calm=true)(L:cn S X.N sc xs)(hS:X.env.scope=S)(hit:PI X target iter ti)(hg:∀(s₀:Shared) (H₀:Hp) (fp:LK),PG (X.blks (gj X.N xs) sc s₀ H₀ fp) target g)(ht:∀(s₀:Shared) (H₀:Hp) (fp:LK),Ue (X.blks (gj X.N xs) sc s₀ H₀ fp) j tt)(he:∀(s₀:Shared) (H₀:Hp) (fp:LK),PE (X.blks (gj X.N xs) sc s₀ H₀ fp) l te)(hsw:swapsWith (.ListComp l [⟨target,iter,j,0⟩] sc pos) (some (.Name y py)) spos.line X.env=pure true:=by rfl)(hs:∀x,foldedSetIterable iter X.env x=pure x:=by intro _;rfl)(hf:X.fn y=true\/X.env.scope.names.lookup y=some .local:=by first|exact .inl rfl|exact .inr rfl|assumption):
  PS X (.Assign [.Name y py] (.ListComp l [⟨target,iter,j,0⟩] sc pos) spos) (Jm (Sv xs.length ti g tt te) (mV i)):=by with_unfolding_all
 intro pins s σ H D I h;rw[exec_Assign_Name_used _ _ _ _ hsw];refine ae (qC (ae ?_));show wpAny _ _ (do let _<-comprehension (.ListComp l [⟨target,iter,j,0⟩] sc pos) sc X.env _ (newList []) false (eval iter X.env) (some (assign (.Name y py) X.env))) _ _ s;refine ae (ii (j7 (use:=some (assign (.Name y py) X.env)) (Q:=λ_ s'=>SP X pins D .next s') rfl hs (nJ (I.has_cells L hS)) L.kind L.names
  (gm (hit pins s σ H _ I h) λxv s₁ U=>gm U λitv s₂ t=>?_)) (λ_ s' hq=>ak (ak hq)) λ_ _ e=>e)
 obtain⟨it,fp,tn,J,H2,rfl,I2,T,st2,f2,q2⟩:=t;refine rj (Q:=λv H'=>D.nx (σ.set i (some v)) H') hc L hS hg ht he I2 T st2 f2 q2 ?_;intro D' C H' s' m I' q hn hC hle hp hL hcl;show wpAny _ _ (assign (.Name y py) X.env (.ref D')) _ _ s';refine B7 (rJ I' hN hi hy (v:=.ref D') (u:=.ref D') rfl (λp I'' ⟨a,sb,ha⟩=>?_) hf);have nCa:C≠a:=by rcases ha with rfl|ha;exact hL;exactλz=>hcl y a ha z.symm
 refine⟨m,hn.sameBut sb nCa,λh' hs'=>?_⟩;have I3:Inv X pins (σ.set i (some (.ref D'))) H' {p with heap:=h'}:=I''.turned (t':=p.toks) (λb o hb e=>(hs'.2 b hb).trans e) hC hL (.inr (bj I2.sz hle)) hcl hp;exact⟨_,H',I3,q⟩
theorem cn.at {S:Scope}{N:LM}{env:Env}(L:cn S N sc xs){x:Str}(g:x∈xs):MY (relabel sc env) x/\(decide (x=hU sc/\sc.names.lookup (hU sc)=some .cell)=true\/(relabel sc env).names.lookup x=some .local):=by rcases L.loc x g with h|h;exact⟨.inl (lookup_relabel_local h),.inr (lookup_relabel_local h)⟩;have e:x=hU sc:=(L.onlyC _ (eZ h) rfl).1;exact⟨.inr (GX h),.inl (bi ⟨e,by rw[<-e];exact h⟩)⟩
def g2 (K:LO)(n:Nat):TG:=TK K 2 (Mi (mV n) (Mi (mV (n+1)) TL))
theorem pY {S:Scope}{x y:Str}{g py tpos:Pos}{k:Nat}(j:X.calm=true)(L:cn S X.N sc [x,y])(s₀:Shared)(H₀:Hp)(fp:LK):PG (X.blks (gj X.N [x,y]) sc s₀ H₀ fp) (.Tuple [.Name x g,.Name y py] k tpos) (g2 X.K X.N.length):=by refine oG (X:=X.blks (gj X.N [x,y]) sc s₀ H₀ fp) j (gc (ui L.nd ?_ (L.at (x:=x) (by simp)).1 (L.at (x:=x) (by simp)).2) (gc (ui L.nd ?_ (L.at (x:=y) (by simp)).1 (L.at (x:=y) (by simp)).2) lN));show(gj X.N [x,y])[X.N.length]?=some x;unfold gj;rw[aE (by simp)];simp;show(gj X.N [x,y])[X.N.length+1]?=some y;unfold gj;rw[aE (by simp)];simp
theorem yI {S:Scope}{x:Str}{g:Pos}(L:cn S X.N sc [x])(s₀:Shared)(H₀:Hp)(fp:LK):PG (X.blks (gj X.N [x]) sc s₀ H₀ fp) (.Name x g) (mV X.N.length):=by refine ui L.nd ?_ (L.at (x:=x) (by simp)).1 (L.at (x:=x) (by simp)).2;show(gj X.N [x])[X.N.length]?=some x;unfold gj;rw[aE (by simp)];simp
end
theorem Fp {n:Nat}{J:It}{te:TE}{σ:St}{H1:Hp}{Q:VK}(U:σ.length=n)(h:∀D,H1 D=none->∃W:Nat->Nat->List V->Hp->Prop,(∃m,W 0 m [] (upd H1 D (.lst [])))/\
  ∀i m ys H',W i m ys H'->H' D=some (.lst ys)/\((J.stop i H'/\Q (.ref D) H')\/(J.go i H'/\∀z H2,J.yld i H' z H2->te (σ++[some z]) H2 λv p=>p D=some (.lst ys)/\ys.length<sizeLine/\∃j,j<m/\W (i+1) j (ys++[v]) (upd p D (.lst (ys++[v])))))):
  Qc 1 J (mV n) Cj te σ H1 Q:=by
 subst U;intro D hD;obtain⟨W,C,st⟩:=h D hD;refine⟨W,C,λi m ys H' T=>?_⟩;obtain⟨e,d⟩:=st i m ys H' T;refine⟨e,d.imp id λ⟨go,t⟩=>⟨go,λz H2 I os l=>?_⟩⟩;match os,l with
 |[o],_=>
  have es:(σ++[o]).set σ.length (some z)=σ++[some z]:=by rw[mh _ _ (av _),iW];rfl
  show(∃g:St,(σ++[o]).set σ.length (some z)=σ++g/\g.length=1)/\Cj ((σ++[o]).set σ.length (some z)) H2 _;rw[es];exact⟨⟨[some z],rfl,rfl⟩,iV (B:=∃j,j<m/\W (i+1) j ys H2) (t z H2 I)⟩
section
variable {X:Cx}{sc:Scope}{x:Str}
theorem il {l iter:Expr}{px pos:Pos}{ti:TI}{te:TE}{S:Scope}(hc:X.calm=true)(L:cn S X.N sc [x])(hS:X.env.scope=S)(hi:PI X (.Name x px) iter ti)(he:∀(s₀:Shared) (H₀:Hp) (fp:LK),PE (X.blks (gj X.N [x]) sc s₀ H₀ fp) l te)(hs:∀x,foldedSetIterable iter X.env x=pure x:=by intro _;rfl):
  PE X (.ListComp l [⟨.Name x px,iter,[],0⟩] sc pos) (VD ti te):=by with_unfolding_all
 intro pins s σ H Q I h;rw[eval_ListComp];refine j7 (use:=none) rfl hs (nJ (I.has_cells L hS)) L.kind L.names (gm (hi pins s σ H _ I h) λxv s₁ j=>gm j λitv s₂ g=>?_);obtain⟨it,fp,tn,J,H2,rfl,I2,T,p,f2,q2⟩:=g;refine rj hc L hS (yI L) (λ_ _ _=>lJ) he I2 T p f2 (Fp I2.len q2) ?_;intro D C H' s' m I' q hn hC t hp hL U;refine⟨m,hn,λh' hs'=>?_⟩;have I3:Inv X pins σ H' {s' with heap:=h'}:=I'.turned (t':=s'.toks) (λb o hb e=>(hs'.2 b hb).trans e) hC hL (.inr (bj I2.sz t)) U hp;exact⟨.ref D,H',I3,rfl,q⟩
theorem mM {g iter:Expr}{i:Nat}{y:Str}{U py pos spos:Pos}{ti:TI}{te:TE}{S:Scope}(hN:X.N.Nodup)(hi:X.N[i]?=some y)(hy:MY X.env.scope y)(hc:X.calm=true)(L:cn S X.N sc [x])(hS:X.env.scope=S)(hit:PI X (.Name x U) iter ti)(he:∀(s₀:Shared) (H₀:Hp) (fp:LK),PE (X.blks (gj X.N [x]) sc s₀ H₀ fp) g te)(hsw:swapsWith (.ListComp g [⟨.Name x U,iter,[],0⟩] sc pos) (some (.Name y py)) spos.line X.env=pure true:=by rfl)(hs:∀x,foldedSetIterable iter X.env x=pure x:=by intro _;rfl)(hf:X.fn y=true\/X.env.scope.names.lookup y=some .local:=by first|exact .inl rfl|exact .inr rfl|assumption):
  PS X (.Assign [.Name y py] (.ListComp g [⟨.Name x U,iter,[],0⟩] sc pos) spos) (Jm (VD ti te) (mV i)):=by with_unfolding_all
 intro pins s σ H D I h;rw[exec_Assign_Name_used _ _ _ _ hsw];refine ae (qC (ae ?_));show wpAny _ _ (do let _<-comprehension (.ListComp g [⟨.Name x U,iter,[],0⟩] sc pos) sc X.env _ (newList []) false (eval iter X.env) (some (assign (.Name y py) X.env))) _ _ s;refine ae (ii (j7 (use:=some (assign (.Name y py) X.env)) (Q:=λ_ s'=>SP X pins D .next s') rfl hs (nJ (I.has_cells L hS)) L.kind L.names
  (gm (hit pins s σ H _ I h) λxv s₁ p=>gm p λitv s₂ l=>?_)) (λ_ s' hq=>ak (ak hq)) λ_ _ e=>e)
 obtain⟨it,fp,tn,J,H2,rfl,I2,T,st2,f2,q2⟩:=l;refine rj (Q:=λv H'=>D.nx (σ.set i (some v)) H') hc L hS (yI L) (λ_ _ _=>lJ) he I2 T st2 f2 (Fp (Q:=λv H'=>D.nx (σ.set i (some v)) H') I2.len q2) ?_;intro D' C H' s' m I' q hn hC hle hp hL t;show wpAny _ _ (assign (.Name y py) X.env (.ref D')) _ _ s';refine B7 (rJ I' hN hi hy (v:=.ref D') (u:=.ref D') rfl (λj I'' ⟨a,sb,ha⟩=>?_) hf);have nCa:C≠a:=by rcases ha with rfl|ha;exact hL;exactλz=>t y a ha z.symm
 refine⟨m,hn.sameBut sb nCa,λh' hs'=>?_⟩;have I3:Inv X pins (σ.set i (some (.ref D'))) H' {j with heap:=h'}:=I''.turned (t':=j.toks) (λb o hb e=>(hs'.2 b hb).trans e) hC hL (.inr (bj I2.sz hle)) t hp;exact⟨_,H',I3,q⟩
end
end L2
namespace M11
abbrev G (a b:Int):Int:=(Int.gcd a b:Nat)
theorem gcd_step (a b:Int):Int.gcd b (a.fmod b)=Int.gcd a b:=by rw[Int.fmod_def,Int.gcd_sub_mul_left_right,Int.gcd_comm]
theorem fmod_small (a b:Int)(h:b≠0):(a.fmod b).natAbs<b.natAbs:=by rcases Int.lt_or_lt_of_ne h with hb|hb;have e:=Int.neg_fmod_neg a b;have h1:=tS (-a) (b:=-b) (by lia);have h2:=Int.fmod_lt_of_pos (-a) (b:=-b) (by lia);lia;have h1:=tS a hb;have h2:=Int.fmod_lt_of_pos a hb;lia
theorem gcd_end (a:Int):(if a<0 then -a else a)=G a 0:=by show _=((Int.gcd a 0:Nat):Int);rw[Int.gcd_zero_right];split<;>lia
def sgn (t b:Int):Int:=if b<0 then -(G t b)else G t b
def low (t b:Int):Int×Int:=(t.fdiv (sgn t b),b.fdiv (sgn t b))
theorem sgn_ne {t b:Int}(h:b≠0):sgn t b≠0:=by have:=jd t h;unfold sgn G;split<;>lia
theorem G_le {t b:Int}(h:b≠0):G t b<=(b.natAbs:Int):=by
 have h1:Int.gcd t b∣b.natAbs:=by have:=v0.mpr (qB t b);simpa using this
 have h2:0<b.natAbs:=by lia
 exact Int.ofNat_le.mpr (Nat.le_of_dvd h2 h1)
theorem sgn_le {t b:Int}(h:b≠0):(sgn t b).natAbs<=b.natAbs:=by have h1:=G_le (t:=t) h;have h2:0<=G t b:=Int.natCast_nonneg _;unfold sgn;generalize G t b=g at h1 h2 ⊢;split<;>lia
theorem Cw (t b:Int):(sgn t b).natAbs=Int.gcd t b:=by unfold sgn G;split<;>lia
theorem Gp (t b:Int):sgn t b∣t:=by unfold sgn;split;exact Int.neg_dvd.mpr (IC t b);exact IC t b
theorem Go (t b:Int):sgn t b∣b:=by unfold sgn;split;exact Int.neg_dvd.mpr (qB t b);exact qB t b
theorem rh {t b:Int}(h:b≠0):∃t' b',t=sgn t b*t'/\b=sgn t b*b'/\low t b=(t',b')/\0<b'/\Int.gcd t' b'=1:=by
 have l:=sgn_ne (t:=t) h;obtain⟨t',j⟩:=Gp t b;obtain⟨b',g⟩:=Go t b;refine⟨t',b',j,g,?_,?_,?_⟩;have f1:t.fdiv (sgn t b)=t':=(congrArg (λz=>Int.fdiv z (sgn t b)) j).trans (iI t' l);have f2:b.fdiv (sgn t b)=b':=(congrArg (λz=>Int.fdiv z (sgn t b)) g).trans (iI b' l);unfold low;rw[f1,f2];by_cases hb:b<0;have hs:sgn t b<0:=by have:=jd t h;unfold sgn G;rw[if_pos hb];lia
 by_cases hp:0<b';exact hp;have:=Int.mul_nonneg_of_nonpos_of_nonpos (a:=sgn t b) (b:=b') (by lia) (by lia);lia;have hs:0<sgn t b:=by have:=jd t h;unfold sgn G;rw[if_neg hb];lia
 by_cases hp:0<b';exact hp;have:=Int.mul_nonpos_of_nonneg_of_nonpos (a:=sgn t b) (b:=b') (by lia) (by lia);lia;have g1:Int.gcd (sgn t b*t') (sgn t b*b')=(sgn t b).natAbs*Int.gcd t' b':=Int.gcd_mul_left _ _ _;rw[<-j,<-g,Cw]at g1;have g2:=jd t h;have g3:Int.gcd t b*Int.gcd t' b'=Int.gcd t b*1:=by lia
 exact Nat.eq_of_mul_eq_mul_left g2 g3
theorem sv {t b:Int}(h:b≠0):(low t b).1*b=t*(low t b).2:=by obtain⟨t',b',j,g,l,_⟩:=rh (t:=t) h;rw[l];generalize sgn t b=d at j g;subst j g;show t'*(d*b')=d*t'*b';rw[<-zJ,iF t' d]
theorem uj {t b:Int}(h:b≠0):0<(low t b).2:=by obtain⟨t',b',_,_,g,h',_⟩:=rh (t:=t) h;rw[g];exact h'
theorem yS {t b:Int}(h:b≠0):Int.gcd (low t b).1 (low t b).2=1:=by obtain⟨t',b',_,_,g,_,h'⟩:=rh (t:=t) h;rw[g];exact h'
theorem mQ {d x:Int}(h:d≠0):x.natAbs<=(d*x).natAbs:=by rw[gD];exact Nat.le_mul_of_pos_left _ (by lia)
theorem Ll {t b:Int}(h:b≠0):(low t b).1.natAbs<=t.natAbs/\(low t b).2.natAbs<=b.natAbs:=by obtain⟨t',b',p,l,j,_⟩:=rh (t:=t) h;have g:=sgn_ne (t:=t) h;rw[j];have h1:=mQ (x:=t') g;have h2:=mQ (x:=b') g;rw[<-p]at h1;rw[<-l]at h2;exact⟨h1,h2⟩
def Bd (x:Int):Prop:=x.natAbs<2^250
structure Fr (x y:Int):Prop where
 bx:Bd x
 by':Bd y
 pos:0<y
end M11
namespace M11
theorem FO {x y z:Int}(h:Int.gcd x y=1)(d:y∣x*z):y∣z:=by
 have d':y.natAbs∣x.natAbs*z.natAbs:=by rw[<-gD];exact v0.mpr d
 have c:Nat.Coprime y.natAbs x.natAbs:=by show Nat.gcd y.natAbs x.natAbs=1;rw[Nat.gcd_comm];exact h
 exact v0.mp (Nat.Coprime.dvd_of_dvd_mul_left c d')
theorem Be {t b x y:Int}(hb:b≠0)(hy:0<y)(J:Int.gcd x y=1)(hc:x*b=t*y):low t b=(x,y):=by
 have C:=sv (t:=t) hb;have p:=uj (t:=t) hb;have g1:=yS (t:=t) hb;generalize low t b=l at C p g1;obtain⟨x',g⟩:=l;have c1':x'*b=t*g:=C;have I:0<g:=p;have j:Int.gcd x' g=1:=g1;have e:x*g=x'*y:=by
  have:(x*g)*b=(x'*y)*b:=by grind
  exact dB hb this
 have d1:y∣g:=FO J ⟨x',by rw[e,iF]⟩;have U:g∣y:=FO j ⟨x,by rw[<-e,iF]⟩;have T:g=y:=Int.dvd_antisymm (by lia) (by lia) U d1;subst T;have ex:x'=x:=by have:x*g=x'*g:=e;exact(dB (by lia) this).symm
 rw[ex]
theorem Q9 {t b t' b':Int}(hb:b≠0)(g:b'≠0)(h:t*b'=t'*b):low t b=low t' b':=by
 have p:=sv (t:=t') g;have j:=uj (t:=t') g;have g1:=yS (t:=t') g;generalize low t' b'=l at p j g1;obtain⟨x,y⟩:=l;refine Be hb j g1 ?_;have C:x*b'=t'*y:=p;have:(x*b)*b'=(t*y)*b':=by grind
 exact dB g this
theorem low_self {x y:Int}(g:0<y)(j:Int.gcd x y=1):low x y=(x,y):=Be (by lia) g j rfl
theorem low_one (x:Int):low x 1=(x,1):=low_self (by decide) (by rw[Int.gcd_one_right])
theorem G_pos {a b:Int}(h:0<a):0<G a b:=Int.ofNat_lt.mpr (Int.gcd_pos_of_ne_zero_left b (by lia))
theorem fdiv_of_dvd {d t:Int}(hd:0<d)(h:d∣t):∃q,t=d*q/\t.fdiv d=q:=by obtain⟨q,e⟩:=h;exact⟨q,e,by rw[e];exact iI q (by lia)⟩
def Bn (n:Nat)(x:Int):Prop:=x.natAbs<2^n
theorem Bn.mono {n m:Nat}{x:Int}(h:Bn n x)(g:n<=m):Bn m x:=ba h (dh (by decide) g)
theorem Bn.mul {n m:Nat}{x y:Int}(h:Bn n x)(h':Bn m y):Bn (n+m) (x*y):=by unfold Bn at*;rw[gD,kM];exact Nat.mul_lt_mul'' h h'
theorem Bn.add {n:Nat}{x y:Int}(h:Bn n x)(h':Bn n y):Bn (n+1) (x+y):=by unfold Bn at*;have:=Int.natAbs_add_le x y;rw[DE];lia
theorem Bn.le {n:Nat}{x y:Int}(h:Bn n x)(h':y.natAbs<=x.natAbs):Bn n y:=cg h' h
end M11
namespace L2
open PySem PySem.Spec PyProof.Rows
theorem Dl (l:Addr)(items:LV)(n:Nat)(b:Addr)(items2:LV)(p:¬(!items.isEmpty&&Builtin.List.listTooLong (items.size+items2.size))=true)(j:items.size<=sizeLine)(g:items.size+items2.size<=sizeLine+1):
  Meets (Builtin.«list.extend» ⟨[.ref l,.ref b],[]⟩) (λ_ R s=>s.heap.get? l=some {cls:=.type "list",dict:=none,data:=.seq items n,slots:=#[]}/\IsTup s.heap b items2/\R (.ok (.ret Value.none)) {s with heap:=s.heap.update l (Obj.mapSeq λx=>x++items2),toks:=s.toks}):=
 .of_wp λprog w A R s h=>by
  obtain⟨hl,⟨o,t,C,I,hd⟩,h⟩:=h;show wpAny _ _ (Builtin.List.listExtendWith (.ref l) (.ref b) .none) _ _ s;unfold Builtin.List.listExtendWith;refine ae (om ⟨o,t,C⟩ ?_);have h1:(Builtin.List.listSameRef (.ref l) (.ref b)||Value.type "tuple"==Value.type "list"||Value.type "tuple"==Value.type "tuple")=true:=by simp
  simp only[h1,if_true];refine ae ?_;unfold Builtin.List.listItems;refine ae (fi t hd (ak ?_));refine ae ?_;refine ae (fi hl rfl (ak ?_));rw[if_neg p];show wpAny _ A.in1 (updateSeq l (·++items2)>>=λ_=>ret Value.none) _ _ s;refine ae (ki hl rfl (hz:=j) (_hz':=by rw[Array.size_append];exact g) ?_);exact ak ⟨_,rfl,h⟩
section
variable {X:Cx}
inductive ve (K:LO)(x:V)(vs:LI)(H:Hp)(Q:VK):Prop|mk (l b xs zs:_) (_:x=.ref l) (_:vs=[.ref b]) (_:H l=some (.lst xs)) (_:dH K H b zs) (_:xs.length+zs.length<=sizeLine) (_:Q .non (upd H l (.lst (xs++zs)))):ve K x vs H Q
def Kk (K:LO):V->List V->Hp->VK->Prop:=λx vs H Q=>ve K x vs H Q
theorem CZ:O9 X "list.extend" (Kk X.K):=by
 intro pins s σ H x vs v us Q I t C h;obtain⟨l,b,xs,zs,rfl,rfl,j,U,hz,q⟩:=h;cases t;obtain⟨u,rfl,J⟩:=C.one;cases J;obtain⟨z,its,n,r,hl,e⟩:=I.lstM j;obtain⟨its2,g,p,z2⟩:=I.tuple U;have T:=g.length;have hsz:its.toArray.size+its2.toArray.size<=sizeLine:=by rw[aO,aO];lia
 have hlong:¬(!its.toArray.isEmpty&&Builtin.List.listTooLong (its.toArray.size+its2.toArray.size))=true:=by rw[vk hsz,Bool.and_false];exact bC
 refine call_meets F.slot_list_extend ⟨_,e,rfl⟩ F.entry_list_extend (F.args_list_extend_2 _ _)
  (Dl l its.toArray n b its2.toArray hlong (by rw[aO];lia) (by lia)) ⟨e,p,?_⟩
 refine⟨.non,_,I.lset (its':=its++its2) j e (by simp) (r.append g) ?_,rfl,q⟩;rw[ah];lia
end
def Sj (K:LO)(a:Addr):It:=
 ⟨λi H=>∃xs x,bW K H a xs/\xs[i]?=some x,
  λi H z H'=>∃t x,z=.ref t/\H t=none/\H'=upd H t (.tup [.int (i:Int),x])/\∀xs,bW K H a xs->xs[i]?=some x,
  λi H=>∃xs,bW K H a xs/\xs.length<=i⟩
def V3 (e it a:Addr)(i:Nat)(h:Heap):Prop:=(∃old,IsEnum h e it (i:Int) old)/\h.IsListIter it a i
theorem Gi {P:Program}{w:World}{K:LO}{elts:LN}{ek:Nat}{epos:Pos}{e it a:Addr}(ne:e≠it):DB P w K (.Tuple elts ek epos) (Sj K a) [e,it] e (V3 e it a)where
 mem:=by simp
 obj:=λi h st c U=>by
  obtain⟨⟨old,j⟩,⟨o1,e1,c1,d1⟩⟩:=st;have g:c=e\/c=it:=by simpa using U
  rcases g with rfl|rfl;exact⟨_,j,λv e=>by cases e⟩;exact⟨_,e1,λv e=>by rw[d1]at e;cases e⟩
 keep:=λi h h' st k=>by obtain⟨⟨old,j⟩,l1⟩:=st;exact⟨⟨old,k e (by simp) _ j⟩,l1.at λo q=>k it (by simp) o q⟩
 item:=by
  intro X hP t hK U i pins s σ H E I hf st hg;subst hP t hK;obtain⟨xs,x,T,ex⟩:=hg;obtain⟨ia,ra,pa,za⟩:=I.list T;obtain⟨u,hu,ru⟩:=ra.get ex;obtain⟨⟨old,j⟩,l1⟩:=st;refine wpAny_pyNext_enum_item j l1 pa.isList (x:=u) (by simpa using hu) ne λh' a1 a2 a3 a4 a5=>?_;refine⟨_,rfl,wpAny_letOwnedTupleGo_enum a1 λh2 b1 b2=>?_⟩;have hT:H s.heap.objs.size=none:=I.hok.fresh (av _);have p:∀c o,s.heap.get? c=some o->s.heap.objs.size≠c:=λc o q=>dR (aS q);have Te:s.heap.objs.size≠e:=p _ _ j;have aT:h2.get? s.heap.objs.size=some {cls:=.type "tuple",data:=.seq #[.int i s.toks,u]}:=b2.extBut _ _ Te a3;have k2:∀c o,c≠e->c≠it->s.heap.get? c=some o->h2.get? c=some o:=λc o n1 n2 q=>b2.extBut _ _ n1 (a5 c o n1 n2 q);have I1:Inv X pins σ (upd H s.heap.objs.size (.tup [.int (i:Int),x])) {s with heap:=s.heap.push {cls:=.type "tuple",data:=.seq #[.int i s.toks,u]},toks:=s.toks+1}:=by refine I.laid (t':=s.toks+1) (λc o q=>ai _ q) (av _) ?_;exact⟨k9,[.int i s.toks,u],.cons ⟨_,rfl⟩ (.cons ru .nil),IsTup.new s.heap _⟩
  have C:∀c∈[e,it],qp X pins (upd H s.heap.objs.size (.tup [.int (i:Int),x])) c:=λc g=>by
   obtain⟨f0,f⟩:=hf c g;refine⟨?_,f⟩;have:∃o,s.heap.get? c=some o:=by
    have hc'':c=e\/c=it:=by simpa using g
    obtain⟨o1,e1,_⟩:=l1;rcases hc'' with rfl|rfl;exact⟨_,j⟩;exact⟨_,e1⟩
   obtain⟨o,q⟩:=this;rw[aW (p c o q).symm];exact f0
  have I2:Inv X pins σ (upd H s.heap.objs.size (.tup [.int (i:Int),x])) {s with heap:=h2,toks:=s.toks+1}:=by
   refine Inv.turnedL (s:={s with heap:=s.heap.push {cls:=.type "tuple",data:=.seq #[.int i s.toks,u]},toks:=s.toks+1}) (h':=h2) (t':=s.toks+1) (its:=[e,it]) I1 (λc o g q=>?_) C;have hc'':¬(c=e\/c=it):=by simpa using g
   by_cases J:c=s.heap.objs.size;subst J;have e':(s.heap.push {cls:=.type "tuple",data:=.seq #[.int i s.toks,u]}).get? s.heap.objs.size=some o:=q;rw[aQ _ rfl]at e';cases e';exact aT;refine k2 c o (λl=>hc'' (.inl l)) (λl=>hc'' (.inr l)) ?_;rw[<-q];exact(Heap.get?_push_ne _ _ _ J).symm
  refine⟨.ref s.heap.objs.size,_,I2,rfl,⟨_,x,rfl,hT,rfl,λws t=>by rw[I.list_inj t T];exact ex⟩,?_,λc g=>(C c g).1⟩;exact⟨⟨u,b1⟩,a2.extBut b2.extBut ne.symm⟩
 done:=by
  intro X hP t hK U i pins s σ H E I hf st hg;subst hP t hK;obtain⟨xs,T,hl⟩:=hg;obtain⟨ia,ra,pa,za⟩:=I.list T;have hla:=ra.length;obtain⟨⟨old,j⟩,l1⟩:=st;refine wpAny_pyNext_enum_end (I.ok.hd U) j l1 pa.isList (by simp;lia) λh' k=>⟨rfl,?_⟩;exact I.turnedL (t':=s.toks) (its:=[e,it]) (λc o g q=>by
   have hc'':¬(c=e\/c=it):=by simpa using g
   exact k c o (λl=>hc'' (.inr l)) q) hf
 self:=λ_ _ _ _ _ st h=>by obtain⟨⟨old,j⟩,_⟩:=st;exact wpAny_pyIter_enum j h
section
variable {X:Cx}
inductive Fy (K:LO)(R:It->Hp->Prop)(vs:LI)(H1:Hp):Prop|mk (a:_) (_:vs=[.ref a]) (_:(∃xs,bW K H1 a xs)) (_:R (Sj K a) H1):Fy K R vs H1
def TJ (K:LO)(ta:TA):TI:=λσ H R=>ta σ H λvs H1=>Fy K R vs H1
theorem Fa {elts:LN}{ek:Nat}{epos:Pos}{a:Expr}{ta:TA}{p pos:Pos}(hg:Gl X "enumerate")(hm:X.mg "enumerate"=none)(ha:PA X [a] ta)(hs:starEach [a] X.env=[(false,eval a X.env)]:=by rfl):
  PI X (.Tuple elts ek epos) (.Call (.Name "enumerate" p) [a] [] pos) (TJ X.K ta):=by with_unfolding_all
 intro pins s σ H R I h;refine Call_ (ke I hg hm boot_enumerate (du (gm (ha pos pins s σ H _ I h) λus g ⟨vs,H1,j,J,T⟩=>?_) hs rfl));obtain⟨l1,e,⟨xs,hx⟩,q⟩:=T;subst e;obtain⟨u,rfl,C⟩:=lB J;cases C;obtain⟨ia,ra,U,za⟩:=j.list hx;refine call_enumerate_list U.isList λh' t hi hsz hk=>wpAny_pyIter_enum t ?_;have fr:∀b,g.heap.objs.size<=b->qp X pins H1 b:=λb hb=>j.fpOk hb (j.hok.fresh hb);refine⟨_,[g.heap.objs.size+1,g.heap.objs.size],_,_,H1,rfl,j.kept (t':=g.toks) hk,
  Gi (it:=g.heap.objs.size) (a:=l1) (λz=>by simp at z),⟨⟨_,t⟩,hi⟩,λb hb=>?_,q⟩
 have l:b=g.heap.objs.size+1\/b=g.heap.objs.size:=by simpa using hb
 rcases l with rfl|rfl;exact fr _ (dA _ _);exact fr _ (av _)
theorem Ml {K:LO}{a:Addr}{xs:LI}{g:TG}{tb:TS}{D:qr}{σ:St}{H:Hp}(j:Nat->St->Hp->Prop)(h0:j 0 σ H)(hl:∀i σ H,i<=xs.length->j i σ H->bW K H a xs)(hs:∀(i:Nat) (x:V) (t:Addr) σ H,xs[i]?=some x->j i σ H->H t=none->g (.ref t) σ (upd H t (.tup [.int (i:Int),x])) λl H2=>tb {D with nx:=j (i+1),ct:=j (i+1),bk:=D.nx} l H2)(hd:∀σ H,j xs.length σ H->D.nx σ H):
  ∃W:Nat->Nat->St->Hp->Prop,(∃m,W 0 m σ H)/\∀i m σ H,W i m σ H->
   ((Sj K a).stop i H/\D.nx σ H)\/((Sj K a).go i H/\∃N:St->Hp->Prop,(∀C H',N C H'->∃J,J<m/\W (i+1) J C H')/\∀x H',(Sj K a).yld i H x H'->g x σ H' λl H2=>tb {D with nx:=N,ct:=N,bk:=D.nx} l H2):=by
 refine⟨λi m σ H=>m=xs.length-i/\i<=xs.length/\j i σ H,⟨xs.length,by simp,bp _,h0⟩,?_⟩;rintro i m σ H ⟨rfl,hi,p⟩;have I:=hl i σ H hi p;by_cases lt:i<xs.length;refine .inr ⟨⟨xs,xs[i],I,aq lt⟩,j (i+1),λC H' p'=>⟨xs.length-(i+1),by lia,rfl,lt,p'⟩,λx H' y=>?_⟩;obtain⟨t,T,rfl,U,rfl,g1⟩:=y;exact hs i T t σ H (g1 xs I) p U;have ei:i=xs.length:=by lia
 subst ei;exact .inl ⟨⟨xs,I,av _⟩,hd σ H p⟩
theorem L4 {prog:Program}{w:World}{A:Around}{E:LP}{s:Shared}{Q:LP}{l:Addr}{arr:LV}{n:Nat}{k:Int}{t:Tok}{g:Value}(p:¬(!Builtin.List.listFitsIndex k)=true)(j:arr.size<=sizeLine)(e:s.heap.get? l=some {cls:=.type "list",data:=.seq arr n})(h:Q .none {s with heap:=s.heap.update l (Obj.mapSeq λxs=>have k:=if k<0 then(k+(xs.size:Int)).toNat else min k.toNat xs.size;(xs.extract 0 k).push g++xs.extract k),toks:=s.toks}):
  wpAny (model prog w) A (call (.builtin "list.insert") [.ref l,.int k t,g]) Q E s:=
 call_meets F.slot_list_insert ⟨_,e,rfl⟩ F.entry_list_insert (F.args_list_insert_3 _ _ _) (PySem.AutoSeq1.list_insert_list_int_val_1 l arr n k t g p j) ⟨e,h⟩
inductive xq (x:V)(vs:LI)(H:Hp)(Q:VK):Prop|mk (l:Addr) (xs:LI) (k:Nat) (y:V) (_:x=.ref l) (_:vs=[.int (k:Int),y]) (_:H l=some (.lst xs)) (_:k<=xs.length) (_:xs.length<sizeLine) (_:Q .non (upd H l (.lst (xs.take k++y::xs.drop k)))):xq x vs H Q
def Nu:V->List V->Hp->VK->Prop:=λx vs H Q=>xq x vs H Q
theorem HA:O9 X "list.insert" Nu:=by
 intro pins s σ H x vs v us Q I C J h;obtain⟨l,xs,k,y,rfl,rfl,p,hk,hz,q⟩:=h;cases C;obtain⟨u1,t,rfl,⟨t1,rfl⟩,T⟩:=J.two;obtain⟨z,its,n,r,hl,e⟩:=I.lstM p;have hn:=sB;have U:Builtin.List.listFitsIndex (k:Int)=true:=by unfold Builtin.List.listFitsIndex;rw[dg,cR,cR];lia
 have j:¬(!Builtin.List.listFitsIndex (k:Int))=true:=by rw[U];decide
 have g:its.toArray.size<=sizeLine:=by rw[aO];lia
 refine L4 j g e ?_;refine⟨.non,_,I.lset (its':=its.take k++t::its.drop k) p e ?_ ((r.take k).append (.cons T (r.drop k))) ?_,rfl,q⟩;have e1:(if((k:Nat):Int)<0 then(((k:Nat):Int)+(its.toArray.size:Int)).toNat else min ((k:Nat):Int).toNat its.toArray.size)=k:=by rw[if_neg (by lia),bg,aO];lia
 dsimp only;rw[e1];apply Array.ext';simp;exact di (by rw[fF];exact av _);rw[ah,aH,cm,fF];lia
end
noncomputable def Br (h:Heap)(d:PyData)(u:Value):Bool:=@decide (∃e as,Reads h u e as/\e.canLay0=true/\PyData.eqv e d=true) (Classical.propDecidable _)
theorem FA {h:Heap}{d e:PyData}{u:Value}{as:LK}(r:Reads h u e as)(l:e.canLay0=true):Br h d u=PyData.eqv e d:=by unfold Br;cases q:PyData.eqv e d with|true=>exact @decide_eq_true _ (Classical.propDecidable _) ⟨e,as,r,l,q⟩|false=>refine @decide_eq_false _ (Classical.propDecidable _) λ⟨t,g,j,C,p⟩=>?_;rw[PySem.SeqAt.Reads.unique e t u as g l r j,p]at q;cases q
theorem Bq {h:Heap}{d:PyData}:∀{us:LJ} {ds:LX} {as:LK},ReadsAll h us ds as->PyData.canLayAll0 ds=true->us.length=ds.length/\∀(i:Nat) (h1:i<us.length) (h2:i<ds.length),Br h d us[i]=PyData.eqv ds[i] d/\∃bs,Reads h us[i] ds[i] bs/\ds[i].canLay0=true
 |_,_,_,.nil,_=>⟨rfl,λi h1=>absurd h1 (by simp)⟩
 |_,_,_,.cons r rs,l=>by simp only[PyData.canLayAll0,dg]at l;obtain⟨e,g⟩:=Bq (d:=d) rs l.2;refine⟨by rw[aH,aH,e],λi h1 h2=>?_⟩;cases i with|zero=>exact⟨FA r l.1,_,r,l.1⟩|succ i=>exact g i (by simpa using h1) (by simpa using h2)
theorem FX {h:Heap}{d:PyData}:∀{us:LJ} {ds:LX} {as:LK},ReadsAll h us ds as->PyData.canLayAll0 ds=true->us.any (Br h d)=ds.any λe=>PyData.eqv e d
 |_,_,_,.nil,_=>rfl
 |_,_,_,.cons r rs,l=>by simp only[PyData.canLayAll0,dg]at l;rw[m8,m8,FA r l.1,FX rs l.2]
theorem HX {A:Around}{s:Shared}{x:Value}{d:PyData}{bs:LK}(j:Reads s.heap x d bs)(p:d.canLay0=true)(t:A.units+d.depth<cLine){us:LJ}{ds:LX}{as:LK}(r:ReadsAll s.heap us ds as)(l:PyData.canLayAll0 ds=true):
  ∀u∈us,SeqAt.EqAt A s u x (Br s.heap d u):=by intro u C;obtain⟨i,hi,rfl⟩:=zo C;obtain⟨e,g⟩:=Bq (d:=d) r l;obtain⟨g1,I,g2,g3⟩:=g i hi (by lia);rw[g1];exact PySem.SeqAt.eqAt_reads _ _ A s _ _ _ _ g2 j g3 p (cg (Nat.add_le_add_left (Nat.min_le_right _ _) _) t)
section
variable {X:Cx}
theorem Iu (bs:List Bool):(List.range bs.length).all (λi=>(bs[i]?).getD true)=bs.all id:=by rw[je,ig,ig];constructor;intro h b hb;obtain⟨i,hi⟩:=List.getElem?_of_mem hb;have:=h i (bc.mpr (aZ.mp hi).1);rw[hi]at this;exact this;intro h i hi;have e:=aq (bc.mp hi);rw[e];exact h _ (List.getElem_mem _)
theorem rp (hc:X.calm=true):k5 X (.builtin "all") (λxs H Q=>∃(p:Addr) (bs:List Bool),xs=[.ref p]/\bW X.K H p (bs.map V.bl)/\Q (.bl (bs.all id)) H):=by
 intro pins s σ H xs us Q I r h;obtain⟨p,bs,rfl,hq,q⟩:=h;obtain⟨u,rfl,rx⟩:=lB r;cases rx;obtain⟨its,C,pl,hz⟩:=I.list hq;have hl:=C.length;rw[aa]at hl;refine call_all_walk (jj pl.isList ?_);have t:p≠s.heap.objs.size:=by obtain⟨o,e,_⟩:=id pl.isList;exact bB (aS e)
 refine⟨_,_,_,_,_,_,λi=>(bs[i]?).getD true,rfl,Walks.list (A:=X.A.in1) (I.ok.hd hc) _ p t its.toArray,?_,?_,?_⟩;exact⟨⟨_,aQ _ rfl,rfl,rfl⟩,pl.isList.at λo e=>ai _ e⟩;intro i v U Q2 E2 hi l;have j:its[i]?=some v:=by simpa using hi
 have J:i<bs.length:=by rw[hl];exact(aZ.mp j).1
 have eb:(bs.map V.bl)[i]?=some (.bl bs[i]):=by rw[ao,aq J];rfl
 obtain⟨u,T,ru⟩:=C.get eb;rw[j]at T;cases T;cases ru;refine gE ?_;have g:Q2 ((bs[i]?).getD true) U:=l;rw[aq J]at g;exact g;intro h' tk hk;have e:(List.range its.toArray.size).all (λi=>(bs[i]?).getD true)=bs.all id:=by rw[aO,<-hl];exact Iu bs
 rw[e];exact⟨.bl (bs.all id),H,I.kept λb o e=>hk b o (by intro z;have:=aX.mp z;subst this;exact dP _ (aS e)) (ai _ e),rfl,q⟩
inductive E3 (K:LO)(xs:LI)(H:Hp)(Q:VK):Prop|mk (a d:_) (_:xs=[.ref a]) (_:DA K any H (.ref a) d) (_:(d.showable=true/\d.hasDict=false/\d.depth<=32/\d.shown.length<=sizeLine)) (_:Q (.str d.shown) H):E3 K xs H Q
def SO (K:LO):List V->Hp->VK->Prop:=λxs H Q=>E3 K xs H Q
theorem xS (l:X.A.guards=some [])(t:X.A.units+64<cLine):k5 X (.type "str") (SO X.K):=by intro pins s σ H xs us Q I r h;obtain⟨a,d,rfl,hd,⟨h1,h2,C,p⟩,q⟩:=h;obtain⟨u,rfl,g⟩:=lB r;obtain⟨as,j⟩:=hd.reads I g;cases g;exact str_of_reads j h1 (λz=>by rw[h2]at z;cases z) l (by lia) (λ_ _ e=>e) (λh' u tk hk=>⟨.str _,H,I.kept hk,⟨_,rfl⟩,q⟩) p
end
theorem HR {z:Int}(h:z.natAbs<10^30):(PyData.int z).showable=true/\(PyData.int z).intsShort 31=true/\(PyData.int z).weight<=101:=by
 have g:z.natAbs.log2<100:=by by_cases e:z.natAbs=0;rw[e];decide;exact(IJ e).mpr (ba h (by decide))
 refine⟨?_,?_,?_⟩;simp only[PyData.showable,cR];lia;simp only[PyData.intsShort,cR];have e:=int_text_length_le10 (k:=30) (by decide) h;show(Str.ofString (toString z)).length<=31;rw[PySem.ofString_length];exact e;simp only[PyData.weight];split;lia;lia
theorem sG:∀ns:LH,(∀z∈ns,z.natAbs<10^30)->PyData.showableAll (ns.map .int)=true/\PyData.intsShortAll 31 (ns.map .int)=true/\PyData.hasDictAll (ns.map .int)=false/\PyData.weightAll (ns.map .int)<=102*ns.length
 |[],_=>⟨rfl,rfl,rfl,av _⟩
 |z::ns,h=>by obtain⟨a1,a2,a3,a4⟩:=sG ns λz hz=>h z (aB _ hz);obtain⟨b1,g,j⟩:=HR (h z aM);rw[aJ];refine⟨?_,?_,?_,?_⟩;simp only[PyData.showableAll,a1,b1,eK];simp only[PyData.intsShortAll,a2,g,eK];simp only[PyData.hasDictAll,a3,PyData.hasDict,DP];simp only[PyData.weightAll,aH];lia
section
variable {κ:Type}[DecidableEq κ]
def rE (kvs:List (κ×V))(k:κ):LU:=(kvs.find? λg=>decide (g.1=k)).map (·.2)
def si (kvs:List (κ×V))(k:κ)(v:V):List (κ×V):=
 if(kvs.any λg=>decide (g.1=k))=true then kvs.map (λg=>if g.1=k then(g.1,v)else g)else kvs++[(k,v)]
theorem qE {p:κ×V}{r:List (κ×V)}{k:κ}(e:p.1=k):rE (p::r) k=some p.2:=by simp[rE,km,e]
theorem qG {p:κ×V}{r:List (κ×V)}{k:κ}(e:¬p.1=k):rE (p::r) k=rE r k:=by simp[rE,km,e]
theorem zQ (k:κ):∀kvs:List (κ×V),(kvs.any λg=>decide (g.1=k))=(rE kvs k).isSome
 |[]=>rfl
 |p::r=>by rw[m8];by_cases e:p.1=k;simp only[qE e,bi e,Bool.true_or,Option.isSome_some];rw[qG e,bq e,Bool.false_or];exact zQ k r
theorem tD (kvs:List (κ×V))(k:κ)(v:V):(si kvs k v).length<=kvs.length+1:=by unfold si;split;rw[aa];lia;rw[ah,aH,kj];lia
theorem qk.isSome_eq {o:LU}{u:LW}(r:qk o u):o.isSome=u.isSome:=by
 cases o with
 |none=>cases u with|none=>rfl|some _=>exact(show False from r).elim
 |some _=>cases u with|none=>exact(show False from r).elim|some _=>rfl
theorem qk.getD {o:LU}{u:LW}{d:V}{d':Value}(r:qk o u)(g:dQ d d'):dQ (o.getD d) (u.getD d'):=by
 cases o with
 |none=>cases u with|none=>exact g|some _=>exact(show False from r).elim
 |some _=>cases u with|none=>exact(show False from r).elim|some _=>exact r
theorem KV.val {kvs:List (κ×V)}{vs:List (κ×Value)}(r:KV kvs vs)(k:κ):qk (rE kvs k) (valueAt vs k):=by
 unfold KV at r;induction r with
 |nil=>exact True.intro
 | @cons p q ps g h t l=>
  obtain⟨h1,h2⟩:=h;by_cases e:p.1=k;have j:q.1=k:=h1.symm.trans e;have b:valueAt (q::g) k=some q.2:=by simp[valueAt,km,j]
  rw[qE e,b];exact h2;have j:¬q.1=k:=λz=>e (h1.trans z);have b:valueAt (q::g) k=valueAt g k:=by simp[valueAt,km,j]
  rw[qG e,b];exact l
theorem KV.any {kvs:List (κ×V)}{vs:List (κ×Value)}(r:KV kvs vs)(k:κ):(kvs.any λg=>decide (g.1=k))=vs.any λg=>decide (g.1=k):=by unfold KV at r;induction r with|nil=>rfl|cons h t j=>rw[m8,m8,j,h.1]
theorem KV.repl {kvs:List (κ×V)}{vs:List (κ×Value)}(r:KV kvs vs)(k:κ){y:V}{u:Value}(j:dQ y u):
  KV (kvs.map λg=>if g.1=k then(g.1,y)else g) (vs.map λg=>if g.1=k then(g.1,u)else g):=by unfold KV at r ⊢;induction r with|nil=>exact .nil|@cons p q ps C h t l=>rw[aJ,aJ];refine .cons ?_ l;obtain⟨h1,h2⟩:=h;by_cases e:p.1=k;rw[if_pos e,if_pos (h1.symm.trans e)];exact⟨h1,j⟩;rw[if_neg e,if_neg λz=>e (h1.trans z)];exact⟨h1,h2⟩
theorem KV.put {kvs:List (κ×V)}{vs:List (κ×Value)}(r:KV kvs vs)(k:κ){y:V}{u:Value}(g:dQ y u):KV (si kvs k y) (stored vs k u):=by unfold si stored;rw[r.any k];by_cases e:(vs.any λj=>decide (j.1=k))=true;rw[if_pos e,if_pos e];exact r.repl k g;rw[if_neg e,if_neg e];exact Paired.snoc r ⟨rfl,g⟩
theorem KV.length {kvs:List (κ×V)}{vs:List (κ×Value)}(r:KV kvs vs):kvs.length=vs.length:=Paired.length r
end
theorem L1 {P:Program}{w:World}{k:jE}{u:Value}(r:dQ (kV k) u):(fU P w).is k u=true:=by
 cases k with
 |inl i=>obtain⟨t,e⟩:=(show∃t,u=Value.int i t from r);subst e;exact Ba P w i t
 |inr x=>obtain⟨t,e⟩:=(show∃t,u=Value.str x t from r);subst e;exact AZ P w x t
theorem xH {P:Program}{w:World}:∀{ks:List jE} {us:LJ},dc (ks.map kV) us->ItemsAre (fU P w) ks us
 |[],_,r=>by rw[jT]at r;cases r;exact .nil
 |k::ks,_,r=>by rw[aJ]at r;cases r with|cons h t=>exact .cons (L1 h) (xH t)
abbrev KT (H:Hp):List (List jE×V)->List (List jE×Addr×Value)->Prop:=Paired λp q=>p.1=q.1/\H q.2.1=some (.tup (p.1.map kV))/\dQ p.2 q.2.2
theorem KT.val {H:Hp}{kvs:List (List jE×V)}{xs:List (List jE×Addr×Value)}(r:KT H kvs xs)(k:List jE):qk (rE kvs k) ((atKey xs k).map (·.2)):=by
 induction r with
 |nil=>exact True.intro
 | @cons p q ps g h t l=>
  obtain⟨h1,_,h2⟩:=h;by_cases e:p.1=k;have j:q.1=k:=h1.symm.trans e;have b:atKey (q::g) k=some q.2:=by simp[atKey,km,j]
  rw[qE e,b];exact h2;have j:¬q.1=k:=λz=>e (h1.trans z);have b:atKey (q::g) k=atKey g k:=by simp[atKey,km,j]
  rw[qG e,b];exact l
theorem KT.repl {H:Hp}{kvs:List (List jE×V)}{xs:List (List jE×Addr×Value)}(r:KT H kvs xs)(k:List jE){y:V}{u:Value}(j:dQ y u):
  KT H (kvs.map λg=>if g.1=k then(g.1,y)else g) (xs.map (putAt k u)):=by induction r with|nil=>exact .nil|@cons p q ps I h t l=>rw[aJ,aJ];refine .cons ?_ l;obtain⟨h1,h2,C⟩:=h;unfold putAt;by_cases e:p.1=k;rw[if_pos e,if_pos (h1.symm.trans e)];exact⟨h1,h2,j⟩;rw[if_neg e,if_neg λz=>e (h1.trans z)];exact⟨h1,h2,C⟩
theorem KT.put {H:Hp}{kvs:List (List jE×V)}{xs:List (List jE×Addr×Value)}(r:KT H kvs xs)(k:List jE){b:Addr}{y:V}{u:Value}(hb:H b=some (.tup (k.map kV)))(g:dQ y u):
  KT H (si kvs k y) (storedH xs k b u):=by
 have e:(kvs.any λj=>decide (j.1=k))=(atKey xs k).isSome:=by rw[zQ,(r.val k).isSome_eq,Option.isSome_map]
 unfold si storedH;rw[e];by_cases q:(atKey xs k).isSome=true;rw[if_pos q,if_pos q];exact r.repl k g;rw[if_neg q,if_neg q];exact Paired.snoc r ⟨rfl,hb,g⟩
theorem KT.keeps {H H':Hp}{kvs:List (List jE×V)}{xs:List (List jE×Addr×Value)}(r:KT H kvs xs)(g:∀b ys,H b=some (.tup ys)->H' b=some (.tup ys)):KT H' kvs xs:=
 Paired.mapP r λ_ _ z=>⟨z.1,g _ _ z.2.1,z.2.2⟩
section
variable {P:Program}{w:World}{H:Hp}{h:Heap}{a:Addr}
theorem Py {u:HO}(ok:pL P w H h)(e:Rd H a u):fo P w H h a u:=e.ok ok
theorem Ms {kvs:List (jE×V)}(ok:pL P w H h)(e:Rd H a (.dK kvs)):kvs.length<=sizeLine/\(a==sysModules)=false/\∃vs,KV kvs vs/\h.DictOf (fU P w) a vs:=
 show fo P w H h a (.dK kvs)from Py ok e
theorem Mt {kvs:List (jE×V)}(ok:pL P w H h)(e:H a=some (.dK kvs)):kvs.length<=sizeLine/\(a==sysModules)=false/\∃vs,KV kvs vs/\h.DictOf (fU P w) a vs:=Ms ok (.inl e)
theorem Di {ks:List jE}(ok:pL P w H h)(e:H a=some (.tup (ks.map kV))):(tupleKind (fU P w)).is h ks a:=by obtain⟨_,its,r,o,h1,h2,n,g⟩:=(show fo P w H h a (.tup (ks.map kV))from ok a _ e);exact⟨o,its.toArray,n,h1,h2,g,by simpa using xH r⟩
theorem Mq {kvs:List (List jE×V)}(ok:pL P w H h)(e:Rd H a (.dT kvs)):kvs.length<=sizeLine/\(a==sysModules)=false/\
  ∃xs,KT H kvs xs/\h.DictOfH (tupleKind (fU P w)) a xs:=by
 obtain⟨z,y,xs,r,o,es,ep,h1,h2,T,J,I⟩:=(show fo P w H h a (.dT kvs)from Py ok e);refine⟨z,y,xs,r,o,es,ep,h1,h2,T,J,λx g=>?_,I⟩;have all:∀{l:List (List jE×V)} {m:List (List jE×Addr×Value)},KT H l m->∀x∈m,(tupleKind (fU P w)).is h x.1 x.2.1:=by intro l m q;induction q with|nil=>intro x g;exact nomatch g|@cons p q ps U j t C=>intro x g;rcases bT.mp g with e|g;subst e;exact Di ok (by rw[<-j.1];exact j.2.1);exact C x g
 exact all r x g
theorem TR {kvs:List (List jE×V)}(ok:pL P w H h)(e:H a=some (.dT kvs)):kvs.length<=sizeLine/\(a==sysModules)=false/\
  ∃xs,KT H kvs xs/\h.DictOfH (tupleKind (fU P w)) a xs:=Mq ok (.inl e)
end
def IF (H:Hp)(a:Addr)(y:V)(r:LU):Prop:=
 (∃kvs k,Rd H a (.dK kvs)/\y=kV k/\r=rE kvs k)\/ ∃kvs k b,Rd H a (.dT kvs)/\y=.ref b/\H b=some (.tup (k.map kV))/\r=rE kvs k
def IE (H:Hp)(a:Addr)(y v:V)(H':Hp):Prop:=
 (∃kvs k,H a=some (.dK kvs)/\y=kV k/\kvs.length<sizeLine/\H'=upd H a (.dK (si kvs k v)))\/
 ∃kvs k b,H a=some (.dT kvs)/\y=.ref b/\H b=some (.tup (k.map kV))/\kvs.length<sizeLine/\H'=upd H a (.dT (si kvs k v))
theorem IF.k {H:Hp}{a:Addr}{kvs:List (jE×V)}{k:jE}(e:H a=some (.dK kvs)):IF H a (kV k) (rE kvs k):=.inl ⟨kvs,k,.inl e,rfl,rfl⟩
theorem IE.k {H:Hp}{a:Addr}{kvs:List (jE×V)}{k:jE}{v:V}(e:H a=some (.dK kvs))(hl:kvs.length<sizeLine):IE H a (kV k) v (upd H a (.dK (si kvs k v))):=.inl ⟨kvs,k,e,rfl,hl,rfl⟩
section
variable {X:Cx}{pins:LD}{σ:St}{H:Hp}{s:Shared}{a:Addr}{y v:V}{u r:Value}{o:LU}{A:Around}{E:LP}
theorem Inv.big (I:Inv X pins σ H s):sysModules<s.heap.objs.size:=by have h:mainGlobals<s.heap.objs.size:=(I.mod.glob.keeps I.bk).lt;exact Nat.lt_trans (by decide) h
theorem ze {h':Heap}{t':Nat}{ob:HO}(I:Inv X pins σ H s)(g:Ug (H a))(hs:Heap.SameBut a s.heap h')(j:∃q,h'.get? a=some q)(new:fo X.prog X.w (upd H a ob) h' a ob):
  Inv X pins σ (upd H a ob) {s with heap:=h',toks:=t'}:=
 I.write (x:=a) (e:=a) g (.inl rfl) (λb q hb z=>(hs.2 b hb).trans z) j new
theorem RI {P:Program}{w:World}{H':Hp}{h':Heap}{kvs:List (jE×V)}{vs:List (jE×Value)}(z:kvs.length<=sizeLine)(hd:(a==sysModules)=false)(rel:KV kvs vs)(g:h'.DictOf (fU P w) a vs):
  fo P w H' h' a (.dK kvs):=⟨z,hd,vs,rel,g⟩
theorem Ih {H':Hp}{Q:Unit->Shared->Prop}(hu:A.units+1<cLine)(I:Inv X pins σ H s)(g:IE H a y v H')(T:dQ y u)(U:dQ v r)(h:∀s',Inv X pins σ H' s'->Q () s'):
  wpAny (model X.prog X.w) A (setItem (.ref a) u r) Q E s:=by
 rcases g with⟨kvs,k,e,t,l,C⟩|⟨kvs,k,b,e,t,eb,l,C⟩;subst t C;obtain⟨z,hd,vs,rel,J⟩:=Mt I.hok e;have hz:vs.length<=sizeLine:=by rw[<-rel.length];exact z
 have hl:(si kvs k v).length<=sizeLine:=by have:=tD kvs k v;lia
 refine wpAny_setItem_pairs (hsz:=hz) (L1 T) J λh' j hs=>h _ ?_;have he:∃q,h'.get? a=some q:=let⟨q,_,_,p,_⟩:=j;⟨q,p⟩;exact ze I (by rw[e];exact True.intro) hs he (RI hl hd (rel.put k U) j);subst t C;cases(show u=Value.ref b from T);obtain⟨z,hd,xs,rel,J⟩:=TR I.hok e;have hz:xs.length<=sizeLine:=by rw[<-Paired.length rel];exact z
 have hl:(si kvs k v).length<=sizeLine:=by have:=tD kvs k v;lia
 refine wpAny_setItem_heap (hsz:=hz) (tupleKind_room_in1 hu) (Di I.hok eb) J λh' j hs=>h _ ?_;obtain⟨q,es,ep,p,h2,h3,h4,_,h5⟩:=j;refine ze I (by rw[e];exact True.intro) hs ⟨q,p⟩ ⟨hl,hd,_,(rel.put k eb U).keeps λc ys ec=>?_,q,es,ep,p,h2,h3,h4,h5⟩;rw[aW (Ta ec e λz=>nomatch z)];exact ec
end
section
variable {X:Cx}{pins:LD}{σ:St}{H:Hp}{s:Shared}{a:Addr}{kvs:List (jE×V)}{k:jE}{u:Value}{A:Around}{E:LP}
end
inductive EX (D:qr)(σ:L2.St)(v:V)(x:V)(y:V)(g:Hp):Prop|mk (a H4:_) (_:x=.ref a) (_:IE g a y v H4) (_:D.nx σ H4):EX D σ v x y g
def SJ (td ty tv:TE):TS:=λD σ H=>tv σ H λv H1=>td σ H1 λx H2=>ty σ H2 λy g=>EX D σ v x y g
section
variable {X:Cx}{o i e value:Expr}{pos pos' tpos:Pos}{td ty tv:TE}
theorem NB (hu:X.A.units+1<cLine)(ho:PE X o td)(hi:PE X i ty)(hv:PE X value tv)(hs:swapsWith value (some (.Subscript o i pos')) pos.line X.env=pure false):
  PS X (.Assign [.Subscript o i pos'] value pos) (SJ td ty tv):=by with_unfolding_all
 intro pins s σ H D I h;refine wpAny_Assign_Subscript (gm (hv pins s σ H _ I h) λr l ⟨v,H1,I1,C,U⟩=>gm (ho pins l σ H1 _ I1 U) λu j ⟨x,H2,I2,t,T⟩=>gm (hi pins j σ H2 _ I2 T) λiv s3 ⟨y,H3,I3,p,a,H4,ex,g,J⟩=>?_) hs;subst ex;obtain rfl:u=Value.ref a:=t;exact Ih hu I3 g p C λs4 I4=>⟨σ,H4,I4,J⟩
end
theorem Mu {P:Program}{w:World}{H:Hp}(h:Heap)(hb:sysModules<h.objs.size):fo P w H (h.push {cls:=.type "dict",data:=.dict #[]}) h.objs.size (.dK []):=
 ⟨bp _,beq_eq_false_iff_ne.mpr (Ne.symm (bB hb)),[],.nil,Heap.DictOf.new h⟩
def Qj:TE:=λ_ H Q=>∀p,H p=none->Q (.ref p) (upd H p (.dK []))
section
variable {X:Cx}{pos:Pos}
theorem Ku:PE X (.Dict [] [] pos) Qj:=by with_unfolding_all exact(λpins s σ H Q I h=>
 wpAny_Dict_empty ⟨.ref s.heap.objs.size,_,I.laid (a:=s.heap.objs.size) (o:=.dK []) (t':=s.toks) (λ_ _ q=>ai _ q) (av _) (Mu s.heap I.big),rfl,h _ (I.hok.fresh (av _))⟩)
end
structure M2 (X:Cx)(o:Expr)(m:Str)(apos:Pos)(e f:Expr)(cpos:Pos):Prop where
 base:attributeBase o m X.env (eval o X.env)=eval o X.env
 few:((backTo cpos (starEach [e,f] X.env)).all (λx=>!x.1)&&(backToKw cpos (keywordEach [] X.env)).all (λx=>x.1.isSome)
  &&decide (([e,f]:LN).length+([]:List Keyword).length+(if([]:List Keyword).isEmpty then 0 else 1)<30))=true
 line:(apos.endLine==cpos.line)=true
 trees:backTo cpos (starEach [e,f] X.env)=[(false,eval e X.env),(false,eval f X.env)]
def VN (H:Hp)(a:Addr):Prop:=(∃kvs,Rd H a (.dK kvs))\/ ∃kvs,Rd H a (.dT kvs)
theorem Ru {X:Cx}{pins:LD}{σ:St}{H:Hp}{s:Shared}{a:Addr}(I:Inv X pins σ H s)(d:VN H a):
  s.TypeIs (.ref a) "dict"/\(∀b,Value.ref a=.ref b->∃ob,s.heap.get? b=some ob/\ob.dict=none)/\(a==sysModules)=false:=by rcases d with⟨kvs,e⟩|⟨kvs,e⟩;obtain⟨_,hd,vs,_,g⟩:=Ms I.hok e;refine⟨g.typeIs,λb q=>?_,hd⟩;cases q;obtain⟨ob,_,_,h1,h2,_⟩:=g;exact⟨ob,h1,h2.2.1⟩;obtain⟨_,hd,xs,_,g⟩:=Mq I.hok e;refine⟨g.typeIs,λb q=>?_,hd⟩;cases q;obtain⟨ob,_,_,h1,h2,_⟩:=g;exact⟨ob,h1,h2.2.1⟩
section
variable {X:Cx}{pins:LD}{σ:St}{H:Hp}{s:Shared}{a:Addr}{y d:V}{u r:Value}{o:LU}{A:Around}{E:LP}
theorem RJ {Q:LP}(T:A.units+1<cLine)(I:Inv X pins σ H s)(g:IF H a y o)(C:dQ y u)(J:dQ d r)(h:∀t s',Inv X pins σ H s'->dQ (o.getD d) t->Q t s'):
  wpAny (model X.prog X.w) A (call (.builtin "dict.get") [.ref a,u,r]) Q E s:=by rcases g with⟨kvs,k,e,p,l⟩|⟨kvs,k,b,e,p,U,l⟩;subst p;obtain⟨z,hd,vs,rel,j⟩:=Ms I.hok e;refine call_meetsIn vW j.typeIs PySem.F.entry_dict_get (PySem.F.args_dict_get_3 _ _ _) (meets_dict_get_default (fU X.prog X.w) a (L1 C) hd r) ⟨_,j.mapOf,h _ _ (I.tok _) ?_⟩;rw[l];exact(rel.val k).getD J;subst p;cases(show u=Value.ref b from C);obtain⟨z,hd,xs,rel,j⟩:=Mq I.hok e;refine call_meetsIn vW j.typeIs PySem.F.entry_dict_get (PySem.F.args_dict_get_3 _ _ _) (meetsH_dict_get_default (tupleKind (fU X.prog X.w)) a b hd r) ⟨tupleKind_room_in1 T,k,xs,Di I.hok U,j,h _ _ (I.tok _) ?_⟩;rw[l];exact(rel.val k).getD J
end
inductive zU (ty:TE)(tx:TE)(σ:L2.St)(Q:VK)(x:V)(H1:Hp):Prop|mk (a:_) (_:x=.ref a) (_:VN H1 a) (_:ty σ H1 λy H2=>tx σ H2 λz g=>∃o,IF g a y o/\Q (o.getD z) g):zU ty tx σ Q x H1
def Qk (td ty tx:TE):TE:=λσ H Q=>td σ H λx H1=>zU ty tx σ Q x H1
section
variable {X:Cx}{o e f:Expr}{apos cpos:Pos}{td ty tx:TE}
theorem Kv (hu:X.A.units+1<cLine)(ho:PE X o td)(he:PE X e ty)(hf:PE X f tx)(m:M2 X o "get" apos e f cpos):PE X (.Call (.Attribute o "get" apos) [e,f] [] cpos) (Qk td ty tx):=by with_unfolding_all
 intro pins s σ H Q I h;refine wpAny_Call_method m.base m.few m.line sP vW PySem.F.type_dict_get (gm (ho pins s σ H _ I h) λu J ⟨x,H1,l,rx,a,ex,d,q1⟩=>?_);subst ex;obtain rfl:u=Value.ref a:=rx;obtain⟨t,p,_⟩:=Ru l d;refine⟨t,p,?_⟩;rw[m.trees];refine Calls.callWith_builtin rfl (Calls.evalArgs_plain (Calls.spliced_cons (gm (he pins J σ H1 _ l q1) λiv C ⟨y,H2,I2,U,q2⟩=>
  Calls.spliced_cons (gm (hf pins C σ H2 _ I2 q2) λfv s3 ⟨z,H3,I3,T,ov,g,q3⟩=>Calls.spliced_nil ?_))))
 exact RJ hu I3 g U T λw' s4 I4 j=>⟨_,H3,I4,j,q3⟩
end
section
variable {X:Cx}{pins:LD}{σ:St}{H:Hp}{s:Shared}{a:Addr}{kvs:List (jE×V)}{A:Around}{E:LP}
end
section
variable {X:Cx}{pins:LD}{σ:St}{H:Hp}{s:Shared}{a:Addr}{y:V}{u:Value}{A:Around}{E:LP}
end
section
variable {X:Cx}
end
section
variable {κ:Type}[DecidableEq κ]
end
abbrev iK:=Int×Int×LH
section
variable {prog:Program}{w:World}
def iE (prog:Program)(w:World)(h:Heap)(k:iK)(a:Addr):Prop:=
 ∃o n b t u,h.get? a=some o/\o.cls=.type "tuple"/\o.data=.seq #[.int k.1 t,.int k.2.1 u,.ref b] n/\IsTupleKey (intKind prog w) h k.2.2 b
theorem iE.ty {s:Shared}{k:iK}{a:Addr}(m:iE prog w s.heap k a):s.TypeIs (.ref a) "tuple":=by obtain⟨o,_,_,_,_,e,c,_⟩:=m;exact⟨o,e,c⟩
theorem iE.one {h:Heap}{a:Addr}{x y:iK}(T:iE prog w h x a)(J:iE prog w h y a):x=y:=by
 obtain⟨o,n,b,t,u,e,_,d,i⟩:=T;obtain⟨o',n',b',t',I,C,_,d',U⟩:=J;rw[e]at C;cases C;rw[d]at d';injection d' with z _;have g:[Value.int x.1 t,.int x.2.1 u,.ref b]=[Value.int y.1 t',.int y.2.1 I,.ref b']:=by simpa using congrArg Array.toList z
 injection g with p g;injection g with l g;injection g with j _;injection p with p _;injection l with l _;injection j with j;subst j;exact Prod.ext p (Prod.ext l (i.inj U))
theorem iE.stay {h h':Heap}{k:iK}{a d:Addr}{o:Obj}{es:Array DictEntry}{ep:Nat}(m:iE prog w h k a)(g:h.get? d=some o)(hd:o.data=.dict es ep)(j:Heap.SameBut d h h'):iE prog w h' k a:=by
 obtain⟨q,n,b,t,u,e,c,l,i⟩:=m;have ne:a≠d:=λz=>by subst z;rw[e]at g;cases g;rw[l]at hd;cases hd
 exact⟨q,n,b,t,u,(j.2 a ne).trans e,c,l,i.keeps g hd j⟩
def vo (prog:Program)(w:World)(k:iK):Int:=reduceHash (Builtin.Tuple.tupleHashOf [hashInt k.1,hashInt k.2.1,tupleKeyHash (intKind prog w) k.2.2])
variable {A:Around}{E:LP}{s:Shared}
theorem HF {k:iK}{a:Addr}{Q:Int->Shared->Prop}(l:A.units+8<cLine)(m:iE prog w s.heap k a)(h:Q (vo prog w k) {s with toks:=s.toks+(k.2.2.length+4)}):wpAny (model prog w) A (pyHash (.ref a)) Q E s:=by
 have T:=m.ty;obtain⟨o,n,b,t,u,e,_,d,i⟩:=m;unfold pyHash;first
  |unfold pyHashByItsType
  |skip
 first
  |refine ae (wpAny_cRoomFor_or (.inr (by lia)) ?_)
  |skip
 refine ae (iq T PySem.F.slot_tuple_hash.lookup ?_);show wpAny _ _ (if(some (Value.builtin "tuple.__hash__")==some Value.none)=true then _ else _) Q E s;rw[if_neg (by rw[beq_builtin_none];decide)];refine ae (iq T PySem.F.slot_tuple_hash.lookup ?_);show wpAny _ _ (callSpecialIfBoundUnlessNone? (.ref a) "__hash__" _>>=_) Q E s;refine ae (wpAny_callSpecialIfBoundUnlessNone?_slot T PySem.F.slot_tuple_hash (df PySem.F.slot_tuple_hash T PySem.F.entry_tuple_hash ?_ (PySem.F.args_tuple_hash_1 _)));show wpAny _ _ (Builtin.Tuple.tupleItemsOf (.ref a)>>=_) _ _ s;refine ae (zM e d ?_);refine ae ?_;rw[<-kE];show wpAny _ _ (forIn [Value.int k.1 t,Value.int k.2.1 u,Value.ref b] _ _) _ _ s;rw[dz];refine ae (ae (Ge (ak ?_)));show wpAny _ _ (forIn [Value.int k.2.1 u,Value.ref b] _ _) _ _ _;rw[dz];refine ae (ae (Ge (ak ?_)));show wpAny _ _ (forIn [Value.ref b] _ _) _ _ _;rw[dz];refine ae (ae (wpAny_pyHash_tuple (knd:=intKind prog w) (s:={s with toks:=s.toks+1+1}) (by show A.units+1<cLine;lia) i (ak ?_)));show wpAny _ _ (forIn ([]:LJ) _ _) _ _ _;rw[jD];refine ak ?_;show wpAny _ _ (retInt (Builtin.Tuple.tupleHashOf [hashInt k.1,hashInt k.2.1,tupleKeyHash (intKind prog w) k.2.2])) _ _ _;refine wpAny_ret_mkInt ?_;unfold vo reduceHash at h;generalize Builtin.Tuple.tupleHashOf [hashInt k.1,hashInt k.2.1,tupleKeyHash (intKind prog w) k.2.2]=z at h ⊢;have j:s.toks+1+1+(k.2.2.length+1)+1=s.toks+(k.2.2.length+4):=by lia
 rw[<-j]at h;show wpAny _ _ (if(decide (-(2:Int)^63<=z)&&decide (z<2^63))=true then _ else _) Q E {s with toks:=s.toks+1+1+(k.2.2.length+1)+1};cases g:(decide (-(2:Int)^63<=z)&&decide (z<2^63))with|true=>rw[g,if_pos rfl]at h;rw[if_pos rfl];exact ak h|false=>rw[g,if_neg (by decide)]at h;rw[if_neg (by decide)];exact ae (mq (ak h))
theorem Lg {x y:iK}{a b:Addr}{R:Fin->Shared->Prop}(hu:A.units+4<cLine)(T:iE prog w s.heap x a)(J:iE prog w s.heap y b)(h:R (.done (.ret (.bool (decide (x=y))))) s):
  wpAny (model prog w) A (Builtin.«tuple.__eq__» ⟨[.ref a,.ref b],[]⟩) R E s:=by have Tb:=J.ty;obtain⟨o,n,c,t,u,e,_,d,i⟩:=T;obtain⟨o',n',C,t',I,e',_,d',U⟩:=J;show wpAny _ _ (isInstance (.ref b) (.type "tuple")>>=_) _ _ s;refine ae (iM Tb isSubtype_tuple_tuple ?_);simp only[fj,ck,gy];refine ae (zM e d ?_);refine ae (zM e' d' ?_);refine ae ?_;show wpAny _ _ (forIn [(Value.int x.1 t,Value.int y.1 t'),(Value.int x.2.1 u,Value.int y.2.1 I),(Value.ref c,Value.ref C)] _ _) _ _ s;rw[dz];refine ae (ae (Gg ?_));by_cases p:x.1=y.1;rw[(by simpa using p:(x.1==y.1)=true)];simp only[fj,ck,gy];refine ak ?_;show wpAny _ _ (forIn [(Value.int x.2.1 u,Value.int y.2.1 I),(Value.ref c,Value.ref C)] _ _) _ _ _;rw[dz];refine ae (ae (Gg ?_));by_cases l:x.2.1=y.2.1;rw[(by simpa using l:(x.2.1==y.2.1)=true)];simp only[fj,ck,gy];refine ak ?_;show wpAny _ _ (forIn [(Value.ref c,Value.ref C)] _ _) _ _ _;rw[dz];refine ae (ae (wpAny_eqBool_tuple (knd:=intKind prog w) (by lia) i U ?_));by_cases j:x.2.2=y.2.2;rw[bi j];simp only[fj,ck,gy];refine ak ?_;show wpAny _ _ (forIn ([]:List (Value×Value)) _ _) _ _ _;rw[jD];refine ak ?_;have g:decide (x=y)=true:=bi (Prod.ext p (Prod.ext l j));rw[g]at h;exact ak h;rw[bq j];simp only[Bool.not_false,if_true];have g:decide (x=y)=false:=bq λq=>j (by rw[q]);rw[g]at h;exact ae (ak (ak (ak (ak h))));rw[(by simpa using l:(x.2.1==y.2.1)=false)];simp only[Bool.not_false,if_true];have g:decide (x=y)=false:=bq λq=>l (by rw[q]);rw[g]at h;exact ae (ak (ak (ak (ak h))));rw[(by simpa using p:(x.1==y.1)=false)];simp only[Bool.not_false,if_true];have g:decide (x=y)=false:=bq λq=>p (by rw[q]);rw[g]at h;exact ae (ak (ak (ak (ak h))))
theorem Og {x y:iK}{a b:Addr}{Q:Bool->Shared->Prop}(p:A.units+8<cLine)(g:iE prog w s.heap x a)(j:iE prog w s.heap y b)(h:Q (decide (x=y)) s):
  wpAny (model prog w) A (eqBool (.ref a) (.ref b)) Q E s:=by
 unfold eqBool
 try with_reducible refine dE ?_
 show wpAny _ _ (if(Value.ref a==Value.ref b)=true then _ else _) Q E s;cases l:(Value.ref a==Value.ref b)with
 |true=>
  rw[if_pos rfl];have e:a=b:=by have:=eq_of_beq l;injection this
  subst e;have:=g.one j;subst this;rw[bi rfl]at h;exact ae (mq (ak h))
 |false=>
  rw[if_neg (by decide)];exact ae (wpAny_richCompare_same_room (op:=.Eq) g.ty j.ty PySem.F.slot_tuple_eq
   (df PySem.F.slot_tuple_eq g.ty PySem.F.entry_tuple_eq (Lg (by show A.units+1+4<cLine;lia) g j ⟨_,rfl,(λe=>nomatch e),gE h⟩) (PySem.F.args_tuple_eq_2 _ _)) (by lia))
theorem CJ {ks:LH}{a:Addr}{m:Nat}{Q:Bool->Shared->Prop}(hk:IsTupleKey (intKind prog w) s.heap ks a)(h:Q true s):wpAny (model prog w) A (eqIsQuiet (m+1) (.ref a)) Q E s:=by have T:=hk.typeIs;obtain⟨o,items,n,C,_,hd,hi⟩:=hk;unfold eqIsQuiet;refine ae (iq T PySem.F.slot_tuple_eq.lookup ?_);show wpAny _ _ (isInstance (.ref a) (.type "tuple")>>=_) _ _ s;refine ae (iM T isSubtype_tuple_tuple ?_);simp only[fj,ck,gy];refine ae (fi C hd (ae ?_));show wpAny _ _ (forIn items _ _) _ _ s;rw[<-kE];refine wpAny_forIn_list _ (λleft r g=>(r.1=none/\g=s)/\∀v∈left,carriedByValue v=true) _ ?_ ?_ _ _ ⟨⟨rfl,rfl⟩,hi.byValue⟩;rintro v left r g ⟨⟨l,rfl⟩,al⟩;rw[eqIsQuiet_byValue _ (al v aM)];refine ae (ak ?_);simp only[fj,ck,gy];exact ak ⟨⟨rfl,rfl⟩,λq t=>al q (aB _ t)⟩;rintro⟨p,I⟩ g ⟨⟨l,rfl⟩,_⟩;have j:p=none:=l;subst j;exact ak h
theorem C0 {k:iK}{a:Addr}{Q:Bool->Shared->Prop}(m:iE prog w s.heap k a)(h:Q true s):wpAny (model prog w) A (eqIsQuiet 8 (.ref a)) Q E s:=by have T:=m.ty;obtain⟨o,n,b,t,u,e,_,d,i⟩:=m;unfold eqIsQuiet;refine ae (iq T PySem.F.slot_tuple_eq.lookup ?_);show wpAny _ _ (isInstance (.ref a) (.type "tuple")>>=_) _ _ s;refine ae (iM T isSubtype_tuple_tuple ?_);simp only[fj,ck,gy];refine ae (fi e d (ae ?_));rw[<-kE];show wpAny _ _ (forIn [Value.int k.1 t,Value.int k.2.1 u,Value.ref b] _ _) _ _ s;rw[dz,eqIsQuiet_byValue _ (show carriedByValue (Value.int k.1 t)=true from rfl)];refine ae (ae (ak ?_));simp only[fj,ck,gy];refine ak ?_;show wpAny _ _ (forIn [Value.int k.2.1 u,Value.ref b] _ _) _ _ _;rw[dz,eqIsQuiet_byValue _ (show carriedByValue (Value.int k.2.1 u)=true from rfl)];refine ae (ae (ak ?_));simp only[fj,ck,gy];refine ak ?_;show wpAny _ _ (forIn [Value.ref b] _ _) _ _ _;rw[dz];refine ae (ae (CJ (m:=6) i ?_));simp only[fj,ck,gy];refine ak ?_;show wpAny _ _ (forIn ([]:LJ) _ _) _ _ _;rw[jD];exact ak (ak h)
def vn (prog:Program)(w:World):HeapKind prog w iK where
 is:=iE prog w
 hash:=vo prog w
 draws k:=k.2.2.length+4
 room A:=A.units+8<cLine
 inj:=iE.one
 keeps:=iE.stay
 pyHash:=HF
 eqBool:=Og
 quiet:=C0
end
section
variable {prog:Program}{w:World}{K:Type}[DecidableEq K]{A:Around}{E:LP}{s:Shared}
theorem OK {knd:HeapKind prog w K}{d a:Addr}{xs:List (K×Addr×Value)}{k:K}{x:Value}{Q:LP}(I:knd.room A)(hk:knd.is s.heap k a)(U:s.heap.DictOfH knd d xs)(hz:xs.length<=sizeLine)(old:∀p,atKey xs k=some p->Q p.2 {s with toks:=s.toks+knd.draws k})(new:atKey xs k=none->∀h',h'.DictOfH knd d (xs++[(k,a,x)])->Heap.SameBut d s.heap h'->Q x {s with heap:=h',toks:=s.toks+knd.draws k}):
  wpAny (model prog w) A (dictSetDefault d (.ref a) x) Q E s:=by
 obtain⟨o,es,ep,g1,g2,g3,l,T,C⟩:=U;unfold dictSetDefault
 with_reducible refine dE ?_
 refine ae (knd.pyHash I hk (ae (wpAny_dictFind_heap (s:={s with toks:=s.toks+knd.draws k}) I hk g1 g3 l T C (λno=>?_) λj p J=>?_)));have e0:=atKey_none_of_get no;have nm:=not_mem_keys_of_get no;have e1:es.size<=sizeLine:=by rw[size_of_entries l];exact hz
 refine ae (mq (ae (wpAny_updateDictKeys (hz:=e1) (s:={s with toks:=s.toks+knd.draws k}) g1 g3 (ak (new e0 _ ⟨_,_,ep+1,ik _ g1 (Obj.isFreed_of_dict (Obj.data_mapDictKeys g3 _)),g2.mapDictKeys _,Obj.data_mapDictKeys g3 _,?_,?_,?_⟩ (Heap.SameBut.update ..))))));simp[l,entryOfKey];intro y t;rcases be.mp t with q|q;exact knd.keeps (T y q) g1 g3 (Heap.SameBut.update ..);cases aX.mp q;exact knd.keeps hk g1 g3 (Heap.SameBut.update ..);rw[a0,jm];refine⟨C,by simp,λy t z g q=>?_⟩;simp only[aJ,jT,aX]at g;subst g;exact nm (q ▸ t);refine ae (wpAny_dictEntries (s:={s with toks:=s.toks+knd.draws k}) g1 g3 ?_);rw[entry_at l j,J];exact ae (mq (ak (old p (atKey_of_get C J))))
theorem Il {d:Addr}{key x:Value}{Q:LP}(T:s.TypeIs (.ref d) "dict")(hd:(d==sysModules)=false)(h:wpAny (model prog w) A.in1 (dictSetDefault d key x) Q (λe s'=>E e s') s):wpAny (model prog w) A (call (.builtin "dict.setdefault") [.ref d,key,x]) Q E s:=by refine df F.slot_dict_setdefault T F.entry_dict_setdefault ?_ (F.args_dict_setdefault_3 _ _ _);unfold Builtin.«dict.setdefault»;refine ae ?_;unfold Builtin.Dict.keyAndDefault;refine ae (wpAny_notOrdered_dict T ?_);show wpAny _ _ (pure (d,key,some x)) _ _ s;refine ak ?_;show wpAny _ _ (if(d==sysModules)=true then _ else(dictSetDefault d key x>>=_)) _ _ s;rw[if_neg (by rw[hd];exact bC)];refine ae (ii h (λv s' q=>?_) λ_ _ q=>q);exact ak ⟨_,rfl,q⟩
theorem RB {knd:HeapKind prog w K}{d:Addr}{xs:List (K×Addr×Value)}{Q:LP}(hd:(d==sysModules)=false)(g:s.heap.DictOfH knd d xs)(j:xs.length<=sizeLine)(h:∀t t',Q (.int xs.length t) {s with toks:=t'}):wpAny (model prog w) A (call (.builtin "len") [.ref d]) Q E s:=by have T:=g.typeIs;rw[sizeLine_eq]at j;refine Calls.call_function_entry kind_len plain_len entry_len (args_len1 _) ?_;unfold Builtin.«len»;refine ae (m:=oneArg "len" _) (ak ?_);refine ae (m:=callSpecial? (.ref d) (Str.ofString "__len__")) (fD (name:=Str.ofString "__len__") T F.slot_dict_len (df F.slot_dict_len T F.entry_dict_len ?_ (F.args_dict_len_1 _)));obtain⟨o,es,ep,g1,_,g3,l,_,_⟩:=g;show wpAny _ _ (dictSize d>>=_) _ _ s;unfold dictSize;refine ae (ae (wpAny_dictEntries g1 g3 (ak ?_)));show wpAny _ _ (Builtin.Dict.pendingCount d>>=_) _ _ s;refine ae (wpAny_pendingCount_other hd (wpAny_ret_mkInt ?_));rw[size_of_entries l];show wpAny _ _ _ _ _ {s with toks:=s.toks+1};refine ae (dE (ak ?_));refine ae (wc ?_);show wpAny _ _ (if((xs.length:Nat):Int)<0 then _ else _) _ _ _;rw[if_neg (by lia)];show wpAny _ _ (if((xs.length:Nat):Int)≥2^63 then _ else _) _ _ _;rw[if_neg (by lia)];exact ae (wpAny_mkInt (ak ⟨_,rfl,h _ _⟩))
end
section
variable {P:Program}{w:World}{H:Hp}{h:Heap}{a:Addr}
theorem Bo:∀{ns:LH} {us:LJ},dc (ns.map V.int) us->ItemsAre (intKind P w) ns us
 |[],_,.nil=>.nil
 |n::ns,_,.cons r t=>by obtain⟨t',rfl⟩:=(show∃t,_=Value.int n t from r);exact .cons (intKind_is P w n t') (Bo t)
theorem Fm {b:Addr}{k:iK}(ok:pL P w H h)(e:H a=some (.tup [.int k.1,.int k.2.1,.ref b]))(eb:H b=some (.tup (k.2.2.map V.int))):iE P w h k a:=by obtain⟨_,its,r,o,J,I,n,C⟩:=(show fo P w H h a _ from ok a _ e);obtain⟨_,its2,l,o2,U,p2,n2,T⟩:=(show fo P w H h b _ from ok b _ eb);cases r with|cons p r=>cases r with|cons g r=>cases r with|cons j r=>cases r;obtain⟨t,rfl⟩:=(show∃t,_=Value.int k.1 t from p);obtain⟨u,rfl⟩:=(show∃t,_=Value.int k.2.1 t from g);cases(show _=Value.ref b from j);exact⟨o,n,b,t,u,J,I,C,o2,_,n2,U,p2,T,Bo l⟩
abbrev Iy:List (iK×Addr×V)->List (iK×Addr×Value)->Prop:=Paired λp q=>p.1=q.1/\p.2.1=q.2.1/\dQ p.2.2 q.2.2
def Uh (P:Program)(w:World)(a:Addr)(xs:List (iK×Addr×V))(h:Heap):Prop:=
 xs.length<=sizeLine/\(a==sysModules)=false/\∃ys,Iy xs ys/\∃o es ep,h.get? a=some o/\o.ExactDict/\o.data=.dict es ep/\es.toList=ys.map (entryOfKey (vn P w))/\(ys.map (·.1)).Nodup
def Vv (P:Program)(w:World)(a:Addr)(xs:List (iK×Addr×V)):HO:=.ext (Uh P w a xs)
def xY (H:Hp)(x:iK×Addr):Prop:=∃b,H x.2=some (.tup [.int x.1.1,.int x.1.2.1,.ref b])/\H b=some (.tup (x.1.2.2.map V.int))
theorem PU {xs:List (iK×Addr×V)}(q:Uh P w a xs h):fo P w H h a (Vv P w a xs):=by obtain⟨z,d,ys,r,o,es,ep,g1,g2⟩:=q;refine⟨⟨z,d,ys,r,o,es,ep,g1,g2⟩,⟨o,g1⟩,λh1 h2 q k=>?_⟩;obtain⟨z,d,ys,r,o,es,ep,g1,g2⟩:=q;exact⟨z,d,ys,r,o,es,ep,k _ g1,g2⟩
theorem Iy.at {k:iK}{xs:List (iK×Addr×V)}{ys:List (iK×Addr×Value)}(r:Iy xs ys):qk ((xs.find? λx=>decide (x.1=k)).map (·.2.2)) ((atKey ys k).map (·.2)):=by induction r with|nil=>exact True.intro|@cons p q ps j g t C=>obtain⟨g1,_,g3⟩:=g;by_cases e:p.1=k;have l:q.1=k:=g1.symm.trans e;rw[show atKey (q::j) k=some q.2 by simp[atKey,l],show((p::ps).find? λx=>decide (x.1=k))=some p by simp[e]];exact g3;have l:¬q.1=k:=λz=>e (g1.trans z);rw[show atKey (q::j) k=atKey j k by simp[atKey,l],show((p::ps).find? λx=>decide (x.1=k))=ps.find? λx=>decide (x.1=k) by simp[e]];exact C
theorem Fl {xs:List (iK×Addr×V)}(ok:pL P w H h)(e:H a=some (Vv P w a xs))(ks:∀x∈xs,xY H (x.1,x.2.1)):
  xs.length<=sizeLine/\(a==sysModules)=false/\∃ys,Iy xs ys/\h.DictOfH (vn P w) a ys:=by
 obtain⟨⟨z,d,ys,r,o,es,ep,g1,g2,g3,U,T⟩,_⟩:=(show fo P w H h a _ from ok a _ e);refine⟨z,d,ys,r,o,es,ep,g1,g2,g3,U,λy j=>?_,T⟩;have:∀{l:List (iK×Addr×V)} {m:List (iK×Addr×Value)},Iy l m->(∀x∈l,xY H (x.1,x.2.1))->∀y∈m,xY H (y.1,y.2.1):=by intro l m q;induction q with|nil=>intro _ y j;cases j|cons g t I=>intro al y j;rcases bT.mp j with q|q;subst q;have:=al _ aM;rw[g.1,g.2.1]at this;exact this;exact I (λx J=>al x (aB _ J)) y q
 obtain⟨b,C,p⟩:=this r ks y j;exact Fm ok C p
end
def KL {κ:Type}[DecidableEq κ](l:List (κ×V×V))(k:κ):LU:=(l.find? λx=>decide (x.1=k)).map (·.2.2)
def PB {κ:Type}[DecidableEq κ](obj:Addr->List (κ×V×V)->HO)(key:Hp->V->κ->Prop):V->List V->Hp->VK->Prop:=λx vs H Q=>
 ∃d l k y v,x=.ref d/\vs=[y,v]/\H d=some (obj d l)/\(∀z∈l,key H z.2.1 z.1)/\key H y k/\l.length<sizeLine/\
  ((∃r,KL l k=some r/\Q r H)\/(KL l k=none/\Q v (upd H d (obj d (l++[(k,y,v)])))))
structure Kd (X:Cx)(κ:Type)[DecidableEq κ](obj:Addr->List (κ×V×V)->HO)(key:Hp->V->κ->Prop):Prop where
 ty:∀{pins:LD} {σ:St} {H:Hp} {s:Shared} {a:Addr} {l:List (κ×V×V)},Inv X pins σ H s->H a=some (obj a l)->
  s.TypeIs (.ref a) "dict"/\∀b,Value.ref a=.ref b->∃ob,s.heap.get? b=some ob/\ob.dict=none
 new:∀pos,PE X (.Dict [] [] pos) (λ_ H Q=>∀p,H p=none->Q (.ref p) (upd H p (obj p [])))
 len:k5 X (.builtin "len") (λxs H Q=>∃a l,xs=[V.ref a]/\H a=some (obj a l)/\(∀z∈l,key H z.2.1 z.1)/\Q (.int l.length) H)
 set:O9 X "dict.setdefault" (PB obj key)
def Vj:V->Addr
 | .ref a=>a
 |_=>0
def mL (l:List (iK×V×V)):List (iK×Addr×V):=l.map λx=>(x.1,Vj x.2.1,x.2.2)
def Oi (P:Program)(w:World)(a:Addr)(l:List (iK×V×V)):HO:=Vv P w a (mL l)
def C9 (H:Hp)(y:V)(k:iK):Prop:=∃a,y=.ref a/\xY H (k,a)
theorem Fn {H:Hp}{l:List (iK×V×V)}(h:∀z∈l,C9 H z.2.1 z.1):∀x∈mL l,xY H (x.1,x.2.1):=by intro x g;obtain⟨z,hz,rfl⟩:=aV.mp g;obtain⟨a,e,q⟩:=h z hz;show xY H (z.1,Vj z.2.1);rw[e];exact q
theorem FD (k:iK):∀l:List (iK×V×V),((mL l).find? λx=>decide (x.1=k)).map (·.2.2)=KL l k
 |[]=>rfl
 |x::l=>by by_cases e:x.1=k;simp[mL,KL,e];rw[show KL (x::l) k=KL l k by simp[KL,e],<-FD k l];simp[mL,e]
theorem OB {X:Cx}(hu:X.A.units+9<cLine):Kd X iK (Oi X.prog X.w) C9 where
 ty:=by with_unfolding_all
  intro pins σ H s a l I e;obtain⟨⟨_,_,ys,_,o,es,ep,g1,g2,_⟩,_⟩:=(show fo X.prog X.w H s.heap a _ from I.hok a _ e);refine⟨⟨o,g1,g2.1⟩,λb q=>?_⟩;cases q;exact⟨o,g1,g2.2.1⟩
 new:=by with_unfolding_all
  intro pos pins s σ H Q I h;refine wpAny_Dict_empty ⟨.ref s.heap.objs.size,_,I.laid (o:=Oi X.prog X.w s.heap.objs.size []) (t':=s.toks) (λ_ _ q=>ai _ q) (av _) (PU ?_),rfl,h _ (I.hok.fresh (av _))⟩;exact⟨bp _,beq_eq_false_iff_ne.mpr (Ne.symm (bB I.big)),[],.nil,_,#[],0,aQ _ rfl,⟨rfl,rfl,rfl⟩,rfl,rfl,fM⟩
 len:=by
  intro pins s σ H xs us Q I r h;obtain⟨a,l,rfl,ha,ks,q⟩:=h;obtain⟨u,rfl,J⟩:=lB r;cases J;obtain⟨z,hd,ys,rel,C⟩:=Fl I.hok ha (Fn ks);have el:ys.length=l.length:=by rw[<-Paired.length rel,mL,aa]
  refine RB hd C (by rw[<-Paired.length rel];exact z) λt t'=>⟨.int l.length,H,I.tok _,⟨t,by rw[el]⟩,q⟩
 set:=by intro pins s σ H x vs v us Q I rx rv h;obtain⟨d,l,k,y,z,rfl,rfl,e,ks,⟨a,ey,b,eb,ec⟩,hz,q⟩:=h;cases rx;cases ey;obtain⟨u,u',rfl,J,j⟩:=rv.two;cases J;obtain⟨z1,hd,ys,rel,C⟩:=Fl I.hok e (Fn ks);have g:=Iy.at (k:=k) rel;rw[FD]at g;refine Il C.typeIs hd (OK (knd:=vn X.prog X.w) (k:=k) (by show X.A.units+1+8<cLine;lia) (Fm I.hok eb ec) C (by rw[<-Paired.length rel];exact z1) (λr T=>?_) λT h' U sb=>?_);rw[T]at g;rcases q with⟨r',p,q⟩|⟨p,_⟩;rw[p]at g;exact⟨r',H,I.tok _,g,q⟩;rw[p]at g;exact(show False from g).elim;rw[T]at g;rcases q with⟨r',p,_⟩|⟨_,q⟩;rw[p]at g;exact(show False from g).elim;obtain⟨o,es,ep,g1,g2,g3,g4,g5,g6⟩:=U;refine⟨z,_,ze I (ob:=Oi X.prog X.w d (l++[(k,.ref a,z)])) (by rw[e];exact True.intro) sb ⟨o,g1⟩ (PU ⟨?_,hd,_,?_,o,es,ep,g1,g2,g3,g4,g6⟩),j,q⟩;rw[mL,aa,ah,bY];lia;rw[mL,a0];exact Paired.snoc rel ⟨rfl,rfl,j⟩
def Sn {κ:Type}[DecidableEq κ](obj:Addr->List (κ×V×V)->HO)(key:Hp->V->κ->Prop)(td ty tx:TE):TE:=λσ H Q=>
 td σ H λx H1=>∃a l,x=.ref a/\H1 a=some (obj a l)/\ty σ H1 λy H2=>tx σ H2 λz g=>PB obj key x [y,z] g Q
theorem NE {X:Cx}{κ:Type}[DecidableEq κ]{obj:Addr->List (κ×V×V)->HO}{key:Hp->V->κ->Prop}{o e f:Expr}{apos cpos:Pos}{td ty tx:TE}(K:Kd X κ obj key)(ho:PE X o td)(he:PE X e ty)(hf:PE X f tx)(m:M2 X o "setdefault" apos e f cpos):PE X (.Call (.Attribute o "setdefault" apos) [e,f] [] cpos) (Sn obj key td ty tx):=by with_unfolding_all
 intro pins s σ H Q I h;refine wpAny_Call_method m.base m.few m.line sP PySem.F.slot_dict_setdefault PySem.F.type_dict_setdefault (gm (ho pins s σ H _ I h) λu J ⟨x,H1,g,rx,a,l,ex,d,q1⟩=>?_);subst ex;obtain rfl:u=Value.ref a:=rx;obtain⟨p,j⟩:=K.ty g d;refine⟨p,j,?_⟩;rw[m.trees];refine Calls.callWith_builtin rfl (Calls.evalArgs_plain (Calls.spliced_cons (gm (he pins J σ H1 _ g q1) λiv C ⟨y,H2,I2,U,q2⟩=>Calls.spliced_cons (gm (hf pins C σ H2 _ I2 q2) λfv t ⟨z,H3,I3,T,q3⟩=>Calls.spliced_nil ?_))));exact K.set pins t σ H3 (.ref a) [y,z] _ _ Q I3 rfl (.cons U (.cons T .nil)) q3
abbrev HH (g:LJ)(c:Nat):Obj:={cls:=.type "list",dict:=none,data:=.seq g.toArray c,slots:=#[]}
structure zw (prog:Program)(w:World)(A:Around)(S I:Addr)(n:Nat)(St En:List Value->Heap->Prop):Prop where
 keep:∀{acc:LJ} {h h':Heap},St acc h->(∀b o,b≠S->h.get? b=some o->h'.get? b=some o)->St acc h'
 item:∀{s:Shared} {acc:LJ} {Q:Option Value->Shared->Prop} {E:LP},acc.length<n->(∃o,s.heap.get? S=some o)->St acc s.heap->
  (∀v h' tk,St (acc++[v]) h'->(∀o,s.heap.get? S=some o->h'.get? S=some o)->Q (some v) {s with heap:=h',toks:=tk})->wpAny (model prog w) A (pyNext (.ref I)) Q E s
 done:∀{s:Shared} {acc:LJ} {Q:Option Value->Shared->Prop} {E:LP},acc.length=n->St acc s.heap->
  (∀h' tk,En acc h'->(∀o,s.heap.get? S=some o->h'.get? S=some o)->Q none {s with heap:=h',toks:=tk})->wpAny (model prog w) A (pyNext (.ref I)) Q E s
section
variable {prog:Program}{w:World}{A:Around}{S I v:Addr}{n:Nat}{St En:List Value->Heap->Prop}{R:Result->Shared->Prop}{res:Value}
theorem xO (W:zw prog w A.in1 S I n St En)(hn:n<=sizeLine):
  ∀(k:Nat) (s:Shared) (g:LJ) (c:Nat),n-g.length=k->g.length<=n->St g s.heap->s.heap.get? S=some (HH g c)->
  (∀h' tk acc' c',acc'.length=n->En acc' h'->h'.get? S=some (HH acc' c')->R (.ok (.ret res)) {s with heap:=h',toks:=tk})->
  codeAny (model prog w) A (.builtin "list.extend.loop" ⟨[.ref S,.ref I,res],[]⟩) R s:=by
 intro k;induction k with
 |zero=>intro s g c e1 e2 st l T;refine codeAny_builtin F.entry_extend_loop ?_;rw[Around.under_plainId F.plain_extend_loop _];show wpAny _ A.in1 (pyNext (.ref I)>>=_) _ _ s;refine ae (W.done (by lia) st λh' tk en C=>?_);exact ak (T h' tk g c (by lia) en (C _ l))
 |succ k ih=>
  intro s g c e1 e2 st l T;refine codeAny_builtin F.entry_extend_loop ?_;rw[Around.under_plainId F.plain_extend_loop _];show wpAny _ A.in1 (pyNext (.ref I)>>=_) _ _ s;refine ae (W.item (by lia) ⟨_,l⟩ st λx h' tk t C=>?_);have j:=C _ l;show wpAny _ A.in1 (updateSeq S (·.push x)>>=_) _ _ _;obtain⟨U,J⟩:∃U,(h'.update S (Obj.mapSeq (·.push x))).get? S=some (HH (g++[x]) U):=by have q:=PySem.IsL.update j (·.push x);rw[List.push_toArray]at q;exact⟨_,q⟩
  refine ae (ki j rfl (ak ⟨plainId_quiet F.plain_extend_loop _,ih _ (g++[x]) U (by rw[ah,bY];lia) (by rw[ah,bY];lia) (W.keep t λb o hb q=>(gZ _ _ (Ne.symm hb)).trans q) J ?_⟩)
   (by show g.toArray.size<=sizeLine;rw[aO];lia) (by show(g.toArray.push x).size<=sizeLine+1;rw[Array.size_push,aO];lia))
  intro h2 p acc2 c2 q1 q2 q3;exact T h2 p acc2 c2 q1 q2 q3
theorem tI {T:String}{s:Shared}{c:Nat}(W:zw prog w A.in1 S I n St En)(hn:n<=sizeLine)(ty:s.TypeIs (.ref v) T)(t1:(Value.type T==Value.type "list")=false)(t2:(Value.type T==Value.type "tuple")=false)(ne:S≠v)(hS:s.heap.get? S=some (HH [] c))(it:∀{Q:LP} {E:LP},(∀h' tk,St [] h'->(∀o,s.heap.get? S=some o->h'.get? S=some o)->Q (.ref I) {s with heap:=h',toks:=tk})->wpAny (model prog w) A.in1 (pyIter (.ref v)) Q E s)(hint:∀{s':Shared} {Q:Bool->Shared->Prop} {E:LP},St [] s'.heap->(∀b tk,Q b {s' with toks:=tk})->wpAny (model prog w) A.in1 (Builtin.List.listLengthHint (.ref v)) Q E s')(hR:∀h' tk acc' t,acc'.length=n->En acc' h'->h'.get? S=some (HH acc' t)->R (.ok (.ret res)) {s with heap:=h',toks:=tk}):
  wpAny (model prog w) A.in1 (Builtin.List.listExtendWith (.ref S) (.ref v) res)
   (λfin s'=>match fin with| .done f=>R (.ok f) s'| .again t=>t.quiet=true/\codeAny (model prog w) A t R s') (λe s'=>R (.error e) s') s:=by unfold Builtin.List.listExtendWith;refine ae (om ty ?_);rw[show Builtin.List.listSameRef (.ref S) (.ref v)=false by simp[Builtin.List.listSameRef,ne],t1,t2];simp only[Bool.or_false,ck,gy];refine ae (it λh1 tk1 j C=>?_);refine ae (dE (hint j λb g=>?_));have l:=C _ hS;refine fq (λ_=>?_) (λ_=>?_);refine ae (mq (ae ?_));show wpAny _ A.in1 (updateSeq S (·.push .none)>>=λ_=>updateSeq S (·.pop)) _ _ _;have q1:=PySem.IsL.update l (·.push Value.none);have q2:=PySem.IsL.update q1 (·.pop);obtain⟨p,q3⟩:∃p,((h1.update S (Obj.mapSeq (·.push Value.none))).update S (Obj.mapSeq (·.pop))).get? S=some (HH [] p):=⟨_,q2⟩;refine ae (ki l rfl (ki q1 rfl ?_ (by simp[sizeLine_eq]) (by simp[sizeLine_eq])) (by simp[sizeLine_eq]) (by simp[sizeLine_eq]));refine ak ⟨plainId_quiet F.plain_extend_loop _,?_⟩;refine xO W hn n _ [] p rfl (bp _) (W.keep j λb o hb q=>?_) q3 ?_;exact(gZ _ _ (Ne.symm hb)).trans ((gZ _ _ (Ne.symm hb)).trans q);intro h2 g acc2 p U p2 J;exact hR h2 g acc2 p U p2 J;refine ak ⟨plainId_quiet F.plain_extend_loop _,xO W hn n _ [] c rfl (bp _) j l ?_⟩;intro h2 g acc2 p U p2 J;exact hR h2 g acc2 p U p2 J
variable {E:LP}{s:Shared}
theorem HJ {T:String}{Q:LP}(W:zw prog w A.in1.in1 s.heap.objs.size I n St En)(hn:n<=sizeLine)(ty:s.TypeIs (.ref v) T)(J:(Value.type T==Value.type "list")=false)(C:(Value.type T==Value.type "tuple")=false)(it:∀{s':Shared} {Q:LP} {E:LP},(∀b o,s.heap.get? b=some o->s'.heap.get? b=some o)->s'.heap.objs.size=s.heap.objs.size+1->
   (∀h' tk,St [] h'->(∀o,s'.heap.get? s.heap.objs.size=some o->h'.get? s.heap.objs.size=some o)->Q (.ref I) {s' with heap:=h',toks:=tk})->wpAny (model prog w) A.in1.in1 (pyIter (.ref v)) Q E s')(hint:∀{s':Shared} {Q:Bool->Shared->Prop} {E:LP},St [] s'.heap->(∀b tk,Q b {s' with toks:=tk})->wpAny (model prog w) A.in1.in1 (Builtin.List.listLengthHint (.ref v)) Q E s')(hQ:∀h' tk g t,g.length=n->En g h'->h'.get? s.heap.objs.size=some (HH g t)->Q (.ref s.heap.objs.size) {s with heap:=h',toks:=tk}):
  wpAny (model prog w) A (call (.type "list") [.ref v]) Q E s:=by
 have hv:v<s.heap.objs.size:=by obtain⟨o,e,_⟩:=ty;exact aS e
 refine callType_codes (Q₁:=λx s₁=>x=.ref s.heap.objs.size/\s₁={s with heap:=s.heap.push {cls:=.type "list",data:=.seq #[]}}) F.called_list (F.typeCall_list_1 _) F.entry_list_init (code_list_new _ ⟨rfl,rfl⟩) λx s₁ q=>?_;obtain⟨rfl,rfl⟩:=q;have l:(s.heap.push {cls:=.type "list",data:=.seq #[]}).get? s.heap.objs.size=some (HH [] 0):=aQ _ rfl;refine⟨⟨_,l,rfl⟩,F.args_list_init_2 _ _,?_⟩;show wpAny _ _ (do let old<-Builtin.List.listItems (.ref s.heap.objs.size);Builtin.List.listUpdate (.ref s.heap.objs.size) (λ_=>#[]);letGo old.toList.reverse;Builtin.List.listExtendWith (.ref s.heap.objs.size) (.ref v) .none) _ _ _;refine ae ?_;unfold Builtin.List.listItems;refine ae (fi l rfl (ak ?_));show wpAny _ _ (updateSeq s.heap.objs.size (λ_=>#[])>>=λ_=>letGo ([]:LJ).toArray.toList.reverse>>=λ_=>Builtin.List.listExtendWith (.ref s.heap.objs.size) (.ref v) .none) _ _ _;refine ae (ki l rfl ?_);obtain⟨c,p⟩:∃c,((s.heap.push {cls:=.type "list",data:=.seq #[]}).update s.heap.objs.size (Obj.mapSeq λ_=>(#[]:LV))).get? s.heap.objs.size=some (HH [] c):=⟨_,PySem.IsL.update l λ_=>#[]⟩;have oth:∀b o,s.heap.get? b=some o->((s.heap.push {cls:=.type "list",data:=.seq #[]}).update s.heap.objs.size (Obj.mapSeq λ_=>(#[]:LV))).get? b=some o:=
  λb o q=>(gZ _ _ (dR (aS q))).trans (ai _ q)
 refine ae (wc ?_);refine tI (R:=wants (λr j=>r=.none/\Q (.ref s.heap.objs.size) j) E) (c:=c) W hn (by obtain⟨o,e,q⟩:=ty;exact⟨o,oth _ _ e,q⟩) J C (dR hv) p (λ{Q' E'} k=>it oth (by simp) k) hint λh' tk acc' t p1 p2 U=>?_;exact⟨rfl,hQ h' tk acc' t p1 p2 U⟩
end
section
variable {prog:Program}{w:World}{A:Around}{I v:Addr}{n:Nat}{St En:List Value->Heap->Prop}{E:LP}{s:Shared}
theorem zj {T:String}{Q:List Value->Shared->Prop}(W:zw prog w A.in1 s.heap.objs.size I n St En)(hn:n<=sizeLine)(ty:s.TypeIs (.ref v) T)(J:(Value.type T==Value.type "list")=false)(C:(Value.type T==Value.type "tuple")=false)(it:∀{s':Shared} {Q:LP} {E:LP},(∀b o,s.heap.get? b=some o->s'.heap.get? b=some o)->s'.heap.objs.size=s.heap.objs.size+1->
   (∀h' tk,St [] h'->(∀o,s'.heap.get? s.heap.objs.size=some o->h'.get? s.heap.objs.size=some o)->Q (.ref I) {s' with heap:=h',toks:=tk})->wpAny (model prog w) A.in1 (pyIter (.ref v)) Q E s')(hint:∀{s':Shared} {Q:Bool->Shared->Prop} {E:LP},St [] s'.heap->(∀b tk,Q b {s' with toks:=tk})->wpAny (model prog w) A.in1 (Builtin.List.listLengthHint (.ref v)) Q E s')(hQ:∀h' tk g,g.length=n->En g h'->s.heap.objs.size<h'.objs.size->Q g {s with heap:=h',toks:=tk}):wpAny (model prog w) A (collect (.ref v)) Q E s:=by
 have hv:v<s.heap.objs.size:=by obtain⟨o,e,_⟩:=ty;exact aS e
 unfold collect;refine ae (wpAny_runValue (codeAny_builtin F.entry_proto_collect ?_));rw[Around.under_plainId F.plain_proto_collect _];show wpAny _ A.in1 (newList []>>=λl=>again (.builtin "list.__iadd__" ⟨[l,.ref v],[]⟩)) _ _ s;refine ae (fe ?_);refine ak ⟨plainId_quiet F.plain_list_iadd _,codeAny_builtin F.entry_list_iadd ?_⟩;rw[Around.under_plainId F.plain_list_iadd _];show wpAny _ A.in1 (Builtin.List.listExtendWith (.ref s.heap.objs.size) (.ref v) (.ref s.heap.objs.size)) _ _ _;have hS:(s.heap.push {cls:=.type "list",data:=.seq ([]:LJ).toArray}).get? s.heap.objs.size=some (HH [] 0):=aQ _ rfl;have oth:∀b o,s.heap.get? b=some o->(s.heap.push {cls:=.type "list",data:=.seq ([]:LJ).toArray}).get? b=some o:=λb o q=>ai _ q;have fin:∀{h':Heap} {tk:Nat} {g:LJ} {p:Nat},g.length=n->En g h'->h'.get? s.heap.objs.size=some (HH g p)->
   wpAny (model prog w) A (match Value.ref s.heap.objs.size with
    |Value.ref a=>do
     match (<-load a).data with
      |Data.seq xs _=>pure xs.toList
      |_=>unsupported "internal:collect"
    |_=>unsupported "internal:collect") Q E {s with heap:=h',toks:=tk}:=by intro h' tk g p t p2 j;show wpAny _ A (load s.heap.objs.size>>=_) _ _ _;refine ae (wpAny_load j (ak ?_));exact hQ h' tk g t p2 (aS j)
 refine ii (tI (R:=λr s'=>∃h' tk g p,r=.ok (.ret (.ref s.heap.objs.size))/\s'={s with heap:=h',toks:=tk}/\g.length=n/\En g h'/\h'.get? s.heap.objs.size=some (HH g p))
  (s:={s with heap:=s.heap.push {cls:=.type "list",data:=.seq ([]:LJ).toArray}}) (c:=0) W hn (by obtain⟨o,e,q⟩:=ty;exact⟨o,oth _ _ e,q⟩) J C (dR hv) hS (λ{Q' E'} k=>it oth (by simp) k) hint
  λh' tk acc' p t p2 j=>⟨h',tk,acc',p,rfl,rfl,t,p2,j⟩) (λf s' q=>?_) (λe s' q=>?_)
 ·cases f with
  |done f=>obtain⟨h',tk,g,p,e,rfl,t,p2,j⟩:=q;cases e;exact fin t p2 j
  |again c=>refine⟨q.1,codeAny_mono q.2 λr U hr=>?_⟩;obtain⟨h',tk,g,p,rfl,rfl,t,p2,j⟩:=hr;exact fin t p2 j
 obtain⟨_,_,_,_,e,_⟩:=q;cases e
theorem Cb {T:String}{Q:LP}(W:zw prog w A.in1.in1.in1 s.heap.objs.size I n St En)(l:n<=sizeLine)(ty:s.TypeIs (.ref v) T)(t:(Value.type T==Value.type "list")=false)(p:(Value.type T==Value.type "tuple")=false)(it:∀{s':Shared} {Q:LP} {E:LP},(∀b o,s.heap.get? b=some o->s'.heap.get? b=some o)->s'.heap.objs.size=s.heap.objs.size+1->
   (∀h' tk,St [] h'->(∀o,s'.heap.get? s.heap.objs.size=some o->h'.get? s.heap.objs.size=some o)->Q (.ref I) {s' with heap:=h',toks:=tk})->wpAny (model prog w) A.in1.in1.in1 (pyIter (.ref v)) Q E s')(hint:∀{s':Shared} {Q:Bool->Shared->Prop} {E:LP},St [] s'.heap->(∀b tk,Q b {s' with toks:=tk})->wpAny (model prog w) A.in1.in1.in1 (Builtin.List.listLengthHint (.ref v)) Q E s')(J:∀h' tk g,g.length=n->En g h'->s.heap.objs.size<h'.objs.size->Q (.ref h'.objs.size) {s with heap:=h'.push {cls:=.type "tuple",data:=.seq g.toArray},toks:=tk}):
  wpAny (model prog w) A (call (.type "tuple") [.ref v]) Q E s:=by
 refine callType_codes (Q₁:=λx s₁=>s₁.TypeIs x "tuple"/\Q x s₁) F.called_tuple (F.typeCall_tuple_1 _) F.entry_object_init ?_ λx s₁ q=>
  ⟨q.1,F.args_object_init_2 x _,object_init_meets F.called_tuple.init.lookup F.called_tuple.made (by decide) prog w A.in1 _ s₁ ⟨q.1,rfl,q.2⟩⟩
 refine codeAny_of_tree ?_;show wpAny _ A.in1.in1 (do checkBuiltinCall "tuple.__new__" ⟨[.type "tuple",.ref v],[]⟩;again (.builtin "tuple.__new__" ⟨[.type "tuple",.ref v],[]⟩)) _ _ s;refine ae (wpAny_of_eq (F.newCall_tuple_1 _) (ak ⟨plainId_quiet F.plain_tuple_new _,codeAny_builtin F.entry_tuple_new ?_⟩));rw[Around.under_plainId F.plain_tuple_new _];have g1:=sub_tuple_self;have g2:=init_tuple_lookup;have g3:=madeHere_tuple
 wp_walk using om ty,zj W l ty t p it hint
 intro h' tk g j p2 C;refine ae (ak ?_);show wpAny _ _ (Builtin.Tuple.tupleExact g.toArray>>=λz=>ret z) _ _ _;unfold Builtin.Tuple.tupleExact;refine ae (fe ?_ (by show g.toArray.size<=sizeLine;rw[aO,j];exact l));exact ak ⟨⟨_,aQ _ rfl,rfl⟩,J h' tk g j p2 C⟩
end
def Ub (p d:Addr):HO:=.ext λh=>h.IsValuesView p d
theorem Sl {P:Program}{w:World}{H:Hp}{h:Heap}{p d:Addr}(q:h.IsValuesView p d):fo P w H h p (Ub p d):=by obtain⟨o,e,r⟩:=q;exact⟨⟨o,e,r⟩,⟨o,e⟩,λh1 h2 ⟨o,e,r⟩ k=>⟨o,k _ e,r⟩⟩
section
variable {X:Cx}
inductive E1 (x:V)(vs:LI)(H:Hp)(Q:VK):Prop|mk (a kvs:_) (_:x=.ref a) (_:vs=[]) (_:H a=some (.dK kvs)) (_:∀p,H p=none->Q (.ref p) (upd H p (Ub p a))):E1 x vs H Q
def SK:V->List V->Hp->VK->Prop:=λx vs H Q=>E1 x vs H Q
theorem Hy:Vu X "dict.values" SK:=by intro pins s σ H x vs v us Q I j l h;obtain⟨a,kvs,rfl,rfl,e,q⟩:=h;cases j;cases l;obtain⟨z,hd,ps,rel,g⟩:=Mt I.hok e;refine call_meetsIn F.slot_dict_values g.typeIs F.entry_dict_values (F.args_dict_values_1 _) (meets_dict_values (fU X.prog X.w) a hd) ⟨⟨_,g⟩,?_⟩;refine⟨.ref s.heap.objs.size,_,I.laid (o:=Ub s.heap.objs.size a) (t':=s.toks) (λb o q=>ai _ q) (av _) (Sl ⟨_,aQ _ rfl,rfl,rfl⟩),rfl,q _ I.fresh⟩
end
section
variable {prog:Program}{w:World}{A:Around}
def V1 (knd:KeyKind prog w jE)(h0:Heap)(S I d:Addr)(ps:List (jE×Value))(ep:Nat)(g:LJ)(h:Heap):Prop:=
 h.IsValIter I d g.length ps.length ep/\(∀b o,h0.get? b=some o->h.get? b=some o)/\g=(ps.map (·.2)).take g.length
theorem IT {knd:KeyKind prog w jE}{h0:Heap}{S I d:Addr}{ps:List (jE×Value)}{ep:Nat}(hh:A.handled=none)(dd:h0.DictAt knd d ps ep)(e1:h0.objs.size<=S)(C:S≠I)(U:h0.objs.size<=I):
  zw prog w A S I ps.length (V1 knd h0 S I d ps ep) (λj h=>(∀b o,h0.get? b=some o->h.get? b=some o)/\j=ps.map (·.2))where
 keep:=by intro j h h' st k;obtain⟨⟨o,e,r⟩,old,p⟩:=st;exact⟨⟨o,k _ _ (Ne.symm C) e,r⟩,λb o q=>k b o (bB (ba (aS q) e1)) (old b o q),p⟩
 item:=by
  intro s j Q E lt _ st k;obtain⟨it,old,p⟩:=st;have l:s.heap.DictAt knd d ps ep:=by obtain⟨o,es,g,r⟩:=dd;exact⟨o,es,old _ _ g,r⟩
  refine wpAny_pyNext_values_item (knd:=knd) (k:=(ps[j.length]'lt).1) (v:=(ps[j.length]'lt).2) it l (aq lt) λh' t J=>?_;refine k _ h' s.toks ⟨?_,λb o q=>(J.2 b (bB (ba (aS q) U))).trans (old b o q),?_⟩ λo q=>(J.2 S C).trans q;rw[ah,bY];exact t;rw[ah,bY,wl,<-p,ao,aq lt];rfl
 done:=by
  intro s j Q E lt st k;obtain⟨it,old,p⟩:=st;have l:s.heap.DictAt knd d ps ep:=by obtain⟨o,es,g,r⟩:=dd;exact⟨o,es,old _ _ g,r⟩
  refine wpAny_pyNext_values_end (knd:=knd) hh it l (aY (by lia)) λh' T=>?_;refine k h' s.toks ⟨λb o q=>T b o (bB (ba (aS q) U)) (old b o q),?_⟩ λo q=>T S o C q;rw[p,lt,<-aa (f:=(·.2)) (as:=ps),ce]
theorem IS {v d:Addr}{s:Shared}{Q:Bool->Shared->Prop}{E:LP}(j:s.heap.IsValuesView v d)(k:∀b tk,Q b {s with toks:=tk}):wpAny (model prog w) A (Builtin.List.listLengthHint (.ref v)) Q E s:=by
 unfold Builtin.List.listLengthHint;refine ae (iq j.typeIs F.slot_dict_values_len.lookup ?_);generalize MX:("dict_values.__len__":String)=g
 wp_delta
 rw[show splitId g=some ("dict_values","__len__")from by subst MX;decide+kernel];subst MX;refine ae (iM (T:="dict_values") (b:=true) j.typeIs (by rw[isSubtype_type];kernel_rfl) ?_);refine fq (λq=>absurd q (by decide)) (λ_=>?_);refine fq (λ_=>?_) (λq=>absurd (by decide+kernel) q);refine ae (om j.typeIs ?_);exact ak (k false s.toks)
end
section
variable {X:Cx}
theorem BO (hc:X.calm=true):k5 X (.type "tuple") (λxs H Q=>∃p a kvs,xs=[V.ref p]/\H p=some (Ub p a)/\H a=some (.dK kvs)/\∀t,H t=none->Q (.ref t) (upd H t (.tup (kvs.map (·.2))))):=by
 intro pins s σ H xs us Q I r h;obtain⟨p,a,kvs,rfl,ep,ea,q⟩:=h;obtain⟨u,rfl,ru⟩:=lB r;cases ru;obtain⟨z,hd,ps,rel,o,es,j,g1,g2⟩:=Mt I.hok ea;have U:s.heap.DictAt (fU X.prog X.w) a ps j:=⟨o,es,g1,g2⟩;obtain⟨J,_⟩:=(show fo X.prog X.w H s.heap p (Ub p a)from I.hok p _ ep);have hh:X.A.handled=none:=I.ok.hd hc;have zl:ps.length<=sizeLine:=by rw[<-rel.length];exact z
 refine Cb (I:=s.heap.objs.size+1) (IT (knd:=fU X.prog X.w) (A:=X.A.in1.in1.in1) (h0:=s.heap) (S:=s.heap.objs.size) (I:=s.heap.objs.size+1) hh U (av _) (bB (mX _)) (fY _)) zl J.typeIs (by decide) (by decide) ?_ ?_ ?_;intro s' Q' E' old sz k;have C:s'.heap.IsValuesView p a:=by obtain⟨o,e,r⟩:=J;exact⟨o,old _ _ e,r⟩
 have T:s'.heap.DictAt (fU X.prog X.w) a ps j:=by obtain⟨o,es,g,r⟩:=U;exact⟨o,es,old _ _ g,r⟩
 refine wpAny_pyIter_values C T ?_;rw[sz];refine k _ s'.toks ⟨⟨_,by rw[<-sz];exact aQ _ rfl,rfl,rfl⟩,λb o e=>ai _ (old b o e),rfl⟩ λo e=>ai _ e;intro s' Q' E' st k;exact IS (by obtain⟨o,e,r⟩:=J;exact⟨o,st.2.1 _ _ e,r⟩) k;intro h' tk acc e1 en lt;obtain⟨old,rfl⟩:=en;have hf:H h'.objs.size=none:=I.hok.fresh (cu lt);have rv:dc (kvs.map (·.2)) (ps.map (·.2)):=by
  have:∀{l:List (jE×V)} {m:List (jE×Value)},KV l m->dc (l.map (·.2)) (m.map (·.2)):=by intro l m q;unfold KV at q;induction q with|nil=>exact .nil|cons g t ih=>exact .cons g.2 ih
  exact this rel
 refine⟨.ref h'.objs.size,_,I.laid (o:=.tup (kvs.map (·.2))) (t':=tk) (λb o e=>ai _ (old b o e)) (cu lt) ⟨?_,_,rv,⟨_,aQ _ rfl,rfl,_,rfl⟩⟩,rfl,q _ hf⟩;rw[aa];exact z
end
abbrev Zr (h:Heap)(z:Addr)(f:Value)(g:Bool)(TI TO:Addr):Prop:=h.get? z=some {cls:=.type "zip",dict:=none,data:=.fields #[f,.bool g,.bool false,.ref TI,.ref TO],slots:=#[]}
abbrev Tr (h:Heap)(t:Addr)(a b c:Value):Prop:=h.get? t=some {cls:=.type "tuple",data:=.seq #[a,b,c]}
theorem wd (a b c:Value):checkTypeCall "zip" ⟨[a,b,c],[]⟩=pure ():=by kernel_rfl
theorem yP (a b c:Value):checkBuiltinCall "zip.__new__" ⟨[.type "zip",a,b,c],[]⟩=pure ():=by kernel_rfl
theorem Ds (a b c d:Value):argsOk "object.__init__" ⟨[a,b,c,d],[]⟩:=by
 unfold argsOk;rw[signature?_of (id:="object.__init__") (n:=['_','_','t','i','n','i','_','_']) (o:=['t','c','e','j','b','o']) (by kernel_rfl) F.owner_object]
 kernel_rfl
abbrev wa (h:Heap)(l:Addr):Heap:=h.push {cls:=.type "list_iterator",data:=.fields #[.ref l,.int 0 0]}
abbrev Us (h:Heap)(l m n:Addr):Heap:=(wa (wa (wa h l) m) n).push {cls:=.type "tuple",data:=.seq #[.ref h.objs.size,.ref (wa h l).objs.size,.ref (wa (wa h l) m).objs.size]}
abbrev Ur (h:Heap)(l m n:Addr):Heap:=(Us h l m n).push {cls:=.type "tuple",data:=.seq #[.none,.none,.none]}
abbrev Pi (h:Heap)(l m n:Addr):Heap:=(Ur h l m n).push {cls:=.type "zip",data:=.fields #[.none,.bool false,.bool false,.ref (wa (wa (wa h l) m) n).objs.size,.ref (Us h l m n).objs.size]}
theorem B4 (l m n:Addr)(xs ys zs:LV):
  Meets (Builtin.«zip.__new__» ⟨[.type "zip",.ref l,.ref m,.ref n],[]⟩) (λ_ R s=>s.heap.IsList l xs/\s.heap.IsList m ys/\s.heap.IsList n zs/\R (.ok (.ret (.ref (Ur s.heap l m n).objs.size))) {s with heap:=Pi s.heap l m n}):=
 .of_wp λprog w A R s h=>by
  obtain⟨hp,g,d,tk,os⟩:=s;obtain⟨h1,h2,t,h⟩:=h;have hsub:=sub_zip;have k1:Heap.IsList (Shared.heap ⟨hp,g,d,tk,os⟩) l xs:=h1;have p:Heap.IsList (Shared.heap ⟨hp.push {cls:=.type "list_iterator",data:=.fields #[.ref l,.int 0 0]},g,d,tk,os⟩) m ys:=Heap.IsList.push h2 _;have j:Heap.IsList (Shared.heap ⟨(hp.push {cls:=.type "list_iterator",data:=.fields #[.ref l,.int 0 0]}).push {cls:=.type "list_iterator",data:=.fields #[.ref m,.int 0 0]},g,d,tk,os⟩) n zs:=Heap.IsList.push (Heap.IsList.push t _) _
  wp_walk using jj k1,jj p,jj j
  exact⟨_,rfl,h⟩
structure ZS (h:Heap)(b:Nat)(l m n:Addr)(i:Nat)(f:Value)(g:Bool):Prop where
 z:Zr h (b+5) f g (b+3) (b+4)
 ti:Tr h (b+3) (.ref b) (.ref (b+1)) (.ref (b+2))
 to:∃x y v,Tr h (b+4) x y v
 i1:h.IsListIter b l i
 i2:h.IsListIter (b+1) m i
 i3:h.IsListIter (b+2) n i
section
variable {prog:Program}{w:World}{A:Around}{E:LP}{s:Shared}
theorem IO {l m n:Addr}{xs ys zs:LV}{Q:LP}(h1:s.heap.IsList l xs)(h2:s.heap.IsList m ys)(U:s.heap.IsList n zs)(h:∀h',ZS h' s.heap.objs.size l m n 0 .none false->h'.objs.size=s.heap.objs.size+6->(∀c o,s.heap.get? c=some o->h'.get? c=some o)->Q (.ref (s.heap.objs.size+5)) {s with heap:=h'}):
  wpAny (model prog w) A (call (.type "zip") [.ref l,.ref m,.ref n]) Q E s:=by
 refine callType_new F.called_zip (by decide) (wd _ _ _) (yP _ _ _) (λobj=>Ds obj _ _ _) F.entry_zip_new (B4 l m n xs ys zs) ⟨h1,h2,U,?_⟩;have I:(wa s.heap l).objs.size=s.heap.objs.size+1:=dj ..;have C:(wa (wa s.heap l) m).objs.size=s.heap.objs.size+2:=by rw[dj,I]
 have t:(wa (wa (wa s.heap l) m) n).objs.size=s.heap.objs.size+3:=by rw[dj,C]
 have p:(Us s.heap l m n).objs.size=s.heap.objs.size+4:=by rw[dj,t]
 have j:(Ur s.heap l m n).objs.size=s.heap.objs.size+5:=by rw[dj,p]
 have e6:(Pi s.heap l m n).objs.size=s.heap.objs.size+6:=by rw[dj,j]
 have g:(Pi s.heap l m n).get? (Ur s.heap l m n).objs.size=some _:=aQ _ rfl;have J:(Pi s.heap l m n).get? (Us s.heap l m n).objs.size=some _:=ai _ (aQ _ rfl);have T:(Pi s.heap l m n).get? (wa (wa (wa s.heap l) m) n).objs.size=some _:=ai _ (ai _ (aQ _ rfl));have g3:(Pi s.heap l m n).get? (wa (wa s.heap l) m).objs.size=some _:=ai _ (ai _ (ai _ (aQ _ rfl)));have g2:(Pi s.heap l m n).get? (wa s.heap l).objs.size=some _:=ai _ (ai _ (ai _ (ai _ (aQ _ rfl))));have g1:(Pi s.heap l m n).get? s.heap.objs.size=some _:=ai _ (ai _ (ai _ (ai _ (ai _ (aQ _ rfl)))));show _/\_;rw[t,p,j]at g;rw[p]at J;rw[I,C,t]at T;rw[C]at g3;rw[I]at g2;rw[j];exact⟨⟨_,g,rfl⟩,h _ ⟨g,T,⟨_,_,_,J⟩,⟨_,g1,rfl,rfl⟩,⟨_,g2,rfl,rfl⟩,⟨_,g3,rfl,rfl⟩⟩ e6 λc o q=>
  ai _ (ai _ (ai _ (ai _ (ai _ (ai _ q)))))⟩
theorem RU {a:Addr}{o:Obj}{Q:Option Obj->Shared->Prop}(e:s.heap.get? a=some o)(h:Q (some o) s):wpAny (model prog w) A (loadIfAlive a) Q E s:=by intro j p g;unfold loadIfAlive;rw[Sem.wp_loadIfAlive,e];exact h
theorem xI {z j TI TO:Addr}{g:Bool}{t:Obj}{Q:Bool->Shared->Prop}(hz:Zr s.heap z (rawInt j) g TI TO)(C:s.heap.get? j=some t)(h:∀h',Zr h' z (rawInt j) true TI TO->(∀c o,c≠z->s.heap.get? c=some o->h'.get? c=some o)->h'.objs.size=s.heap.objs.size->Q false {s with heap:=h'}):
  wpAny (model prog w) A (Builtin.SmallTypes.ownedTupleIsFree (.ref z)) Q E s:=by unfold Builtin.SmallTypes.ownedTupleIsFree;refine ae (fC hz rfl (x:=rawInt j) rfl ?_);show wpAny _ _ (loadIfAlive ((j:Int).toNat)>>=_) _ _ _;rw[bg];refine ae (RU C ?_);simp only[Option.isNone_some,ck,gy];refine ae (fC hz rfl (x:=.bool g) rfl ?_);cases g with|true=>simp only[bne_self_eq_false,ck,gy];exact ak (h _ hz (λ_ _ _ q=>q) rfl)|false=>rw[if_pos (by decide)];refine ae (iS hz (by simp) λh1 l p=>ak ?_);exact h h1 l (λc o q e=>(p.2 c q).trans e) p.1
theorem F7 {b l m n T:Addr}{i:Nat}{g:Bool}{ot:Obj}{xs ys zs:LV}{x y v:Value}{Q:Option Value->Shared->Prop}(hz:ZS s.heap b l m n i (rawInt T) g)(ht:s.heap.get? T=some ot)(bl:l<b)(bm:m<b)(bn:n<b)(h1:s.heap.IsList l xs)(h2:s.heap.IsList m ys)(h3:s.heap.IsList n zs)(hx:xs[i]?=some x)(hy:ys[i]?=some y)(hv:zs[i]?=some v)(hQ:∀h',ZS h' b l m n (i+1) (rawInt T) true->Tr h' s.heap.objs.size x y v->(∀c o,(c<b\/b+6<=c)->s.heap.get? c=some o->h'.get? c=some o)->Q (some (.ref s.heap.objs.size)) {s with heap:=h'}):
  wpAny (model prog w) A (pyNext (.ref (b+5))) Q E s:=by
 obtain⟨z,ti,⟨q1,q2,q3,to⟩,i1,i2,i3⟩:=hz;have hT:s.TypeIs (.ref (b+5)) "zip":=⟨_,z,rfl⟩;unfold pyNext;refine ae (qD (fD (name:=Str.ofString "__next__") hT F.slot_zip_next (df F.slot_zip_next hT F.entry_zip_next ?_ (F.args_zip_next_1 _))));show wpAny _ _ (field (.ref (b+5)) 2>>=_) _ _ _;refine ae (fC z rfl (x:=.bool false) rfl ?_);show wpAny _ _ (field (.ref (b+5)) 3>>=_) _ _ _;refine ae (fC z rfl (x:=.ref (b+3)) rfl ?_);refine ae (fi ti rfl ?_);show wpAny _ _ (Builtin.SmallTypes.ownedTupleIsFree (.ref (b+5))>>=_) _ _ _;refine ae (xI z ht λh0 z0 k0 e0=>?_);simp only[ck,gy];rw[<-kE];show wpAny _ _ (forIn [Value.ref b,Value.ref (b+1),Value.ref (b+2)] _ _>>=_) _ _ _;refine ae ?_;simp only[dz,jD];refine ae (ae (dE ?_));show wpAny _ _ (Builtin.SmallTypes.nextOf (.ref b)>>=_) _ _ _;have ne:∀{x y:Nat},x≠y->(b+x:Nat)≠b+y:=λq e=>q (j5 e);have lo:∀{c:Nat} (k:Nat),c<b->c≠b+k:=λk q=>bB (ba q (dA b k));refine ae (gU (i1.at λo e=>k0 _ o (ne (x:=0) (by decide)) e) (h1.at λo e=>k0 _ o (lo 5 bl) e) hx λha ia sa=>ak ?_);refine ak ?_;refine ae (ae (dE ?_));show wpAny _ _ (Builtin.SmallTypes.nextOf (.ref (b+1))>>=_) _ _ _;have ka:∀c o,c≠b+5->c≠b->s.heap.get? c=some o->ha.get? c=some o:=λc o q I e=>(sa.2 c I).trans (k0 c o q e);refine ae (gU (i2.at λo e=>ka _ o (ne (by decide)) (ne (y:=0) (by decide)) e) (h2.at λo e=>ka _ o (lo 5 bm) (bB bm) e) hy λhb ib J=>ak ?_);refine ak ?_;refine ae (ae (dE ?_));show wpAny _ _ (Builtin.SmallTypes.nextOf (.ref (b+2))>>=_) _ _ _;have kb:∀c o,c≠b+5->c≠b->c≠b+1->s.heap.get? c=some o->hb.get? c=some o:=λc o q I p e=>(J.2 c p).trans (ka c o q I e);refine ae (gU (i3.at λo e=>kb _ o (ne (by decide)) (ne (y:=0) (by decide)) (ne (by decide)) e) (h3.at λo e=>kb _ o (lo 5 bn) (bB bn) (lo 1 bn) e) hv λC ic sc=>ak ?_);refine ak (ak ?_);show wpAny _ _ (newTuple [x,y,v]>>=λt=>ret t) _ _ _;refine ae (wpAny_newTuple (ak ⟨_,rfl,ak ?_⟩));have U:∀c o,c≠b+5->c≠b->c≠b+1->c≠b+2->s.heap.get? c=some o->C.get? c=some o:=λc o q I p q4 e=>(sc.2 c q4).trans (kb c o q I p e);have sz:C.objs.size=s.heap.objs.size:=by rw[sc.1,J.1,sa.1];exact e0
 show Q (some (.ref C.objs.size)) _;have up:∀c o,C.get? c=some o->(C.push {cls:=.type "tuple",data:=.seq #[x,y,v]}).get? c=some o:=λc o e=>ai _ e;have tn:Tr (C.push {cls:=.type "tuple",data:=.seq #[x,y,v]}) C.objs.size x y v:=aQ _ rfl;rw[sz]at tn ⊢;refine hQ _ ⟨up _ _ ?_,up _ _ (U _ _ (ne (by decide)) (ne (y:=0) (by decide)) (ne (by decide)) (ne (by decide)) ti),⟨q1,q2,q3,up _ _ (U _ _ (ne (by decide)) (ne (y:=0) (by decide)) (ne (by decide)) (ne (by decide)) to)⟩,?_,?_,ic.at λo e=>up _ o e⟩ tn λc o j e=>up _ _ (U _ _ ?_ ?_ ?_ ?_ e);exact(sc.2 _ (ne (by decide))).trans ((J.2 _ (ne (by decide))).trans ((sa.2 _ (ne (y:=0) (by decide))).trans z0));exact ia.at λo e=>up _ o ((sc.2 _ (ne (x:=0) (by decide))).trans ((J.2 _ (ne (x:=0) (by decide))).trans e));exact ib.at λo e=>up _ o ((sc.2 _ (ne (by decide))).trans e)
 all_goals
  rcases j with j|j;first|exact lo 5 j|exact bB j|exact lo 1 j|exact lo 2 j
  first
   |exact dR (ba (j4 (by decide) b) j)
   |exact dR (ba (Nat.lt_add_of_pos_right (by decide)) j)
theorem CK {t:Addr}{a b c x:Value}{k:Nat}{Q:Unit->Shared->Prop}(g:Tr s.heap t a b c)(h:∀h',h'.get? t=some {cls:=.type "tuple",data:=.seq ((#[a,b,c]:LV).setIfInBounds k x)}->Heap.SameBut t s.heap h'->Q () {s with heap:=h'}):
  wpAny (model prog w) A (updateSeq t (·.setIfInBounds k x)) Q E s:=by refine ki g rfl (h _ ?_ (Heap.SameBut.update ..));rw[ik _ g rfl];simp[Obj.mapSeq]
theorem F8 {b l m n:Addr}{i:Nat}{g:Bool}{xs ys zs:LV}{x y v:Value}{Q:Option Value->Shared->Prop}(hz:ZS s.heap b l m n i .none g)(gf:g=false)(bl:l<b)(bm:m<b)(bn:n<b)(h1:s.heap.IsList l xs)(h2:s.heap.IsList m ys)(h3:s.heap.IsList n zs)(hx:xs[i]?=some x)(hy:ys[i]?=some y)(hv:zs[i]?=some v)(hQ:∀h',ZS h' b l m n (i+1) (rawInt s.heap.objs.size) false->Tr h' s.heap.objs.size x y v->(∀c o,(c<b\/b+6<=c)->s.heap.get? c=some o->h'.get? c=some o)->Q (some (.ref s.heap.objs.size)) {s with heap:=h'}):
  wpAny (model prog w) A (pyNext (.ref (b+5))) Q E s:=by
 subst gf;have ne:∀{x y:Nat},x≠y->(b+x:Nat)≠b+y:=λq e=>q (j5 e);have lo:∀{c:Nat} (k:Nat),c<b->c≠b+k:=λk q=>bB (ba q (dA b k));obtain⟨z,ti,⟨q1,q2,U,to⟩,i1,i2,i3⟩:=hz;have hT:s.TypeIs (.ref (b+5)) "zip":=⟨_,z,rfl⟩;unfold pyNext;refine ae (qD (fD (name:=Str.ofString "__next__") hT F.slot_zip_next (df F.slot_zip_next hT F.entry_zip_next ?_ (F.args_zip_next_1 _))));show wpAny _ _ (field (.ref (b+5)) 2>>=_) _ _ _;refine ae (fC z rfl (x:=.bool false) rfl ?_);show wpAny _ _ (field (.ref (b+5)) 3>>=_) _ _ _;refine ae (fC z rfl (x:=.ref (b+3)) rfl ?_);refine ae (fi ti rfl ?_);show wpAny _ _ (Builtin.SmallTypes.ownedTupleIsFree (.ref (b+5))>>=_) _ _ _;refine ae ?_;unfold Builtin.SmallTypes.ownedTupleIsFree;refine ae (fC z rfl (x:=.none) rfl (ak ?_));simp only[if_true];refine ae (mq ?_);refine ae (fC z rfl (x:=.ref (b+4)) rfl ?_);refine ae (iS z (by simp) λh0 z0 s0=>?_);replace z0:Zr h0 (b+5) .ellipsis false (b+3) (b+4):=z0;refine ae ?_;simp only[List.zipIdx_cons,List.zipIdx_nil,dz,jD];have k0:∀c o,c≠b+5->s.heap.get? c=some o->h0.get? c=some o:=λc o q e=>(s0.2 c q).trans e;refine ae (ae (zF ?_));show wpAny _ _ (Builtin.SmallTypes.nextOf (.ref b)>>=_) _ _ _;refine ae (gU (i1.at λo e=>k0 _ o (ne (x:=0) (by decide)) e) (h1.at λo e=>k0 _ o (lo 5 bl) e) hx λha ia sa=>ak ?_);have ta:Tr ha (b+4) q1 q2 U:=(sa.2 _ (ne (y:=0) (by decide))).trans (k0 _ _ (ne (by decide)) to);refine ae (fi ta rfl ?_);refine ae (CK ta λhb tb sb=>?_);replace tb:Tr hb (b+4) x q2 U:=tb;refine ae (wc (ak ?_));have kb:∀c o,c≠b+5->c≠b->c≠b+4->s.heap.get? c=some o->hb.get? c=some o:=λc o p1 p2 t e=>(sb.2 c t).trans ((sa.2 c p2).trans (k0 c o p1 e));refine ae (ae (zF ?_));show wpAny _ _ (Builtin.SmallTypes.nextOf (.ref (b+1))>>=_) _ _ _;refine ae (gU (i2.at λo e=>kb _ o (ne (by decide)) (ne (y:=0) (by decide)) (ne (by decide)) e) (h2.at λo e=>kb _ o (lo 5 bm) (bB bm) (lo 4 bm) e) hy λhc ic sc=>ak ?_);have tc:Tr hc (b+4) x q2 U:=(sc.2 _ (ne (by decide))).trans tb;refine ae (fi tc rfl ?_);refine ae (CK tc λhd td T=>?_);replace td:Tr hd (b+4) x y U:=td;refine ae (wc (ak ?_));have kd:∀c o,c≠b+5->c≠b->c≠b+4->c≠b+1->s.heap.get? c=some o->hd.get? c=some o:=λc o p1 p2 t p4 e=>(T.2 c t).trans ((sc.2 c p4).trans (kb c o p1 p2 t e));refine ae (ae (zF ?_));show wpAny _ _ (Builtin.SmallTypes.nextOf (.ref (b+2))>>=_) _ _ _;refine ae (gU (i3.at λo e=>kd _ o (ne (by decide)) (ne (y:=0) (by decide)) (ne (by decide)) (ne (by decide)) e) (h3.at λo e=>kd _ o (lo 5 bn) (bB bn) (lo 4 bn) (lo 1 bn) e) hv λhe ie I=>ak ?_);have te:Tr he (b+4) x y U:=(I.2 _ (ne (by decide))).trans td;refine ae (fi te rfl ?_);refine ae (CK te λj tf C=>?_);replace tf:Tr j (b+4) x y v:=tf;refine ae (wc (ak (ak ?_)));have kf:∀c o,c≠b+5->c≠b->c≠b+4->c≠b+1->c≠b+2->s.heap.get? c=some o->j.get? c=some o:=λc o p1 p2 t p4 p5 e=>(C.2 c t).trans ((I.2 c p5).trans (kd c o p1 p2 t p4 e));have sz:j.objs.size=s.heap.objs.size:=by rw[C.1,I.1,T.1,sc.1,sb.1,sa.1,s0.1]
 refine ae (fi tf rfl ?_);refine ae (wpAny_newTuple ?_);have zf:Zr j (b+5) .ellipsis false (b+3) (b+4):=
  (C.2 _ (ne (by decide))).trans ((I.2 _ (ne (by decide))).trans ((T.2 _ (ne (by decide))).trans ((sc.2 _ (ne (by decide))).trans ((sb.2 _ (ne (by decide))).trans ((sa.2 _ (ne (y:=0) (by decide))).trans z0)))))
 show wpAny _ _ (Builtin.SmallTypes.ownedTupleHandOut (.ref (b+5)) (.ref j.objs.size)>>=_) _ _ _;refine ae ?_;unfold Builtin.SmallTypes.ownedTupleHandOut;have J:Zr (j.push {cls:=.type "tuple",data:=.seq #[x,y,v]}) (b+5) .ellipsis false (b+3) (b+4):=ai _ zf;refine ae (iS J (by simp) λhg J sg=>?_);replace J:Zr hg (b+5) (rawInt j.objs.size) false (b+3) (b+4):=J;refine iS J (by simp) λhh zh sh=>?_;replace zh:Zr hh (b+5) (rawInt j.objs.size) false (b+3) (b+4):=zh;have lt5:b+5<j.objs.size:=aS zf;have up:∀c o,c≠b+5->j.get? c=some o->hh.get? c=some o:=λc o q e=>(sh.2 c q).trans ((sg.2 c q).trans (ai _ e));have tn:Tr hh j.objs.size x y v:=(sh.2 _ (dR lt5)).trans ((sg.2 _ (dR lt5)).trans (aQ _ rfl));refine ak ⟨_,rfl,ak ?_⟩;show Q (some (.ref j.objs.size)) _;rw[sz]at tn zh ⊢;refine hQ _ ⟨zh,up _ _ (ne (by decide)) (kf _ _ (ne (by decide)) (ne (y:=0) (by decide)) (ne (by decide)) (ne (by decide)) (ne (by decide)) ti),⟨x,y,v,up _ _ (ne (by decide)) tf⟩,?_,?_,?_⟩ tn λc o p e=>up _ _ ?_ (kf _ _ ?_ ?_ ?_ ?_ ?_ e);exact ia.at λo e=>up _ o (ne (x:=0) (by decide)) ((C.2 _ (ne (x:=0) (by decide))).trans ((I.2 _ (ne (x:=0) (by decide))).trans ((T.2 _ (ne (x:=0) (by decide))).trans ((sc.2 _ (ne (x:=0) (by decide))).trans ((sb.2 _ (ne (x:=0) (by decide))).trans e)))));exact ic.at λo e=>up _ o (ne (by decide)) ((C.2 _ (ne (by decide))).trans ((I.2 _ (ne (by decide))).trans ((T.2 _ (ne (by decide))).trans e)));exact ie.at λo e=>up _ o (ne (by decide)) ((C.2 _ (ne (by decide))).trans e)
 all_goals
  rcases p with p|p;first|exact lo 5 p|exact bB p|exact lo 1 p|exact lo 2 p|exact lo 4 p
  first
   |exact dR (ba (j4 (by decide) b) p)
   |exact dR (ba (Nat.lt_add_of_pos_right (by decide)) p)
theorem IP {b l m n:Addr}{i:Nat}{f:Value}{g:Bool}{xs:LV}{Q:Option Value->Shared->Prop}(hh:A.handled=none)(hz:ZS s.heap b l m n i f g)(hf:(f=.none/\g=false)\/ ∃(J:Addr) (ot:Obj),f=rawInt J/\s.heap.get? J=some ot)(bl:l<b)(h1:s.heap.IsList l xs)(hx:xs[i]?=none)(hQ:∀h',(∀c o,(c<b\/b+6<=c)->s.heap.get? c=some o->h'.get? c=some o)->Q none {s with heap:=h'}):
  wpAny (model prog w) A (pyNext (.ref (b+5))) Q E s:=by
 have ne:∀{x y:Nat},x≠y->(b+x:Nat)≠b+y:=λq e=>q (j5 e);have lo:∀{c:Nat} (k:Nat),c<b->c≠b+k:=λk q=>bB (ba q (dA b k));have j:∀{c:Nat} (k:Nat),k<6->c<b\/b+6<=c->c≠b+k:=λk hk q=>q.elim (lo k) λq=>dR (ba (j4 hk b) q);obtain⟨z,ti,⟨q1,q2,q3,to⟩,i1,i2,i3⟩:=hz;have hT:s.TypeIs (.ref (b+5)) "zip":=⟨_,z,rfl⟩;unfold pyNext;refine ae (qD (fD (name:=Str.ofString "__next__") hT F.slot_zip_next (df F.slot_zip_next hT F.entry_zip_next ?_ (F.args_zip_next_1 _))));have fin:∀{h':Heap} {e:Addr},(∃o,h'.get? e=some o/\o.cls=.type "StopIteration")->(∀c o,(c<b\/b+6<=c)->s.heap.get? c=some o->h'.get? c=some o)->
   wpAny (model prog w) A (do if<-isInstance (.ref e) (.type "StopIteration")then pure none else throw (.ref e)) Q E {s with heap:=h'}:=by intro h' e ⟨o,C,hc⟩ hk;refine ae (iM (T:="StopIteration") (b:=true) ⟨o,C,hc⟩ isSubtype_stop ?_);exact ak (hQ _ hk)
 show wpAny _ _ (field (.ref (b+5)) 2>>=_) _ _ _;refine ae (fC z rfl (x:=.bool false) rfl ?_);show wpAny _ _ (field (.ref (b+5)) 3>>=_) _ _ _;refine ae (fC z rfl (x:=.ref (b+3)) rfl ?_);refine ae (fi ti rfl ?_);show wpAny _ _ (Builtin.SmallTypes.ownedTupleIsFree (.ref (b+5))>>=_) _ _ _;rcases hf with⟨rfl,rfl⟩|⟨J,ot,rfl,ht⟩;refine ae ?_;unfold Builtin.SmallTypes.ownedTupleIsFree;refine ae (fC z rfl (x:=.none) rfl (ak ?_));simp only[if_true];refine ae (mq ?_);refine ae (fC z rfl (x:=.ref (b+4)) rfl ?_);refine ae (iS z (by simp) λh0 I U=>?_);replace I:Zr h0 (b+5) .ellipsis false (b+3) (b+4):=I;refine ae ?_;simp only[List.zipIdx_cons,List.zipIdx_nil,dz,jD];refine ae (ae (zF ?_));show wpAny _ _ (Builtin.SmallTypes.nextOf (.ref b)>>=_) _ _ _;refine ae (wpAny_nextOf_list_end hh (i1.at λo e=>(U.2 _ (ne (x:=0) (by decide))).trans e) (h1.at λo e=>(U.2 _ (lo 5 bl)).trans e) hx λha e sa C=>?_);obtain⟨oe,p,t⟩:=C;have za:Zr ha (b+5) .ellipsis false (b+3) (b+4):=sa _ _ (ne (y:=0) (by decide)) I;have nez:e≠b+5:=λq=>by subst q;rw[za]at p;cases p;simp at t
 refine iS za (by simp) λhb zb sb=>?_;exact fin ⟨oe,(sb.2 _ nez).trans p,t⟩ λc o q e=>(sb.2 _ (j 5 (by decide) q)).trans (sa _ _ (j 0 (by decide) q) ((U.2 _ (j 5 (by decide) q)).trans e));refine ae (xI z ht λh0 I k0 e0=>?_);simp only[ck,gy];rw[<-kE];show wpAny _ _ (forIn [Value.ref b,Value.ref (b+1),Value.ref (b+2)] _ _>>=_) _ _ _;refine ae ?_;simp only[dz,jD];refine ae (ae (dE ?_));show wpAny _ _ (Builtin.SmallTypes.nextOf (.ref b)>>=_) _ _ _;refine ae (wpAny_nextOf_list_end hh (i1.at λo e=>k0 _ o (ne (x:=0) (by decide)) e) (h1.at λo e=>k0 _ o (lo 5 bl) e) hx λha e sa C=>?_);exact fin C λc o q e=>sa _ _ (j 0 (by decide) q) (k0 _ _ (j 5 (by decide) q) e)
theorem B3:typeLookup (.type "zip") "__len__"=pure none:=by rw[typeLookup_type,builtinLookup_eq_fast];kernel_rfl
theorem zL:typeLookup (.type "zip") "__length_hint__"=pure none:=by rw[typeLookup_type,builtinLookup_eq_fast];kernel_rfl
theorem F6 {z:Addr}{Q:Bool->Shared->Prop}(ty:s.TypeIs (.ref z) "zip")(k:∀b tk,Q b {s with toks:=tk}):wpAny (model prog w) A (Builtin.List.listLengthHint (.ref z)) Q E s:=by unfold Builtin.List.listLengthHint;refine ae (iq ty B3 ?_);show wpAny _ _ (specialOf (Value.ref z) (Str.ofString "__length_hint__")>>=_) _ _ _;refine ae (iq ty zL ?_);exact ak (k true s.toks)
theorem F5 {z TI TO:Addr}{f:Value}{g:Bool}{Q:LP}(hz:Zr s.heap z f g TI TO)(h:Q (.ref z) s):wpAny (model prog w) A (pyIter (.ref z)) Q E s:=by have ty:s.TypeIs (.ref z) "zip":=⟨_,hz,rfl⟩;refine B6 ty F.slot_zip_iter (df F.slot_zip_iter ty F.entry_zip_iter ?_ (F.args_zip_iter_1 _));show wpAny _ _ (ret (.ref z)) _ _ s;exact ak ⟨_,rfl,"zip",_,ty,F.slot_zip_next.lookup,h⟩
end
def BY (b:Nat)(xs ys zs:LV)(g:LK)(h:Heap):Prop:=
 g.Nodup/\∀(j:Nat) (t:Addr),g[j]?=some t->b+7<=t/\∃x y v,xs[j]?=some x/\ys[j]?=some y/\zs[j]?=some v/\Tr h t x y v
def TZ (h0:Heap)(b:Nat)(l m n:Addr)(xs ys zs:LV)(p:LJ)(h:Heap):Prop:=
 ∃f g j,p=j.map Value.ref/\ZS h b l m n j.length f g/\((f=.none/\g=false)\/ ∃t:Addr,f=rawInt t/\t∈j)/\(∀c o,h0.get? c=some o->h.get? c=some o)/\BY b xs ys zs j h
def Ua (h0:Heap)(b:Nat)(xs ys zs:LV)(g:LJ)(h:Heap):Prop:=
 ∃j,g=j.map Value.ref/\(∀c o,h0.get? c=some o->h.get? c=some o)/\BY b xs ys zs j h
theorem BY.stay {b:Nat}{xs ys zs:LV}{l:LK}{h h':Heap}(q:BY b xs ys zs l h)(k:∀c o,b+7<=c->h.get? c=some o->h'.get? c=some o):BY b xs ys zs l h':=
 ⟨q.1,λj t e=>by obtain⟨g,x,y,v,p2,I,C,p⟩:=q.2 j t e;exact⟨g,x,y,v,p2,I,C,k _ _ g p⟩⟩
section
variable {prog:Program}{w:World}{A:Around}
theorem F9 {h0:Heap}{l m n:Addr}{xs ys zs:LV}(hh:A.handled=none)(h1:h0.IsList l xs)(h2:h0.IsList m ys)(h3:h0.IsList n zs)(e1:ys.size=xs.size)(e2:zs.size=xs.size):
  zw prog w A (h0.objs.size+6) (h0.objs.size+5) xs.size (TZ h0 h0.objs.size l m n xs ys zs) (Ua h0 h0.objs.size xs ys zs):=by
 have bl:l<h0.objs.size:=by obtain⟨_,e,_⟩:=h1;exact aS e
 have bm:m<h0.objs.size:=by obtain⟨_,e,_⟩:=h2;exact aS e
 have bn:n<h0.objs.size:=by obtain⟨_,e,_⟩:=h3;exact aS e
 generalize hb:h0.objs.size=b at bl bm bn ⊢;have old6:∀{c:Nat} {o:Obj},h0.get? c=some o->c<b:=λe=>hb ▸ aS e;have I:∀{k:Nat},k<6->(b+k:Nat)≠b+6:=λq e=>bB q (j5 e);have lo6:∀{c:Nat},c<b->c≠b+6:=λq=>bB (ba q (dA b 6));have hi6:∀{c:Nat},b+7<=c->c≠b+6:=λq=>dR (ba (j4 (by decide) b) q);refine⟨?_,?_,?_⟩;rintro U h h' ⟨f,g,C,ea,⟨z,ti,⟨q1,q2,q3,to⟩,i1,i2,i3⟩,hf,old,hd⟩ k;refine⟨f,g,C,ea,⟨k _ _ (I (by decide)) z,k _ _ (I (by decide)) ti,⟨q1,q2,q3,k _ _ (I (by decide)) to⟩,i1.at λo e=>k _ o (I (k:=0) (by decide)) e,i2.at λo e=>k _ o (I (by decide)) e,i3.at λo e=>k _ o (I (by decide)) e⟩,hf,λc o e=>k c o (lo6 (old6 e)) (old c o e),hd.stay λc o q e=>k c o (hi6 q) e⟩
 ·rintro s U Q E lt ⟨oS,eS⟩ ⟨f,g,C,ea,hz,hf,old,hd⟩ k
  have el:U.length=C.length:=by rw[ea,aa]
  rw[el]at lt;have x1:xs[C.length]?=some (xs[C.length]'lt):=cS lt;have y1:ys[C.length]?=some (ys[C.length]'(by lia)):=cS (by lia);have v1:zs[C.length]?=some (zs[C.length]'(by lia)):=cS (by lia);have k1:s.heap.IsList l xs:=h1.at λo e=>old _ o e;have k2:s.heap.IsList m ys:=h2.at λo e=>old _ o e;have k3:s.heap.IsList n zs:=h3.at λo e=>old _ o e;have lS:b+6<s.heap.objs.size:=aS eS;have tnew:∀t∈C,t<s.heap.objs.size:=λt ht=>by obtain⟨j,hj⟩:=aU.mp ht;obtain⟨_,_,_,_,_,_,_,q⟩:=hd.2 j t hj;exact aS q
  have next:∀{h':Heap} {f':Value} {g':Bool} (tk:Nat),ZS h' b l m n (C.length+1) f' g'->(∃t0:Addr,f'=rawInt t0/\t0∈C++[s.heap.objs.size])->Tr h' s.heap.objs.size (xs[C.length]'lt) (ys[C.length]'(by lia)) (zs[C.length]'(by lia))->
    (∀c o,(c<b\/b+6<=c)->s.heap.get? c=some o->h'.get? c=some o)->Q (some (.ref s.heap.objs.size)) {s with heap:=h',toks:=tk}:=by
   intro h' f' g' tk z' f1 tn J;refine k _ h' tk ⟨f',g',C++[s.heap.objs.size],by rw[ea,a0];rfl,by rw[ah,bY];exact z',.inr f1,λc o e=>J c o (.inl (old6 e)) (old c o e),?_,?_⟩ λo e=>J _ o (.inr (av _)) e;rw[jm];refine⟨hd.1,by simp,λp hp q hq e=>?_⟩;rw[aX]at hq;exact dP _ (hq ▸ e ▸ tnew p hp);intro j t e;rcases tP j C.length with lj|lj;rw[aN lj]at e;obtain⟨p1,x,y,v,p2,p3,p4,p5⟩:=hd.2 j t e;exact⟨p1,x,y,v,p2,p3,p4,J _ _ (.inr (Nat.le_of_succ_le p1)) p5⟩;rw[aE lj]at e;rcases tP j (C.length+1)with lj'|lj';obtain rfl:j=C.length:=by lia
   rw[iW]at e;cases e;exact⟨lS,_,_,_,x1,y1,v1,tn⟩;rw[aY (by rw[bY];lia)]at e;cases e
  rcases hf with⟨rfl,rfl⟩|⟨t0,rfl,T⟩
  ·exact F8 hz rfl bl bm bn k1 k2 k3 x1 y1 v1 λh' z' tn J=>next s.toks z' ⟨_,rfl,by simp⟩ tn J
  ·obtain⟨j,hj⟩:=aU.mp T
   obtain⟨_,_,_,_,_,_,_,q⟩:=hd.2 j t0 hj;exact F7 hz q bl bm bn k1 k2 k3 x1 y1 v1 λh' z' tn J=>next s.toks z' ⟨t0,rfl,cB _ T⟩ tn J
 rintro s U Q E lt ⟨f,g,C,ea,hz,hf,old,hd⟩ k;have el:U.length=C.length:=by rw[ea,aa]
 rw[el]at lt;refine IP hh hz ?_ bl (h1.at λo e=>old _ o e) (lA (by lia)) λh' J=>?_;rcases hf with q|⟨t0,q,T⟩;exact .inl q;obtain⟨j,hj⟩:=aU.mp T;obtain⟨_,_,_,_,_,_,_,q'⟩:=hd.2 j t0 hj;exact .inr ⟨t0,_,q,q'⟩;exact k h' s.toks ⟨C,ea,λc o e=>J c o (.inl (old6 e)) (old c o e),hd.stay λc o q e=>J c o (.inr (Nat.le_of_succ_le q)) e⟩ λo e=>J _ o (.inr (av _)) e
end
section
variable {X:Cx}{pins:LD}{σ:St}{H H':Hp}{s:Shared}{h':Heap}
theorem Inv.many {t':Nat}(I:Inv X pins σ H s)(old:∀b u,s.heap.get? b=some u->h'.get? b=some u)(j:∀b,b<s.heap.objs.size->H' b=H b)(new:∀b o,s.heap.objs.size<=b->H' b=some o->fo X.prog X.w H' h' b o):Inv X pins σ H' {s with heap:=h',toks:=t'}:=by have g:∀b o,H b=some o->H' b=some o:=λb o e=>(j b (I.hok.lt e)).trans e;refine I.un ⟨λb u q _ _ _=>old b u q,λb u q _ _ _=>⟨u.slots,old b u q⟩,λb u q e _=>(j b (aS q)).trans e,λb u q _=>⟨u,old b u q⟩,λb xs q=>g b _ q,λb u v q=>g b _ q,λb ps q=>⟨#[],by rw[g b _ q];simp⟩⟩ ?_;intro b o e;rcases tP b s.heap.objs.size with lt|ge;rw[j b lt]at e;exact(I.hok b o e).stay (λc v _ q=>old c v q) (λc q=>g c _ q) λc xs q=>g c _ q;exact new b o ge e
end
structure Ud (H H':Hp)(S:Addr)(Ts:LK)(rows:LB):Prop where
 s:H' S=some (.lst (Ts.map V.ref))
 len:Ts.length=rows.length
 row:∀(j:Nat) (t:Addr) (r:LI),Ts[j]?=some t->rows[j]?=some r->H' t=some (.tup r)
 oth:∀b,b≠S->b∉Ts->H' b=H b
 newS:H S=none
 newT:∀t∈Ts,H t=none
 nd:(S::Ts).Nodup
def tj:List V->List V->List V->LB
 |x::xs,y::ys,z::zs=>[x,y,z]::tj xs ys zs
 |_,_,_=>[]
theorem rY:∀(xs ys zs:LI),ys.length=xs.length->zs.length=xs.length->(tj xs ys zs).length=xs.length
 |[],_,_,_,_=>rfl
 |_::_,[],_,h,_=>by simp at h
 |_::_,_::_,[],_,h=>by simp at h
 |_::xs,_::ys,_::zs,h,h'=>by simp only[aH,Nat.add_right_cancel_iff]at h h';simp only[tj,aH,rY xs ys zs h h']
theorem rZ:∀(xs ys zs:LI) (j:Nat) (x y z:V),xs[j]?=some x->ys[j]?=some y->zs[j]?=some z->(tj xs ys zs)[j]?=some [x,y,z]
 |x::xs,y::ys,z::zs,0,_,_,_,h1,h2,g=>by cases h1;cases h2;cases g;rfl
 |x::xs,y::ys,z::zs,j+1,_,_,_,h1,h2,g=>by simpa[tj]using rZ xs ys zs j _ _ _ (by simpa using h1) (by simpa using h2) (by simpa using g)
 |[],_,_,_,_,_,_,h,_,_=>by simp at h
 |_::_,[],_,_,_,_,_,_,h,_=>by simp at h
 |_::_,_::_,[],_,_,_,_,_,_,h=>by simp at h
open Classical in
noncomputable def zH (H:Hp)(S:Addr)(g:LK)(rows:LB):Hp:=λb=>
 if b=S then some (.lst (g.map V.ref))else if h:∃(j:Nat) (r:LI),g[j]?=some b/\rows[j]?=some r then some (.tup h.choose_spec.choose)else H b
theorem IQ {H:Hp}{S:Addr}{l:LK}{rows:LB}(nd:(S::l).Nodup){j:Nat}{t:Addr}{r:LI}(e:l[j]?=some t)(I:rows[j]?=some r):zH H S l rows t=some (.tup r):=by
 have g:=cA.mp nd;have J:t≠S:=λq=>g.1 (q ▸ af e);have hex:∃(j:Nat) (r:LI),l[j]?=some t/\rows[j]?=some r:=⟨j,r,e,I⟩;unfold zH;rw[if_neg J,dif_pos hex];obtain⟨C,p2⟩:=hex.choose_spec.choose_spec;have:hex.choose=j:=(DJ (aZ.mp C).1 g.2).mp (C.trans e.symm);have p:rows[hex.choose]?=some r:=by rw[this];exact I
 exact congrArg (λz=>some (HO.tup z)) (bK (p2.symm.trans p))
theorem B5 {H:Hp}{S:Addr}{g:LK}{rows:LB}{b:Addr}(h1:b≠S)(h2:b∉g):zH H S g rows b=H b:=by unfold zH;rw[if_neg h1,dif_neg];rintro⟨j,r,e,_⟩;exact h2 (af e)
theorem Sk {H:Hp}{S:Addr}{g:LK}{rows:LB}:zH H S g rows S=some (.lst (g.map V.ref)):=by unfold zH;rw[if_pos rfl]
section
variable {X:Cx}
inductive Pl (K:LO)(Q:VK)(vs:LI)(H1:Hp):Prop|mk (a b c xs ys zs:_) (_:vs=[.ref a,.ref b,.ref c]) (_:bW K H1 a xs) (_:bW K H1 b ys) (_:bW K H1 c zs) (_:ys.length=xs.length) (_:zs.length=xs.length) (_:∀S g H',Ud H1 H' S g (tj xs ys zs)->Q (.ref S) H'):Pl K Q vs H1
def VU (K:LO)(ta:TA):TE:=λσ H Q=>ta σ H λvs H1=>Pl K Q vs H1
theorem MB:bootBuiltins "list"=some (.type "list"):=by decide+kernel
theorem AM {a b c:Expr}{ta:TA}{p p' pos pos':Pos}(hc:X.calm=true)(hg:Gl X "zip")(hm:X.mg "zip"=none)(hg':Gl X "list")(hm':X.mg "list"=none)(ha:PA X [a,b,c] ta)(hs:starEach [a,b,c] X.env=(false,eval a X.env)::starEach [b,c] X.env:=by rfl)(hpl:(backTo pos (starEach [b,c] X.env)).any (·.1)=false:=by rfl)(hs2:starEach [Expr.Call (.Name "zip" p) [a,b,c] [] pos] X.env=[(false,eval (.Call (.Name "zip" p) [a,b,c] [] pos) X.env)]:=by rfl):
  PE X (.Call (.Name "list" p') [.Call (.Name "zip" p) [a,b,c] [] pos] [] pos') (VU X.K ta):=by with_unfolding_all
 intro pins s σ H Q I h;refine fw (ke I hg' hm' MB ?_);refine du ?_ hs2 rfl;rw[hs2];show wpAny _ _ (spliced ((false,eval (.Call (.Name "zip" p) [a,b,c] [] pos) X.env)::backTo pos' [])) _ _ _;refine Calls.spliced_cons ?_;refine fw (ke I hg hm BU (du (gm (ha pos pins s σ H _ I h) λus g ⟨vs,H1,T,r1,q1⟩=>?_) hs hpl));obtain⟨l,m,n,xs,ys,zs,rfl,hx,hy,hz,e1,e2,q⟩:=q1;cases r1 with
 |cons ru r1=>
 cases r1 with
 |cons rv r1=>
 cases r1 with
 |cons rw' r1=>
 cases r1;cases ru;cases rv;cases rw';obtain⟨ix,rx,px,zx⟩:=T.list hx;obtain⟨iy,ry,py,zy⟩:=T.list hy;obtain⟨iz,rz,pz,zz⟩:=T.list hz;refine IO px.isList py.isList pz.isList λh1 C U k1=>?_;refine Calls.spliced_nil ?_;have hh:X.A.handled=none:=T.ok.hd hc;have lx:ix.toArray.size=xs.length:=by rw[aO,rx.length]
 have ly:iy.toArray.size=ix.toArray.size:=by rw[lx,aO,<-ry.length,e1]
 have lz:iz.toArray.size=ix.toArray.size:=by rw[lx,aO,<-rz.length,e2]
 have W:=F9 (prog:=X.prog) (w:=X.w) (A:=X.A.in1.in1) (h0:=g.heap) hh px.isList py.isList pz.isList ly lz;have ty:Shared.TypeIs {g with heap:=h1} (.ref (g.heap.objs.size+5)) "zip":=⟨_,C.z,rfl⟩;have W':zw X.prog X.w X.A.in1.in1 (Shared.heap {g with heap:=h1}).objs.size (g.heap.objs.size+5) ix.toArray.size (TZ g.heap g.heap.objs.size l m n ix.toArray iy.toArray iz.toArray) (Ua g.heap g.heap.objs.size ix.toArray iy.toArray iz.toArray):=by show zw _ _ _ h1.objs.size _ _ _ _;rw[U];exact W
 refine HJ W' (by rw[lx];exact zx) ty (by decide) (by decide) ?_ ?_ ?_;intro s' Q' E' old sz k;refine F5 (old _ _ C.z) (k s'.heap s'.toks ⟨.none,false,[],rfl,⟨old _ _ C.z,old _ _ C.ti,let⟨u1,u2,u3,e⟩:=C.to;⟨u1,u2,u3,old _ _ e⟩,C.i1.at λo e=>old _ o e,C.i2.at λo e=>old _ o e,C.i3.at λo e=>old _ o e⟩,.inl ⟨rfl,rfl⟩,λc o e=>old _ _ (k1 c o e),fM,λj t e=>by simp at e⟩ λo e=>e);intro s' Q' E' st k;obtain⟨_,_,_,_,z,_⟩:=st;exact F6 ⟨_,z.z,rfl⟩ k;intro h' tk acc c' ea en eS;obtain⟨J,rfl,old,nd,hd⟩:=en;show EP X pins σ Q (.ref h1.objs.size) _;replace eS:h'.get? (g.heap.objs.size+6)=some (HH (J.map Value.ref) c'):=by rw[<-U];exact eS
 rw[U];have lT:J.length=xs.length:=by rw[<-lx,<-ea,aa]
 have lR:=rY xs ys zs e1 e2;have geT:∀t∈J,g.heap.objs.size+7<=t:=λt ht=>by obtain⟨j,hj⟩:=aU.mp ht;exact(hd j t hj).1
 have ndS:((g.heap.objs.size+6)::J).Nodup:=cA.mpr ⟨λm=>dP _ (ba (j4 (by decide) _) (geT _ m)),nd⟩;have oth:∀b,b<g.heap.objs.size->zH H1 (g.heap.objs.size+6) J (tj xs ys zs) b=H1 b:=λb lt=>
  B5 (bB (ba lt (dA _ _))) λm=>dP _ (ba (ba lt (dA _ _)) (geT _ m))
 refine⟨.ref (g.heap.objs.size+6),zH H1 (g.heap.objs.size+6) J (tj xs ys zs),Inv.many (s:=g) (t':=tk) T old oth ?_,rfl,q _ J _ ⟨Sk,by rw[lT,lR],λj t r e er=>IQ ndS e er,λb n1 n2=>B5 n1 n2,T.hok.fresh (dA _ _),λt ht=>T.hok.fresh (bj (dA _ 7) (geT t ht)),ndS⟩⟩;intro b o ge eb;by_cases hbS:b=g.heap.objs.size+6;subst hbS;rw[Sk]at eb;cases eb;refine⟨by rw[aa,lT];exact zx,J.map Value.ref,c',?_,eS⟩;have:∀l:LK,dc (l.map V.ref) (l.map Value.ref):=by intro l;induction l with|nil=>exact .nil|cons t l ih=>exact .cons rfl ih
 exact this J;by_cases hbT:b∈J;obtain⟨j,hj⟩:=aU.mp hbT;obtain⟨_,u1,u2,u3,p1,p2,p3,p4⟩:=hd j b hj;have lj:j<xs.length:=by rw[<-lT];exact(aZ.mp hj).1
 have g1:xs[j]?=some (xs[j]'lj):=aq lj;have g2:ys[j]?=some (ys[j]'(by lia)):=aq (by lia);have g3:zs[j]?=some (zs[j]'(by lia)):=aq (by lia);obtain⟨w1,a1,b1⟩:=rx.get g1;obtain⟨w2,a2,b2⟩:=ry.get g2;obtain⟨w3,a3,b3⟩:=rz.get g3;rw[List.getElem?_toArray]at p1 p2 p3;rw[a1]at p1;rw[a2]at p2;rw[a3]at p3;cases p1;cases p2;cases p3;rw[IQ ndS hj (rZ xs ys zs j _ _ _ g1 g2 g3)]at eb;cases eb;refine⟨by simp[sizeLine_eq],[u1,u2,u3],.cons b1 (.cons b2 (.cons b3 .nil)),_,p4,rfl,_,rfl⟩;rw[B5 hbS hbT,T.hok.fresh ge]at eb;cases eb
end
end L2
namespace L2
open PySem PySem.Spec PyProof.Rows PySem.W
section
variable {prog:Program}{w:World}{A:Around}{E:LP}{s:Shared}
end
end L2
namespace L2
open PySem PySem.Spec PyProof.Rows PySem.W
section
variable (key:Nat->Int×Int)
def Kp (p:Array Nat)(k:Nat):Int×Int:=key (p.getD k 0)
def Gd (n:Nat)(p:Array Nat):Prop:=p.toList.Perm (List.range n)
end
end L2
namespace L2
open PySem PySem.Spec PyProof.Rows PySem.W
section
variable {prog:Program}{w:World}{A:Around}{E:LP}{s:Shared}
end
end L2
namespace L2
open PySem PySem.Spec PyProof.Rows PySem.W
section
variable {prog:Program}{w:World}{A:Around}{E:LP}{s:Shared}
end
section
variable {prog:Program}{w:World}{A:Around}
end
end L2
namespace L2
open PySem PySem.Spec PyProof.Rows PySem.W
section
variable {X:Cx}
end
end L2
namespace L2
open PySem PySem.Spec PyProof.Rows PySem.W
section
theorem sortedHeap_old {h:Heap}{a b:Addr}{vs:LJ}{out:LV}{o:Obj}(n:b≠a)(e:h.get? b=some o):(sortedHeap h a vs out).get? b=some o:=
 Heap.get?_update_of_ne _ n.symm (ai _ (ai _ (Heap.get?_update_of_ne _ n.symm e)))
theorem sortedHeap_at {h:Heap}{a:Addr}{vs:LJ}{out:LV}{n:Nat}(e:h.get? a=some (seqObj "list" vs.toArray n)):∃c,(sortedHeap h a vs out).get? a=some (seqObj "list" out c):=by have l:=get?_update_seq e (λ_=>#[]);have j:((h.update a (Obj.mapSeq λ_=>#[])).push (seqObj "tuple" vs.toArray 0)).get? a=_:=ai _ l;have g:(((h.update a (Obj.mapSeq λ_=>#[])).push (seqObj "tuple" vs.toArray 0)).push (seqObj "list" #[] 0)).get? a=_:=ai _ j;exact⟨_,get?_update_seq g λ_=>out⟩
variable {X:Cx}
theorem Mz:bootBuiltins "sorted"=some (.builtin "sorted"):=by decide+kernel
theorem L3:∀{xs:LH} {us:LJ},dc (xs.map V.int) us->∀(j:Nat) (u:Value),us[j]?=some u->∃x t,xs[j]?=some x/\u=.int x t
 |[],_,.nil,_,_,h=>by cases h
 |x::xs,_,.cons r rs,0,u,h=>by cases h;obtain⟨t,e⟩:=r;exact⟨x,t,rfl,e⟩
 |_::xs,_,.cons _ rs,j+1,u,h=>L3 rs j u (by simpa using h)
end
structure KM where
 a:Int
 b:Bool
 c:Int
 d:Int
 e:Int
 f:Int
 ws:LA
 deriving DecidableEq
section
variable {prog:Program}{w:World}{A:Around}{E:LP}{s:Shared}
end
section
variable (prog:Program)(w:World)
variable {prog w}
end
section
variable {P:Program}{w:World}{H:Hp}{h:Heap}{a:Addr}
end
def kL (l:List (KM×V×V)):List (KM×Addr×V):=l.map λx=>(x.1,Vj x.2.1,x.2.2)
section
variable {X:Cx}
inductive xw (x:V)(vs:LI)(H:Hp)(Q:VK):Prop|mk (l:Addr) (ns:LH) (k:Int) (_:x=.ref l) (_:vs=[.int k]) (_:H l=some (.lst (ns.map V.int))) (_:Q (.int ((ns.count k:Nat):Int)) H):xw x vs H Q
def Nx:V->List V->Hp->VK->Prop:=λx vs H Q=>xw x vs H Q
theorem HC:O9 X "list.count" Nx:=by intro pins s σ H x vs v us Q I g j h;obtain⟨l,ns,k,rfl,rfl,C,q⟩:=h;cases g;obtain⟨u,rfl,⟨t,rfl⟩⟩:=j.one;obtain⟨z,its,n,r,hl,e⟩:=I.lstM C;have p:IntsAre its ns:=qi r;exact count_list_ints ⟨_,e,rfl,n,rfl⟩ p ⟨.int _,H,I.tok _,⟨_,rfl⟩,q⟩
def CDivL (_ j:Int):Prop:=j≠0/\j.natAbs<2^9000
theorem op_fdivL {X:Cx}:qv X (binaryOp .FloorDiv) (rI CDivL λi j=>.int (i.fdiv j)):=
 PL λ_ _ _ _ _ _ _ g q=>floordiv_int g.1 q (.inl (PyProof.noPylong_of_log2 ((IJ (by have:=g.1;lia)).mpr g.2)))
end
section
variable {X:Cx}{pins:LD}{σ:St}{H:Hp}{s:Shared}
theorem Inv.pylong (I:Inv X pins σ H s)(C:X.base.NoSeer)(p:X.prog.given.tree=none){env:Env}{l:List Env}(g:X.stack=env::l)(hgen:env.scope.isGenerator=false)(j:env.scope.isCoroutine=false)(hb:env.builtins=builtinsNs)(t:env.globals=mainGlobals)(hd:X.A.depth+Builtin.pylongFrames<recursionLimit):PylongRoom (model X.prog X.w) X.A s:=
 PylongRoom.of I.nolimit hd (SeerAt.of (C.keeps I.bk) p (by rw[I.ok.frames,g]) hgen j hb t)
def V4 (_ j:Int):Prop:=j≠0
theorem Ky (hN:X.base.NoSeer)(T:X.prog.given.tree=none){env:Env}{l:List Env}(g:X.stack=env::l)(hgen:env.scope.isGenerator=false)(p:env.scope.isCoroutine=false)(hb:env.builtins=builtinsNs)(U:env.globals=mainGlobals)(hd:X.A.depth+Builtin.pylongFrames<recursionLimit):qv X (binaryOp .FloorDiv) (rI V4 λi j=>.int (i.fdiv j)):=by intro pins s σ H x y v u Q I J C h;obtain⟨i,j,rfl,rfl,hc,q⟩:=h;obtain⟨t,rfl⟩:=J;obtain⟨t',rfl⟩:=C;exact floordiv_int hc ⟨.int (i.fdiv j),H,I.tok _,⟨_,rfl⟩,q⟩ (.inr (I.pylong hN T g hgen p hb U hd))
end
end L2
namespace L2
open PySem PySem.Spec PySem.Calls PyProof.Rows
def Qd (mg:LQ)(base:Heap):Prop:=∃g ob,mg "__builtins__"=some (.ref g)/\g≠builtinsNs/\base.get? g=some ob/\ob.cls=.type "module"/\ob.dict=some builtinsNs/\ob.data=.plain
def DK (f:Addr)(fd:FuncData):HO:=.ext λh=>h.get? f=some {cls:=.type "function",data:=.func fd}
def DO (c:Addr)(q:Str):HO:=.ext λh=>h.CodeRec (.ref c) q
theorem LT {P:Program}{w:World}{H:Hp}{h:Heap}{f:Addr}{fd:FuncData}(e:h.get? f=some {cls:=.type "function",data:=.func fd}):fo P w H h f (DK f fd):=
 ⟨e,⟨_,e⟩,λ_ _ p k=>k _ p⟩
theorem RO {P:Program}{w:World}{H:Hp}{h:Heap}{c:Addr}{q:Str}(e:h.CodeRec (.ref c) q):fo P w H h c (DO c q):=by refine⟨e,?_,λh1 h2 p k=>?_⟩;obtain⟨C,o,vs,t,j,g,_⟩:=e;cases j;exact⟨o,g⟩;obtain⟨C,o,vs,t,j,g,l⟩:=p;cases j;exact⟨c,o,vs,t,rfl,k _ g,l⟩
def Vp (Pt:Addr)(q:Str)(ln cl:Int)(H:Hp):Prop:=
 H Pt=some (.tbl #[])\/ ∃c,H Pt=some (.tbl #[rawInt ln,rawInt cl,.ref c])/\H c=some (DO c q)
abbrev rl (q:Str)(g:Arguments)(body:Expr)(scope:Scope)(pm:Value)(c:Addr)(ct:Value):FuncData:=PySem.W.kla_fn "<lambda>" q g body scope [] pm (.ref c) ct
section
variable {X:Cx}
def UL (Pt:Addr)(q:Str)(ln cl:Int)(g:Arguments)(body:Expr)(scope:Scope):TE:=λ_ H Q=>Vp Pt q ln cl H/\
 ∀(f c:Addr) (pm ct:Value) (H':Hp),H f=none->H' f=some (DK f (rl q g body scope pm c ct))->H' c=some (DO c q)->(∀b o,b≠Pt->H b=some o->H' b=some o)->(∀x,H' x=none->H x=none)->Vp Pt q ln cl H'->Q (.ref f) H'
theorem QH {Pt cc:Addr}{q:Str}{g:Arguments}{body:Expr}{scope:Scope}{pos:Pos}(BM:Qd X.mg X.base)(hdef:defaultsOf g X.env=([],[]))(hcl:closureFor scope X.env=pure [])(hq:X.env.qual++"<lambda>"=q)(hcode:X.env.code=.ref cc)(hcc:PySem.W.codeHdIn X.K cc Pt=true):
  PE X (.Lambda g body scope pos) (UL Pt q pos.line pos.col g body scope):=by with_unfolding_all
 intro pins s σ H Q I h;obtain⟨tb,q0⟩:=h;refine PySem.W.kla_eval hdef ?_;rw[hq];have hg:s.heap.Ns mainGlobals X.mg:=I.mod.glob.keeps I.bk;have hC:=PySem.W.codeHd_of_K I.kIn hcc;obtain⟨bm,ob,m1,m2,m3,m4,m5,m6⟩:=BM;have j:=I.bk _ _ m3;have bG:bm≠mainGlobals:=λz=>by obtain⟨o,es,ep,e,hd,_⟩:=hg;rw[z,e]at j;cases j;rw[hd]at m6;cases m6
 have atP:∀{ps:LV},H Pt=some (.tbl ps)->s.heap.get? Pt=some (PySem.W.tabObj ps)/\mainGlobals≠Pt/\s.heap.BuiltinsAt X.mg Pt:=λ{ps} e=>by have e1:s.heap.get? Pt=some (PySem.W.tabObj ps):=I.hok Pt _ e;refine⟨e1,λz=>?_,bm,ob,m1,m2,bG,λz=>?_,j,m4,m5,m6⟩;obtain⟨o,es,ep,e2,hd,_⟩:=hg;rw[z,e1]at e2;cases e2;cases hd;rw[z,e1]at j;cases j;cases m4
 rcases tb with l|⟨c,l,ec⟩;obtain⟨eP,gP,bP⟩:=atP l;refine PySem.W.kla_makeFunction (mg:=X.mg) hcl I.ok.glob hg hcode hC eP (by trivial) rfl gP bP λc ct h' tk hx p hlt hrec htb=>?_;have htb':h'.get? Pt=some (PySem.W.tabObj #[rawInt pos.line,rawInt pos.col,.ref c]):=htb;have C:s.heap.objs.size<=h'.objs.size:=cu (cg p hlt);have t:Pt<s.heap.objs.size:=aS eP;have fP:h'.objs.size≠Pt:=λz=>by rw[<-z]at t;exact absurd t (pE.mpr C)
 have cP:c≠Pt:=λz=>by rw[<-z]at t;exact absurd t (pE.mpr p)
 have cf:c≠h'.objs.size:=bB hlt;have freeF:H h'.objs.size=none:=I.hok.fresh C;have freeC:H c=none:=I.hok.fresh p;generalize hf:h'.objs.size=f at*;have old:∀b,H b≠none->b≠f/\b≠c:=λb hb=>⟨λz=>hb (by rw[z];exact freeF),λz=>hb (by rw[z];exact freeC)⟩;have oldP:∀b o,H b=some o->(∀ps,o≠.tbl ps)->b≠Pt:=λb o e n z=>by rw[z,l]at e;cases e;exact n _ rfl
 let H':Hp:=upd (upd (upd H Pt (.tbl #[rawInt pos.line,rawInt pos.col,.ref c])) c (DO c q)) f (DK f (rl q g body scope ((X.mg "__name__").getD .none) c ct));have T:∀b,b≠f->b≠c->b≠Pt->H' b=H b:=λb h1 h2 h3=>by show upd (upd (upd H Pt _) c _) f _ b=_;rw[aW h1,aW h2,aW h3]
 have keepH:∀b o,H b=some o->b≠Pt->H' b=some o:=λb o e n=>by obtain⟨h1,h2⟩:=old b (by rw[e];exact nofun);rw[T b h1 h2 n];exact e
 have eF:H' f=some (DK f (rl q g body scope ((X.mg "__name__").getD .none) c ct)):=au;have eC:H' c=some (DO c q):=by show upd _ f _ c=_;rw[aW cf,au]
 have eT:H' Pt=some (.tbl #[rawInt pos.line,rawInt pos.col,.ref c]):=by show upd _ f _ Pt=_;rw[aW fP.symm,aW cP.symm,au]
 have kept:∀b o,b≠Pt->s.heap.get? b=some o->(h'.push (PySem.W.kla_obj "<lambda>" q g body scope [] ((X.mg "__name__").getD .none) c ct)).get? b=some o:=λb o n e=>ai _ (hx b o n e);have J:Inv X pins σ H' {s with heap:=h'.push (PySem.W.kla_obj "<lambda>" q g body scope [] ((X.mg "__name__").getD .none) c ct),toks:=tk}:=by refine I.un ⟨λb o e n _ _=>kept b o (λz=>by rw[z,l]at n;cases n) e,λb o e n _ _=>⟨o.slots,kept b o (λz=>by rw[z,l]at n;cases n) e⟩,λb o e n _=>?_,λb o e _=>?_,λb xs e=>keepH b _ e (oldP b _ e nofun),λb o u e=>keepH b _ e (oldP b _ e nofun),λb ps e=>?_⟩ λb u e=>?_;have lb:=aS e;rw[T b (λz=>by rw[z]at lb;exact absurd lb (pE.mpr C)) (λz=>by rw[z]at lb;exact absurd lb (pE.mpr p)) λz=>by rw[z,l]at n;cases n];exact n;by_cases z:b=Pt;subst z;exact⟨_,ai _ htb'⟩;exact⟨o,kept b o z e⟩;by_cases z:b=Pt;subst z;rw[l]at e;cases e;exact⟨_,by rw[eT,Array.empty_append]⟩;exact⟨#[],by rw[keepH b _ e z];simp⟩;by_cases zf:b=f;subst zf;rw[eF]at e;cases e;exact LT (by rw[<-hf];exact aQ _ rfl);by_cases zc:b=c;subst zc;rw[eC]at e;cases e;exact RO (hrec.keeps λb o z=>ai _ z);by_cases U:b=Pt;subst U;rw[eT]at e;cases e;exact ai _ htb';rw[T b zf zc U]at e;refine(I.hok b u e).stay (λx v hc z=>kept x v ?_ z) (λx z=>keepH x _ z (oldP x _ z nofun)) λx xs z=>keepH x _ z (oldP x _ z nofun);rcases hc with rfl|hc;exact U;exact oldP x _ hc nofun
 exact⟨.ref f,H',J,rfl,q0 f c _ ct H' freeF eF eC (λb o n e=>keepH b o e n) (λx e=>by
  by_cases U:x=Pt;rw[U,eT]at e;cases e;cases z:H x with
  |none=>rfl
  |some o=>rw[keepH x o z U]at e;cases e) (.inr ⟨c,eT,eC⟩)⟩
 obtain⟨eP,gP,bP⟩:=atP l;refine PySem.W.kla_makeFunctionHit (mg:=X.mg) (cv:=.ref c) hcl I.ok.glob hg hcode hC eP (TriplesOk_snoc _ _ _ [] trivial) ?_ bP λct h' tk hk hsz=>?_;show codeAmong pos [rawInt pos.line,rawInt pos.col,.ref c]=some (.ref c);simp[codeAmong,rawInt];have freeF:H h'.objs.size=none:=I.hok.fresh hsz;have cf:c≠h'.objs.size:=aI ec freeF;have Pf:Pt≠h'.objs.size:=aI l freeF;have J:=I.laid (a:=h'.objs.size) (o:=DK h'.objs.size (rl q g body scope ((X.mg "__name__").getD .none) c ct)) (t':=tk) (h':=h'.push (PySem.W.kla_obj "<lambda>" q g body scope [] ((X.mg "__name__").getD .none) c ct)) (λb o e=>ai _ (hk b o e)) hsz (LT (aQ _ rfl));refine⟨.ref h'.objs.size,_,J,rfl,q0 _ c _ ct _ freeF au (by rw[aW cf];exact ec) (λb o n e=>by rw[aW (aI e freeF)];exact e) (λx e=>?_) (.inr ⟨c,by rw[aW Pf];exact l,by rw[aW cf];exact ec⟩)⟩;by_cases z:x=h'.objs.size;rw[z];exact freeF;rw[aW z]at e;exact e
end
end L2
namespace L2
open PySem PySem.Spec PySem.Calls PyProof.Rows
theorem EZ:∀{as:LK} {us:LJ},dc (as.map V.ref) us->us=as.map Value.ref
 |[],_,.nil=>rfl
 |_::_,_,.cons r t=>by rw[aJ,<-EZ t,show _=_ from r]
theorem wq:∀as:LK,dc (as.map V.ref) (as.map Value.ref)
 |[]=>.nil
 |_::as=>.cons rfl (wq as)
def Nt:Value->Addr
 | .ref a=>a
 |_=>0
theorem Hh {vs:LJ}{as:LK}(h:vs.Perm (as.map Value.ref)):∃g:LK,g.Perm as/\vs=g.map Value.ref:=by
 refine⟨vs.map Nt,?_,?_⟩;have e:=h.map Nt;rw[cF]at e;have z:Nt∘Value.ref=id:=rfl;rw[z,List.map_id]at e;exact e;rw[cF];have z:∀v∈vs,(Value.ref∘Nt) v=v:=λv j=>by obtain⟨a,_,rfl⟩:=aV.mp (h.mem_iff.mp j);rfl
 rw[bU z,List.map_id']
theorem Lo {P:Program}{w:World}{H:Hp}{h:Heap}{a:Addr}{o:HO}(x:fo P w H h a o):∃u,h.get? a=some u:=by
 induction o with
 |lst xs=>obtain⟨_,_,_,_,e⟩:=x;exact⟨_,e⟩
 |tup xs=>obtain⟨_,_,_,ob,e,_⟩:=x;exact⟨_,e⟩
 |dK kvs=>obtain⟨_,_,_,_,o,_,_,e,_⟩:=x;exact⟨_,e⟩
 |dT kvs=>obtain⟨_,_,_,_,o,_,_,e,_⟩:=x;exact⟨_,e⟩
 |set S n=>obtain⟨o,_,_,_,e,_⟩:=x;exact⟨_,e⟩
 |ins C dx fs=>obtain⟨_,_,_,e,_⟩:=x;exact⟨_,e⟩
 |own y=>exact x
 |xd fs=>obtain⟨_,⟨_,_,_,e,_⟩,_⟩:=x;exact⟨_,e⟩
 |rng lo hi=>obtain⟨_,_,_,e⟩:=x;exact⟨_,e⟩
 |frz ob u j=>obtain⟨e,_⟩:=x;exact⟨_,e⟩
 |tbl ps=>exact⟨_,(show h.get? a=Option.some _ from x)⟩
 |met f y=>exact⟨_,(show h.get? a=Option.some _ from x)⟩
 |ext g=>obtain⟨_,e,_⟩:=x;exact e
section
variable {X:Cx}
structure Uj (fld par:Str)(q:Str)(params:Arguments)(body:Expr)(scope:Scope):Prop where
 bd:∃p p',body=.Attribute (.Name par p) fld p'
 bind:∀(pm ct v:Value) (c:Addr),bindArgs (rl q params body scope pm c ct) ⟨[v],[]⟩=pure [(par,v)]
 loc:scope.names.lookup par=some .local
 nocell:∀x∈scope.names,x.2≠.cell
 kind:scope.kind=.function
 co:scope.isCoroutine=false
 gen:scope.isGenerator=false
 db:(par==("__debug__":Str))=false
inductive Pk (K:LO)(fld:Str)(q:Str)(g:Arguments)(body:Expr)(scope:Scope)(Q:VK)(vs:LI)(ws:LI)(H2:Hp):Prop|mk (l f c:Addr) (pm ct:Value) (as:LK) (ds:LH) (_:vs=[.ref l]) (_:ws=[.ref f]) (_:H2 f=some (DK f (rl q g body scope pm c ct))) (_:H2 c=some (DO c q)) (_:H2 l=some (.lst (as.map V.ref))) (_:ds.length=as.length) (_:as.length<64) (_:(∀(i:Nat) (a:Addr) (d:Int),as[i]?=some a->ds[i]?=some d->∃C dx fs,H2 a=some (.ins C dx fs)/\Pe K C/\kg K C fld/\fs.lookup fld=some (.int d))) (_:∀(D:Addr) (j:LK),H2 D=none->j.Perm as->Q (.ref D) (upd H2 D (.lst (j.map V.ref)))):Pk K fld q g body scope Q vs ws H2
def VS (K:LO)(fld:Str)(q:Str)(g:Arguments)(body:Expr)(scope:Scope)(t tk:TA):TE:=λσ H Q=>t σ H λvs H1=>tk σ H1 λws H2=>Pk K fld q g body scope Q vs ws H2
theorem yK {e ek:Expr}{kp p pos:Pos}{t tk:TA}{fld par q:Str}{j:Arguments}{body:Expr}{scope:Scope}(hd:X.A.depth<recursionLimit)(LF:Uj fld par q j body scope)(hg:Gl X "sorted")(hm:X.mg "sorted"=none)(ha:PA X [e] t)(hk:PK X [⟨some "key",ek,kp⟩] tk)(he:∀pos,backTo pos (starEach [e] X.env)=(false,eval e X.env)::backTo pos (starEach [] X.env):=by intro _;rfl)(hpl:∀pos,(backTo pos (starEach [e] X.env)).any (·.1)=false:=by intro _;rfl):
  PE X (.Call (.Name "sorted" p) [e] [⟨some "key",ek,kp⟩] pos) (VS X.K fld q j body scope t tk):=by with_unfolding_all
 intro pins s0 σ H Q I0 h;refine fw (ke I0 hg hm (u:=.builtin "sorted") (by decide+kernel) ?_ (by decide) (by decide));refine callWith_kw ?_ (he pos) (hpl pos);refine gm (ha pos pins s0 σ H _ I0 h) λus s1 ⟨vs,H1,I1,r1,q1⟩=>?_;refine gm (hk pos pins s1 σ H1 _ I1 q1) λws s ⟨xs,H2,I,r2,q2⟩=>?_;obtain⟨l,f,c,pm,ct,as,ds,rfl,rfl,eF,eC,eL,hl,h64,hin,q3⟩:=q2;obtain⟨u,rfl,rx⟩:=lB r1;obtain⟨u2,rfl,rx2⟩:=lB r2;cases rx;cases rx2;obtain⟨its,rv,pl,hz⟩:=I.list (bW.of (K:=X.K) eL);have ei:=EZ rv;subst ei;obtain⟨m,F⟩:=I.fr;have N:=K3 (g:=X.base) (h:=s.heap) (L:=X.env.locals);have keepAll:∀{h':Heap} {more:LD},Fr X.base X.env.locals h' m->News X.base X.env.locals h' more->(∀z∈rC X.base s.heap X.env.locals,z∈more)->∀b o,b≠X.env.locals->s.heap.get? b=some o->h'.get? b=some o:=λ{h' more} F' N' sub b o nb eb=>by cases z:X.base.get? b with|some v=>have:=I.bk b v z;rw[eb]at this;cases this;exact F'.keep b _ z|none=>exact(N' (b,o) (sub _ (tu nb z eb))).1
 have J:∀{b:Addr} {o:HO},H2 b=some o->b≠X.env.locals:=λ{b o} e z=>by rw[z,I.free]at e;cases e
 refine ksk_sorted (b:=false) (kz:=ds) (f:=.ref f) (kw:=[(Str.ofString "key",.ref f)]) F N pl.isList (by rw[aa];exact hl) (by rw[aa];exact h64) (ksk_s1 _ _) (λx=>ksk_l1 _ _) (λx=>ksk_t1 _ _) (λi v k hv hkz h1 tk1 own F1 N1=>?_) λD h' tk1 out c1 F' N' lD ko=>?_
 
 obtain⟨a,ea,rfl⟩:∃a,as[i]?=some a/\v=.ref a:=by rw[ao]at hv;cases z:as[i]? with|none=>rw[z]at hv;cases hv|some a=>rw[z]at hv;cases hv;exact⟨a,rfl,rfl⟩
 obtain⟨C,dx,fs,eA,cl,na,lf⟩:=hin i a k ea hkz;have kp:=keepAll F1 N1 λz hz=>cB _ hz;obtain⟨⟨p1,p2,eB⟩,hbind,hloc,hcell,hkd,hco,hgen,hdb⟩:=LF;obtain⟨eF1,_,_⟩:=(show fo X.prog X.w H2 s.heap f (DK f _)from I.hok f _ eF);obtain⟨eC1,_,_⟩:=(show fo X.prog X.w H2 s.heap c (DO c q)from I.hok c _ eC);obtain⟨c2,oc,vsc,tc,z1,z2,z3,z4⟩:=eC1;cases z1;have eF2:s.heap.get? f=some {cls:=.type "function",data:=.func (rl q j body scope pm c ct)}:=eF1;have eC2:h1.CodeRec (.ref c) q:=⟨c,oc,vsc,tc,rfl,kp c oc (J eC) z2,z3,z4⟩;obtain⟨mA,O,ro,_,_,od⟩:=uk I.hok eA;obtain⟨u3,hu,ru⟩:=qk.some_of (v:=.int k) (o:=mA fld) (by rw[<-lf];exact ro fld);obtain⟨tt,rfl⟩:=ru;have O1:BX h1 a dx C mA:=⟨kp _ _ (J eA) O.obj,let⟨o,es,ep,g1,g2⟩:=O.ns;⟨o,es,ep,kp _ _ (J od) g1,g2⟩,O.ne⟩;have KX:X.K.In h1:=I.mod.kin.keeps F1.keep;refine wpAny_call (PySem.W.kla_callFunE (o:={cls:=.type "function",data:=.func (rl q j body scope pm c ct)}) (fd:=rl q j body scope pm c ct) (body:=body) hd (kp f _ (J eF) eF2) rfl hco hgen rfl eC2 ?_);rw[hbind];refine ak (wpAny_newFunctionEnv hcell (λx hx=>by cases aX.mp hx;exact hloc) (λh2 hns hsb=>⟨(I.mod.nolimit.keeps F1.keep).fresh _ hsb,?_⟩) hkd);have T:∀b o,h1.get? b=some o->h2.get? b=some o:=λb o e=>hsb.extBut b o (bB (aS e)) (ai _ e);refine PySem.W.kla_codeExpr ?_;rw[eB];refine FV (by rfl) ?_;refine wpAny_Name (wb hkd hloc hns (show _=some (Value.ref a) by simp) ?_) hdb;have O2:BX h2 a dx C mA:=⟨T _ _ O1.obj,let⟨o,es,ep,g1,g2⟩:=O1.ns;⟨o,es,ep,T _ _ g1,g2⟩,O1.ne⟩;refine FB (s:={s with heap:=h2,toks:=_}) (KX.keeps T) O2 (cl.get fld) cl.hd na hu rfl ?_;exact⟨h2,_,tt,rfl,rfl,⟨F1.ns.keeps T,λb o e=>T _ _ (F1.keep b o e),F1.above⟩,λz hz=>⟨T _ _ (N1 z hz).1,(N1 z hz).2⟩⟩;have kp:=keepAll F' N' λz hz=>aB _ hz;have nD:=N' (D,seqObj "list" out c1) (.head _);have frD:∀b o,s.heap.get? b=some o->b≠D:=λb o e z=>by subst z;exact dP _ (lD (b,o) (tu nD.2.1 nD.2.2 e))
 have hD:H2 D=none:=by cases z:H2 D with|none=>rfl|some o=>obtain⟨ob,eo⟩:=Lo (I.hok D o z);exact absurd rfl (frD D ob eo)
 obtain⟨ps,hp,ho,_⟩:=ko;have hp2:out.toList.Perm (as.map Value.ref):=by rw[ho];have e:=hp.map Prod.snd;rw[List.map_snd_zip (by rw[aa];lia)]at e;exact e
 obtain⟨U,pa,eo⟩:=Hh hp2;refine⟨.ref D,upd H2 D (.lst (U.map V.ref)),?_,rfl,q3 D U hD pa⟩;refine I.step (g':=s.gens) (d':=s.drawn) (ch:=[]) (λ_ z=>nomatch z) (λb o nb _ _ e _=>kp b o nb e) (λb o nb _ _ e _=>⟨o.slots,kp b o nb e⟩) (λb o _ e n=>by rw[aW (frD b o e)];exact n) (λb o _ e=>?_) (λb xs e=>by rw[aW (aI e hD)];exact e) (λb o u e=>by rw[aW (aI e hD)];exact e) (λb ps e=>⟨#[],by rw[aW (aI e hD),e];simp⟩) (λm' hm=>?_) (λb u e=>?_) I.bare;by_cases z:b=X.env.locals;subst z;obtain⟨o',_,_,g,_⟩:=F'.ns;exact⟨o',g⟩;exact⟨o,kp b o z e⟩;rw[hm.eq_nsMap,<-F.ns.eq_nsMap];exact F'.ns;by_cases z:b=D;subst z;rw[au]at e;cases e;refine⟨by rw[aa,pa.length_eq];exact cu (cq (by lia)),out.toList,c1,by rw[eo];exact wq U,?_⟩;rw[nD.1,Array.toArray_toList];rw[aW z]at e;refine(I.hok b u e).stay (λx v hc g=>kp x v ?_ g) (λx g=>by rw[aW (aI g hD)];exact g) λx xs g=>by rw[aW (aI g hD)];exact g
 rcases hc with rfl|hc;exact J e;exact J hc
theorem so:qv X (compareOp .IsNot) (λx y H Q=>∃b c,x=.bl b/\y=.bl c/\Q (.bl (!decide (b=c))) H):=by intro pins s σ H x y v u Q I j g h;obtain⟨b,c,rfl,rfl,q⟩:=h;cases j;cases g;exact wpAny_isNot_plain rfl ⟨.bl _,H,I,by cases b<;>cases c<;>rfl,q⟩
inductive Kj (K:LO)(x:V)(y:V)(H:Hp)(Q:VK):Prop|mk (p xs ds d:_) (_:y=.ref p) (_:bW K H p xs) (_:DAs K any H xs ds) (_:DA K any H x d) (_:(PyData.canLayAll0 ds=true/\d.canLay0=true/\d.depth<=32)) (_:Q (.bl (ds.any λe=>PyData.eqv e d)) H):Kj K x y H Q
def UX (K:LO):R2:=λx y H Q=>Kj K x y H Q
theorem QJ (T:X.A.units+64<cLine):qv X (compareOp .In) (UX X.K):=by intro pins s σ H x y v u Q I l j h;obtain⟨p,xs,ds,d,rfl,C,hs,hd,⟨l1,l2,J⟩,q⟩:=h;cases j;obtain⟨its,r,pl,hz⟩:=I.list C;obtain⟨as,g⟩:=hs.reads I r;obtain⟨bs,p2⟩:=hd.reads I l;refine SeqAt.in_listAt (Br s.heap d) pl.isList (λw t=>HX p2 l2 (by rw[Around.in1_units];lia) g l1 w (by simpa using t)) ⟨.bl _,H,I,rfl,?_⟩;rw[show its.toArray.any (Br s.heap d)=its.any (Br s.heap d) by simp,FX g l1];exact q
end
end L2
namespace My
open PySem L2 PyProof.Rows
variable {K Kn N ep fg i j k k' m mv p0 u w:Nat}{X:Cx}{H H' H0 H1 H2 H4 H5 Hb:Hp}{C CN D Pt a aT cc f fG fI fL fa it lv p p' r rA wA:Addr}{vs xs ys zs:LI}{hs hs' ls ls' ns os iG us ws ws' x π:LH}{st:Stmt}{S Z Z' ok:Addr->Prop}{as rs:LK}{l:PySem.W.OpenLaw}{fd fdI:FuncData}{U U' b h':Nat->Int}{ta te tl:TE}{Q:VK}{σ:L2.St}{M M':LA}{fs gs:LC}{R W g:Nat->Nat->Int}{pos:Pos}{tt:TT}{c o z:Int}{tg:Expr}{Pz:Int->Prop}{P:Program}{s:Int×Int}{tw:Nat->Nat->Nat}{dn dn':Nat->Nat->Prop}{bh:Int->Int}{h:Heap}{F:List (LC)}{ps ps0:LL}{Tb:Hp->Prop}{led:Bool}{Q₁:LP}{items:LV}{e:Int×Value}{mg:LQ}{s₁:Shared}{loose:LM}{XP:(LQ)->Heap->Prop}{YP:World->Heap->Prop}{cdv ct doc kV oc pm:Value}{an od:LS}{osl oslG oslI:Array (LW)}
def top (i:Nat):Stmt:=PySem.Challenge.pw_evenkin_k51_whole_held_by_trees.main.body.getD i (.Pass ⟨0,0,0,0⟩)
def OZ (s:Stmt)(i:Nat):Stmt:=match s with
 | .ClassDef _ _ _ b _ _ _ _ _ _ _=>b.getD i (.Pass ⟨0,0,0,0⟩)
 |_=>.Pass ⟨0,0,0,0⟩
abbrev rT:Stmt:=OZ (top 20) 0
abbrev GV:Stmt:=top 1
abbrev uZ:Stmt:=top 2
abbrev GJ:Stmt:=top 3
abbrev sZ:Stmt:=top 4
abbrev xf:Stmt:=top 5
abbrev uY:Stmt:=top 6
abbrev xi:Stmt:=top 7
abbrev xh:Stmt:=top 8
abbrev pV:Stmt:=top 9
abbrev qS:Stmt:=top 11
abbrev mG:Stmt:=top 13
abbrev EQ:Stmt:=top 14
abbrev rP:Stmt:=top 15
abbrev oZ:Stmt:=top 16
abbrev mF:Stmt:=top 17
abbrev yB:Stmt:=top 18
abbrev rS:Stmt:=top 21
abbrev rW:Stmt:=top 22
abbrev ni:Stmt:=top 23
abbrev uW:Stmt:=top 24
abbrev EV:Stmt:=top 25
abbrev ub:Stmt:=top 26
abbrev oY:Stmt:=top 27
abbrev yy:Stmt:=top 28
abbrev SH:Stmt:=top 30
abbrev SI:Stmt:=top 31
abbrev ug:Stmt:=top 32
abbrev qQ:Stmt:=top 33
abbrev uX:Stmt:=top 36
abbrev uc:Stmt:=top 37
abbrev Nm:Stmt:=top 38
abbrev qT:Stmt:=top 39
abbrev mH:Stmt:=top 40
abbrev xg:Stmt:=top 45
abbrev qV:Stmt:=top 46
abbrev qU:Stmt:=top 47
abbrev uf:Stmt:=top 48
abbrev ER:Stmt:=top 49
abbrev Nk:Stmt:=top 50
abbrev Nl:Stmt:=top 51
abbrev oz:Stmt:=top 53
abbrev xk:Stmt:=top 55
abbrev oX:Stmt:=top 56
abbrev kF:Stmt:=top 57
abbrev kH:Stmt:=top 58
abbrev xj:Stmt:=top 59
abbrev rQ:Stmt:=top 60
abbrev rO:Stmt:=top 61
abbrev qR:Stmt:=top 63
abbrev EW:Stmt:=top 65
abbrev ES:Stmt:=top 66
abbrev pd:Stmt:=top 68
abbrev rV:Stmt:=top 69
abbrev ud:Stmt:=top 70
abbrev w6:Stmt:=top 71
abbrev yz:Stmt:=top 72
abbrev ET:Stmt:=top 73
abbrev oB:Stmt:=top 74
abbrev Nj:Stmt:=top 75
abbrev JU:Stmt:=top 76
abbrev EU:Stmt:=top 77
abbrev ue:Stmt:=top 78
abbrev j9:Stmt:=top 79
abbrev CF:Stmt:=top 80
abbrev yx:Stmt:=top 81
abbrev yA:Stmt:=top 82
section
variable {K:LO}
def dM (s:Stmt)(i:Nat):Stmt:=(gO s).getD i (.Pass ⟨0,0,0,0⟩)
def eU (s:Stmt):Expr:=match s with
 | .Assign _ v _=>v
 | .Return (some v) _=>v
 |_=>.Constant .none 0 ⟨0,0,0,0⟩
def cX (e:Expr):Scope:=match e with
 | .ListComp _ _ sc _=>sc
 |_=>{kind:=.function,names:=[],isGenerator:=false,isCoroutine:=false}
def zR (e:Expr)(i:Nat):Expr:=match e with
 | .Tuple es _ _=>es.getD i (.Constant .none 0 ⟨0,0,0,0⟩)
 |_=>.Constant .none 0 ⟨0,0,0,0⟩
theorem gN {K:LO}(h:X.K=K:=by rfl):Si X (GY K):=by subst h;exact bL
theorem Same.sq (e:Same H H')(h:bW K H a xs):bW K H' a xs:=(Same.keep (ok:=any) e).seq trivial h
theorem cU {α:Type}{xs:List α}{x:α}(h:xs[i]?=some x):xs.take (i+1)=xs.take i++[x]:=by rw[wl,h];rfl
theorem bJ {α β:Type}{f:α->β}{xs:List α}{y:β}(h:(xs.map f)[i]?=some y):∃x,xs[i]?=some x/\y=f x:=by rw[ao]at h;obtain⟨x,h1,h2⟩:=dL.mp h;exact⟨x,h1,h2.symm⟩
def rG (t u:TS):TS:=λD σ H=>∃J:LR,t {D with nx:=J} σ H/\∀g H',J g H'->u D g H'
theorem iX {iG:List Stmt}{t u:TS}(h1:PS X st t)(h2:PSs X iG u):PSs X (st::iG) (rG t u):=by with_unfolding_all
 intro pins s σ H D I h;obtain⟨J,h,k⟩:=h;refine Gf (gm (h1 pins s σ H {D with nx:=J} I h) λf j q=>?_);cases f with
 |next=>obtain⟨g,H',l,q⟩:=q;exact h2 pins j g H' D l (k g H' q)
 |ret v=>exact q
 |brk=>exact q
 |cont=>exact q
def dI (ns:LH):PyData:=.list (ns.map .int)
theorem Bi:∀ns:LH,PyData.canLayAll0 (ns.map .int)=true/\PyData.depthAll (ns.map .int)=0
 |[]=>⟨rfl,rfl⟩
 |n::ns=>by obtain⟨h1,h2⟩:=Bi ns;refine⟨?_,?_⟩;rw[aJ];simp only[PyData.canLayAll0,PyData.canLay0,h1,eK];rw[aJ];simp only[PyData.depthAll,PyData.depth,h2,Nat.max_self]
theorem oK (ns:LH):(dI ns).canLay0=true/\(dI ns).depth<=1:=by obtain⟨h1,h2⟩:=Bi ns;unfold dI;exact⟨by simp only[PyData.canLay0,h1],by simp only[PyData.depth,h2];exact av _⟩
theorem By:∀ns:LH,DAs K ok H (ns.map V.int) (ns.map .int)
 |[]=>.nil
 |n::ns=>.cons (.int n) (By ns)
theorem Sh (n:ok a)(h:bW K H a (ns.map V.int)):DA K ok H (.ref a) (dI ns):=.lst n h (By ns)
theorem Bx:∀a b:LH,PyData.eqvAll (a.map .int) (b.map .int)=decide (a=b)
 |[],[]=>rfl
 |[],b::bs=>rfl
 |a::as,[]=>rfl
 |a::as,b::bs=>by rw[aJ,aJ];simp only[PyData.eqvAll,PyData.eqv,Bx as bs];by_cases h:a=b;subst h;by_cases h2:as=bs;subst h2;simp;simp[h2];simp[h]
theorem Dq (a b:LH):PyData.eqv (dI a) (dI b)=decide (a=b):=by unfold dI;simp only[PyData.eqv];exact Bx a b
end
section
variable {P:Program}{w:World}{K:LO}{mg:LQ}{base:Heap}
theorem fB {K:LO}(h:X.K=K:=by rfl):Si X (yD K):=by subst h;exact cD
theorem iQ (h:rs[j]?=some r):pK (rs.map V.ref) (j:Int)=some (.ref r):=cV (by rw[ao,h];rfl)
theorem getD_some {α:Type}{xs:List α}{x d:α}(h:xs[j]?=some x):xs.getD j d=x:=by rw[ax,h];rfl
theorem ox {α:Type}{xs:List α}{x y:α}(h:(xs++[x])[i]?=some y):xs[i]?=some y\/(i=xs.length/\y=x):=by by_cases hi:i<xs.length;rw[aN hi]at h;exact .inl h;rw[aE (by lia)]at h;cases e:i-xs.length with|zero=>rw[e]at h;cases h;exact .inr ⟨by lia,rfl⟩|succ j=>rw[e]at h;cases h
theorem bA {α:Type}{l:List α}(h:i<l.length):∃x,l[i]?=some x:=⟨l[i],aq h⟩
theorem cw {α:Type}{l:List α}{x:α}(h:l[i]?=some x):i<l.length:=(aZ.mp h).1
theorem ja {x y:Int}(h1:-(2^64)<x)(h2:x<2^64):Ph x y:=.inl ⟨h1,h2⟩
structure oT (mg:LQ):Prop where
 abs:mg "abs"=none
 len:mg "len"=none
 sum:mg "sum"=none
 zip:mg "zip"=none
 range:mg "range"=none
 enum:mg "enumerate"=none
 isi:mg "isinstance"=none
 verr:mg "ValueError"=none
 int:mg "int"=none
 bool:mg "bool"=none
 list:mg "list"=none
 tuple:mg "tuple"=none
def Uo (i j:Int):Prop:=∃n,n<=1000000/\M11.Bn n i/\M11.Bn n j
theorem io:qv X (binaryOp .Mult) (rI Uo λi j=>.int (i*j)):=
 PL λ_ _ _ _ _ _ _ g q=>mul_int q (by
  obtain⟨n,h,a,b⟩:=g;have e:(2:Nat)^20=1048576:=by decide
  exact IntMulOk.of_bits (bj (FT a) (by lia)) (bj (FT b) (by lia)))
def j8 (l:Int×Int):HO:=.tup [.int l.1,.int l.2]
def TM.dot (w r:LH):Int:=(List.zipWith (λa b=>a*b) w r).sum
inductive Po (vs:LI)(H:Hp)(Q:VK):Prop|mk (a b:Int) (_:vs=[.int a,.int b]) (_:Q (.int (M11.G a b)) H):Po vs H Q
def UP:Sp:=λvs H Q _=>Po vs H Q
inductive Pp (vs:LI)(H:Hp)(Q:VK):Prop|mk (t b:Int) (_:vs=[.int t,.int b]) (_:b≠0) (_:b.natAbs<2^9000) (_:∀p,H p=none->Q (.ref p) (upd H p (j8 (M11.low t b)))):Pp vs H Q
def UQ:Sp:=λvs H Q _=>Pp vs H Q
theorem Ni:bv ["number","other","rest"] ["number","other"] (aw SH):={}
theorem SY (B:oT mg)(F:Fun K "greatest_divisor" "greatest_divisor" SH f fd):cW P w K mg base gK 1 f fd ["number","other"] UP:=by
 refine F.q Ni λH vs _ _ h=>?_;obtain⟨a,b,rfl,k⟩:=h;refine⟨_,am (oF PassesOwn.never (bV jF (pv 1) ar (bO _))
   (am (fk 2 Ni.nd (bR Fg (pv 0) (pv 1)))
   (am (fk 0 Ni.nd (pv 1))
   (aC (fk 1 Ni.nd (pv 2))))))
  (aC (bw (bE BQ (by rfl) B.abs boot_abs (ac (pv 0) aj)))),?_⟩
 show let g:TS:=_;bN _ g _ _ _;intro g;refine uu (λσ H'=>∃(x y:Int) (r:LU),σ=[some (.int x),some (.int y),r]/\H'=H/\Int.gcd x y=Int.gcd a b)
  (λσ _=>match σ with|[_,some (.int y),_]=>y.natAbs|_=>0) ⟨a,b,none,rfl,rfl,rfl⟩ ?_ ?_
 rintro σ H' ⟨x,y,r,rfl,rfl,l⟩;refine⟨_,rfl,rfl,_,rfl,?_⟩;by_cases j:y=0;subst j;refine iP rfl ?_;refine⟨_,rfl,x,rfl,?_⟩;have e:(if x<0 then -x else x)=M11.G a b:=by rw[M11.gcd_end];show((Int.gcd x 0:Nat):Int)=((Int.gcd a b:Nat):Int);rw[l]
 rw[e];exact k;refine tF (λz=>j (V.int.inj z)) ?_;refine⟨_,rfl,_,rfl,x,y,rfl,rfl,j,_,rfl,_,rfl,?_⟩;exact⟨⟨y,x.fmod y,_,rfl,rfl,by rw[M11.gcd_step];exact l⟩,M11.fmod_small x y j⟩;rintro σ H' I C p ⟨v,e,sc,c,t,q⟩;exact⟨v,e,sc,c,t,p _ _ q⟩
theorem Qs:bv ["top","bottom","divisor"] ["top","bottom"] (aw SI):={}
theorem FS {t b:Int}(h:b≠0)(hb:b.natAbs<2^9000)(u d:Int)(e:d=M11.sgn t b):CDivL u d:=by subst e;exact⟨M11.sgn_ne h,cg (M11.sgn_le h) hb⟩
theorem SZ (B:oT mg)(F:Fun K "fraction_of" "fraction_of" SI f fd)(J:Cl P w K mg base "greatest_divisor" SH ["number","other"] 1 UP):cW P w K mg base gK 2 f fd ["top","bottom"] UQ:=by
 refine F.q Qs λH vs _ I h=>?_;obtain⟨t,b,rfl,hb,hz,k⟩:=h;refine⟨_,am (fk 2 Qs.nd (bH J I rfl (ac (pv 0) (ac (pv 1) aj))))
  (am (dX (bV AO (pv 1) ar (bO _)) (aC (fk 2 Qs.nd (PH IU (pv 2)))) cE)
  (aC (bw (dm (ac (bR op_fdivL (pv 0) (pv 2)) (ac (bR op_fdivL (pv 1) (pv 2)) aj)))))),?_⟩
 show let l:TS:=_;let j:TS:=_;let g:TS:=bN (gL _ j _) l;bN _ g _ _ _;intro l j g;refine⟨_,rfl,_,rfl,t,b,rfl,?_⟩;refine⟨_,rfl,_,_,rfl,rfl,_,rfl,?_⟩;by_cases C:b<0;refine jr C ?_;have e:-(M11.G t b)=M11.sgn t b:=(if_pos C).symm;refine⟨_,rfl,_,rfl,?_⟩;refine⟨_,rfl,_,rfl,_,_,rfl,rfl,FS hb hz _ _ e,_,rfl,_,rfl,_,_,rfl,rfl,FS hb hz _ _ e,k9,λp hp=>?_⟩;have q:=k p hp;unfold M11.low at q;rw[<-e]at q;exact q;refine js C ?_;have e:M11.G t b=M11.sgn t b:=(if_neg C).symm;refine⟨_,rfl,_,rfl,_,_,rfl,rfl,FS hb hz _ _ e,_,rfl,_,rfl,_,_,rfl,rfl,FS hb hz _ _ e,k9,λp hp=>?_⟩;have q:=k p hp;unfold M11.low at q;rw[<-e]at q;exact q
theorem vQ (pre ks:LI):oN (pre++ks) (some ((pre.length:Nat):Int)) none=ks:=by unfold oN;rw[HT.sIx_nat,HT.sIx_none,ah,jc (by lia),List.drop_left];exact di (by lia)
theorem eY (x:V)(xs:LI):pK (x::xs) 0=some x:=cV (xs:=x::xs) (j:=0) rfl
theorem fK (x y:V)(xs:LI):pK (x::y::xs) 1=some y:=cV (xs:=x::y::xs) (j:=1) rfl
theorem lO {Q:Hp->Prop}(vs:LI)(hlen:vs.length=xs.length)(hm:xs.length<=900)(T:H1 D=none)(p:bW K H1 a xs)(hs:∀(i:Nat) (x v:V) (H':Hp),xs[i]?=some x->vs[i]?=some v->Same H1 H'->te (σ++[some x]) H' λu l=>u=v/\Same H' l)(hd:∀H',Same H1 H'->H' D=some (.lst vs)->Q H')(mono:∀σ H Q U,(∀v H1,Q v H1->U v H1)->te σ H Q->te σ H U):
  ∃W:Nat->Nat->List V->Hp->Prop,(∃m,W 0 m [] (upd H1 D (.lst [])))/\
   ∀i m ys H',W i m ys H'->H' D=some (.lst ys)/\(((zu K a).stop i H'/\Q H')\/((zu K a).go i H'/\∀z H2,(zu K a).yld i H' z H2->te (σ++[some z]) H2 λv l=>l D=some (.lst ys)/\ys.length<sizeLine/\∃C,C<m/\W (i+1) C (ys++[v]) (upd l D (.lst (ys++[v]))))):=by
 refine kA (xs:=xs) (λi ys H'=>ys=vs.take i/\Same H1 H'/\H' D=some (.lst ys)) ⟨by rw[eE],Same.upd T,au⟩ (λi ys H' _ ⟨_,sm,g⟩=>⟨Same.sq sm p,g⟩) ?_ ?_ mono;rintro i x ys H4 I ⟨rfl,j,g⟩;have hi:i<vs.length:=by rw[hlen];exact(aZ.mp I).1
 have J:vs[i]?=some vs[i]:=aq hi;refine mono _ _ _ _ ?_ (hs i x vs[i] H4 I J j);rintro u H5 ⟨rfl,t⟩;refine⟨t _ _ g,cq (by rw[cm];lia),by rw[cU J],λb o e=>?_,au⟩;rw[aW (aI e T)];exact t _ _ (j _ _ e);rintro ys H4 ⟨rfl,j,g⟩;rw[<-hlen,ce]at g;exact hd H4 j g
theorem Gq (σ:L2.St)(a b:LU)(x y:V):((σ++[a,b]).set σ.length (some x)).set (σ.length+1) (some y)=σ++[some x,some y]:=by
 rw[mh _ _ (av _),iW,mh _ _ (fY _)];have:σ.length+1-σ.length=1:=by lia
 rw[this];rfl
theorem Dc {b:Addr}{n:Nat}(vs:LI)(hn:σ.length=n)(hx:bW K H1 a xs)(T:bW K H1 b ys)(hlx:xs.length=vs.length)(hly:ys.length=vs.length)(hm:vs.length<=900)(hs:∀(i:Nat) (x y v:V) (H':Hp),xs[i]?=some x->ys[i]?=some y->vs[i]?=some v->Same H1 H'->te (σ++[some x,some y]) H' λu H3=>u=v/\Same H' H3)(hd:∀D H',Same H1 H'->H' D=some (.lst vs)->Q (.ref D) H')(mono:∀σ H Q Q',(∀v H1,Q v H1->Q' v H1)->te σ H Q->te σ H Q'):Qc 2 (Sc K a b) (g2 K n) Cj te σ H1 Q:=by
 subst hn;intro D hD;refine⟨λi m zs H'=>m=vs.length-i/\i<=vs.length/\zs=vs.take i/\Same H1 H'/\H' D=some (.lst zs),⟨vs.length,by simp,bp _,by rw[eE],Same.upd hD,au⟩,?_⟩;rintro i m zs H2 ⟨rfl,hi,rfl,g,l⟩;refine⟨l,?_⟩;by_cases j:i<vs.length;have ex:xs[i]?=some xs[i]:=aq (by lia);have ey:ys[i]?=some ys[i]:=aq (by lia);have ev:vs[i]?=some vs[i]:=aq j;refine .inr ⟨⟨xs,ys,_,_,Same.sq g hx,Same.sq g T,ex,ey⟩,?_⟩;rintro z H3 ⟨t,x,y,rfl,ht,rfl,hx',J⟩ os C;have U:=hx' xs (Same.sq g hx);have I:=J ys (Same.sq g T);match os,C with
 |[o1,o2],_=>have p:Same H2 (L2.upd H2 t (.tup [x,y])):=Same.upd ht;refine⟨t,[x,y],rfl,dH.of au,rfl,x,[y],rfl,y,[],rfl,rfl,⟨[some x,some y],Gq σ o1 o2 x y,rfl⟩,?_⟩;dsimp only[Cj];rw[if_pos rfl,Gq σ o1 o2 x y];refine mono _ _ _ _ ?_ (hs i x y vs[i] _ U I ev (g.trans p));rintro u H5 ⟨rfl,s5⟩;refine⟨s5 _ _ (p _ _ l),cq (by rw[cm];lia),vs.length-(i+1),by lia,rfl,j,by rw[cU ev],λc o e=>?_,au⟩;rw[aW (aI e hD)];exact s5 _ _ (p _ _ (g _ _ e))
 have:i=vs.length:=by lia
 subst this;rw[ce]at l ⊢;exact .inl ⟨⟨xs,ys,Same.sq g hx,Same.sq g T,.inl (by lia)⟩,hd D H2 g l⟩
structure Pa (H:Hp)(rs:LK)(X:LB):Prop where
 len:rs.length=X.length
 row:∀(i:Nat) (r:Addr) (x:LI),rs[i]?=some r->X[i]?=some x->H r=some (.lst x)
theorem Pa.mono {X:LB}(g:Pa H rs X)(s:Same H H'):Pa H' rs X:=⟨g.len,λi r x h1 h2=>s _ _ (g.row i r x h1 h2)⟩
def iL (H:Hp)(a:Addr)(X:LB):Prop:=∃rs:LK,H a=some (.lst (rs.map V.ref))/\Pa H rs X
theorem iL.mono {X:LB}(g:iL H a X)(s:Same H H'):iL H' a X:=by obtain⟨rs,h,r⟩:=g;exact⟨rs,s _ _ h,r.mono s⟩
def Vs (H H':Hp)(u:V)(x:LI):Prop:=∃p,u=.ref p/\H' p=some (.lst x)/\H p=none
def qo (H1:Hp)(D:Addr)(X:LB)(i:Nat)(ys:LI)(H':Hp):Prop:=∃rs:LK,ys=rs.map V.ref/\rs.length=i/\Same H1 H'/\H' D=some (.lst ys)/\(∀r∈rs,r≠D)/\∀(j:Nat) (r:Addr) (x:LI),rs[j]?=some r->X[j]?=some x->H' r=some (.lst x)
theorem qo.start {X:LB}(g:H1 D=none):qo H1 D X 0 [] (upd H1 D (.lst [])):=⟨[],rfl,rfl,Same.upd g,au,(λr h=>by cases h),(λj r x h _=>by cases h)⟩
theorem qo.step {X:LB}{u:V}{x:LI}(hD:H1 D=none)(g:qo H1 D X i ys H4)(hx:X[i]?=some x)(hu:Vs H4 H5 u x)(t:Same H4 H5)(hm:i<900):
  H5 D=some (.lst ys)/\ys.length<sizeLine/\qo H1 D X (i+1) (ys++[u]) (upd H5 D (.lst (ys++[u]))):=by
 obtain⟨rs,rfl,I,U,T,C,hr⟩:=g;obtain⟨p,rfl,hp,J⟩:=hu;have l:p≠D:=λz=>by rw[z,T]at J;cases J
 refine⟨t _ _ T,cq (by rw[aa];lia),rs++[p],by rw[a0];rfl,by rw[ah,I];rfl,λb o e=>?_,au,λr h=>?_,λj r y h1 h2=>?_⟩;rw[aW (aI e hD)];exact t _ _ (U _ _ e);rcases be.mp h with z|z;exact C r z;rw[aX.mp z];exact l;rcases ox h1 with z|⟨e,z⟩;rw[aW (C r (af z))];exact t _ _ (hr j r y z h2);subst z;rw[e,I,hx]at h2;cases h2;rw[aW l];exact hp
theorem qo.done {X:LB}(g:qo H1 D X X.length ys H'):Same H1 H'/\iL H' D X:=by obtain⟨rs,rfl,l,j,t,C,p⟩:=g;exact⟨j,rs,t,l,p⟩
inductive Ew (vs:LI)(H:Hp)(Q:VK):Prop|mk (a:Addr) (X:LB) (j:Nat) (_:vs=[.ref a,.int (j:Int)]) (_:iL H a X) (_:X.length<=900) (_:(∀x∈X,j<x.length)) (_:∀D H',Same H H'->H D=none->H' D=some (.lst (X.map λx=>(x[j]?).getD .non))->Q (.ref D) H'):Ew vs H Q
def Ps:Sp:=λvs H Q _=>Ew vs H Q
theorem SG:bv ["rows","place"] ["rows","place"] (aw GV):={}
theorem Tw:cn (aw GV) ["rows","place"] (cX (eU (dM GV 0))) ["row"]:={}
theorem QT (F:Fun K "column_of" "column_of" GV f fd):cW P w K mg base gK 1 f fd ["rows","place"] Ps:=by refine F.q SG λH vs _ p h=>?_;obtain⟨a,X,j,rfl,⟨rs,t,R⟩,hX,hj,q⟩:=h;refine⟨_,aC (bw (il rfl Tw rfl (cK (pv 0)) λ_ _ _=>bf (fB (K:=K)) (pv 2) (pv 1))),?_⟩;refine⟨_,rfl,a,rfl,⟨_,bW.of t⟩,λD C=>?_⟩;refine lO (X.map λx=>(x[j]?).getD .non) (by rw[aa,aa,R.len]) (by rw[aa,R.len];exact hX) C (bW.of t) ?_ ?_ ?_;intro i x v H' J T s';obtain⟨r,p,rfl⟩:=bJ J;obtain⟨y,l,rfl⟩:=bJ T;obtain⟨z,hz⟩:=bA (hj y (af l));refine⟨_,rfl,_,rfl,r,_,_,z,rfl,rfl,bW.of (s' _ _ (R.row i r y p l)),cV hz,?_,Same.refl _⟩;rw[hz];rfl;intro H' s' eD;exact q D H' s' C eD;rintro σ H' Q1 Q2 U ⟨v,e,I,e',a1,a2,a3,a4,a5,a6,a7,a8,g⟩;exact⟨v,e,I,e',a1,a2,a3,a4,a5,a6,a7,a8,U _ _ g⟩
def tL (X:LB)(n:Nat):LB:=(List.range n).map λj=>X.map λx=>(x[j]?).getD .non
inductive Ax (vs:LI)(H:Hp)(Q:VK):Prop|mk (a:Addr) (X:LB) (n:Nat) (_:vs=[.ref a]) (_:iL H a X) (_:X.length<=900) (_:n<=900) (_:(∀x∈X,x.length=n)) (_:(X=[]->n=0)) (_:∀D H',Same H H'->H D=none->iL H' D (tL X n)->Q (.ref D) H'):Ax vs H Q
def Cr:Sp:=λvs H Q _=>Ax vs H Q
theorem JS:bv ["rows","width"] ["rows"] (aw uZ):={}
theorem Rm:cn (aw uZ) ["rows","width"] (cX (eU (dM uZ 1))) ["place"]:={}
theorem N5 (B:oT mg)(F:Fun K "columns_of" "columns_of" uZ f fd)(GC:Cl P w K mg base "column_of" GV ["rows","place"] 1 Ps):cW P w K mg base gK 2 f fd ["rows"] Cr:=by
 refine F.q JS λH vs _ hr h=>?_;obtain⟨a,X,n,rfl,⟨rs,C,R⟩,hX,hn,J,h0,q⟩:=h;refine⟨_,iX (fk 1 JS.nd (mN (vf (pv 0) λ_=>rfl) (bE bQ (by rfl) B.len bu (ac (bf cD (pv 0) ar) aj)) ar))
  (aC (bw (il rfl Rm rfl (fT rfl B.range (ac (pv 1) aj)) λ_ _ _=>bH GC hr rfl (ac (pv 0) (ac (pv 2) aj))))),?_⟩
 show let l:TS:=_;rG _ l _ _ _;intro l;refine⟨λσ H1=>σ=[some (.ref a),some (.int (n:Int))]/\H1=H,?_,?_⟩;refine⟨_,rfl,!(rs.map V.ref).isEmpty,.inl ⟨_,bW.of C,rfl⟩,?_⟩;have lr:=R.len;match rs,X,lr with
 |[],[],_=>refine gu ⟨?_,rfl⟩;rw[h0 rfl];rfl
 |r::rs,x::X,_=>refine iV ?_;refine⟨_,rfl,a,_,_,.ref r,rfl,rfl,bW.of C,cV (j:=0) rfl,r,_,rfl,.inl (bW.of (R.row 0 r x rfl rfl)),?_,rfl⟩;rw[J x aM];rfl
 rintro σ H1 ⟨rfl,rfl⟩;refine⟨_,rfl,(n:Int),rfl,by lia,by lia,λD I=>?_⟩;rw[bg];have lc:(tL X n).length=n:=by unfold tL;rw[aa,aA]
 refine rk (n:=n) (qo H1 D (tL X n)) (qo.start I) (λi ys H' _ ⟨_,_,_,_,eD,_⟩=>eD) ?_ ?_ ?_;rintro i ys H' hi g;have e0:((0:Int)+(i:Nat))=(i:Int):=by lia
 rw[e0];have s':Same H1 H':=let⟨_,_,_,z,_⟩:=g;z;refine⟨_,rfl,_,rfl,a,X,i,rfl,⟨rs,s' _ _ C,R.mono s'⟩,hX,λx hx=>by rw[J x hx];exact hi,λp T t np ep=>?_⟩;refine g.step I ?_ ⟨p,rfl,ep,np⟩ t (by lia);unfold tL;rw[ao,cy hi];rfl;intro ys H' g;obtain⟨s',gg⟩:=qo.done (X:=tL X n) (by rw[lc];exact g);exact q D H' s' I gg;rintro σ H' Q1 Q2 hq ⟨v,e,U,e',a1,a2,a3,a4,a5,a6,a7,g⟩;exact⟨v,e,U,e',a1,a2,a3,a4,a5,a6,a7,λD T t n3 e3=>hq _ _ (g D T t n3 e3)⟩
inductive wN (vs:LI)(H:Hp)(Q:VK):Prop|mk (a:Addr) (X:LB) (_:vs=[.ref a]) (_:iL H a X) (_:X.flatten.length<=900) (_:∀D H',Same H H'->H D=none->H' D=some (.lst X.flatten)->Q (.ref D) H'):wN vs H Q
def yn:Sp:=λvs H Q _=>wN vs H Q
theorem yw:bv ["rows","things","row"] ["rows"] (aw uY):={}
theorem xM {X:LB}{x:LI}(h:X[i]?=some x):(X.take (i+1)).flatten=(X.take i).flatten++x:=by rw[cU h,zq];simp
theorem OQ (X:LB)(i:Nat):(X.take i).flatten.length<=X.flatten.length:=by have:=congrArg (λl=>(List.flatten l).length) (mf i X);simp only[zq,ah]at this;lia
theorem KQ (F:Fun K "in_one_list" "in_one_list" uY f fd):cW P w K mg base gK 1 f fd ["rows"] yn:=by
 refine F.q yw λH vs _ U h=>?_;obtain⟨a,X,rfl,⟨rs,ha,R⟩,hX,q⟩:=h;refine⟨_,am (fk 1 yw.nd (dC aj))
  (am (eQ PassesOwn.never rfl (cK (pv 0)) (l9 2 yw.nd)
   (aC (g0 (mO bX PySem.F.slot_list_extend PySem.F.type_list_extend HB (pv 1) (ac (pv 2) aj)))))
  (aC (bw (pv 1)))),?_⟩
 show let p:TS:=_;let j:TS:=_;let g:TS:=bN (i0 _ _ j) p;bN _ g _ _ _;intro p j g;refine⟨bp _,λD I=>?_⟩;have aD:a≠D:=aI ha I;refine⟨_,rfl,a,rfl,⟨_,bW.of (by rw[aW aD];exact ha)⟩,gi (xs:=rs.map V.ref) (λi σ H'=>∃(J:LU),σ=[some (.ref a),some (.ref D),J]/\Same H H'/\H' D=some (.lst (X.take i).flatten)) ⟨none,rfl,Same.upd I,by rw[au];rfl⟩ (λi σ H' _ ⟨_,_,s',_⟩=>bW.of (s' _ _ ha)) ?_ ?_⟩;rintro i x σ H1 hx ⟨J,rfl,C,t⟩;obtain⟨r,U,rfl⟩:=bJ hx;obtain⟨y,T⟩:=bA (l:=X) (i:=i) (by rw[<-R.len];exact cw U);have er:=C _ _ (R.row i r y U T);have fl:=OQ X (i+1);rw[xM T,ah]at fl;refine⟨_,rfl,.inl ⟨rfl,_,bW.of t⟩,_,rfl,?_⟩;refine⟨D,r,_,_,rfl,rfl,t,er,cu (cq (by lia)),?_⟩;refine⟨_,rfl,λb o e=>?_,?_⟩;rw[aW (aI e I)];exact C _ _ e;rw[au,xM T];rintro σ H1 ⟨J,rfl,C,t⟩;rw[aa,R.len,ce]at t;exact⟨_,rfl,q D H1 C I t⟩
def lE (xs:LI)(n:Nat):LB:=(List.range n).map λi=>(xs.drop (n*i)).take n
inductive Ar (K:LO)(vs:LI)(H:Hp)(Q:VK):Prop|mk (a:Addr) (xs:LI) (n:Nat) (_:vs=[.ref a,.int (n:Int)]) (_:bW K H a xs) (_:xs.length=n*n) (_:n<=16) (_:∀D H',Same H H'->H D=none->iL H' D (lE xs n)->Q (.ref D) H'):Ar K vs H Q
def JE (K:LO):Sp:=λvs H Q _=>Ar K vs H Q
theorem Qr:bv ["things","size"] ["things","size"] (aw xi):={}
theorem Rh:cn (aw xi) ["things","size"] (cX (eU (dM xi 0))) ["place"]:={}
theorem RK {n:Nat}(g:xs.length=n*n)(hi:i<n):oN xs (some ((n:Int)*(i:Int))) (some ((n:Int)*((i:Int)+1)))=(xs.drop (n*i)).take n:=by
 have h1:n*(i+1)<=n*n:=Nat.mul_le_mul_left n hi;have l:(n:Int)*(i:Int)=((n*i:Nat):Int):=by push_cast;rfl
 have j:(n:Int)*((i:Int)+1)=((n*(i+1):Nat):Int):=by push_cast;rfl
 have h2:n*(i+1)=n*i+n:=Nat.mul_succ n i;unfold oN;rw[l,j,HT.sIx_nat,HT.sIx_nat,g,jc h1,jc (show n*i<=n*n by lia)];congr 1;lia
theorem JL (h:X.K=K:=by rfl):UA X (SQ K):=by subst h;exact lH
theorem NZ (B:oT mg)(F:Fun K "in_square" "in_square" xi f fd):cW P w K mg base gK 1 f fd ["things","size"] (JE K):=by
 refine F.q Qr λH vs _ _ h=>?_;obtain⟨a,xs,n,rfl,ha,hx,hn,q⟩:=h;refine⟨_,aC (bw (il rfl Rh rfl (fT rfl B.range (ac (pv 1) aj)) λ_ _ _=>jp (JL (K:=K)) (pv 0) (jV (bR i8 (pv 1) (pv 2))) (jV (bR i8 (pv 1) (bR gt (pv 2) ar))))),?_⟩;refine⟨_,rfl,(n:Int),rfl,by lia,by lia,λD j=>?_⟩;rw[bg];have T:(lE xs n).length=n:=by unfold lE;rw[aa,aA]
 refine rk (n:=n) (qo H D (lE xs n)) (qo.start j) (λi ys H' _ ⟨_,_,_,_,eD,_⟩=>eD) ?_ ?_ ?_;rintro i ys H' hi g;have e0:((0:Int)+(i:Nat))=(i:Int):=by lia
 rw[e0];have s':Same H H':=let⟨_,_,_,z,_⟩:=g;z;refine⟨_,rfl,_,rfl,_,rfl,_,_,rfl,rfl,ja (by lia) (by lia),_,rfl,_,rfl,_,rfl,_,_,rfl,rfl,_,_,rfl,rfl,ja (by lia) (by lia),_,rfl,a,xs,rfl,s'.seq ha,λp hp=>?_⟩;have st:=g.step (u:=.ref p) (x:=(xs.drop (n*i)).take n) j (by unfold lE;rw[ao,cy hi];rfl) ⟨p,rfl,au,hp⟩ (Same.upd hp) (by lia);rw[<-RK hx hi]at st;exact st;intro ys H' g;obtain⟨s',gg⟩:=qo.done (X:=lE xs n) (by rw[T];exact g);exact q D H' s' j gg;rintro σ H' Q1 Q2 hq ⟨v1,e1,I,e2,C,e3,i1,j1,f1,f2,c1,l1,e4,t,e5,v6,e6,i2,j2,f3,f4,i3,U,f5,f6,c2,h1,e7,a1,l,e8,J,g⟩;exact⟨v1,e1,I,e2,C,e3,i1,j1,f1,f2,c1,l1,e4,t,e5,v6,e6,i2,j2,f3,f4,i3,U,f5,f6,c2,h1,e7,a1,l,e8,J,λp hp=>hq _ _ (g p hp)⟩
def gI (M:LA):LB:=M.map λx=>x.map V.int
theorem sI (h:M[i]?=some x):(gI M)[i]?=some (x.map V.int):=by unfold gI;rw[ao,h];rfl
theorem kX (M:LA):(gI M).length=M.length:=by unfold gI;rw[aa]
open TM in
inductive Ev (vs:LI)(H:Hp)(Q:VK):Prop|mk (a b:Addr) (ws rs:LH) (n:Nat) (_:vs=[.ref a,.ref b]) (_:H a=some (.lst (ws.map V.int))) (_:H b=some (.lst (rs.map V.int))) (_:ws.length=rs.length) (_:ws.length<=900) (_:n<=1000000) (_:(∀x∈ws,M11.Bn n x)) (_:(∀x∈rs,M11.Bn n x)) (_:∀H',Same H H'->Q (.int (dot ws rs)) H'):Ev vs H Q
open TM in
def Pq:Sp:=λvs H Q _=>Ev vs H Q
theorem SF:bv ["numbers","others"] ["numbers","others"] (aw GJ):={}
def oQ (e:Expr)(i:Nat):Expr:=match e with
 | .Call _ es _ _=>es.getD i (.Constant .none 0 ⟨0,0,0,0⟩)
 | .BinOp _ _ b _=>b
 |_=>.Constant .none 0 ⟨0,0,0,0⟩
theorem PZ:cn (aw GJ) ["numbers","others"] (cX (oQ (eU (dM GJ 0)) 0)) ["number","other"]:={}
theorem jx:bootBuiltins "sum"=some (.builtin "sum"):=by decide+kernel
theorem DS {f:Int->Int->Int}{a b:LH}{x y:Int}(j:a[i]?=some x)(g:b[i]?=some y):(List.zipWith f a b)[i]?=some (f x y):=by rw[vZ,j,g]
theorem QS (B:oT mg)(F:Fun K "sum_of_products" "sum_of_products" GJ f fd):cW P w K mg base gK 1 f fd ["numbers","others"] Pq:=by refine F.q SF λH vs _ _ h=>?_;obtain⟨a,b,ws,rs,n,rfl,p,hb,hl,hm,hn,U,l,q⟩:=h;refine⟨_,aC (bw (bE (jv rfl) (by rfl) B.sum jx (ac (yN rfl PZ rfl (pX rfl B.zip (ac (pv 0) (ac (pv 1) aj))) (pY rfl PZ) (λ_ _ _=>lJ) λ_ _ _=>bR io (pv 2) (pv 3)) aj))),?_⟩;refine⟨_,rfl,_,rfl,a,b,rfl,⟨_,bW.of p⟩,⟨_,bW.of hb⟩,?_⟩;refine Dc ((List.zipWith (λx y=>x*y) ws rs).map V.int) rfl (bW.of p) (bW.of hb) (by rw[aa,aa,j6];lia) (by rw[aa,aa,j6];lia) (by rw[aa,j6];lia) ?_ ?_ ?_;intro i x y v H' T J hv s';obtain⟨x,ex,rfl⟩:=bJ T;obtain⟨y,C,rfl⟩:=bJ J;obtain⟨z,t,rfl⟩:=bJ hv;rw[DS ex C]at t;cases t;exact⟨_,rfl,_,rfl,_,_,rfl,rfl,⟨n,hn,U x (af ex),l y (af C)⟩,rfl,Same.refl _⟩;intro D H' s' eD;exact⟨D,_,rfl,bW.of eD,q H' s'⟩;rintro σ H' Q1 Q2 hq ⟨v,e,I,e',i,j,a1,a2,a3,g⟩;exact⟨v,e,I,e',i,j,a1,a2,a3,hq _ _ g⟩
theorem Mr:∀a b:LH,TM.dot a b=TM.dot b a:=by intro a b;unfold TM.dot;rw[List.zipWith_comm];congr 1;funext;simp only[iF]
theorem Qt:bv ["numbers","rows"] ["numbers","rows"] (aw sZ):={}
theorem Rj:cn (aw sZ) ["numbers","rows"] (cX (eU (dM sZ 0))) ["row"]:={}
open TM in
inductive wS (vs:LI)(H:Hp)(Q:VK):Prop|mk (a l:Addr) (M:LA) (r:LH) (n:Nat) (_:vs=[.ref l,.ref a]) (_:iL H a (gI M)) (_:H l=some (.lst (r.map V.int))) (_:M.length<=900) (_:r.length<=900) (_:n<=1000000) (_:(∀x∈M,x.length=r.length/\∀z∈x,M11.Bn n z)) (_:(∀x∈r,M11.Bn n x)) (_:∀D H',Same H H'->H D=none->H' D=some (.lst ((M.map λw=>dot w r).map V.int))->Q (.ref D) H'):wS vs H Q
open TM in
def tW:Sp:=λvs H Q _=>wS vs H Q
theorem KU (F:Fun K "sums_with_each" "sums_with_each" sZ f fd)(GD:Cl P w K mg base "sum_of_products" GJ ["numbers","others"] 1 Pq):cW P w K mg base gK 2 f fd ["numbers","rows"] tW:=by
 refine F.q Qt λH vs _ hr h=>?_;obtain⟨a,l,M,r,n,rfl,⟨rs,ha,R⟩,hl,hM,p,hn,hw,C,q⟩:=h;have lr:rs.length=M.length:=by rw[R.len,kX]
 refine⟨_,aC (bw (il rfl Rj rfl (cK (pv 1)) λ_ _ _=>bH GD hr rfl (ac (pv 0) (ac (pv 2) aj)))),?_⟩;refine⟨_,rfl,a,rfl,⟨_,bW.of ha⟩,λD hD=>?_⟩;refine lO ((M.map λw=>TM.dot w r).map V.int) (by rw[aa,aa,aa,lr]) (by rw[aa,lr];lia) hD (bW.of ha) ?_ ?_ ?_;intro i x v H' hx hv s';obtain⟨ra,t,rfl⟩:=bJ hx;obtain⟨z,hz,rfl⟩:=bJ hv;obtain⟨row,hrow,rfl⟩:=bJ hz;have er:=R.row i ra _ t (sI hrow);obtain⟨w1,w2⟩:=hw row (af hrow);rw[Mr row r];exact⟨_,rfl,_,rfl,l,ra,r,row,n,rfl,s' _ _ hl,s' _ _ er,w1.symm,p,hn,C,w2,λH3 j=>⟨rfl,j⟩⟩;intro H' s' eD;exact q D H' s' hD eD;rintro σ H' Q1 Q2 hq ⟨v,e,v',e',a1,a2,a3,a4,a5,a6,a7,a8,a9,U,T,J,I,g⟩;exact⟨v,e,v',e',a1,a2,a3,a4,a5,a6,a7,a8,a9,U,T,J,I,λH3 j=>hq _ _ (g H3 j)⟩
def oO (N:LA)(n:Nat):LA:=(List.range n).map λj=>N.map λx=>(x[j]?).getD 0
theorem FP {N:LA}{n:Nat}(h:∀x∈N,x.length=n):tL (gI N) n=gI (oO N n):=by unfold tL oO;show _=List.map (λx:LH=>x.map V.int) _;rw[cF];refine bU λj p=>?_;show((gI N).map λx=>(x[j]?).getD .non)=(N.map λx=>(x[j]?).getD 0).map V.int;unfold gI;rw[cF,cF];refine bU λx g=>?_;show((x.map V.int)[j]?).getD .non=V.int ((x[j]?).getD 0);obtain⟨z,hz⟩:=bA (l:=x) (i:=j) (by rw[h x g];exact bc.mp p);rw[ao,hz];rfl
open TM in
def re (M N:LA)(n:Nat):LA:=M.map λr=>(oO N n).map λc=>dot c r
inductive Ah (vs:LI)(H:Hp)(Q:VK):Prop|mk (a b:Addr) (M N:LA) (n k:Nat) (_:vs=[.ref a,.ref b]) (_:iL H a (gI M)) (_:iL H b (gI N)) (_:M.length<=900) (_:N.length<=900) (_:n<=900) (_:k<=1000000) (_:(∀x∈M,x.length=N.length/\∀z∈x,M11.Bn k z)) (_:(∀x∈N,x.length=n/\∀z∈x,M11.Bn k z)) (_:(N=[]->n=0)) (_:∀D H',Same H H'->H D=none->iL H' D (gI (re M N n))->Q (.ref D) H'):Ah vs H Q
def Jt:Sp:=λvs H Q _=>Ah vs H Q
theorem JO:bv ["rows","others","columns"] ["rows","others"] (aw xf):={}
theorem Rc:cn (aw xf) ["rows","others","columns"] (cX (eU (dM xf 1))) ["row"]:={}
theorem NO (F:Fun K "product_of_grids" "product_of_grids" xf f fd)(GC:Cl P w K mg base "columns_of" uZ ["rows"] 2 Cr)(GE:Cl P w K mg base "sums_with_each" sZ ["numbers","rows"] 2 tW):cW P w K mg base gK 3 f fd ["rows","others"] Jt:=by
 refine F.q JO λH vs _ hr h=>?_;obtain⟨a,b,M,N,n,k,rfl,⟨rs,ha,R⟩,gb,hM,hN,hn,hk,hm,t,h0,q⟩:=h;have lr:rs.length=M.length:=by rw[R.len,kX]
 refine⟨_,am (fk 2 JO.nd (bH GC hr rfl (ac (pv 1) aj)))
  (aC (bw (il rfl Rc rfl (cK (pv 0)) λ_ _ _=>bH GE hr rfl (ac (pv 3) (ac (pv 2) aj))))),?_⟩
 show let I:TS:=_;bN _ I _ _ _;intro I;refine⟨_,rfl,b,gI N,n,rfl,gb,by rw[kX];exact hN,hn,λx T=>?_,λz=>h0 ?_,λC H1 J nC gC=>?_⟩;obtain⟨y,hy,rfl⟩:=aV.mp T;rw[aa];exact(t y hy).1;exact List.map_eq_nil_iff.mp z;rw[FP λx T=>(t x T).1]at gC;refine⟨_,rfl,a,rfl,⟨_,bW.of (J _ _ ha)⟩,λD hD=>?_⟩;refine kA (xs:=rs.map V.ref) (qo H1 D (gI (re M N n))) (qo.start hD) (λi ys H' _ ⟨_,_,_,s',eD,_⟩=>⟨bW.of (s' _ _ (J _ _ ha)),eD⟩) ?_ ?_ ?_;rintro i x ys H' T g;obtain⟨r,U,rfl⟩:=bJ T;obtain⟨row,hrow⟩:=bA (l:=M) (i:=i) (by rw[<-lr];exact cw U);have s':Same H1 H':=let⟨_,_,_,z,_⟩:=g;z;have er:=(J.trans s') _ _ (R.row i r _ U (sI hrow));obtain⟨w1,w2⟩:=hm row (af hrow);refine⟨_,rfl,_,rfl,C,r,oO N n,row,k,rfl,gC.mono s',er,by unfold oO;rw[aa,aA];exact hn,by lia,hk,λc hc=>?_,w2,λp H3 s3 np ep=>?_⟩;unfold oO at hc;obtain⟨j,hj,rfl⟩:=aV.mp hc;refine⟨by rw[aa,w1],λz hz=>?_⟩;obtain⟨y,hy,rfl⟩:=aV.mp hz;obtain⟨u,hu⟩:=bA (l:=y) (i:=j) (by rw[(t y hy).1];exact bc.mp hj);show M11.Bn k ((y[j]?).getD 0);rw[hu];exact(t y hy).2 u (af hu);refine g.step hD ?_ ⟨p,rfl,ep,np⟩ s3 (by have:=cw hrow;lia);exact sI (by unfold re;rw[ao,hrow];rfl);intro ys H' g;have ll:(rs.map V.ref).length=(gI (re M N n)).length:=by rw[aa,kX,lr];unfold re;rw[aa]
 rw[ll]at g;obtain⟨s',gg⟩:=g.done;exact q D H' (J.trans s') (J.free hD) gg;rintro σ H' Q1 Q2 hq ⟨v,e,v',e',a1,a2,a3,a4,a5,a6,a7,a8,a9,a10,a11,a12,a13,g⟩;exact⟨v,e,v',e',a1,a2,a3,a4,a5,a6,a7,a8,a9,a10,a11,a12,a13,λD H3 s3 n3 e3=>hq _ _ (g D H3 s3 n3 e3)⟩
def CDivL (_ j:Int):Prop:=j≠0/\j.natAbs<2^9000
theorem op_fdivL:qv X (binaryOp .FloorDiv) (rI CDivL λi j=>.int (i.fdiv j)):=
 PL λ_ _ _ _ _ _ _ g q=>floordiv_int g.1 q (.inl (PyProof.noPylong_of_log2 ((IJ (by have:=g.1;lia)).mpr g.2)))
def jU (H:Hp)(x:LI)(fs:LC):Prop:=x.length=fs.length/\∀(i:Nat) (v:V) (f:Int×Int),x[i]?=some v->fs[i]?=some f->∃p,v=.ref p/\H p=some (j8 f)
theorem jU.mono {x:LI}(h:jU H x fs)(s:Same H H'):jU H' x fs:=⟨h.1,λi v f h1 h2=>by obtain⟨p,e,hp⟩:=h.2 i v f h1 h2;exact⟨p,e,s _ _ hp⟩⟩
def Bt (f:Int×Int):Prop:=0<f.2/\f.2.natAbs<2^20
def jw (b q:Int):Int:=b.fdiv (M11.G b q)*q
def jB (fs:LC):Int:=fs.foldl (λb f=>jw b f.2) 1
theorem Mw {b q:Int}(hb:0<b)(C:0<q):0<jw b q/\b∣jw b q/\q∣jw b q/\(jw b q).natAbs<=b.natAbs*q.natAbs:=by
 have p:=M11.G_pos (b:=q) hb;obtain⟨b',j⟩:M11.G b q∣b:=IC ..;obtain⟨t,J⟩:M11.G b q∣q:=qB ..;unfold jw;generalize M11.G b q=g at*;have I:b.fdiv g=b':=by rw[j,iI _ (dU p)]
 have l:0<b':=by rcases Int.lt_or_le 0 b' with z|z;exact z;have:=Int.mul_le_mul_of_nonneg_left z (Int.le_of_lt p);rw[<-j,gY]at this;lia
 rw[I];refine⟨nP l C,⟨t,by rw[j];rw[J];grind⟩,⟨b',by grind⟩,?_⟩;rw[gD,j,gD];exact nM _ (Nat.le_mul_of_pos_left _ (by lia))
theorem BT:∀(fs:LC) (b:Int),0<b->(∀f∈fs,Bt f)->
  0<fs.foldl (λb f=>jw b f.2) b/\b∣fs.foldl (λb f=>jw b f.2) b/\(∀f∈fs,f.2∣fs.foldl (λb f=>jw b f.2) b)/\(fs.foldl (λb f=>jw b f.2) b).natAbs<=b.natAbs*2^(20*fs.length)
 |[],b,hb,_=>⟨hb,Int.dvd_refl _,λ_ h=>(nomatch h),by simp⟩
 |f::fs,b,hb,h=>by
  obtain⟨h1,h2⟩:=h f aM;obtain⟨I,C,t,p⟩:=Mw hb h1;obtain⟨U,l,T,J⟩:=BT fs _ I λg j=>h g (aB _ j);refine⟨U,Int.dvd_trans C l,λg j=>?_,bj J ?_⟩;rcases bT.mp j with e|e;subst e;exact Int.dvd_trans t l;exact T g e;have e:(2:Nat)^(20*(f::fs).length)=2^20*2^(20*fs.length):=by rw[<-kM];congr 1;rw[aH];lia
  rw[e,<-zG];exact nM _ (bj p (Nat.mul_le_mul_left _ (cu h2)))
theorem vR (h:∀f∈fs,Bt f):0<jB fs/\(∀f∈fs,f.2∣jB fs)/\M11.Bn (20*fs.length+1) (jB fs):=by obtain⟨p,_,l,j⟩:=BT fs 1 (by decide) h;refine⟨p,l,?_⟩;show(jB fs).natAbs<2^(20*fs.length+1);have:=Nat.two_pow_pos (20*fs.length);rw[DE];have g:(jB fs).natAbs<=1*2^(20*fs.length):=j;lia
theorem Mx (fs:LC)(f:Int×Int):jB (fs++[f])=jw (jB fs) f.2:=by unfold jB;rw[jn];rfl
theorem zd {b g:Int}(j:0<g):(b.fdiv g).natAbs<=b.natAbs:=by rw[Int.fdiv_eq_ediv_of_nonneg _ (Int.le_of_lt j)];exact Int.natAbs_ediv_le_natAbs b g
inductive uN (vs:LI)(H:Hp)(Q:VK):Prop|mk (a:Addr) (x:LI) (fs:LC) (_:vs=[.ref a]) (_:H a=some (.lst x)) (_:jU H x fs) (_:fs.length<=900) (_:(∀f∈fs,Bt f)) (_:Q (.int (jB fs)) H):uN vs H Q
def AA:Sp:=λvs H Q _=>uN vs H Q
theorem EN:bv ["fractions","bottom","f"] ["fractions"] (aw ug):={}
theorem Hq (F:Fun K "common_bottom" "common_bottom" ug f fd)(GG:Cl P w K mg base "greatest_divisor" SH ["number","other"] 1 UP):cW P w K mg base gK 2 f fd ["fractions"] AA:=by
 refine F.q EN λH vs _ hr h=>?_;obtain⟨a,x,fs,rfl,ha,U,hl,hb,q⟩:=h;refine⟨_,am (fk 1 EN.nd ar)
  (am (eQ PassesOwn.never rfl (cK (pv 0)) (l9 2 EN.nd)
   (aC (fk 1 EN.nd (bR io (bR op_fdivL (pv 1) (bH GG hr rfl (ac (pv 1) (ac (bf (gN (K:=K)) (pv 2) ar) aj)))) (bf (gN (K:=K)) (pv 2) ar)))))
  (aC (bw (pv 1)))),?_⟩
 show let I:TS:=_;let C:TS:=_;let j:TS:=bN (i0 _ _ C) I;bN _ j _ _ _;intro I C j;refine⟨_,rfl,a,rfl,⟨_,bW.of ha⟩,gi (xs:=x) (λi σ H'=>∃(T:LU),σ=[some (.ref a),some (.int (jB (fs.take i))),T]/\H'=H) ⟨none,rfl,rfl⟩ (λi σ H' _ ⟨_,_,e⟩=>by rw[e];exact bW.of ha) ?_ ?_⟩;rintro i v σ H1 hv ⟨T,rfl,rfl⟩;obtain⟨g,hg⟩:=bA (l:=fs) (i:=i) (by rw[<-U.1];exact cw hv);obtain⟨p,rfl,hp⟩:=U.2 i v g hv hg;obtain⟨g1,g2⟩:=hb g (af hg);obtain⟨b1,b2,b3⟩:=vR (fs:=fs.take i) λy hy=>hb y (jC hy);have hG:=M11.G_le (t:=jB (fs.take i)) (dU g1);have J:=M11.G_pos (b:=g.2) b1;have b4:M11.Bn 20000 (jB (fs.take i)):=b3.mono (by rw[cm];lia);refine⟨_,rfl,_,rfl,_,rfl,p,_,_,.int g.2,rfl,rfl,dH.of hp,fK _ _ _,_,_,rfl,?_⟩;refine⟨_,_,rfl,rfl,⟨dU J,Nat.lt_trans (by lia:(M11.G (jB (fs.take i)) g.2).natAbs<2^20) (by decide)⟩,_,rfl,p,_,_,.int g.2,rfl,rfl,dH.of hp,fK _ _ _,_,_,rfl,rfl,⟨20020,by decide,?_,M11.Bn.mono (n:=20) g2 (by decide)⟩,some (.ref p),?_,rfl⟩;exact(M11.Bn.le b4 (zd J)).mono (by decide);rw[cU hg,Mx];rfl;rintro σ H1 ⟨T,rfl,rfl⟩;refine⟨_,rfl,?_⟩;rw[U.1,ce];exact q
def Cc (f:Int×Int)(b:Int):Int:=f.1*b.fdiv f.2
inductive sV (vs:LI)(H:Hp)(Q:VK):Prop|mk (p:Addr) (f:Int×Int) (b:Int) (_:vs=[.ref p,.int b]) (_:H p=some (j8 f)) (_:Bt f) (_:M11.Bn 20000 f.1) (_:M11.Bn 20000 b) (_:Q (.int (Cc f b)) H):sV vs H Q
def wy:Sp:=λvs H Q _=>sV vs H Q
theorem Gx:bv ["f","bottom"] ["f","bottom"] (aw qQ):={}
theorem CS (F:Fun K "top_over" "top_over" qQ f fd):cW P w K mg base gK 1 f fd ["f","bottom"] wy:=by refine F.q Gx λH vs _ _ h=>?_;obtain⟨p,g,b,rfl,hp,j,h1,hb,q⟩:=h;refine⟨_,aC (bw (bR io (bf (gN (K:=K)) (pv 0) ar) (bR op_fdivL (pv 1) (bf (gN (K:=K)) (pv 0) ar)))),?_⟩;refine⟨_,rfl,p,_,_,.int g.1,rfl,rfl,dH.of hp,eY _ _,_,rfl,_,rfl,p,_,_,.int g.2,rfl,rfl,dH.of hp,fK _ _ _,_,_,rfl,rfl,⟨dU j.1,Nat.lt_trans j.2 (by decide)⟩,_,_,rfl,rfl,⟨20000,by decide,h1,M11.Bn.le hb (zd j.1)⟩,q⟩
def Bm (n:Nat)(X:LB):Bool:=decide (X.length=n)&&X.all λx=>decide (x.length=n)
inductive Aq (vs:LI)(H:Hp)(Q:VK):Prop|mk (a:Addr) (X:LB) (n:Nat) (_:vs=[.ref a,.int (n:Int)]) (_:iL H a X) (_:X.length<=900) (_:n<=900) (_:(∀x∈X,x.length<=900)) (_:∀H',Same H H'->Q (.bl (Bm n X)) H'):Aq vs H Q
def JD:Sp:=λvs H Q _=>Aq vs H Q
theorem Qq:bv ["rows","size"] ["rows","size"] (aw xh):={}
def Dr (e:Expr)(i:Nat):Expr:=match e with
 | .BoolOp _ es _=>es.getD i (.Constant .none 0 ⟨0,0,0,0⟩)
 |_=>.Constant .none 0 ⟨0,0,0,0⟩
theorem rq:bootBuiltins "all"=some (.builtin "all"):=by decide+kernel
theorem all_map {α:Type}(f:α->Bool)(xs:List α):(xs.map f).all id=xs.all f:=by rw[List.all_map];rfl
theorem Lh {α:Type}(f:α->Bool)(xs:List α):(xs.map λx=>V.bl (f x))=(xs.map f).map V.bl:=by rw[cF];rfl
def ST (K:LO):List V->Hp->VK->Prop:=SU K
theorem Io (h:X.K=K:=by rfl):k5 X (.builtin "len") (ST K):=by subst h;exact bQ
structure IH (mg:LQ):Prop where
 len:mg "len"=none
 sum:mg "sum"=none
 zip:mg "zip"=none
 range:mg "range"=none
 all:mg "all"=none
theorem FH (a b:Nat):decide (V.int (a:Int)=V.int (b:Int))=decide (a=b):=by by_cases h:a=b;subst h;simp;rw[bq h,bq];intro z;exact h (Int.ofNat.inj (V.int.inj z))
theorem vM (a b:Int):decide (V.int a=V.int b)=decide (a=b):=by by_cases h:a=b;subst h;simp;rw[bq h,bq];intro z;exact h (V.int.inj z)
theorem Rg:cn (aw xh) ["rows","size"] (cX (oQ (Dr (eU (dM xh 0)) 1) 0)) ["row"]:={}
theorem NY (B:IH mg)(F:Fun K "is_square" "is_square" xh f fd):cW P w K mg base gK 1 f fd ["rows","size"] JD:=by
 refine F.q Qq λH vs _ C h=>?_;obtain⟨a,X,n,rfl,⟨rs,t,R⟩,hX,hn,hw,q⟩:=h;have l:=R.len;refine⟨_,aC (bw (nz (fH gh (bE bQ (by rfl) B.len bu (ac (pv 0) aj)) (pv 1) (bO _))
  (ny (bE (rp rfl) (by rfl) B.all rq (ac (il rfl Rg rfl (cK (pv 0)) λ_ _ _=>fH gh (bE (Io (K:=K)) (by rfl) B.len bu (ac (pv 2) aj)) (pv 1) (bO _)) aj))))),?_⟩
 refine⟨_,rfl,a,_,rfl,.inl (bW.of t),?_⟩;refine⟨_,rfl,rfl,_,rfl,?_⟩;rw[FH,aa,l];by_cases j:X.length=n;refine jr j ?_;refine⟨_,rfl,a,rfl,⟨_,bW.of t⟩,λD hD=>?_⟩;refine lO (X.map λx=>V.bl (decide (x.length=n))) (by rw[aa,aa,l]) (by rw[aa,l];exact hX) hD (bW.of t) ?_ ?_ ?_;intro i x v H' T U s';obtain⟨r,C,rfl⟩:=bJ T;obtain⟨y,J,rfl⟩:=bJ U;refine⟨_,rfl,r,_,rfl,.inl (bW.of (s' _ _ (R.row i r y C J))),_,rfl,rfl,?_,Same.refl _⟩;rw[FH];intro H' s' eD;refine⟨D,X.map λx=>decide (x.length=n),rfl,bW.of (by rw[eD,Lh]),?_⟩;rw[all_map];have:=q H' s';unfold Bm at this;rw[bi j,kh]at this;exact this;rintro σ H' Q1 Q2 hq ⟨v,e,p,ys,e1,e2,I,e3,e4,g⟩;exact⟨v,e,p,ys,e1,e2,I,e3,e4,hq _ _ g⟩;refine js j ?_;have:=q H (Same.refl _);unfold Bm at this;rw[bq j,lq]at this;exact this
def xQ (M:LA)(z:Int):Bool:=M.all λr=>decide (r.sum=z)
inductive Aw (vs:LI)(H:Hp)(Q:VK):Prop|mk (a:Addr) (M:LA) (z:Int) (_:vs=[.ref a,.int z]) (_:iL H a (gI M)) (_:M.length<=900) (_:∀H',Same H H'->Q (.bl (xQ M z)) H'):Aw vs H Q
def JI:Sp:=λvs H Q _=>Aw vs H Q
theorem Qu:bv ["rows","whole"] ["rows","whole"] (aw xk):={}
theorem Rl:cn (aw xk) ["rows","whole"] (cX (oQ (eU (dM xk 0)) 0)) ["row"]:={}
def SM (K:LO):List V->Hp->VK->Prop:=λxs H Q=>∃(p:Addr) (ns:LH),xs=[.ref p]/\bW K H p (ns.map V.int)/\Q (.int ns.sum) H
theorem Ik (g:X.calm=true)(h:X.K=K:=by rfl):k5 X (.builtin "sum") (SM K):=by subst h;exact jv g
theorem N4 (B:IH mg)(F:Fun K "come_to" "come_to" xk f fd):cW P w K mg base gK 1 f fd ["rows","whole"] JI:=by
 refine F.q Qu λH vs _ l h=>?_;obtain⟨a,M,z,rfl,⟨rs,t,R⟩,hM,q⟩:=h;have j:rs.length=M.length:=by rw[R.len,kX]
 refine⟨_,aC (bw (bE (rp rfl) (by rfl) B.all rq (ac (il rfl Rl rfl (cK (pv 0)) λ_ _ _=>fH gh (bE (Ik (K:=K) rfl) (by rfl) B.sum jx (ac (pv 2) aj)) (pv 1) (bO _)) aj))),?_⟩;refine⟨_,rfl,a,rfl,⟨_,bW.of t⟩,λD hD=>?_⟩;refine lO (M.map λr=>V.bl (decide (r.sum=z))) (by rw[aa,aa,j]) (by rw[aa,j];exact hM) hD (bW.of t) ?_ ?_ ?_;intro i x v H' J T s';obtain⟨r,l,rfl⟩:=bJ J;obtain⟨y,I,rfl⟩:=bJ T;refine⟨_,rfl,r,y,rfl,bW.of (s' _ _ (R.row i r _ l (sI I))),_,rfl,rfl,?_,Same.refl _⟩;rw[vM];intro H' s' eD;refine⟨D,M.map λr=>decide (r.sum=z),rfl,bW.of (by rw[eD,Lh]),?_⟩;rw[all_map];exact q H' s';rintro σ H' Q1 Q2 U ⟨v,e,p,ys,e1,e2,C,e3,e4,g⟩;exact⟨v,e,p,ys,e1,e2,C,e3,e4,U _ _ g⟩
theorem NF {a:Expr}(t:PE X a ta):PE X (.UnaryOp .Not a pos) (λσ H Q=>ta σ H λx H1=>∃k,RW X.K x H1 k/\Q (.bl (!k)) H1):=by with_unfolding_all
 intro pins s σ H Q I h;refine UnaryOp_ (gm (t pins s σ H _ I h) λv g ⟨x,H1,J,j,p⟩=>?_);exact not_of (gm (IZ pins g σ H1 x v (λk H'=>Q (.bl (!k)) H') J j p) λd T ⟨H2,C,l⟩=>⟨.bl (!d),H2,C,rfl,l⟩)
theorem Nf (σ:L2.St)(o:LU)(x:V):(σ++[o]).set σ.length (some x)=σ++[some x]:=by rw[mh _ _ (av _),iW];rfl
theorem Op (U:σ.length=N)(f:V->Bool)(C:bW K H1 a xs)(hm:xs.length<=900)(J:∀(x:V) (H':Hp) (R:Bool->Hp->Prop),x∈xs->R (f x) H'->tt (σ++[some x]) H' R)(T:∀(x:V) (H':Hp) (R:VK),R x H'->te (σ++[some x]) H' R)(hd:∀(D:Addr) (H':Hp),Same H1 H'->H' D=some (.lst (xs.filter f))->Q (.ref D) H'):Qc 1 (zu K a) (mV N) tt te σ H1 Q:=by
 subst U;intro D I;refine⟨λi m ys H'=>m=xs.length-i/\i<=xs.length/\ys=(xs.take i).filter f/\Same H1 H'/\H' D=some (.lst ys),⟨xs.length,by simp,bp _,rfl,Same.upd I,au⟩,?_⟩;rintro i m ys H2 ⟨rfl,hi,rfl,j,p⟩;refine⟨p,?_⟩;by_cases g:i<xs.length;obtain⟨x,l⟩:=bA g;refine .inr ⟨⟨_,_,Same.sq j C,l⟩,?_⟩;rintro z H3 ⟨rfl,hz⟩ os t;have hz:=hz _ (Same.sq j C);rw[l]at hz;cases hz;match os,t with|[o],_=>refine⟨⟨[some x],Nf σ o _,rfl⟩,?_⟩;rw[Nf σ o _];refine J x _ _ (af l) ?_;have lr:((xs.take i).filter f).length<=i:=bj (mi _ _) (by rw[cm];lia);by_cases e:f x=true;rw[if_pos e];refine T x _ _ ⟨p,cq (by lia),xs.length-(i+1),by lia,rfl,g,?_,λb o e=>?_,au⟩;rw[cU l,kD,cY e];rfl;rw[aW (aI e I)];exact j _ _ e;rw[if_neg e];exact⟨xs.length-(i+1),by lia,rfl,g,by rw[cU l,kD,cH e,List.filter_nil,iC],j,p⟩
 have:i=xs.length:=by lia
 subst this;rw[ce]at p;rw[ce];exact .inl ⟨⟨_,Same.sq j C,av _⟩,hd D H2 j p⟩
abbrev Fj:LM:=["shares","whole","below"]
theorem AD:bv Fj ["shares","whole"] (aw oX):={}
theorem Bh:cn (aw oX) Fj (cX (eU (dM oX 0))) ["share"]:={}
def S0 (v:V):Bool:=match v with| .int i=>decide (i<0)|_=>false
def oW (M:LA)(n:Nat)(z:Int):Bool:=(M.flatten.all λx=>decide (0<=x))&&(xQ M z&&xQ (oO M n) z)
theorem yY (M:LA):(gI M).flatten=M.flatten.map V.int:=by unfold gI;rw[List.map_flatten]
theorem K4 (xs:LH):((xs.map V.int).filter S0).isEmpty=xs.all λx=>decide (0<=x):=by induction xs with|nil=>rfl|cons x xs g=>rw[aJ,List.all_cons,<-g];by_cases h:x<0;rw[cY (by show decide (x<0)=true;exact bi h),bq (by lia)];rfl;rw[cH (by show¬decide (x<0)=true;rw[bq h];decide),bi (by lia)];rfl
theorem vG {n:Nat}:∀{M:LA},(∀x∈M,x.length=n)->M.flatten.length=M.length*n
 |[],_=>by simp
 |x::M,h=>by rw[dS,ah,vG λy g=>h y (aB _ g),h x aM,aH,Nat.succ_mul];lia
inductive uI (vs:LI)(H:Hp)(Q:VK):Prop|mk (a:Addr) (M:LA) (n:Nat) (z:Int) (_:vs=[.ref a,.int z]) (_:iL H a (gI M)) (_:M.length=n) (_:n<=16) (_:(∀x∈M,x.length=n)) (_:∀H',Same H H'->Q (.bl (oW M n z)) H'):uI vs H Q
def Af:Sp:=λvs H Q _=>uI vs H Q
theorem Hm (F:Fun K "are_shared_out" "are_shared_out" oX f fd)(GI:Cl P w K mg base "in_one_list" uY ["rows"] 1 yn)(GC:Cl P w K mg base "come_to" xk ["rows","whole"] 1 JI)(GS:Cl P w K mg base "columns_of" uZ ["rows"] 2 Cr):cW P w K mg base gK 3 f fd ["shares","whole"] Af:=by
 refine F.q AD λH vs _ hr h=>?_;obtain⟨a,M,n,z,rfl,g,hM,hn,T,q⟩:=h;have I:=hr.mono (j:=1) (by decide);have fl:=vG T;have fl2:M.length*n<=16*16:=gA (by lia) hn;refine⟨_,am (mK (i:=2) AD.nd rfl (Or.inl rfl) rfl Bh rfl (cK (bH GI I rfl (ac (pv 0) aj))) (yI Bh) (λ_ _ _=>yF (bV AO (pv 3) ar (bO _))) λ_ _ _=>pv 3)
  (aC (bw (nz (NF (pv 2)) (nz (bH GC I rfl (ac (pv 0) (ac (pv 1) aj)))
   (ny (bH GC I rfl (ac (bH GS hr rfl (ac (pv 0) aj)) (ac (pv 1) aj)))))))),?_⟩
 show let p:TS:=_;bN _ p _ _ _;intro p;refine⟨_,rfl,a,gI M,rfl,g,by rw[yY,aa];lia,λL H1 s1 nL eL=>?_⟩;rw[yY]at eL;refine⟨L,rfl,⟨_,bW.of eL⟩,?_⟩;refine Op rfl S0 (bW.of eL) (by rw[aa];lia) ?_ ?_ ?_;intro x H' R J U;obtain⟨i,_,rfl⟩:=aV.mp J;exact⟨_,rfl,_,_,rfl,rfl,_,rfl,U⟩;intro x H' R U;exact⟨_,rfl,U⟩;intro D H2 s2 eD;refine⟨_,rfl,_,.inl ⟨_,bW.of eD,rfl⟩,_,rfl,?_⟩;rw[K4,Bool.not_not];have l:=s1.trans s2;unfold oW at q;cases h1:M.flatten.all λx=>decide (0<=x)with|false=>refine gu ?_;have:=q H2 l;rw[h1]at this;exact this|true=>refine iV ?_;refine⟨_,rfl,_,rfl,a,M,z,rfl,g.mono l,by lia,λH3 s3=>⟨_,rfl,?_⟩⟩;rw[h1]at q;cases h2:xQ M z with|false=>refine gu ?_;have:=q H3 (l.trans s3);rw[h2]at this;exact this|true=>refine iV ?_;rw[h2]at q;have t:=l.trans s3;refine⟨_,rfl,a,gI M,n,rfl,g.mono t,by rw[kX];lia,by lia,λx J=>?_,λe=>?_,λC H4 s4 nC gC=>?_⟩;obtain⟨y,hy,rfl⟩:=aV.mp J;rw[aa];exact T y hy;have:M=[]:=List.map_eq_nil_iff.mp e;subst this;exact hM.symm;rw[FP T]at gC;exact⟨_,rfl,C,oO M n,z,rfl,gC,by unfold oO;rw[aa,aA];lia,λH5 s5=>q H5 ((t.trans s4).trans s5)⟩
def xG (h:Int)(hs xs:LH):Bool:=(List.zipWith (λx g=>decide (x=0)||decide (g=h)) xs hs).all id
inductive qK (vs:LI)(H:Hp)(Q:VK):Prop|mk (j g:Addr) (h:Int) (hs xs:LH) (_:vs=[.int h,.ref j,.ref g]) (_:H j=some (.lst (hs.map V.int))) (_:H g=some (.lst (xs.map V.int))) (_:xs.length=hs.length) (_:hs.length<=900) (_:∀H',Same H H'->Q (.bl (xG h hs xs)) H'):qK vs H Q
def uJ:Sp:=λvs H Q _=>qK vs H Q
abbrev mR:LM:=["hue","hues_there","shares"]
theorem CB:bv mR mR (aw kF):={}
theorem vp:cn (aw kF) mR (cX (oQ (eU (dM kF 0)) 0)) ["share","hue_there"]:={}
theorem AS (B:IH mg)(F:Fun K "keeps_hue" "keeps_hue" kF f fd):cW P w K mg base gK 1 f fd mR uJ:=by
 refine F.q CB λH vs _ _ h=>?_;obtain⟨hA,I,h,hs,xs,rfl,p,es,hl,hm,q⟩:=h;refine⟨_,aC (bw (bE (rp rfl) (by rfl) B.all rq (ac (yN rfl vp rfl (pX rfl B.zip (ac (pv 2) (ac (pv 1) aj))) (pY rfl vp) (λ_ _ _=>lJ)
  (λ_ _ _=>PJ (fH gh (pv 3) ar (bO _)) (ny (fH gh (pv 4) (pv 0) (bO _))))) aj))),?_⟩
 refine⟨_,rfl,_,rfl,I,hA,rfl,⟨_,bW.of es⟩,⟨_,bW.of p⟩,?_⟩;have j:(List.zipWith (λx g=>decide (x=0)||decide (g=h)) xs hs).length=hs.length:=by rw[j6,hl,Nat.min_self]
 refine Dc ((List.zipWith (λx g=>decide (x=0)||decide (g=h)) xs hs).map V.bl) rfl (bW.of es) (bW.of p) (by rw[aa,aa,j,hl]) (by rw[aa,aa,j]) (by rw[aa,j];lia) ?_ ?_ ?_;intro i x y v H' T J U s';obtain⟨x,ex,rfl⟩:=bJ T;obtain⟨y,ey,rfl⟩:=bJ J;obtain⟨b,t,rfl⟩:=bJ U;rw[vZ,ex,ey]at t;cases t;refine⟨_,rfl,rfl,_,rfl,?_⟩;rw[vM];by_cases h0:x=0;refine jr h0 ⟨?_,Same.refl _⟩;rw[bi h0,Bool.true_or];refine js h0 ⟨_,rfl,_,rfl,rfl,?_,Same.refl _⟩;rw[vM,bq h0,Bool.false_or];intro D H' s' eD;exact⟨D,_,rfl,bW.of eD,q H' s'⟩;rintro σ H' Q1 Q2 l ⟨v,e,e2,c,ec,g⟩;refine⟨v,e,e2,c,ec,?_⟩;cases c with|true=>exact l _ _ g|false=>obtain⟨C,e3,v4,e4,e5,g⟩:=g;exact⟨C,e3,v4,e4,e5,l _ _ g⟩
def vy (hs hs':LH)(M:LA):Bool:=(List.zipWith (λh x=>xG h hs' x) hs M).all id
inductive qL (vs:LI)(H:Hp)(Q:VK):Prop|mk (l j g:Addr) (hs hs':LH) (M:LA) (_:vs=[.ref l,.ref j,.ref g]) (_:H l=some (.lst (hs.map V.int))) (_:H j=some (.lst (hs'.map V.int))) (_:iL H g (gI M)) (_:M.length=hs.length) (_:hs.length<=900) (_:hs'.length<=900) (_:(∀x∈M,x.length=hs'.length)) (_:∀H',Same H H'->Q (.bl (vy hs hs' M)) H'):qL vs H Q
def uK:Sp:=λvs H Q _=>qL vs H Q
abbrev mS:LM:=["hues","hues_there","shares"]
theorem CC:bv mS mS (aw kH):={}
theorem vq:cn (aw kH) mS (cX (oQ (eU (dM kH 0)) 0)) ["hue","row"]:={}
theorem AT (B:IH mg)(F:Fun K "keep_hues" "keep_hues" kH f fd)(GK:Cl P w K mg base "keeps_hue" kF mR 1 uJ):cW P w K mg base gK 2 f fd mS uK:=by
 refine F.q CC λH vs _ hr h=>?_;obtain⟨hA,oA,sA,hs,hs',M,rfl,eh,eo,⟨rs,ea,R⟩,hl,hm,I,hw,q⟩:=h;have r1:=hr.mono (j:=1) (by decide);have U:rs.length=M.length:=by rw[R.len,kX]
 refine⟨_,aC (bw (bE (rp rfl) (by rfl) B.all rq (ac (yN rfl vq rfl (pX rfl B.zip (ac (pv 0) (ac (pv 2) aj))) (pY rfl vq) (λ_ _ _=>lJ)
  (λ_ _ _=>bH GK r1 rfl (ac (pv 3) (ac (pv 1) (ac (pv 4) aj))))) aj))),?_⟩
 refine⟨_,rfl,_,rfl,hA,sA,rfl,⟨_,bW.of eh⟩,⟨_,bW.of ea⟩,?_⟩;have C:(List.zipWith (λh x=>xG h hs' x) hs M).length=hs.length:=by rw[j6,hl,Nat.min_self]
 refine Dc ((List.zipWith (λh x=>xG h hs' x) hs M).map V.bl) rfl (bW.of eh) (bW.of ea) (by rw[aa,aa,C]) (by rw[aa,aa,C,U,hl]) (by rw[aa,C];lia) ?_ ?_ ?_;intro i x y v H' hx hy hv s';obtain⟨x,ex,rfl⟩:=bJ hx;obtain⟨r,er,rfl⟩:=bJ hy;obtain⟨b,eb,rfl⟩:=bJ hv;obtain⟨row,erow⟩:=bA (l:=M) (i:=i) (by rw[<-U];exact cw er);rw[vZ,ex,erow]at eb;cases eb;exact⟨_,rfl,_,rfl,_,rfl,oA,r,x,hs',row,rfl,s' _ _ eo,s' _ _ (R.row i r _ er (sI erow)),hw row (af erow),I,λH3 t=>⟨rfl,t⟩⟩;intro D H' s' eD;exact⟨D,_,rfl,bW.of eD,q H' s'⟩;rintro σ H' Q1 Q2 hq ⟨v,e,v',e',p,J,a1,a2,a3,a4,a5,a6,a7,a8,a9,T,g⟩;exact⟨v,e,v',e',p,J,a1,a2,a3,a4,a5,a6,a7,a8,a9,T,λH3 t=>hq _ _ (g H3 t)⟩
end
section
variable {K:LO}
end
section
variable {P:Program}{w:World}{K:LO}{mg:LQ}{base:Heap}
structure tT (mg:LQ):Prop where
 len:mg "len"=none
 range:mg "range"=none
 int:mg "int"=none
 sorted:mg "sorted"=none
 enum:mg "enumerate"=none
 sum:mg "sum"=none
 zip:mg "zip"=none
 list:mg "list"=none
 isi:mg "isinstance"=none
 bool:mg "bool"=none
 max:mg "max"=none
def BK (ns:LH)(z:Int):Int:=(ns[z.toNat]?).getD 0
inductive Ay (K:LO)(vs:LI)(H:Hp)(Q:VK):Prop|mk (a:Addr) (ns:LH) (z:Int) (_:vs=[.ref a,.int z]) (_:bW K H a (ns.map V.int)) (_:0<=z) (_:∀x,x=BK ns z->Q (.int x) H):Ay K vs H Q
def yp (K:LO):Sp:=λvs H Q _=>Ay K vs H Q
theorem Qv:bv ["_law_script","_law_k"] ["_law_script","_law_k"] (aw pd):={}
theorem N6 (B:tT mg)(F:Fun K "_law_cell_at" "_law_cell_at" pd f fd):cW P w K mg base gK 1 f fd ["_law_script","_law_k"] (yp K):=by
 refine F.q Qv λH vs _ _ h=>?_;obtain⟨a,ns,z,rfl,t,h0,k⟩:=h;refine⟨_,am (dX (bV AO (pv 1) (bE bQ (by rfl) B.len bu (ac (pv 0) aj)) (bO _)) (aC (bw (bf cD (pv 0) (pv 1)))) cE)
  (aC (bw ar)),?_⟩
 show let l:TS:=_;let g:TS:=_;bN (gL _ g _) l _ _ _;intro l g;refine⟨_,rfl,_,rfl,a,_,rfl,.inl t,_,_,rfl,rfl,_,rfl,?_⟩;by_cases hz:z<((ns.map V.int).length:Int);refine jr hz ?_;obtain⟨j,rfl⟩:=cC h0;have p:j<ns.length:=by rw[aa]at hz;lia
 refine⟨_,rfl,_,rfl,a,_,_,.int ns[j],rfl,rfl,t,cV (by simp[p]),k _ (by unfold BK;rw[bg,aq p];rfl)⟩;refine js hz (k _ ?_);unfold BK;rw[aa]at hz;rw[aY (by lia)];rfl
def Drawn (b:Int)(n:Nat)(ds:LH):Prop:=ds.length=n/\∀d∈ds,0<=d/\d<b
inductive wT (vs:LI)(H:Hp)(Q:VK):Prop|mk (c:Int) (n:Nat) (b:Int) (fr:Bool) (_:vs=[.int c,.int (n:Int),.int b,.bl fr]) (_:n<=100) (_:b<10000) (_:(0<b\/n=0)) (_:∀p ds H',Drawn b n ds->Same H H'->H p=none->H' p=some (.lst (ds.map V.int))->Q (.ref p) H'):wT vs H Q
def tX:Sp:=λvs H Q _=>wT vs H Q
abbrev Q6:LM:=["_law_cell","_law_many","_law_base","_law_free","_law_found","_law_rest","_law_k","_law_number"]
theorem ng:bv Q6 ["_law_cell","_law_many","_law_base","_law_free"] (aw rV):={}
theorem KW (B:tT mg)(F:Fun K "_law_draws" "_law_draws" rV f fd):cW P w K mg base gK 1 f fd ["_law_cell","_law_many","_law_base","_law_free"] tX:=by
 refine F.q ng λH vs _ _ h=>?_;obtain⟨c,n,b,fr,rfl,hn,hb1,hb0,q⟩:=h;refine⟨_,am (fk 4 ng.nd (dC aj))
  (am (fk 5 ng.nd (pv 0))
  (am (eQ PassesOwn.never rfl (fT rfl B.range (ac (pv 1) aj)) (l9 6 ng.nd)
   (aC (dX (PW.pt (pW (jK (pv 3)) (pW (bV jF (pv 5) ar (bO _)) (pe (bV jF (pv 5) (PH IU ar) (bO _))))))
    (am (g0 (mO bX dr dq ir (pv 4) (ac (bR gR (pv 5) (pv 2)) aj)))
    (aC (fk 5 ng.nd (bR nB (pv 5) (pv 2)))))
    (am (fk 7 ng.nd (bR gR (bR gt (pv 0) (bR i8 ar (pv 6))) ar))
    (am (fk 7 ng.nd (bR gR (bR gt (bR i8 (pv 7) (pv 7)) (pv 6)) ar))
    (aC (g0 (mO bX dr dq ir (pv 4) (ac (bR gR (bR gR (bR i8 (pv 7) (pv 7)) ar) (pv 2)) aj)))))))))
  (aC (bw (pv 4))))),?_⟩
 show let ω1:TS:=_;let ω2:TS:=_;let U:TS:=bN _ ω2;let T:TS:=_;let J:TS:=bN _ T;let I:TS:=bN _ J;let C:TS:=(gL _ U I);let t:TS:=bN (i0 _ _ C) ω1;let p:TS:=bN _ t;bN _ p _ _ _;intro ω1 ω2 U T J I C t p;refine⟨bp _,λR hR=>?_⟩;refine⟨_,rfl,?_⟩;refine⟨_,rfl,(n:Int),rfl,by lia,by lia,gG (n:=n) (λi σ H'=>∃(iG:Int) (o6 o7:LU) (ds:LH),σ=[some (.int c),some (.int (n:Int)),some (.int b),some (.bl fr),some (.ref R),some (.int iG),o6,o7]/\Same H H'/\H' R=some (.lst (ds.map V.int))/\Drawn b i ds) ?_ ?_ ?_⟩;exact⟨c,none,none,[],rfl,Same.upd hR,au,rfl,λd hd=>by cases hd⟩;rintro i σ H' hi ⟨iG,o6,o7,ds,rfl,s1,l,lD,bD⟩;have hb:0<b:=hb0.resolve_right (by lia);have app:∀x:Int,0<=x->x<b->Same H (upd H' R (.lst (ds.map V.int++[.int x])))/\upd H' R (.lst (ds.map V.int++[.int x])) R=some (.lst ((ds++[x]).map V.int))/\Drawn b (i+1) (ds++[x]):=by intro x h1 h2;refine⟨λb' o e=>by rw[aW (aI e hR)];exact s1 _ _ e,by rw[au,a0];rfl,by rw[ah,bY,lD],λd hd=>?_⟩;rcases be.mp hd with q'|q';exact bD d q';rw[aX]at q';subst q';exact⟨h1,h2⟩
 have sm:(ds.map V.int).length<sizeLine:=cq (by rw[aa,lD];lia);have z0:(0:Int)<=0+(i:Int):=by lia
 have z1:(0:Int)+(i:Int)<100:=by lia
 by_cases ht:fr=true/\iG≠0/\iG≠-1;obtain⟨rfl,g,j⟩:=ht;refine⟨_,rfl,_,rfl,iV ?_⟩;refine⟨_,rfl,rfl,_,rfl,tF (λz=>g (V.int.inj z)) ?_⟩;refine⟨_,rfl,_,rfl,rfl,_,rfl,tF (λz=>j (V.int.inj z)) ?_⟩;obtain⟨g1,g2,g3⟩:=app (iG%b) (fZ _ (by lia)) (eJ _ hb);refine⟨_,rfl,.inl ⟨rfl,_,bW.of l⟩,_,rfl,_,rfl,_,_,rfl,rfl,hb,R,_,_,rfl,rfl,l,sm,?_⟩;refine⟨_,rfl,_,rfl,_,_,rfl,rfl,⟨hb,by lia⟩,?_⟩;exact⟨_,_,_,_,rfl,g1,g2,g3⟩;have test:∀k:Bool->Hp->Prop,k false H'->Ql (tB (pQ 3)) (Ql (Jh (B1 UW (pQ 5) (tC (.int 0)))) (Jh (B1 UW (pQ 5) (VC (rU λi=>V.int (-i)) (tC (.int 1)))))) [some (.int c),some (.int (n:Int)),some (.int b),some (.bl fr),some (.ref R),some (.int iG),some (.int (0+(i:Int))),o7] H' k:=by intro k hk;cases fr with|false=>exact⟨_,rfl,_,rfl,gu hk⟩|true=>refine⟨_,rfl,_,rfl,iV ?_⟩;by_cases g:iG=0;exact⟨_,rfl,rfl,_,rfl,iP (by rw[g]) hk⟩;refine⟨_,rfl,rfl,_,rfl,tF (λz=>g (V.int.inj z)) ?_⟩;have j:iG=-1:=Classical.byContradiction λz=>ht ⟨rfl,g,z⟩;subst j;exact⟨_,rfl,_,rfl,rfl,_,rfl,hk⟩
 refine test _ (gu ?_);refine⟨_,rfl,_,rfl,_,_,rfl,rfl,ja (by decide) (by decide),_,_,rfl,rfl,_,_,rfl,rfl,(by show(0:Int)<2147483629;decide),?_⟩;have b1:=fZ (c+7919*(0+(i:Int))) (b:=2147483629) (by decide);have b2:=eJ (c+7919*(0+(i:Int))) (b:=2147483629) (by decide);obtain⟨x,ex⟩:∃x,x=(c+7919*(0+(i:Int)))%2147483629:=⟨_,rfl⟩;rw[<-ex]at b1 b2;refine⟨_,rfl,_,rfl,_,_,rfl,rfl,ja (by show _<(c+7919*(0+(i:Int)))%2147483629;rw[<-ex];lia) (by show(c+7919*(0+(i:Int)))%2147483629<_;rw[<-ex];lia),_,rfl,_,_,rfl,rfl,_,_,rfl,rfl,(by show(0:Int)<2147483629;decide),?_⟩;have c1:=fZ (x*x+(0+(i:Int))) (b:=2147483629) (by decide);have c2:=eJ (x*x+(0+(i:Int))) (b:=2147483629) (by decide);obtain⟨y,ey⟩:∃y,y=(x*x+(0+(i:Int)))%2147483629:=⟨_,rfl⟩;rw[<-ey]at c1 c2;rw[ex]at ey;obtain⟨g1,g2,g3⟩:=app (y*y%2147483587%b) (fZ _ (by lia)) (eJ _ hb);refine⟨_,rfl,.inl ⟨rfl,_,bW.of l⟩,_,rfl,_,rfl,_,_,rfl,rfl,ja (by rw[<-ey];lia) (by rw[<-ey];lia),_,_,rfl,rfl,(by show(0:Int)<2147483587;decide),_,rfl,_,_,rfl,rfl,hb,R,_,_,rfl,rfl,l,sm,?_⟩;rw[ey]at g1 g2 g3;exact⟨_,_,_,_,rfl,g1,g2,g3⟩;rintro σ H' ⟨iG,o6,o7,ds,rfl,s1,l,dD⟩;exact⟨_,rfl,q R ds H' dD s1 hR l⟩
def kr:Nat:=10^21
structure dw (H:Hp)(rs:LK)(M:LA):Prop where
 len:rs.length=M.length
 row:∀(i:Nat) (r:Addr) (x:LH),rs[i]?=some r->M[i]?=some x->H r=some (.lst (x.map V.int))
 nd:rs.Nodup
def ent (M:LA)(i j:Nat):Int:=((M[i]?.getD [])[j]?).getD 0
structure Sq (n:Nat)(M:LA):Prop where
 len:M.length=n
 row:∀(i:Nat) (x:LH),M[i]?=some x->x.length=n/\∀z∈x,z.natAbs<=kr
 sym:∀i j:Nat,i<n->j<n->ent M i j=ent M j i
def put (M:LA)(i j:Nat)(z:Int):LA:=M.set i ((M[i]?.getD []).set j z)
theorem rn (M:LA)(n i j a b:Nat)(z:Int)(hl:M.length=n)(p:∀(i:Nat) (x:LH),M[i]?=some x->x.length=n)(hi:i<n)(C:j<n):ent (put M i j z) a b=if a=i/\b=j then z else ent M a b:=by unfold ent put;by_cases l:a=i;subst l;rw[fO (by lia)];have g:∃x,M[a]?=some x:=⟨M[a]'(by lia),by simp[hl,hi]⟩;obtain⟨x,g⟩:=g;have t:=p a x g;rw[g];simp only[jQ];by_cases hb:b=j;subst hb;rw[fO (by lia)];simp;rw[gB (Ne.symm hb),if_neg λz=>hb z.2];rw[gB (Ne.symm l),if_neg λz=>l z.1]
theorem yE {n:Nat}(hl:M.length=n)(hz:z.natAbs<=kr)(C:∀(i:Nat) (x:LH),M[i]?=some x->x.length=n/\∀z∈x,z.natAbs<=kr):
  (put M i j z).length=n/\∀(k:Nat) (x:LH),(put M i j z)[k]?=some x->x.length=n/\∀z∈x,z.natAbs<=kr:=by
 unfold put;refine⟨by rw[gQ];exact hl,λk x g=>?_⟩;by_cases hk:k=i;subst hk;by_cases l:k<M.length;rw[fO l]at g;have g:=bK g;have t:M[k]?=some M[k]:=by simp[l]
 have I:=C k _ t;subst g;rw[t];simp only[jQ,gQ];refine⟨I.1,λy p=>?_⟩;rcases ql p with q|q;exact I.2 y q;rw[q];exact hz;rw[aY (by rw[gQ];lia)]at g;cases g;rw[gB (Ne.symm hk)]at g;exact C k x g
theorem Sq.put {n:Nat}(S:Sq n M)(hi:i<n)(l:j<n)(hz:z.natAbs<=kr):Sq n (put (put M i j z) j i z):=by obtain⟨l1,p⟩:=yE (i:=i) (j:=j) S.len hz S.row;obtain⟨l2,C⟩:=yE (i:=j) (j:=i) l1 hz p;refine⟨l2,C,λa b I hb=>?_⟩;have t:=λ(i:Nat) (x:LH) h=>(S.row i x h).1;have g:=λ(k:Nat) (x:LH) h=>(p k x h).1;rw[rn _ n j i a b z l1 g l hi,rn _ n j i b a z l1 g l hi,rn _ n i j a b z S.len t hi l,rn _ n i j b a z S.len t hi l];have:=S.sym a b I hb;by_cases h1:a=j/\b=i;rw[if_pos h1];by_cases h2:b=j/\a=i;rw[if_pos h2];rw[if_neg h2,if_pos ⟨h1.2,h1.1⟩];rw[if_neg h1];by_cases h2:a=i/\b=j;rw[if_pos h2,if_pos ⟨h2.2,h2.1⟩];rw[if_neg h2,if_neg λq=>h2 ⟨q.2,q.1⟩,if_neg λq=>h1 ⟨q.2,q.1⟩];exact this
theorem dw.put (R:dw H rs M)(p:rs[i]?=some r)(l:M[i]?=some x):
  dw (upd H r (.lst ((x.set j z).map V.int))) rs (put M i j z):=by
 unfold My.put;refine⟨by rw[gQ];exact R.len,λk g x' h1 h2=>?_,R.nd⟩;by_cases hk:k=i;subst hk;rw[p]at h1;cases h1;rw[fO (aZ.mp l).1,l]at h2;cases h2;exact au;rw[gB (Ne.symm hk)]at h2;have ne:g≠r:=λe=>by subst e;obtain⟨I,C⟩:=aZ.mp h1;obtain⟨p2,t⟩:=aZ.mp p;exact hk ((List.getElem_inj R.nd).mp (C.trans t.symm))
 rw[aW ne];exact R.row k g x' h1 h2
theorem dw.keep (R:dw H rs M)(k:∀r∈rs,∀o,H r=some o->H' r=some o):dw H' rs M:=
 ⟨R.len,λi r x h1 h2=>k r (af h1) _ (R.row i r x h1 h2),R.nd⟩
theorem dw.snoc {l:Addr}(R:dw H rs M)(k:∀r∈rs,∀o,H r=some o->H' r=some o)(hl:H' l=some (.lst (x.map V.int)))(g:l∉rs):dw H' (rs++[l]) (M++[x]):=by
 refine⟨by rw[ah,ah,R.len];rfl,λi r y h1 h2=>?_,?_⟩;by_cases hi:i<rs.length;rw[aN hi]at h1;rw[aN (by rw[<-R.len];exact hi)]at h2;exact k r (af h1) _ (R.row i r y h1 h2);rw[aE (by lia)]at h1;rw[aE (by rw[<-R.len];lia),<-R.len]at h2;cases e:i-rs.length with|zero=>rw[e]at h1 h2;cases h1;cases h2;exact hl|succ j=>rw[e]at h1;cases h1
 rw[jm];refine⟨R.nd,by simp,λa p b hb e=>?_⟩;rw[aX.mp hb]at e;exact g (e ▸ p)
theorem dw.get (R:dw H rs M)(h:i<rs.length):∃r x,rs[i]?=some r/\M[i]?=some x/\H r=some (.lst (x.map V.int)):=by
 have h1:rs[i]?=some rs[i]:=by simp[h]
 have h':i<M.length:=by rw[<-R.len];exact h
 have h2:M[i]?=some M[i]:=by simp[h']
 exact⟨_,_,h1,h2,R.row i _ _ h1 h2⟩
theorem lQ {n:Nat}(h:j<n):MV n (j:Int)=some j:=by unfold MV;rw[if_pos (by lia),if_pos (by lia)];simp
theorem mn (k:Nat):(List.replicate k [V.int 0]).flatten=(List.replicate k (0:Int)).map V.int:=by induction k with|zero=>rfl|succ k g=>rw[cT,dS,g,cT,aJ];rfl
theorem Ed (n:Nat):Sq n (List.replicate n (List.replicate n 0)):=by refine⟨cN,λi x g=>?_,λi j hi l=>?_⟩;rw[cz]at g;split at g;cases g;refine⟨cN,λz hz=>?_⟩;rw[List.eq_of_mem_replicate hz];exact bp _;cases g;unfold ent;rw[cz,cz,if_pos hi,if_pos l];simp only[jQ,cz,if_pos hi,if_pos l]
def mB (n u:Nat):Nat:=u*(2*n+1-u)/2
theorem I8:∀n,n<9->∀u,u<n->mB n u+(n-u)=mB n (u+1)/\mB n u+(n-u)<=n*(n+1)/2:=by decide
inductive uH (K:LO)(vs:LI)(H:Hp)(Q:VK):Prop|mk (n:Nat) (d:Addr) (y:Int) (ds:LH) (_:vs=[.int (n:Int),.ref d,.int y]) (_:n<=8) (_:bW K H d (ds.map V.int)) (_:Drawn 210 (n*(n+1)/2) ds) (_:∀(p:Addr) (rs:LK) (M:LA) (H':Hp),Same H H'->H p=none->(∀r∈rs,H r=none/\r≠p)->H' p=some (.lst (rs.map V.ref))->dw H' rs M->Sq n M->Q (.ref p) H'):uH K vs H Q
def Ad (K:LO):Sp:=λvs H Q _=>uH K vs H Q
abbrev Oe:LM:=["_law_many","_law_draws_here","_law_way","_law_rows","_law_u","_law_at","_law_v","_law_weight"]
theorem iT:bv Oe ["_law_many","_law_draws_here","_law_way"] (aw ud):={}
theorem U0:(10:Int)^(20:Int).toNat=100000000000000000000:=by decide
theorem Hl (B:tT mg)(F:Fun K "_law_square" "_law_square" ud f fd):cW P w K mg base gK 1 f fd ["_law_many","_law_draws_here","_law_way"] (Ad K):=by
 refine F.q iT λH vs _ hr h=>?_;obtain⟨k,d,y,ds,rfl,hk,hS,⟨lD,bD⟩,q⟩:=h;refine⟨_,am (fk 3 iT.nd (dC aj))
  (am (eQ PassesOwn.never rfl (fT rfl B.range (ac (pv 0) aj)) (l9 4 iT.nd)
   (aC (g0 (mO bX dr dq ir (pv 3) (ac (bR p7 (dC (ac ar aj)) (pv 0)) aj)))))
  (am (fk 5 iT.nd ar)
  (am (eQ PassesOwn.never rfl (fT rfl B.range (ac (pv 0) aj)) (l9 4 iT.nd)
   (aC (eQ PassesOwn.never rfl (xz rfl B.range (ac (pv 4) (ac (pv 0) aj))) (l9 6 iT.nd)
    (am (fk 7 iT.nd (bR i8 (bR gR (bf cD (pv 1) (pv 5)) ar) (kJ sM (by rfl) B.int boot_int (ac (fH AO (pv 4) (pv 6) (bO _)) aj))))
    (iX (dX (bV gh (pv 2) ar (bO _)) (aC (fk 7 iT.nd (bR vh (bR gR (bf cD (pv 1) (pv 5)) ar) ar))) cE)
    (iX (dX (bV gh (pv 2) ar (bO _)) (aC (fk 7 iT.nd (bR gt (bR i8 (bR vh (bR gR (bf cD (pv 1) (pv 5)) ar) ar) (bR QI ar ar)) (bR gR (bf cD (pv 1) (pv 5)) ar)))) cE)
    (am (jM (pv 7) (oH (bf cD (pv 3) (pv 4)) (pv 6) jY))
    (am (jM (pv 7) (oH (bf cD (pv 3) (pv 6)) (pv 4) jY))
    (aC (fk 5 iT.nd (bR gt (pv 5) ar)))))))))))
  (aC (bw (pv 3)))))),?_⟩
 show let ω1:TS:=_;let ω2:TS:=_;let ω3:TS:=bN _ ω2;let ω4:TS:=bN _ ω3;let ω5:TS:=_;let ω6:TS:=rG (gL _ ω5 _) ω4;let ω7:TS:=_;let ω8:TS:=rG (gL _ ω7 _) ω6;let ω9:TS:=bN _ ω8;let ω10:TS:=(i0 _ _ ω9);let ω11:TS:=bN (i0 _ _ ω10) ω1;let ω12:TS:=bN _ ω11;let U:TS:=_;let T:TS:=bN (i0 _ _ U) ω12;bN _ T _ _ _;intro ω1 ω2 ω3 ω4 ω5 ω6 ω7 ω8 ω9 ω10 ω11 ω12 U T;refine⟨bp _,λD hD=>?_⟩;refine⟨_,rfl,(k:Int),rfl,by lia,by lia,gG (n:=k) (λi σ H'=>∃(g:LU) (rs:LK),σ=[some (.int (k:Int)),some (.ref d),some (.int y),some (.ref D),g,none,none,none]/\rs.length=i/\Same H H'/\H' D=some (.lst (rs.map V.ref))/\
  dw H' rs (List.replicate i (List.replicate k 0))/\∀r∈rs,H r=none/\r≠D) ⟨none,[],rfl,rfl,Same.upd hD,au,⟨rfl,(λi r x h _=>by cases h),fM⟩,(λr hr=>by cases hr)⟩ ?_ ?_⟩
 rintro i σ H4 hlt ⟨g,rs,rfl,l4,c4,eD,R4,g⟩;refine⟨_,rfl,.inl ⟨rfl,_,bW.of eD⟩,F4,λl1 hl1=>?_⟩;refine⟨_,rfl,l1,(k:Int),_,rfl,rfl,au,by lia,by lia,cu (cq (by show 1*(k:Int).toNat<=1000;lia)),λl2 C=>?_⟩;have n21:l2≠l1:=(aI au C).symm;have hl2':H4 l2=none:=by rw[aW n21]at C;exact C
 have sm:Same H4 (upd (upd H4 l1 (.lst [.int 0])) l2 (.lst (List.replicate (k:Int).toNat [V.int 0]).flatten)):=(Same.upd hl1).trans (Same.upd C);have el:upd (upd H4 l1 (.lst [.int 0])) l2 (.lst (List.replicate (k:Int).toNat [V.int 0]).flatten) l2=some (.lst ((List.replicate k (0:Int)).map V.int)):=by rw[au,bg,mn]
 generalize upd (upd H4 l1 (.lst [.int 0])) l2 (.lst (List.replicate (k:Int).toNat [V.int 0]).flatten)=H5 at sm el ⊢;have l2D:l2≠D:=(aI eD hl2').symm;have l2r:l2∉rs:=λhm=>by
  obtain⟨j,hj,e⟩:=zo hm;obtain⟨r,x,g1,g2,g3⟩:=R4.get hj;have:rs[j]?=some l2:=by rw[aq hj,e]
  rw[g1]at this;cases this;rw[g3]at hl2';cases hl2'
 refine⟨D,_,_,rfl,rfl,sm _ _ eD,cq (by rw[aa];lia),?_⟩;refine⟨_,rs++[l2],rfl,by rw[ah,l4];rfl,λb o e=>?_,by rw[a0];exact au,?_,?_⟩;rw[aW (aI e hD)];exact sm _ _ (c4 _ _ e);have R5:dw H5 (rs++[l2]) (List.replicate i (List.replicate k 0)++[List.replicate k 0]):=R4.snoc (λr _ o e=>sm r o e) el l2r;rw[<-List.replicate_succ']at R5;refine R5.keep λr hr o e=>?_;have:r≠D:=by rcases be.mp hr with z|z;exact(g r z).2;rw[aX.mp z];exact l2D
 rw[aW this];exact e;intro r hr;rcases be.mp hr with z|z;exact g r z;rw[aX.mp z];exact⟨c4.free hl2',l2D⟩;rintro σ H4 ⟨g,rs,rfl,l4,c4,eD,R4,g⟩;refine⟨_,rfl,(k:Int),rfl,by lia,by lia,gG (n:=k) (λu σ H'=>∃(g o6 o7:LU) (M:LA),σ=[some (.int (k:Int)),some (.ref d),some (.int y),some (.ref D),g,some (.int (mB k u:Nat)),o6,o7]/\Same H H'/\H' D=some (.lst (rs.map V.ref))/\
  dw H' rs M/\Sq k M) ⟨_,_,_,_,by rw[show mB k 0=0 by simp[mB]];rfl,c4,eD,R4,Ed k⟩ ?_ ?_⟩
 rintro u σ H5 hu ⟨o4',o6,o7,M,rfl,c5,eD5,R5,S5⟩;obtain⟨tr1,tr2⟩:=I8 k (by lia) u hu;refine⟨_,rfl,_,rfl,(0+(u:Nat):Int),(k:Int),rfl,⟨by lia,by lia,by lia,by lia⟩,?_⟩;have eu:((k:Int)-(0+(u:Nat):Int)).toNat=k-u:=by lia
 rw[eu];refine gG (lo:=(0+(u:Nat):Int)) (n:=k-u) (λv σ H'=>∃(o6 o7:LU) (M:LA),σ=[some (.int (k:Int)),some (.ref d),some (.int y),some (.ref D),some (.int (0+(u:Nat):Int)),some (.int ((mB k u+v:Nat):Int)),o6,o7]/\Same H H'/\H' D=some (.lst (rs.map V.ref))/\
  dw H' rs M/\Sq k M) ⟨_,_,M,rfl,c5,eD5,R5,S5⟩ ?_ ?_
 rintro v σ H6 hv ⟨o6,o7,M,rfl,c6,J,R6,S6⟩;have t:mB k u+v<ds.length:=by rw[lD];lia
 have p:pK (ds.map V.int) ((mB k u+v:Nat):Int)=some (.int (ds[mB k u+v]'t)):=cV (by rw[ao,aq t];rfl);obtain⟨d0,d1⟩:=bD _ (List.getElem_mem t);generalize ds[mB k u+v]'t=x at p d0 d1;have I:=c6.seq hS;refine⟨_,rfl,_,rfl,d,_,_,_,rfl,rfl,I,p,_,_,rfl,rfl,(by show(0:Int)<2;decide),_,rfl,_,rfl,_,_,rfl,rfl,?_⟩;have wm:kr=1000000000000000000000:=by decide
 have hu':∀b:Bool,(x%2*(if b=true then 1 else 0)).natAbs<=kr:=by intro b;rw[wm];cases b;rw[if_neg (by decide)];lia;rw[if_pos rfl];lia
 refine .inr ⟨_,rfl,_,_,rfl,rfl,ja (by show _<x%2;lia) (by show x%2<_;lia),?_⟩;have w0:=hu' (decide ((0+(u:Nat):Int)<(0+(u:Nat)+(v:Nat):Int)));refine⟨λl H'=>∃z:Int,z.natAbs<=kr/\l=[some (.int (k:Int)),some (.ref d),some (.int y),some (.ref D),some (.int (0+(u:Nat):Int)),some (.int ((mB k u+v:Nat):Int)),some (.int (0+(u:Nat)+(v:Nat):Int)),some (.int z)]/\H'=H6,?_,?_⟩;by_cases h1:y=1;refine⟨_,rfl,rfl,_,rfl,jr (by rw[h1]) ?_⟩;refine⟨_,rfl,_,rfl,d,_,_,_,rfl,rfl,I,p,_,_,rfl,rfl,(by show(0:Int)<7;decide),_,_,rfl,rfl,?_⟩;exact⟨x%7-3,by rw[wm];lia,rfl,rfl⟩;refine⟨_,rfl,rfl,_,rfl,js (λz=>h1 (V.int.inj z)) ?_⟩;exact⟨_,w0,rfl,rfl⟩;rintro l H' ⟨w2,w2b,rfl,rfl⟩;refine⟨λl H''=>∃z:Int,z.natAbs<=kr/\l=[some (.int (k:Int)),some (.ref d),some (.int y),some (.ref D),some (.int (0+(u:Nat):Int)),some (.int ((mB k u+v:Nat):Int)),some (.int (0+(u:Nat)+(v:Nat):Int)),some (.int z)]/\H''=H',?_,?_⟩;by_cases h1:y=2;refine⟨_,rfl,rfl,_,rfl,jr (by rw[h1]) ?_⟩;refine⟨_,rfl,_,rfl,d,_,_,_,rfl,rfl,I,p,_,_,rfl,rfl,(by show(0:Int)<5;decide),_,_,rfl,rfl,_,_,rfl,rfl,⟨by decide,by decide,by decide⟩,_,_,rfl,rfl,ja (by show _<x%5-2;lia) (by show x%5-2<_;lia),?_⟩;refine⟨_,rfl,_,rfl,d,_,_,_,rfl,rfl,I,p,_,_,rfl,rfl,(by show(0:Int)<3;decide),_,_,rfl,rfl,?_⟩;exact⟨(x%5-2)*10^(20:Int).toNat+x%3,by rw[wm,U0];lia,rfl,rfl⟩;refine⟨_,rfl,rfl,_,rfl,js (λz=>h1 (V.int.inj z)) ?_⟩;exact⟨w2,w2b,rfl,rfl⟩;rintro l H7 ⟨z,hz,rfl,rfl⟩;obtain⟨ru,xu,g1,g2,g3⟩:=R6.get (i:=u) (by lia);have hru:=g ru (af g1);have lxu:=(S6.row u xu g2).1;have a1:pK (rs.map V.ref) (0+(u:Nat):Int)=some (.ref ru):=by rw[fQ];exact cV (by rw[ao,g1];rfl)
 have euv:(0+(u:Nat)+(v:Nat):Int)=((u+v:Nat):Int):=by lia
 refine⟨_,rfl,_,rfl,_,rfl,D,_,_,_,rfl,rfl,bW.of J,a1,_,rfl,ru,_,_,u+v,rfl,rfl,g3,by rw[euv,aa];exact lQ (by lia),?_⟩;rw[<-jS];have R8:=R6.put (j:=u+v) (z:=z) g1 g2;have c8:Same H (upd H7 ru (.lst ((xu.set (u+v) z).map V.int))):=λb o e=>by rw[aW (aI e hru.1)];exact c6 _ _ e
 have eD8:upd H7 ru (.lst ((xu.set (u+v) z).map V.int)) D=_:=(aW hru.2.symm).trans J;generalize upd H7 ru (.lst ((xu.set (u+v) z).map V.int))=H8 at R8 c8 eD8 ⊢;obtain⟨rv,xv,k1,k2,k3⟩:=R8.get (i:=u+v) (by lia);have hrv:=g rv (af k1);have lxv:=((yE (i:=u) (j:=u+v) S6.len hz S6.row).2 (u+v) xv k2).1;have a2:pK (rs.map V.ref) (0+(u:Nat)+(v:Nat):Int)=some (.ref rv):=by rw[euv];exact cV (by rw[ao,k1];rfl)
 refine⟨_,rfl,_,rfl,_,rfl,D,_,_,_,rfl,rfl,bW.of eD8,a2,_,rfl,rv,_,_,u,rfl,rfl,k3,by rw[fQ,aa];exact lQ (by lia),?_⟩;rw[<-jS];refine⟨_,rfl,_,_,rfl,rfl,?_⟩;refine⟨some (.int (0+(u:Nat)+(v:Nat):Int)),some (.int z),_,?_,λb o e=>?_,(aW hrv.2.symm).trans eD8,R8.put (j:=u) (z:=z) k1 k2,S6.put (by lia) (by lia) hz⟩;rfl;rw[aW (aI e hrv.1)];exact c8 _ _ e;rintro σ H6 ⟨o6,o7,M,rfl,c6,J,R6,S6⟩;exact⟨_,_,_,M,by rw[tr1],c6,J,R6,S6⟩;rintro σ H5 ⟨o4',o6,o7,M,rfl,c5,eD5,R5,S5⟩;exact⟨_,rfl,q D rs M H5 c5 hD g eD5 R5 S5⟩
theorem Ks {l:Expr}(hl:PE X l tl)(h:X.K=K:=by rfl):PI X tg l (P2 K tl):=by subst h;exact cK hl
structure MO (H:Hp)(p hA rA:Addr)(rs:LK)(n:Nat)(hs:LH)(M:LA):Prop where
 tup:H p=some (.tup [.ref hA,.ref rA])
 hue:H hA=some (.lst (hs.map V.int))
 rws:H rA=some (.lst (rs.map V.ref))
 row:dw H rs M
 len:hs.length=n
 pos:∀z∈hs,0<=z/\z<3
 sq:Sq n M
def Vr (H:Hp)(p g rA:Addr)(rs:LK):Prop:=(∀a∈p::g::rA::rs,H a=none)/\g≠rA/\g∉rs/\rA∉rs
inductive z9 (K:LO)(vs:LI)(H:Hp)(Q:VK):Prop|mk (a:Addr) (ns:LH) (t:Int) (n:Nat) (fr:Bool) (_:vs=[.ref a,.int t,.int (n:Int),.bl fr]) (_:bW K H a (ns.map V.int)) (_:0<=t) (_:n<=8) (_:∀(p g rA:Addr) (rs:LK) (hs:LH) (M:LA) (H':Hp),Same H H'->Vr H p g rA rs->MO H' p g rA rs n hs M->Q (.ref p) H'):z9 K vs H Q
def Jq (K:LO):Sp:=λvs H Q _=>z9 K vs H Q
abbrev PM:LM:=["_law_script","_law_at","_law_many","_law_free","_law_draws_here","_law_hues","_law_way","_law_square_here"]
abbrev MI:LM:=["_law_script","_law_at","_law_many","_law_free"]
theorem uR:bv PM MI (aw w6):={}
theorem Rb:cn (aw w6) PM (cX (eU (dM w6 1))) ["_law_draw"]:={}
theorem vP (ns:LH)(n:Nat)(h:n<=ns.length):oN (ns.map V.int) none (some (n:Int))=(ns.take n).map V.int:=by unfold oN;rw[HT.sIx_none,HT.sIx_nat,List.drop_zero,aa,jc h,Nat.sub_zero,List.map_take]
theorem NJ (B:tT mg)(F:Fun K "_law_web" "_law_web" w6 f fd)(GC:Cl P w K mg base "_law_cell_at" pd ["_law_script","_law_k"] 1 (yp K))(GD:Cl P w K mg base "_law_draws" rV ["_law_cell","_law_many","_law_base","_law_free"] 1 tX)(GS:Cl P w K mg base "_law_square" ud ["_law_many","_law_draws_here","_law_way"] 1 (Ad K)):cW P w K mg base gK 2 f fd MI (Jq K):=by
 refine F.q uR λH vs _ C h=>?_;obtain⟨a,ns,t,n,fr,rfl,hS,ht,hn,q⟩:=h;refine⟨_,am (fk 4 uR.nd (bH GD C rfl (ac (bH GC C rfl (ac (pv 0) (ac (pv 1) aj))) (ac (bR gt (pv 2) ar) (ac ar (ac (pv 3) aj))))))
  (am (mM (i:=5) uR.nd rfl (Or.inl rfl) rfl Rb rfl (cK (jp lH (pv 4) lK (jV (pv 2)))) λ_ _ _=>bR i8 (pv 8) (kJ sM (by rfl) B.int boot_int (ac (fH AQ (bf (fB (K:=K)) (pv 4) (pv 2)) ar (bO _)) aj)))
  (am (fk 6 uR.nd (bR gR (bH GC C rfl (ac (pv 0) (ac (bR gt (pv 1) ar) aj))) ar))
  (am (fk 7 uR.nd (bH GS C rfl (ac (pv 2) (ac (bH GD C rfl (ac (bH GC C rfl (ac (pv 0) (ac (bR gt (pv 1) ar) aj))) (ac (bR nB (bR i8 (pv 2) (bR gt (pv 2) ar)) ar) (ac ar (ac (pv 3) aj))))) (ac (pv 6) aj)))))
  (aC (bw (dm (ac (pv 5) (ac (pv 7) aj)))))))),?_⟩
 show let ω1:TS:=_;let ω2:TS:=bN _ ω1;let ω3:TS:=bN _ ω2;let ω4:TS:=bN _ ω3;bN _ ω4 _ _ _;intro ω1 ω2 ω3 ω4;refine⟨_,rfl,_,rfl,a,ns,t,rfl,hS,ht,λc1 _=>?_⟩;refine⟨_,rfl,_,_,rfl,rfl,_,rfl,c1,n+1,3,fr,rfl,by lia,by decide,.inl (by decide),λd ds H1 hd s1 nd ed=>?_⟩;obtain⟨ld,bd⟩:=hd;refine⟨_,rfl,_,rfl,_,rfl,d,_,rfl,bW.of ed,λp hp=>?_⟩;rw[vP ds n (by lia)];have ep:upd H1 p (.lst ((ds.take n).map V.int)) p=some (.lst ((ds.take n).map V.int)):=au;have s2:Same H (upd H1 p (.lst ((ds.take n).map V.int))):=s1.trans (Same.upd hp);have ed2:upd H1 p (.lst ((ds.take n).map V.int)) d=some (.lst (ds.map V.int)):=by rw[aW (aI ed hp)];exact ed
 generalize upd H1 p (.lst ((ds.take n).map V.int))=H2 at ep s2 ed2 ⊢;refine⟨p,rfl,⟨_,bW.of ep⟩,λD hD=>?_⟩;have J:n<ds.length:=by lia
 have hat:pK (ds.map V.int) (n:Int)=some (.int (ds[n]'J)):=cV (by rw[ao,aq J];rfl);generalize ds[n]'J=x at hat;refine kA (K:=K) (xs:=(ds.take n).map V.int) (λi ys H'=>∃hs:LH,ys=hs.map V.int/\hs.length=i/\Same H2 H'/\H' D=some (.lst ys)/\∀z∈hs,0<=z/\z<3) ?_ ?_ ?_ ?_ ?_;exact⟨[],rfl,rfl,Same.upd hD,au,λz hz=>by cases hz⟩;rintro i ys H' _ ⟨hs,rfl,lt,U,T,_⟩;exact⟨U.seq (bW.of ep),T⟩;rintro i v ys H' hv ⟨hs,rfl,lt,U,T,hb⟩;obtain⟨z,hz,rfl⟩:=bJ hv;have zb:=bd z (jC (af hz));have li:=(aZ.mp hz).1;rw[cm]at li;refine⟨_,rfl,_,rfl,_,rfl,d,_,_,_,rfl,rfl,bW.of (U _ _ ed2),hat,_,_,rfl,rfl,.inr ⟨_,rfl,_,_,rfl,rfl,ja (by lia) (by lia),?_⟩⟩;refine⟨T,cq (by rw[aa];lia),hs++[z*(if decide (0<x)=true then 1 else 0)],by rw[a0];rfl,by rw[ah,lt];rfl,λb o e=>?_,au,?_⟩;rw[aW (aI e hD)];exact U _ _ e;intro y hy;rcases be.mp hy with g|g;exact hb y g;rw[aX.mp g];split<;>lia;rintro ys H3 ⟨hs,rfl,lt,U,T,hb⟩;rw[aa,cm,jc (by lia)]at lt;have c3:=s2.trans U;have nD:H D=none:=s2.free hD;refine⟨_,rfl,_,rfl,_,_,rfl,rfl,a,ns,t+2,rfl,c3.seq hS,by lia,λc2 _=>⟨_,_,rfl,rfl,(by show(0:Int)<4;decide),?_⟩⟩;refine⟨_,rfl,_,rfl,_,rfl,_,_,rfl,rfl,a,ns,t+1,rfl,c3.seq hS,by lia,λc4 _=>?_⟩;have en:(n:Int)*((n:Int)+1)/2=((n*(n+1)/2:Nat):Int):=by rw[show(n:Int)*((n:Int)+1)=((n*(n+1):Nat):Int) by push_cast;rfl];rfl
 have nb:n*(n+1)/2<=100:=by have:n*(n+1)<=8*9:=gA hn (by lia);lia
 refine⟨_,rfl,_,rfl,_,_,rfl,rfl,_,_,rfl,rfl,ja (by lia) (by lia),_,_,rfl,rfl,⟨by decide,by decide⟩,?_⟩;refine⟨_,rfl,c4,n*(n+1)/2,210,fr,?_,nb,by decide,.inl (by decide),λd' ds' H4 hd' s4 nd' ed'=>?_⟩;show[V.int c4,V.int ((n:Int)*((n:Int)+1)/2),_,_]=_;rw[en];have c5:=c3.trans s4;refine⟨_,rfl,n,d',c2%4,ds',rfl,hn,bW.of ed',hd',λR rs M H5 s5 nR l eR RR SR=>?_⟩;have eD5:=s5 _ _ (s4 _ _ T);refine⟨_,rfl,_,rfl,k9,λp' I=>?_⟩;have c6:=c5.trans s5;have np:=λ{b:Addr} {o:HO} (e:H5 b=some o)=>aI e I;have nDR:D≠R:=λz=>by subst z;rw[s4 _ _ T]at nR;cases nR
 refine q p' D R rs hs M _ (c6.trans (Same.upd I)) ⟨?_,nDR,λz=>?_,λz=>(l _ z).2 rfl⟩ ⟨au,by rw[aW (np eD5)];exact eD5,by rw[aW (np eR)];exact eR,RR.keep λr C o e=>by rw[aW (np e)];exact e,lt,hb,SR⟩;intro b j;rcases bT.mp j with rfl|j;exact c6.free I;rcases bT.mp j with rfl|j;exact nD;rcases bT.mp j with rfl|j;exact c5.free nR;exact c5.free (l b j).1;have:=(l _ z).1;rw[s4 _ _ T]at this;cases this;rintro σ H' Q1 Q2 hq ⟨v1,e1,v2,e2,v3,e3,a1,a2,a3,a4,b1,b2,b3,b4,i1,i2,j1,j2,g⟩;refine⟨v1,e1,v2,e2,v3,e3,a1,a2,a3,a4,b1,b2,b3,b4,i1,i2,j1,j2,?_⟩;rcases g with⟨i,f1,m1,m2,f2,f3,f4,f5⟩|⟨i,f1,m1,m2,f2,f3,f4,f5⟩;exact .inl ⟨i,f1,m1,m2,f2,f3,f4,hq _ _ f5⟩;exact .inr ⟨i,f1,m1,m2,f2,f3,f4,hq _ _ f5⟩
structure IG (mg:LQ):Prop where
 len:mg "len"=none
 zip:mg "zip"=none
 list:mg "list"=none
 tuple:mg "tuple"=none
section
variable {κ:Type}[DecidableEq κ]
def cr (s:List κ)(k:κ):List κ:=if k∈s then s else s++[k]
def dY (s:List κ):List κ->LL
 |[]=>[]
 |k::ks=>s.idxOf k::dY (cr s k) ks
def mP (ks:List κ):LL:=dY [] ks
theorem ma (k:κ):∀(ks s:List κ),dY s (ks++[k])=dY s ks++[(ks.foldl cr s).idxOf k]
 |[],s=>rfl
 |x::ks,s=>by show s.idxOf x::dY (cr s x) (ks++[k])=_;rw[ma k ks];rfl
theorem nF:∀(ks s:List κ),(dY s ks).length=ks.length
 |[],_=>rfl
 |_::ks,s=>by simp[dY,nF ks]
theorem EG:∀(ks s:List κ),(ks.foldl cr s).length<=s.length+ks.length
 |[],s=>av _
 |k::ks,s=>by
  have:=EG ks (cr s k);have e:(cr s k).length<=s.length+1:=by unfold cr;split;lia;rw[ah,bY];lia
  rw[iB,aH];lia
theorem MS (k:κ):∀(l:List (κ×V×V)) (o:Nat),(∀(j:Nat) (x:κ×V×V),l[j]?=some x->x.2.2=.int ((o+j:Nat):Int))->
  KL l k=if k∈l.map (·.1)then some (.int ((o+(l.map (·.1)).idxOf k:Nat):Int))else none
 |[],_,_=>rfl
 |x::l,o,h=>by
  have g:=MS k l (o+1) λj y e=>by rw[h (j+1) y (by simpa using e)];congr 2;lia
  by_cases e:x.1=k;have h0:=h 0 x rfl;rw[show KL (x::l) k=some x.2.2 by simp[KL,e],h0];simp[og,e];rw[show KL (x::l) k=KL l k by simp[KL,e],g];by_cases m:k∈l.map (·.1);rw[aJ,if_pos m,if_pos (aB _ m),og,(by simpa using e:(x.1==k)=false),cond_false];congr 3;lia;rw[aJ,if_neg m,if_neg (by rw[bT];rintro(q|q);exact e q.symm;exact m q)]
end
def Jv (K:LO){κ:Type}[DecidableEq κ](key:Hp->V->κ->Prop):Sp:=λvs H Q _=>∃(a:Addr) (ys:LI) (ks:List κ),vs=[.ref a]/\bW K H a ys/\ys.length=ks.length/\ks.length<=1000/\
 (∀(j:Nat) (y:V) (k:κ),ys[j]?=some y->ks[j]?=some k->key H y k)/\∀p H',Same H H'->H p=none->H' p=some (.lst ((mP ks).map λ(n:Nat)=>V.int (n:Int)))->Q (.ref p) H'
abbrev U4:LM:=["marks","numbers","lots","mark"]
theorem EK:bv U4 ["marks"] (aw mG):={}
theorem QO {κ:Type}[DecidableEq κ]{obj:Addr->List (κ×V×V)->HO}{key:Hp->V->κ->Prop}(kd:∀X:Cx,X.prog=P->X.w=w->X.A.units+64<cLine->Kd X κ obj key)(ks':∀{H H':Hp} {y:V} {k:κ},Same H H'->key H y k->key H' y k)(B:IG mg)(F:Fun K "numbered" "numbered" mG f fd):cW P w K mg base gK 1 f fd ["marks"] (Jv K key):=by
 refine F.qq EK λH vs _ hr h=>?_;obtain⟨a,ys,ks,rfl,hy,hl,hz,hk,q⟩:=h;have KD:=λX e1 e2 e3=>kd X e1 e2 e3;refine⟨_,am (fk 1 EK.nd ((kd _ rfl rfl hr.units).new _))
  (am (fk 2 EK.nd (dC aj))
  (am (eQ PassesOwn.never rfl (cK (pv 0)) (l9 3 EK.nd)
   (aC (g0 (mO bX dr dq ir (pv 2)
    (ac (NE (kd _ rfl rfl hr.units) (pv 1) (pv 3) (bE (kd _ rfl rfl hr.units).len (by rfl) B.len bu (ac (pv 1) aj)) ⟨rfl,rfl,rfl,rfl⟩) aj)))))
  (aC (bw (pv 2))))),?_⟩
 show let ω1:TS:=_;let U:TS:=_;let T:TS:=bN (i0 _ _ U) ω1;let J:TS:=bN _ T;bN _ J _ _ _;intro ω1 U T J;intro N hN;refine⟨bp _,λR hR=>?_⟩;have g:N≠R:=aI au hR;have I:H R=none:=by rw[aW g.symm]at hR;exact hR
 have sH:Same H (upd (upd H N (obj N [])) R (.lst [])):=(Same.upd hN).trans (Same.upd hR);refine⟨_,rfl,a,rfl,⟨_,sH.seq hy⟩,gi (K:=K) (a:=a) (xs:=ys) (λi σ H'=>∃(o:LU) (l:List (κ×V×V)),σ=[some (.ref a),some (.ref N),some (.ref R),o]/\Same H H'/\H' N=some (obj N l)/\H' R=some (.lst ((dY [] (ks.take i)).map λ(n:Nat)=>V.int (n:Int)))/\
  l.map (·.1)=(ks.take i).foldl cr []/\(∀(j:Nat) (x:κ×V×V),l[j]?=some x->x.2.2=.int (j:Int))/\∀z∈l,key H z.2.1 z.1) ?_ ?_ ?_ ?_⟩
 exact⟨none,[],rfl,sH,by rw[aW g];exact au,au,rfl,λj x e=>by simp at e,λz hz=>by cases hz⟩;rintro i σ H' _ ⟨o,l,rfl,p,_⟩;exact p.seq hy;rintro i v σ H' hi ⟨o,l,rfl,p,eN,eR,el,ev,ek⟩;have t:i<ks.length:=by rw[<-hl];exact(aZ.mp hi).1
 have C:ks[i]?=some (ks[i]'t):=aq t;have kv:key H' v (ks[i]'t):=ks' p (hk i v _ hi C);have kl:∀z∈l,key H' z.2.1 z.1:=λz hz=>ks' p (ek z hz);have tk:ks.take (i+1)=ks.take i++[ks[i]'t]:=by rw[wl,C];rfl
 have ll:l.length<=1000:=by have:=EG (ks.take i) [];rw[<-el,aa,cm]at this;simp at this;lia
 have lr:((dY [] (ks.take i)).map λ(n:Nat)=>V.int (n:Int)).length<=1000:=by rw[aa,nF,cm];lia
 have num:=MS (ks[i]'t) l 0 λj x e=>by rw[Nat.zero_add];exact ev j x e
 rw[Nat.zero_add,el]at num;refine⟨_,rfl,.inl ⟨rfl,_,bW.of eR⟩,_,rfl,N,l,rfl,eN,_,rfl,_,rfl,N,l,rfl,eN,kl,N,l,ks[i]'t,v,_,rfl,rfl,eN,kl,kv,cq ll,?_⟩;by_cases m:(ks[i]'t)∈(ks.take i).foldl cr [];rw[if_pos m]at num;refine .inl ⟨_,num,?_⟩;refine⟨R,_,_,rfl,rfl,eR,cq lr,?_⟩;refine⟨_,l,rfl,λb ob e=>?_,?_,?_,?_,ev,ek⟩;rw[aW (aI e I)];exact p _ _ e;rw[aW g];exact eN;rw[au,tk,ma,a0];rfl;rw[el,tk,jn];show _=cr _ _;rw[cr,if_pos m];rw[if_neg m]at num;refine .inr ⟨num,?_⟩;have eR2:upd H' N (obj N (l++[(ks[i]'t,v,.int (l.length:Int))])) R=some (.lst ((dY [] (ks.take i)).map λ(n:Nat)=>V.int (n:Int))):=by rw[aW g.symm];exact eR
 refine⟨R,_,_,rfl,rfl,eR2,cq lr,?_⟩;refine⟨_,_,rfl,λb ob e=>?_,by rw[aW g];exact au,?_,?_,?_,?_⟩;rw[aW (aI e I),aW (aI e hN)];exact p _ _ e;have ll':((ks.take i).foldl cr []).length=l.length:=by rw[<-el,aa]
 rw[au,tk,ma,a0,List.idxOf_eq_length m,ll'];rfl;rw[a0,el,tk,jn];show _=cr _ _;rw[cr,if_neg m];rfl;intro j x e;rcases tP j l.length with lj|lj;rw[aN lj]at e;exact ev j x e;rw[aE lj]at e;obtain rfl:j=l.length:=by have:=(aZ.mp e).1;rw[bY]at this;lia
 rw[iW]at e;cases e;rfl;intro z hz;rcases be.mp hz with q'|q';exact ek z q';cases aX.mp q';exact hk i v _ hi C;rintro σ H' ⟨o,l,rfl,p,eN,eR,_⟩;refine⟨_,rfl,q R H' p I ?_⟩;rw[eR,hl,ce];rfl
end
section
variable {κ ι:Type}[DecidableEq κ][DecidableEq ι]
theorem Bp {k:κ}{l:ι}:∀(s:List κ) (t:List ι),s.length=t.length->(∀p∈s.zip t,p.1=k↔p.2=l)->s.idxOf k=t.idxOf l/\(k∈s↔l∈t)
 |[],[],_,_=>⟨rfl,by simp⟩
 |[],_::_,h,_=>by simp at h
 |_::_,[],h,_=>by simp at h
 |x::s,y::t,h,hp=>by have h0:=hp (x,y) (by simp);obtain⟨h1,h2⟩:=Bp s t (by simpa using h) λp j=>hp p (by rw[ij];exact aB _ j);by_cases e:x=k;have g:y=l:=h0.mp e;subst e g;simp[og];have g:¬y=l:=λq=>e (h0.mpr q);refine⟨?_,?_⟩;rw[og,og,(by simpa using e:(x==k)=false),(by simpa using g:(y==l)=false),cond_false,cond_false,h1];rw[bT,bT,h2];constructor;rintro(q|q);exact absurd q.symm e;exact .inr q;rintro(q|q);exact absurd q.symm g;exact .inr q
theorem xC:∀(ks:List κ) (ls:List ι) (s:List κ) (t:List ι),ks.length=ls.length->s.length=t.length->(∀p∈s.zip t++ks.zip ls,∀q∈s.zip t++ks.zip ls,p.1=q.1↔p.2=q.2)->dY s ks=dY t ls
 |[],[],_,_,_,_,_=>rfl
 |[],_::_,_,_,h,_,_=>by simp at h
 |_::_,[],_,_,h,_,_=>by simp at h
 |k::ks,l::ls,s,t,h,hs,hp=>by
  have j:(k,l)∈s.zip t++(k::ks).zip (l::ls):=by simp
  obtain⟨h1,h2⟩:=Bp (k:=k) (l:=l) s t hs λp g=>hp p (cB _ g) (k,l) j;show s.idxOf k::dY (cr s k) ks=t.idxOf l::dY (cr t l) ls;rw[h1];congr 1;have hz:∀p∈(cr s k).zip (cr t l)++ks.zip ls,p∈s.zip t++(k::ks).zip (l::ls):=by intro p g;rcases be.mp g with q|q;unfold cr at q;by_cases m:k∈s;rw[if_pos m,if_pos (h2.mp m)]at q;exact cB _ q;rw[if_neg m,if_neg λz=>m (h2.mpr z),n6 hs]at q;rcases be.mp q with q|q;exact cB _ q;rw[ij,DI,aX]at q;rw[q];exact j;refine bM _ ?_;rw[ij];exact aB _ q
  refine xC ks ls _ _ (by simpa using h) ?_ λp g q C=>hp p (hz p g) q (hz q C);unfold cr;by_cases m:k∈s;rw[if_pos m,if_pos (h2.mp m)];exact hs;rw[if_neg m,if_neg λz=>m (h2.mpr z),ah,ah,hs];rfl
theorem wY {k:κ}:∀(ks s:List κ),k∈s->k∈ks.foldl cr s/\(ks.foldl cr s).idxOf k=s.idxOf k
 |[],_,h=>⟨h,rfl⟩
 |x::ks,s,h=>by
  have m:k∈cr s x:=by unfold cr;split;exact h;exact cB _ h
  obtain⟨h1,h2⟩:=wY ks (cr s x) m;refine⟨h1,h2.trans ?_⟩;unfold cr;split;rfl;rw[List.idxOf_append,if_pos h]
theorem kW {k:κ}:∀(ks s:List κ) (i:Nat),ks[i]?=some k->(dY s ks)[i]?=some ((ks.foldl cr s).idxOf k)/\k∈ks.foldl cr s
 |[],_,_,h=>by simp at h
 |x::ks,s,i+1,h=>by have:=kW ks (cr s x) i (by simpa using h);simpa[dY]using this
 |x::ks,s,0,h=>by
  cases h;have m:k∈cr s k:=by unfold cr;split;assumption;simp
  obtain⟨h1,h2⟩:=wY ks _ m;refine⟨?_,h1⟩;show some (s.idxOf k)=some ((ks.foldl cr (cr s k)).idxOf k);rw[h2];congr 1;unfold cr;split;rfl;rename_i g;rw[List.idxOf_append,if_neg g,List.idxOf_eq_length g];simp
theorem vj {ks:List κ}{ls:List ι}(h:ks.length=ls.length):mP ks=mP ls↔∀(i j:Nat) (k k':κ) (l g:ι),ks[i]?=some k->ks[j]?=some k'->ls[i]?=some l->ls[j]?=some g->(k=k'↔l=g):=by
 constructor;intro e i j k k' l g h1 h2 h3 h4;obtain⟨a1,b1⟩:=kW ks [] i h1;obtain⟨a2,b2⟩:=kW ks [] j h2;obtain⟨a3,b3⟩:=kW ls [] i h3;obtain⟨a4,b4⟩:=kW ls [] j h4;have I:dY [] ks=dY [] ls:=e;rw[I,a3]at a1;rw[I,a4]at a2;have T:=bK a1;have J:=bK a2;have inj:∀{α:Type} [DecidableEq α] {s:List α} {x y:α},x∈s->s.idxOf x=s.idxOf y->x=y:=by intro α _ s x y hx q;have l1:=rD.mpr hx;have g1:s[s.idxOf x]=x:=kC l1;have g2:s[s.idxOf y]'(q ▸ l1)=y:=kC (q ▸ l1);rw[<-g1,<-g2];congr 1
 constructor;rintro rfl;exact inj b3 (T.trans J.symm);rintro rfl;exact inj b1 (T.symm.trans J);intro hp;refine xC ks ls [] [] h rfl ?_;intro p C q t;rw[DI,iu]at C t;obtain⟨i,hi⟩:=aU.mp C;obtain⟨j,hj⟩:=aU.mp t;obtain⟨i1,i2⟩:=qm.mp hi;obtain⟨j1,U⟩:=qm.mp hj;exact hp i j _ _ _ _ i1 j1 i2 U
end
section
variable {P:Program}{w:World}{K:LO}{mg:LQ}{base:Heap}
def nI (l:LL):LH:=l.map λ(n:Nat)=>(n:Int)
theorem Q4 {a b:LL}(h:nI a=nI b):a=b:=List.map_inj_right (λ_ _ q=>Int.ofNat.inj q) |>.mp h
theorem Lb {l:LL}:(nI l)[i]?=(l[i]?).map λ(n:Nat)=>(n:Int):=ao
theorem AV {κ:Type}[DecidableEq κ](ks:List κ):(mP ks).length=ks.length:=nF ks []
theorem AW {κ:Type}[DecidableEq κ]{ks:List κ}{k k':κ}{a b:Nat}(h1:ks[i]?=some k)(h2:ks[j]?=some k')(l:(mP ks)[i]?=some a)(g:(mP ks)[j]?=some b):a=b↔k=k':=by obtain⟨a1,b1⟩:=kW ks [] i h1;obtain⟨a2,C⟩:=kW ks [] j h2;have t:some ((ks.foldl cr []).idxOf k)=some a:=a1.symm.trans l;have p:some ((ks.foldl cr []).idxOf k')=some b:=a2.symm.trans g;cases t;cases p;constructor;intro q;have l1:=rD.mpr b1;have g1:(ks.foldl cr [])[(ks.foldl cr []).idxOf k]=k:=kC l1;have g2:(ks.foldl cr [])[(ks.foldl cr []).idxOf k']'(q ▸ l1)=k':=kC (q ▸ l1);rw[<-g1,<-g2];congr 1;rintro rfl;rfl
theorem Hs {κ:Type}[DecidableEq κ](ks:List κ):mP (nI (mP ks))=mP ks:=by
 have ln:(nI (mP ks)).length=ks.length:=by rw[nI,aa,AV]
 rw[vj ln];intro i j a b k k' h1 h2 t p;rw[Lb]at h1 h2;obtain⟨x,l,rfl⟩:=dL.mp h1;obtain⟨y,g,rfl⟩:=dL.mp h2;rw[<-AW t p l g];exact Int.ofNat_inj
def nY (a b:LH):Prop:=∀(i j:Nat) (l x y:Int),a[i]?=some l->a[j]?=some l->b[i]?=some x->b[j]?=some y->x=y
def vY (ls:LH):Prop:=ls=nI (mP ls)
theorem xD {κ:Type}[DecidableEq κ](ks:List κ):vY (nI (mP ks)):=by unfold vY;rw[Hs]
theorem Fh {a b:LH}(C:vY a)(hb:vY b)(l:a.length=b.length)(f:nY a b)(g:nY b a):a=b:=by rw[C,hb];congr 1;rw[vj l];intro i j k k' x x' h1 h2 t p;constructor;rintro rfl;exact f i j _ _ _ h1 h2 t p;rintro rfl;exact g i j _ _ _ t p h1 h2
def prs (n:Nat):List (Nat×Nat):=(List.range n).flatMap λi=>(List.range n).map λj=>(i,j)
theorem E7 {n:Nat}:(i,j)∈prs n↔i<n/\j<n:=by unfold prs;simp
def Nb (n:Nat)(ls:LH):Nat:=(prs n).countP λp=>decide (ls[p.1]?=ls[p.2]?)
theorem BB {α:Type}{p q:α->Bool}:∀{l:List α},(∀x∈l,p x=true->q x=true)->(∃x∈l,q x=true/\p x=false)->l.countP p<l.countP q
 |[],_,⟨x,g,_⟩=>by cases g
 |y::l,h,⟨x,g,h1,h2⟩=>by have hl:∀x∈l,p x=true->q x=true:=λx g=>h x (aB _ g);have le:l.countP p<=l.countP q:=mj hl;rw[m7,m7];rcases bT.mp g with rfl|g;rw[h1,h2];simp;lia;have:=BB hl ⟨x,g,h1,h2⟩;have j:=h y aM;by_cases e:p y=true;rw[e,j e];simp;lia;rw[if_neg e];split<;>lia
theorem Na {a b:LH}{n:Nat}(la:a.length=n)(t:b.length=n)(na:vY a)(U:vY b)(f:nY a b)(ne:a≠b):Nb n a<Nb n b:=by
 unfold Nb;refine BB (λp hp e=>?_) ?_;obtain⟨i,j⟩:=p;obtain⟨hi,hj⟩:=E7.mp hp;have e':a[i]?=a[j]?:=by simpa using e
 obtain⟨x,I⟩:=bA (l:=a) (i:=i) (by lia);obtain⟨y,C⟩:=bA (l:=b) (i:=i) (by lia);obtain⟨z,hz⟩:=bA (l:=b) (i:=j) (by lia);have:b[i]?=b[j]?:=by rw[C,hz,f i j x y z I (by rw[<-e',I]) C hz]
 simpa using this;refine Classical.byContradiction λno=>ne (Fh na U (by lia) f λi j l x y T J e3 e4=>?_);refine Classical.byContradiction λg=>no ⟨(i,j),E7.mpr ⟨by rw[<-t];exact cw T,by rw[<-t];exact cw J⟩,?_,?_⟩;simp[T,J];simp[e3,e4,g]
theorem CW (n:Nat):vY (List.replicate n 0):=by
 have g:∀m,dY [(0:Int)] (List.replicate m 0)=List.replicate m 0:=by intro m;induction m with|zero=>rfl|succ m j=>rw[cT];show List.idxOf (0:Int) [0]::dY (cr [0] 0) (List.replicate m 0)=_;rw[show cr [(0:Int)] 0=[0]from rfl,j];rfl
 unfold vY;cases n with
 |zero=>rfl
 |succ n=>
  have:mP (List.replicate (n+1) (0:Int))=List.replicate (n+1) 0:=by rw[cT];show List.idxOf (0:Int) []::dY (cr [] 0) (List.replicate n 0)=_;rw[show cr ([]:LH) 0=[0]from rfl,g];rfl
  rw[this,nI,List.map_replicate];rfl
theorem Bw {Pz:LH}{n:Nat}:nY Pz (List.replicate n 0):=by intro i j l x y _ _ p g;rw[cz]at p g;split at p;split at g;cases p;cases g;rfl;cases g;cases p
theorem Tk (l:LL):(l.map λ(n:Nat)=>V.int (n:Int))=(nI l).map V.int:=by rw[nI,cF];rfl
def Ix (K:LO)(H:Hp)(v:V)(us:LH)(M:LA):Prop:=
 ∃(p h r:Addr) (rs:LK),v=.ref p/\dH K H p [.ref h,.ref r]/\bW K H h (us.map V.int)/\bW K H r (rs.map V.ref)/\rs.length=M.length/\∀(j:Nat) (t:Addr) (ws:LH),rs[j]?=some t->M[j]?=some ws->bW K H t (ws.map V.int)
theorem Ix.same {v:V}(h:Ix K H v us M)(s:Same H H'):Ix K H' v us M:=by obtain⟨p,h1,r,rs,e,J,I,C,l,g⟩:=h;exact⟨p,h1,r,rs,e,s.seqT J,s.seq I,s.seq C,l,λj t ws U T=>s.seq (g j t ws U T)⟩
def lU (s:Stmt)(i:Nat):Stmt:=match s with
 | .For _ _ b _ _=>b.getD i (.Pass ⟨0,0,0,0⟩)
 |_=>.Pass ⟨0,0,0,0⟩
theorem OO {b:Addr}{g:TG}{tb:TS}{D:qr}(e:ys.length=xs.length)(j:Nat->L2.St->Hp->Prop)(h0:j 0 σ H)(hl:∀i σ H,i<=xs.length->j i σ H->bW K H a xs/\bW K H b ys)(hs:∀(i:Nat) (x y:V) (t:Addr) σ H,xs[i]?=some x->ys[i]?=some y->j i σ H->H t=none->g (.ref t) σ (upd H t (.tup [x,y])) λl H2=>tb {D with nx:=j (i+1),ct:=j (i+1),bk:=D.nx} l H2)(hd:∀σ H,j xs.length σ H->D.nx σ H):
  ∃W:Nat->Nat->L2.St->Hp->Prop,(∃m,W 0 m σ H)/\∀i m σ H,W i m σ H->
   ((Sc K a b).stop i H/\D.nx σ H)\/((Sc K a b).go i H/\∃N:LR,(∀C H',N C H'->∃T,T<m/\W (i+1) T C H')/\∀x H',(Sc K a b).yld i H x H'->g x σ H' λl H2=>tb {D with nx:=N,ct:=N,bk:=D.nx} l H2):=by
 refine⟨λi m σ H=>m=xs.length-i/\i<=xs.length/\j i σ H,⟨xs.length,by simp,bp _,h0⟩,?_⟩;rintro i m σ H ⟨rfl,hi,p⟩;obtain⟨J,I⟩:=hl i σ H hi p;by_cases lt:i<xs.length;have lt':i<ys.length:=by lia
 refine .inr ⟨⟨xs,ys,xs[i],ys[i],J,I,aq lt,aq lt'⟩,j (i+1),λC H' p'=>⟨xs.length-(i+1),by lia,rfl,lt,p'⟩,λx H' y=>?_⟩;obtain⟨t,x1,U,rfl,ht,rfl,g1,g2⟩:=y;exact hs i x1 U t σ H (g1 xs J) (g2 ys I) p ht;have ei:i=xs.length:=by lia
 subst ei;exact .inl ⟨⟨xs,ys,J,I,.inl (av _)⟩,hd σ H p⟩
theorem vS:bootBuiltins "tuple"=some (.type "tuple"):=by decide+kernel
def mz (l:LC)(k:Int):Int:=((l.find? λp=>decide (p.1=k)).map (·.2)).getD 0
def wg (l:LC)(k v:Int):LC:=if l.any (λp=>decide (p.1=k))then l.map (λp=>if p.1=k then(p.1,v)else p)else l++[(k,v)]
def pG (l:LC)(p:Int×Int):LC:=wg l p.2 (mz l p.2+p.1)
def lZ (ws ls:LH):LC:=(ws.zip ls).foldl pG []
def em (l:LC):List (jE×V):=l.map λp=>(Sum.inl p.1,V.int p.2)
theorem Mp (k:Int):∀l,(rE (em l) (Sum.inl k)).getD (.int 0)=.int (mz l k)
 |[]=>rfl
 |p::l=>by by_cases e:p.1=k;rw[em,aJ,qE (by rw[e])];simp[mz,e];rw[em,aJ,qG λq=>e (Sum.inl.inj q)];have g:=Mp k l;rw[em]at g;rw[g];simp[mz,e]
theorem RH (k:Int)(l:LC):((em l).any λg=>decide (g.1=(Sum.inl k:jE)))=l.any λp=>decide (p.1=k):=by rw[em,List.any_map];congr 1;funext p;simp
theorem RG (l:LC)(k v:Int):si (em l) (Sum.inl k) (.int v)=em (wg l k v):=by unfold si wg;rw[RH];split;rw[em,em,cF,cF];refine bU λp _=>?_;by_cases e:p.1=k;simp[e];simp[e];simp[em]
theorem Kq (l:LC)(k v:Int):(wg l k v).length<=l.length+1:=by unfold wg;split;rw[aa];lia;simp
theorem zV:∀(ps l:LC),(ps.foldl pG l).length<=l.length+ps.length
 |[],l=>av _
 |p::ps,l=>by have h1:=zV ps (pG l p);have h2:(pG l p).length<=l.length+1:=Kq _ _ _;rw[iB,aH];lia
inductive Ac (K:LO)(vs:LI)(H:Hp)(Q:VK):Prop|mk (a b:Addr) (ws ls:LH) (_:vs=[.ref a,.ref b]) (_:bW K H a (ws.map V.int)) (_:bW K H b (ls.map V.int)) (_:ls.length=ws.length) (_:ws.length<=1000) (_:∀p H',Same H H'->H p=none->H' p=some (.tup ((lZ ws ls).map λq=>V.int q.2))->Q (.ref p) H'):Ac K vs H Q
def Jr (K:LO):Sp:=λvs H Q _=>Ac K vs H Q
abbrev Tc:LM:=["weights","lots","sums","weight","lot"]
theorem yu:bv Tc ["weights","lots"] (aw EQ):={}
theorem NK (B:IG mg)(F:Fun K "sums_to_lots" "sums_to_lots" EQ f fd):cW P w K mg base gK 1 f fd ["weights","lots"] (Jr K):=by
 refine F.q yu λH vs _ hr h=>?_;obtain⟨a,b,ws,ls,rfl,ha,hb,hl,hz,q⟩:=h;refine⟨_,am (fk 2 yu.nd Ku)
  (am (eQ PassesOwn.never rfl (pX rfl B.zip (ac (pv 0) (ac (pv 1) aj))) (oG rfl (gc (l9 3 yu.nd) (gc (l9 4 yu.nd) lN)))
   (aC (NB (P3 hr) (pv 2) (pv 4) (bR gt (Kv (P3 hr) (pv 2) (pv 4) ar ⟨rfl,rfl,rfl,rfl⟩) (pv 3)) rfl)))
  (aC (bw (kJ (BO rfl) (by rfl) B.tuple vS (ac (vg sP PySem.F.slot_dict_values PySem.F.type_dict_values Hy (pv 2)) aj))))),?_⟩
 show let T:TS:=_;let J:TS:=_;let I:TS:=bN (i0 _ _ J) T;bN _ I _ _ _;intro T J I;intro N hN;have sH:Same H (upd H N (.dK [])):=Same.upd hN;refine⟨_,rfl,_,rfl,a,b,rfl,⟨_,sH.seq ha⟩,⟨_,sH.seq hb⟩,?_⟩;refine OO (K:=K) (xs:=ws.map V.int) (ys:=ls.map V.int) (by rw[aa,aa,hl])
  (λi σ H'=>∃(o3 o4:LU),σ=[some (.ref a),some (.ref b),some (.ref N),o3,o4]/\Same H H'/\H' N=some (.dK (em (((ws.zip ls).take i).foldl pG [])))) ?_ ?_ ?_ ?_
 exact⟨none,none,rfl,sH,au⟩;rintro i σ H' _ ⟨o3,o4,rfl,g,_⟩;exact⟨g.seq ha,g.seq hb⟩;rintro i x y t σ H' hx hy ⟨o3,o4,rfl,g,j⟩ U;rw[ao]at hx hy;obtain⟨wi,ewi,rfl⟩:=dL.mp hx;obtain⟨l,eli,rfl⟩:=dL.mp hy;have nt:N≠t:=aI j U;have C:upd H' t (.tup [.int wi,.int l]) N=some (.dK (em (((ws.zip ls).take i).foldl pG []))):=by rw[aW nt];exact j
 have zi:(ws.zip ls)[i]?=some (wi,l):=qm.mpr ⟨ewi,eli⟩;have tk:(ws.zip ls).take (i+1)=(ws.zip ls).take i++[(wi,l)]:=by rw[wl,zi];rfl
 have sm:(em (((ws.zip ls).take i).foldl pG [])).length<=1000:=by have:=zV ((ws.zip ls).take i) [];rw[em,aa];rw[cm,List.length_zip]at this;simp at this;lia
 refine⟨t,_,rfl,dH.of au,rfl,_,_,rfl,_,_,rfl,rfl,?_⟩;refine⟨_,rfl,N,rfl,.inl ⟨_,.inl C⟩,_,rfl,_,(show IF _ N (V.int l) (rE (em (((ws.zip ls).take i).foldl pG [])) (Sum.inl l))from IF.k (k:=Sum.inl l) C),_,rfl,_,_,Mp _ _,rfl,?_⟩;refine⟨_,rfl,_,rfl,N,_,rfl,(show IE _ N (V.int l) _ _ from IE.k (k:=Sum.inl l) C (cq sm)),?_⟩;refine⟨_,_,rfl,λb' ob e=>?_,?_⟩;rw[aW (aI e hN),aW (aI (g _ _ e) U)];exact g _ _ e;rw[au,RG,tk,jn];rfl;rintro σ H' ⟨o3,o4,rfl,g,j⟩;rw[aa]at j;have tk:(ws.zip ls).take ws.length=ws.zip ls:=by rw[di];rw[List.length_zip];lia
 rw[tk]at j;refine⟨_,rfl,?_,N,_,rfl,rfl,j,λp hp=>?_⟩;exact .inr (.inr (.inl ⟨rfl,.inl ⟨_,j⟩⟩));have np:N≠p:=aI j hp;refine⟨p,N,_,rfl,au,by rw[aW np];exact j,λt U=>?_⟩;have hp0:H p=none:=g.free hp;have ht0:H t=none:=g.free ((Same.upd hp).free U);refine q t _ (g.trans ((Same.upd hp).trans (Same.upd U))) ht0 ?_;rw[au,em,cF];rfl
def oI (ls:LH)(l u:Int)(ws:LH):iK:=(l,u,(lZ ws ls).map (·.2))
def fV (ls:LH):List Int->List Int->List (LH)->List iK
 |l::iG,u::us,ws::M=>oI ls l u ws::fV ls iG us M
 |_,_,_=>[]
theorem jZ (ls:LH):∀(a us:LH) (M:LA),us.length=a.length->M.length=a.length->(fV ls a us M).length=a.length
 |[],_,_,_,_=>by simp[fV]
 |_::_,[],_,h,_=>by simp at h
 |_::_,_::_,[],_,h=>by simp at h
 |l::a,u::us,ws::M,h,h'=>by simp only[aH,Nat.add_right_cancel_iff]at h h';simp only[fV,aH,jZ ls a us M h h']
theorem jg (ls:LH):∀(a us:LH) (M:LA) (j:Nat) (k:iK),(fV ls a us M)[j]?=some k->∃l u ws,a[j]?=some l/\us[j]?=some u/\M[j]?=some ws/\k=oI ls l u ws
 |l::a,u::us,ws::M,0,k,h=>by cases h;exact⟨l,u,ws,rfl,rfl,rfl,rfl⟩
 |l::a,u::us,ws::M,j+1,k,h=>by
  have h':(fV ls a us M)[j]?=some k:=by simpa[fV]using h
  simpa using jg ls a us M j k h'
 |[],_,_,_,_,h=>by simp[fV]at h
 |_::_,[],_,_,_,h=>by simp[fV]at h
 |_::_,_::_,[],_,_,h=>by simp[fV]at h
inductive wC (K:LO)(vs:LI)(H:Hp)(Q:VK):Prop|mk (v:V) (b:Addr) (us ls:LH) (M:LA) (_:vs=[v,.ref b]) (_:Ix K H v us M) (_:bW K H b (ls.map V.int)) (_:us.length=ls.length) (_:M.length=ls.length) (_:ls.length<=1000) (_:(∀ws∈M,ws.length=ls.length)) (_:∀p H',Same H H'->H p=none->H' p=some (.lst ((mP (fV ls ls us M)).map λ(n:Nat)=>V.int (n:Int)))->Q (.ref p) H'):wC K vs H Q
def Eh (K:LO):Sp:=λvs H Q _=>wC K vs H Q
abbrev K6:LM:=["web","lots","sums"]
theorem EH:bv K6 ["web","lots"] (aw rP):={}
theorem Os:cn (aw rP) K6 (cX (eU (dM rP 0))) ["weights"]:={}
theorem KC (B:IG mg)(F:Fun K "split_up" "split_up" rP f fd)(GN:Cl P w K mg base "numbered" mG ["marks"] 1 (Jv K C9))(GS:Cl P w K mg base "sums_to_lots" EQ ["weights","lots"] 1 (Jr K)):cW P w K mg base gK 2 f fd ["web","lots"] (Eh K):=by
 refine F.q EH λH vs _ hr h=>?_;obtain⟨v,b,us,ls,M,rfl,⟨p,hu,r,rs,rfl,hp,hh,hR,lR,hrow⟩,hb,l1,l2,l3,l4,q⟩:=h;refine⟨_,am (mM (i:=2) EH.nd rfl (Or.inl rfl) rfl Os rfl (cK (bf bL (pv 0) ar)) λ_ _ _=>bH GS hr rfl (ac (pv 3) (ac (pv 1) aj)))
  (aC (bw (bH GN hr rfl (ac (AM rfl rfl B.zip rfl B.list (ac (pv 1) (ac (bf bL (pv 0) ar) (ac (pv 2) aj)))) aj)))),?_⟩
 show let ω1:TS:=_;bN _ ω1 _ _ _;intro ω1;refine⟨_,rfl,p,_,_,_,rfl,rfl,hp,rfl,r,rfl,⟨_,hR⟩,λD hD=>?_⟩;refine kA (K:=K) (xs:=rs.map V.ref) (λi ys H'=>∃ts:LK,ys=ts.map V.ref/\ts.length=i/\Same H H'/\H' D=some (.lst ys)/\
  ∀(j:Nat) (t:Addr) (ws:LH),ts[j]?=some t->M[j]?=some ws->H' t=some (.tup ((lZ ws ls).map λq=>V.int q.2))/\t≠D) ?_ ?_ ?_ ?_ ?_
 exact⟨[],rfl,rfl,Same.upd hD,au,λj t ws e=>by simp at e⟩;rintro i ys H' _ ⟨ts,rfl,lt,C,J,_⟩;exact⟨C.seq hR,J⟩;rintro i x ys H' hx ⟨ts,rfl,lt,C,J,ht⟩;obtain⟨ra,hra,rfl⟩:=bJ hx;have li:i<M.length:=by rw[<-lR];exact(aZ.mp hra).1
 have hM:M[i]?=some (M[i]'li):=aq li;have lw:=l4 _ (af hM);refine⟨_,rfl,_,rfl,ra,b,M[i]'li,ls,rfl,C.seq (hrow i ra _ hra hM),C.seq hb,by lia,by lia,λt H3 s3 nt et=>?_⟩;have eD3:=s3 _ _ J;have ntD:t≠D:=λz=>by subst z;rw[J]at nt;cases nt
 refine⟨eD3,cq (by rw[aa];lia),ts++[t],by rw[a0];rfl,by rw[ah,bY,lt],λb' o e=>?_,au,?_⟩;rw[aW (aI e hD)];exact s3 _ _ (C _ _ e);intro j t' ws T e2;rcases tP j ts.length with I|I;rw[aN I]at T;obtain⟨g1,g2⟩:=ht j t' ws T e2;rw[aW g2];exact⟨s3 _ _ g1,g2⟩;rw[aE I]at T;obtain rfl:j=ts.length:=by have:=(aZ.mp T).1;rw[bY]at this;lia
 rw[iW]at T;cases T;rw[lt,hM]at e2;cases e2;rw[aW ntD];exact⟨et,ntD⟩;rintro ys H' ⟨ts,rfl,lt,C,J,ht⟩;rw[aa]at lt;refine⟨_,rfl,_,rfl,p,_,_,_,rfl,rfl,C.seqT hp,rfl,_,rfl,b,hu,D,_,_,_,rfl,C.seq hb,C.seq hh,bW.of J,by rw[aa,aa,l1],by rw[aa,aa];lia,λS Ts H2 U=>?_⟩;have lts:ts.length=ls.length:=by rw[lt,lR,l2]
 have s2:Same H' H2:=λb' o e=>(U.oth b' (aI e U.newS) λm=>by rw[U.newT b' m]at e;cases e).trans e;have lr:=rY (ls.map V.int) (us.map V.int) (ts.map V.ref) (by rw[aa,aa,l1]) (by rw[aa,aa,lts]);have lm:=jZ ls ls us M l1 l2;refine⟨S,Ts.map V.ref,fV ls ls us M,rfl,bW.of U.s,by rw[aa,U.len,lr,aa,lm],by rw[lm];exact l3,?_,λp' H4 s4 n4 e4=>q p' H4 (C.trans (s2.trans s4)) ((C.trans s2).free n4) e4⟩;intro j y k hy hk;obtain⟨t,et,rfl⟩:=bJ hy;obtain⟨l,u,ws,g1,g2,g3,rfl⟩:=jg ls ls us M j k hk;have I:j<ts.length:=by rw[lts];exact(aZ.mp g1).1
 have g4:ts[j]?=some (ts[j]'I):=aq I;refine⟨t,rfl,ts[j]'I,?_,?_⟩;exact U.row j t _ et (rZ _ _ _ j _ _ _ (by rw[ao,g1];rfl) (by rw[ao,g2];rfl) (by rw[ao,g4];rfl));rw[s2 _ _ (ht j _ ws g4 g3).1];show _=some (HO.tup (((lZ ws ls).map (·.2)).map V.int));rw[cF];rfl;rintro σ H' Q1 Q2 hq ⟨v,e,v',e',a1,a2,a3,a4,a5,a6,a7,a8,a9,g⟩;exact⟨v,e,v',e',a1,a2,a3,a4,a5,a6,a7,a8,a9,λt H3 s3 n3 e3=>hq _ _ (g t H3 s3 n3 e3)⟩
theorem HG {y:V}{k:iK}(s:Same H H')(h:C9 H y k):C9 H' y k:=by obtain⟨a,e,b,h1,h2⟩:=h;exact⟨a,e,b,s _ _ h1,s _ _ h2⟩
theorem NQ (B:IG mg)(F:Fun K "numbered" "numbered" mG f fd):cW P w K mg base gK 1 f fd ["marks"] (Jv K C9):=
 QO (P:=P) (w:=w) (base:=base) (key:=C9) (obj:=Oi P w) (λX j g l=>by subst j g;exact OB (by lia)) HG B F
end
section
theorem Hd (l:LC)(k v:Int):(wg l k v).map (·.1)=cr (l.map (·.1)) k:=by unfold wg cr;by_cases m:k∈l.map (·.1);rw[if_pos m,if_pos (by obtain⟨p,hp,e⟩:=aV.mp m;exact sR.mpr ⟨p,hp,by simpa using e⟩),cF];refine bU λp _=>?_;by_cases e:p.1=k;simp[e];simp[e];rw[if_neg m,if_neg (λh=>by obtain⟨p,hp,e⟩:=sR.mp h;exact m (aV.mpr ⟨p,hp,by simpa using e⟩)),a0];rfl
theorem jG (p:Int×Int)(l:LC)(j:Int):mz (p::l) j=if p.1=j then p.2 else mz l j:=by by_cases e:p.1=j;simp[mz,e];simp[mz,e]
theorem uy (k v j:Int):∀l:LC,k∈l.map (·.1)->mz (l.map λp=>if p.1=k then(p.1,v)else p) j=if j=k then v else mz l j
 |[],h=>by simp at h
 |p::l,h=>by
  rw[aJ,jG,jG];by_cases e:p.1=k
  ·rw[if_pos e]
   by_cases g:p.1=j;rw[if_pos (by exact g),if_pos (g.symm.trans e)]
   ·rw[if_neg (by exact g),if_neg λq=>g (e.trans q.symm),if_neg g]
    by_cases m:k∈l.map (·.1);rw[uy k v j l m,if_neg λq=>g (e.trans q.symm)]
    ·have:(l.map λp=>if p.1=k then(p.1,v)else p)=l:=by
      conv=>rhs;rw[<-List.map_id l]
      refine bU λq t=>?_;rw[if_neg λz=>m (aV.mpr ⟨q,t,z⟩)];rfl
     rw[this]
  rw[if_neg e];have m:k∈l.map (·.1):=by rw[aJ,bT]at h;exact h.resolve_left λq=>e q.symm
  rw[uy k v j l m];by_cases g:p.1=j;rw[if_pos g,if_pos g,if_neg λq=>e (g.trans q)];rw[if_neg g,if_neg g]
theorem wu (k v j:Int):∀l:LC,k∉l.map (·.1)->mz (l++[(k,v)]) j=if j=k then v else mz l j
 |[],_=>by rw[iu,jG];by_cases e:j=k;rw[if_pos e,if_pos e.symm];rw[if_neg e,if_neg λq=>e q.symm]
 |p::l,h=>by rw[aJ,bT,not_or]at h;rw[IA,jG,jG,wu k v j l h.2];by_cases g:p.1=j;rw[if_pos g,if_pos g,if_neg λq=>h.1 (q.symm.trans g.symm)];rw[if_neg g,if_neg g]
theorem Ko (l:LC)(k v j:Int):mz (wg l k v) j=if j=k then v else mz l j:=by unfold wg;by_cases m:k∈l.map (·.1);rw[if_pos (by obtain⟨p,hp,e⟩:=aV.mp m;exact sR.mpr ⟨p,hp,by simpa using e⟩)];exact uy k v j l m;rw[if_neg (λh=>by obtain⟨p,hp,e⟩:=sR.mp h;exact m (aV.mpr ⟨p,hp,by simpa using e⟩))];exact wu k v j l m
def fz (ps:LC)(l:Int):Int:=((ps.filter λp=>decide (p.2=l)).map (·.1)).sum
theorem xL:∀(ps l:LC),(ps.foldl pG l).map (·.1)=(ps.map (·.2)).foldl cr (l.map (·.1))
 |[],_=>rfl
 |p::ps,l=>by rw[iB,xL ps,aJ,iB];congr 1;exact Hd _ _ _
theorem Bv (j:Int):∀(ps l:LC),mz (ps.foldl pG l) j=mz l j+fz ps j
 |[],l=>by simp[fz]
 |p::ps,l=>by rw[iB,Bv j ps];show mz (wg l p.2 (mz l p.2+p.1)) j+_=_;rw[Ko];by_cases e:p.2=j;rw[if_pos e.symm,fz,fz,cY (by simpa using e),aJ,dG,e];lia;rw[if_neg λq=>e q.symm,fz,fz,cH (by simpa using e)]
theorem pU {κ:Type}[DecidableEq κ]:∀(ks s:List κ),s.Nodup->(ks.foldl cr s).Nodup
 |[],_,h=>h
 |k::ks,s,h=>by rw[iB];refine pU ks _ ?_;unfold cr;split;exact h;rename_i m;rw[jm];refine⟨h,by simp,λx j y g e=>?_⟩;rw[aX]at g;exact m (g ▸ e ▸ j)
theorem oy {κ:Type}[DecidableEq κ]{x:κ}:∀(ks s:List κ),x∈ks.foldl cr s↔x∈s\/x∈ks
 |[],s=>by simp
 |k::ks,s=>by
  rw[iB,oy ks,bT];have:x∈cr s k↔x∈s\/x=k:=by unfold cr;split;rename_i m;constructor;exact .inl;rintro(q|rfl);exact q;exact m;rw[be,aX]
  rw[this,or_assoc]
theorem Ct:∀(l:LC),(l.map (·.1)).Nodup->l.map (·.2)=(l.map (·.1)).map (mz l)
 |[],_=>rfl
 |p::l,h=>by rw[aJ,cA]at h;rw[aJ,aJ,aJ,jG,if_pos rfl,Ct l h.2];congr 1;refine bU λk hk=>?_;have n:¬p.1=k:=λq=>h.1 (by rw[q];exact hk);rw[jG,if_neg n]
theorem uA (h:ls.length=ws.length)(h':ls.length=ws'.length):(lZ ws ls).map (·.2)=(lZ ws' ls).map (·.2)↔∀l∈ls,fz (ws.zip ls) l=fz (ws'.zip ls) l:=by
 have key:∀{vs:LH},ls.length=vs.length->(lZ vs ls).map (·.1)=ls.foldl cr []:=by intro vs g;unfold lZ;rw[xL,List.map_snd_zip (by lia)];rfl
 have val:∀(vs:LH) (l:Int),mz (lZ vs ls) l=fz (vs.zip ls) l:=by intro vs l;unfold lZ;rw[Bv];show 0+_=_;lia
 have nd:(ls.foldl cr []).Nodup:=pU ls [] fM;rw[Ct _ (by rw[key h];exact nd),Ct _ (by rw[key h'];exact nd),key h,key h',fN];constructor;intro q l hl;rw[<-val,<-val];exact q l ((oy ls []).mpr (.inr hl));intro q l hl;rw[val,val];exact q l (((oy ls []).mp hl).resolve_left (by simp))
theorem Mm (h1:us.length=ls.length)(h2:M.length=ls.length)(t:∀ws∈M,ws.length=ls.length):
  mP (fV ls ls us M)=mP ls↔∀(i j:Nat) (l u p:Int) (ws ws':LH),ls[i]?=some l->ls[j]?=some l->us[i]?=some u->us[j]?=some p->M[i]?=some ws->M[j]?=some ws'->u=p/\∀o∈ls,fz (ws.zip ls) o=fz (ws'.zip ls) o:=by
 have lm:=jZ ls ls us M h1 h2;have get:∀{i:Nat} {l u:Int} {ws:LH},ls[i]?=some l->us[i]?=some u->M[i]?=some ws->(fV ls ls us M)[i]?=some (oI ls l u ws):=by
  intro i l u ws J g I;have lt:i<(fV ls ls us M).length:=by rw[lm];exact(aZ.mp J).1
  obtain⟨l',p,ws',g1,g2,g3,g4⟩:=jg ls ls us M i _ (aq lt);rw[J]at g1;rw[g]at g2;rw[I]at g3;cases g1;cases g2;cases g3;rw[aq lt,g4]
 rw[vj lm];constructor;intro q i j l u p ws ws' a1 a2 b1 C c1 c2;have e:=(q i j _ _ l l (get a1 b1 c1) (get a2 C c2) a1 a2).mpr rfl;unfold oI at e;injection e with J g;injection g with g I;exact⟨g,(uA (t ws (af c1)).symm (t ws' (af c2)).symm).mp I⟩;intro q i j k k' l l' a1 a2 b1 C;obtain⟨l1,u1,U,g1,g2,g3,rfl⟩:=jg ls ls us M i k a1;obtain⟨l2,u2,T,f1,f2,f3,rfl⟩:=jg ls ls us M j k' a2;rw[b1]at g1;rw[C]at f1;cases g1;cases f1;constructor;intro e;unfold oI at e;injection e;rintro rfl;obtain⟨p1,p2⟩:=q i j l u1 u2 U T b1 C g2 f2 g3 f3;unfold oI;rw[p1,(uA (t U (af g3)).symm (t T (af f3)).symm).mpr p2]
def Pr (us ls:LH)(M:LA)(i j:Nat):Prop:=∀(l u g:Int) (ws ws':LH),ls[i]?=some l->ls[j]?=some l->us[i]?=some u->us[j]?=some g->M[i]?=some ws->M[j]?=some ws'->u=g/\∀o∈ls,fz (ws.zip ls) o=fz (ws'.zip ls) o
theorem eV (w p:Int)(ps:LC)(l:Int):fz ((w,p)::ps) l=(if p=l then w else 0)+fz ps l:=by unfold fz;by_cases e:p=l;rw[cY (by simpa using e),if_pos e];simp;rw[cH (by simpa using e),if_neg e];simp
theorem Eb {α:Type}(a b:α->Int):∀D:List α,(D.map λq=>a q+b q).sum=(D.map a).sum+(D.map b).sum
 |[]=>rfl
 |x::D=>by rw[aJ,aJ,aJ,dG,dG,dG,Eb a b D];lia
theorem Ea (p w:Int)(g:Int->Bool):∀D:LH,D.Nodup->((D.filter g).map λq=>if p=q then w else 0).sum=if p∈D/\g p=true then w else 0
 |[],_=>by simp
 |x::D,h=>by rw[cA]at h;have l:=Ea p w g D h.2;by_cases j:g x=true;rw[cY j,aJ,dG,l];by_cases e:p=x;subst e;rw[if_pos rfl,if_neg λz=>h.1 z.1,if_pos ⟨aM,j⟩];lia;rw[if_neg e];by_cases m:p∈D/\g p=true;rw[if_pos m,if_pos ⟨aB _ m.1,m.2⟩];lia;rw[if_neg m,if_neg λz=>m ⟨(bT.mp z.1).resolve_left e,z.2⟩];lia;rw[cH j,l];by_cases e:p=x;subst e;rw[if_neg λz=>h.1 z.1,if_neg λz=>j z.2];by_cases m:p∈D/\g p=true;rw[if_pos m,if_pos ⟨aB _ m.1,m.2⟩];rw[if_neg m,if_neg λz=>m ⟨(bT.mp z.1).resolve_left e,z.2⟩]
theorem uB (f:Int->Int)(o:Int)(D:LH)(j:D.Nodup):∀(ws P:LH),(∀p∈P,p∈D)->fz (ws.zip (P.map f)) o=((D.filter λp=>decide (f p=o)).map λp=>fz (ws.zip P) p).sum
 |[],P,_=>by simp only[DI,fz,List.filter_nil,jT,List.sum_nil];induction (D.filter λp=>decide (f p=o))with|nil=>rfl|cons x l g=>rw[aJ,dG,<-g];rfl
 |_::_,[],_=>by simp only[jT,List.zip_nil_right,fz,List.filter_nil,jT,List.sum_nil];induction (D.filter λp=>decide (f p=o))with|nil=>rfl|cons x l g=>rw[aJ,dG,<-g];rfl
 |w::ws,p::P,h=>by
  rw[aJ,ij,ij,eV,uB f o D j ws P λq t=>h q (aB _ t)];have e:(λq=>fz ((w,p)::ws.zip P) q)=λq=>(if p=q then w else 0)+fz (ws.zip P) q:=by funext q;exact eV _ _ _ _
  rw[e,Eb,Ea p w _ D j];congr 1;have pm:=h p aM;by_cases e:f p=o;rw[if_pos e,if_pos ⟨pm,by simpa using e⟩];rw[if_neg e,if_neg λz=>e (by simpa using z.2)]
theorem sJ {P L:LH}(l:P.length=L.length)(f:nY P L):L=P.map λp=>(L[P.idxOf p]?).getD 0:=by
 apply cJ;intro i;rw[ao];by_cases hi:i<P.length;obtain⟨p,hp⟩:=bA hi;obtain⟨x,j⟩:=bA (l:=L) (i:=i) (by lia);have t:p∈P:=af hp;have lt:=rD.mpr t;have g1:P[P.idxOf p]?=some p:=by rw[aq lt,kC lt]
 obtain⟨y,g⟩:=bA (l:=L) (i:=P.idxOf p) (by lia);rw[hp,j,jb,g,jQ,f i (P.idxOf p) p x y hp g1 j g];rw[aY (by lia),aY (by lia)];rfl
theorem Ck {P L:LH}(l:P.length=L.length)(f:nY P L)(h:∀p∈P,fz (ws.zip P) p=fz (ws'.zip P) p)(o:Int):fz (ws.zip L) o=fz (ws'.zip L) o:=by have nd:(P.foldl cr []).Nodup:=pU P [] fM;have mem:∀p∈P,p∈P.foldl cr []:=λp hp=>(oy P []).mpr (.inr hp);rw[sJ l f,uB _ o _ nd ws P mem,uB _ o _ nd ws' P mem];congr 1;refine bU λp hp=>h p ?_;exact((oy P []).mp (iA.mp hp).1).resolve_left (by simp)
def ow (us:LH)(M:LA)(ls:LH):LH:=nI (mP (fV ls ls us M))
theorem Bc (h1:us.length=ls.length)(h2:M.length=ls.length){l u:Int}(g:ls[i]?=some l)(C:us[i]?=some u)(t:M[i]?=some ws):(fV ls ls us M)[i]?=some (oI ls l u ws):=by have j:=jZ ls ls us M h1 h2;obtain⟨k,hk⟩:=bA (l:=fV ls ls us M) (i:=i) (by rw[j];exact cw g);obtain⟨J,I,ws',g1,g2,g3,p⟩:=jg ls ls us M i k hk;rw[g]at g1;rw[C]at g2;rw[t]at g3;cases g1;cases g2;cases g3;rw[hk,p]
theorem Jn (h1:us.length=ls.length)(h2:M.length=ls.length):(ow us M ls).length=ls.length:=by rw[ow,nI,aa,AV,jZ ls ls us M h1 h2]
theorem z6 (h1:us.length=ls.length)(h2:M.length=ls.length)(C:∀ws∈M,ws.length=ls.length){l t u p a b:Int}(e1:ls[i]?=some l)(e2:us[i]?=some u)(J:M[i]?=some ws)(f1:ls[j]?=some t)(f2:us[j]?=some p)(I:M[j]?=some ws')(g1:(ow us M ls)[i]?=some a)(g2:(ow us M ls)[j]?=some b):
  a=b↔l=t/\u=p/\∀o∈ls,fz (ws.zip ls) o=fz (ws'.zip ls) o:=by rw[ow,Lb]at g1 g2;obtain⟨x,hx,rfl⟩:=dL.mp g1;obtain⟨y,hy,rfl⟩:=dL.mp g2;have:=AW (Bc h1 h2 e1 e2 J) (Bc h1 h2 f1 f2 I) hx hy;rw[Int.ofNat_inj,this,<-uA (C ws (af J)).symm (C ws' (af I)).symm];unfold oI;constructor;intro q;injection q with U g;injection g with g T;exact⟨U,g,T⟩;rintro⟨rfl,rfl,q⟩;rw[q]
theorem Cm {P:LH}(h1:us.length=ls.length)(h2:M.length=ls.length)(h3:∀ws∈M,ws.length=ls.length)(I:P.length=ls.length)(ev:∀i j,Pr us P M i j)(f:nY P ls):nY P (ow us M ls):=by intro i j p a b T J g1 g2;obtain⟨l,hl⟩:=bA (l:=ls) (i:=i) (by rw[<-I];exact cw T);obtain⟨l',g⟩:=bA (l:=ls) (i:=j) (by rw[<-I];exact cw J);obtain⟨u,hu⟩:=bA (l:=us) (i:=i) (by rw[h1];exact cw hl);obtain⟨u',C⟩:=bA (l:=us) (i:=j) (by rw[h1];exact cw g);obtain⟨ws,U⟩:=bA (l:=M) (i:=i) (by rw[h2];exact cw hl);obtain⟨ws',t⟩:=bA (l:=M) (i:=j) (by rw[h2];exact cw g);obtain⟨q1,q2⟩:=ev i j p u u' ws ws' T J hu C U t;exact(z6 h1 h2 h3 hl hu U g C t g1 g2).mpr ⟨f i j p l l' T J hl g,q1,λo _=>Ck I f q2 o⟩
theorem zZ (h1:us.length=ls.length)(h2:M.length=ls.length)(J:∀ws∈M,ws.length=ls.length):nY (ow us M ls) ls:=by intro i j a l U g1 g2 hl g;obtain⟨u,I⟩:=bA (l:=us) (i:=i) (by rw[h1];exact cw hl);obtain⟨T,t⟩:=bA (l:=us) (i:=j) (by rw[h1];exact cw g);obtain⟨ws,C⟩:=bA (l:=M) (i:=i) (by rw[h2];exact cw hl);obtain⟨ws',p⟩:=bA (l:=M) (i:=j) (by rw[h2];exact cw g);exact((z6 h1 h2 J hl I C g t p g1 g2).mp rfl).1
theorem Gm (h1:us.length=ls.length)(h2:M.length=ls.length)(g:∀ws∈M,ws.length=ls.length)(nm:vY ls)(e:ow us M ls=ls):∀i j,Pr us ls M i j:=by have q:mP (fV ls ls us M)=mP ls:=Q4 (by rw[show nI (mP (fV ls ls us M))=ls from e];exact nm);exact(Mm h1 h2 g).mp q
structure fW (us:LH)(M:LA)(ls:LH):Prop where
 len:us.length=ls.length
 norm:vY ls
 even:∀i j,Pr us ls M i j
 top:∀P:LH,P.length=ls.length->(∀i j,Pr us P M i j)->nY P ls
theorem fW.uniq {a b:LH}(A:fW us M a)(B:fW us M b):a=b:=by have l:a.length=b.length:=A.len.symm.trans B.len;exact Fh A.norm B.norm l (B.top a l A.even) (A.top b l.symm B.even)
end
section
variable {P:Program}{w:World}{K:LO}{mg:LQ}{base:Heap}
inductive qM (K:LO)(vs:LI)(H:Hp)(Q:VK):Prop|mk (v:V) (us:LH) (M:LA) (_:vs=[v]) (_:Ix K H v us M) (_:M.length=us.length) (_:us.length<=100) (_:(∀ws∈M,ws.length=us.length)) (_:∀p ls H',Same H H'->H p=none->H' p=some (.lst (ls.map V.int))->fW us M ls->Q (.ref p) H'):qM K vs H Q
def uL (K:LO):Sp:=λvs H Q _=>qM K vs H Q
abbrev Hw:LM:=["web","lots","finer"]
theorem kR:bv Hw ["web"] (aw oZ):={}
theorem AU (B:IG mg)(F:Fun K "coarsest_parting" "coarsest_parting" oZ f fd)(GS:Cl P w K mg base "split_up" rP ["web","lots"] 2 (Eh K)):cW P w K mg base gK 3 f fd ["web"] (uL K):=by
 refine F.q kR λH vs _ hr h=>?_;obtain⟨v,us,M,rfl,hW,lM,lu,l3,q⟩:=h;have T:=hW;obtain⟨p,hA,rA,rs,rfl,hp,hh,hR,lR,hrow⟩:=hW;refine⟨_,am (fk 1 kR.nd (bR p7 (dC (ac ar aj)) (bE bQ (by rfl) B.len bu (ac (bf bL (pv 0) ar) aj))))
  (am (fk 2 kR.nd (bH GS hr rfl (ac (pv 0) (ac (pv 1) aj))))
  (am (oF PassesOwn.never (bV (p9 hr.units) (pv 2) (pv 1) (bO _))
   (am (fk 1 kR.nd (pv 2))
   (aC (fk 2 kR.nd (bH GS hr rfl (ac (pv 0) (ac (pv 1) aj)))))))
  (aC (bw (pv 1))))),?_⟩
 show let I:TS:=_;let C:TS:=bN _ I;let t:TS:=bN _ C;bN _ t _ _ _;intro I C t;refine⟨F4,λl1 hl1=>?_⟩;obtain⟨H0,qw,s0,e0⟩:=nw (.lst [.int 0]) hl1;rw[qw];clear qw;refine⟨_,rfl,p,_,_,_,rfl,rfl,s0.seqT hp,rfl,hA,_,rfl,.inl (s0.seq hh),?_⟩;rw[aa];refine⟨l1,(us.length:Int),_,rfl,rfl,e0,by lia,by lia,cu (cq (by show 1*(us.length:Int).toNat<=1000;lia)),λL hL=>?_⟩;rw[bg,mn];have s1:Same H (L2.upd H0 L (.lst ((List.replicate us.length (0:Int)).map V.int))):=s0.trans (Same.upd hL);have e1:L2.upd H0 L (.lst ((List.replicate us.length (0:Int)).map V.int)) L=some (.lst ((List.replicate us.length (0:Int)).map V.int)):=au;generalize L2.upd H0 L (.lst ((List.replicate us.length (0:Int)).map V.int))=H1 at s1 e1 ⊢;have nL:H L=none:=s0.free hL;have J:(List.replicate us.length (0:Int)).length=us.length:=cN;refine⟨_,rfl,_,rfl,.ref p,L,us,_,M,rfl,T.same s1,bW.of e1,by rw[J],by rw[J,lM],by rw[J];lia,λws l=>by rw[l3 ws l,J],λF H2 s2 n2 e2=>?_⟩;rw[Tk]at e2;refine⟨λm σ H'=>∃(L F:Addr) (ls:LH),σ=[some (.ref p),some (.ref L),some (.ref F)]/\Same H H'/\H L=none/\H F=none/\H' L=some (.lst (ls.map V.int))/\H' F=some (.lst ((ow us M ls).map V.int))/\ls.length=us.length/\vY ls/\
  (∀P:LH,P.length=us.length->(∀i j,Pr us P M i j)->nY P ls)/\m=Nb us.length ls,⟨_,L,F,_,rfl,s1.trans s2,nL,s1.free n2,s2 _ _ e1,e2,J,CW _,λP _ _=>Bw,rfl⟩,?_⟩
 rintro m σ H3 ⟨L',F',ls,rfl,U,nL',nF',eL,eF,ll,nm,tp,rfl⟩;have h1:us.length=ls.length:=ll.symm;have h2:M.length=ls.length:=by lia
 have h3:∀ws∈M,ws.length=ls.length:=λws l=>by rw[l3 ws l,ll]
 refine⟨_,rfl,_,rfl,_,_,Sh (K:=K) (ok:=any) trivial (bW.of eF),Sh (K:=K) (ok:=any) trivial (bW.of eL),⟨(oK _).1,(oK _).1,bj (oK _).2 (by decide)⟩,_,rfl,?_⟩;rw[Dq];by_cases e:ow us M ls=ls;refine iP e ?_;refine⟨_,rfl,q L' ls H3 U nL' eL ⟨h1,nm,Gm h1 h2 h3 nm e,λP lP ev=>tp P (by lia) ev⟩⟩;refine tF e ?_;have g:(ow us M ls).length=us.length:=by rw[Jn h1 h2,ll]
 refine⟨_,λσ' H' z=>z,?_⟩;refine⟨_,rfl,_,rfl,_,rfl,.ref p,F',us,_,M,rfl,T.same U,bW.of eF,by rw[g],by rw[g,lM],by rw[g];lia,λws l=>by rw[l3 ws l,g],λF2 H4 s4 n4 e4=>?_⟩;rw[Tk]at e4;refine⟨_,Na g ll (xD _) nm (zZ h1 h2 h3) e,F',F2,_,rfl,U.trans s4,nF',U.free n4,s4 _ _ eF,e4,g,xD _,λP lP ev=>Cm h1 h2 h3 (by lia) ev (tp P lP ev),rfl⟩
def rI (k:Nat):LH:=(List.range k).map λ(i:Nat)=>(i:Int)
theorem i7 (k:Nat):(rI k).length=k:=by unfold rI;rw[aa,aA]
structure WR (H:Hp)(p:Addr)(hs:LH)(M:LA):Prop where
 ex:∃hA rA rs,H p=some (.tup [.ref hA,.ref rA])/\H hA=some (.lst (hs.map V.int))/\H rA=some (.lst (rs.map V.ref))/\dw H rs M
theorem WR.mono (W:WR H p hs M)(e:Same H H'):WR H' p hs M:=by obtain⟨g,rA,rs,h1,h2,j,R⟩:=W.ex;exact⟨g,rA,rs,e _ _ h1,e _ _ h2,e _ _ j,R.keep λr _ o z=>e r o z⟩
def i6 (hs:LH)(os:LH):LH:=os.map λo=>hs.getD o.toNat 0
def nu (M:LA)(os:LH):LA:=os.map λu=>i6 (M.getD u.toNat []) os
theorem MF {xs:LH}(h0:0<=o)(h1:o<(xs.length:Int)):pK (xs.map V.int) o=some (.int (xs.getD o.toNat 0)):=by
 obtain⟨j,rfl⟩:=cC h0;have g:j<xs.length:=by lia
 refine cV ?_;rw[ao,aq g];show some (V.int xs[j])=some (V.int (xs.getD (Int.toNat (j:Int)) 0));rw[bg,ax,aq g];rfl
theorem CI (h:o∈rI k):0<=o/\o<(k:Int):=by unfold rI at h;obtain⟨i,hi,rfl⟩:=aV.mp h;have:=bc.mp hi;lia
inductive wG (vs:LI)(H:Hp)(Q:VK):Prop|mk (c:Int) (n:Nat) (fr:Bool) (_:vs=[.int c,.int (n:Int),.bl fr]) (_:n<=8) (_:∀(p:Addr) (os:LH) (H':Hp),Same H H'->H p=none->H' p=some (.lst (os.map V.int))->os.Perm (rI n)->Q (.ref p) H'):wG vs H Q
def El:Sp:=λvs H Q _=>wG vs H Q
abbrev Q3:LM:=["_law_cell","_law_many","_law_free","_law_draws_here","_law_found","_law_k"]
abbrev Dx:LM:=["_law_cell","_law_many","_law_free"]
theorem tY:bv Q3 Dx (aw yz):={}
theorem E5 (i:Nat):rI (i+1)=rI i++[(i:Int)]:=by unfold rI;rw[n9,a0];rfl
theorem KI (B:tT mg)(F:Fun K "_law_order" "_law_order" yz f fd)(GD:Cl P w K mg base "_law_draws" rV ["_law_cell","_law_many","_law_base","_law_free"] 1 tX):cW P w K mg base gK 2 f fd Dx El:=by
 refine F.q tY λH vs _ hr h=>?_;obtain⟨c,n,fr,rfl,hn,q⟩:=h;refine⟨_,am (fk 3 tY.nd (bH GD hr rfl (ac (pv 0) (ac (pv 1) (ac ar (ac (pv 2) aj))))))
  (am (fk 4 tY.nd (dC aj))
  (am (eQ PassesOwn.never rfl (fT rfl B.range (ac (pv 1) aj)) (l9 5 tY.nd)
   (aC (g0 (mO bX PySem.F.slot_list_insert PySem.F.type_list_insert HA (pv 4) (ac (bR gR (bf cD (pv 3) (pv 5)) (bR gt (pv 5) ar)) (ac (pv 5) aj))))))
  (aC (bw (pv 4))))),?_⟩
 show let p:TS:=_;let l:TS:=_;let j:TS:=bN (i0 _ _ l) p;let g:TS:=bN _ j;bN _ g _ _ _;intro p l j g;refine⟨_,rfl,_,rfl,_,rfl,c,n,5040,fr,rfl,by lia,by decide,.inl (by decide),λd ds H1 hd s1 nd ed=>?_⟩;obtain⟨ld,bd⟩:=hd;refine⟨bp _,λR U=>?_⟩;have nR:H R=none:=s1.free U;refine⟨_,rfl,(n:Int),rfl,by lia,by lia,gG (n:=n) (λi σ H'=>∃(J:LU) (os:LH),σ=[some (.int c),some (.int (n:Int)),some (.bl fr),some (.ref d),some (.ref R),J]/\Same H1 H'/\H' R=some (.lst (os.map V.int))/\os.Perm (rI i)) ⟨none,[],rfl,Same.upd U,au,List.Perm.refl _⟩ ?_ ?_⟩;rintro i σ H2 hi ⟨J,os,rfl,C,I,pm⟩;have T:i<ds.length:=by lia
 have t:pK (ds.map V.int) (0+(i:Nat):Int)=some (.int (ds[i]'T)):=by rw[fQ];exact cV (by rw[ao,aq T];rfl)
 have lo:os.length=i:=by rw[pm.length_eq,i7]
 generalize ds[i]'T=x at t;obtain⟨k,ek⟩:=cC (fZ x (by lia:(0+(i:Nat)+1:Int)≠0));have hk:k<=i:=by have:=eJ x (by lia:(0:Int)<(0+(i:Nat)+1:Int));lia
 refine⟨_,rfl,.inl ⟨rfl,_,bW.of I⟩,_,rfl,_,rfl,d,_,_,_,rfl,rfl,bW.of (C _ _ ed),t,_,rfl,_,_,rfl,rfl,_,_,rfl,rfl,(by show(0:Int)<0+(i:Nat)+1;lia),_,rfl,?_⟩;refine⟨R,_,k,.int (0+(i:Nat):Int),rfl,?_,I,by rw[aa];lia,cq (by rw[aa];lia),?_⟩;show[V.int (x%(0+(i:Nat)+1)),V.int _]=_;rw[ek];refine⟨_,os.take k++(i:Int)::os.drop k,rfl,λb o e=>by rw[aW (aI e U)];exact C _ _ e,?_,?_⟩;rw[au,a0,aJ,List.map_take,zI,fQ];rw[E5];refine List.perm_middle.trans ?_;rw[mf];exact(List.Perm.cons _ pm).trans (List.perm_append_singleton _ _).symm;rintro σ H2 ⟨J,os,rfl,C,I,pm⟩;exact⟨_,rfl,q R os H2 (s1.trans C) nR I pm⟩
end
section
theorem vd {n:Nat}(h:k<n):(rI n)[k]?=some (k:Int):=by unfold rI;rw[ao,cy h];rfl
theorem C3 {α:Type}(xs:List α)(d:α):(rI xs.length).map (λo=>xs.getD o.toNat d)=xs:=by apply cJ;intro i;rw[ao];by_cases hi:i<xs.length;rw[vd hi,jb,bg,ax,aq hi];rfl;rw[aY (by rw[i7];lia),aY (by lia)];rfl
end
section
variable {n:Nat}{os:LH}(hp:os.Perm (rI n))
theorem nj (xs os:LH):(i6 xs os).length=os.length:=by unfold i6;rw[aa]
theorem CH {xs:LH}{a:Nat}(e:os[i]?=some (a:Int)){x:Int}(g:xs[a]?=some x):(i6 xs os)[i]?=some x:=by unfold i6;rw[ao,e,jb,bg,ax,g];rfl
theorem Nq {a:Nat}(e:os[i]?=some (a:Int)){W:LH}(g:M[a]?=some W):(nu M os)[i]?=some (i6 W os):=by unfold nu;rw[ao,e,jb,bg,ax,g];rfl
include hp
theorem Ff (e:os[i]?=some o):∃a:Nat,o=(a:Int)/\a<n:=by have:=CI (hp.mem_iff.mp (af e));obtain⟨a,rfl⟩:=cC this.1;exact⟨a,rfl,by lia⟩
theorem CP:os.length=n:=by rw[hp.length_eq,i7]
theorem oC {xs:LH}(h:xs.length=n):(i6 xs os).Perm xs:=by subst h;have:=hp.map λo=>xs.getD o.toNat 0;rw[C3]at this;exact this
end
section
variable {P:Program}{w:World}{K:LO}{mg:LQ}{base:Heap}
theorem rX (R:dw H rs M)(h:r∈rs):∃o,H r=some o:=by
 obtain⟨j,g,e⟩:=zo h;obtain⟨p,x',h1,h2,l⟩:=R.get g;have:rs[j]?=some r:=by rw[aq g,e]
 rw[h1]at this;cases this;exact⟨_,l⟩
theorem AG (R:dw H rs M)(h:H a=none):a∉rs:=λg=>by obtain⟨o,e⟩:=rX R g;rw[h]at e;cases e
theorem yV {Q:Hp->Prop}(M:LA)(hlen:M.length=xs.length)(hm:xs.length<=900)(hD:H1 D=none)(hxs:bW K H1 a xs)(hs:∀(i:Nat) (x:V) (row:LH) (H':Hp),xs[i]?=some x->M[i]?=some row->Same H1 H'->te (σ++[some x]) H' λv T=>∃r,v=.ref r/\Same H' T/\H' r=none/\T r=some (.lst (row.map V.int)))(hd:∀rs H',Same H1 H'->H' D=some (.lst (rs.map V.ref))->dw H' rs M->(∀r∈rs,H1 r=none/\r≠D)->Q H')(mono:∀σ H Q Q',(∀v H1,Q v H1->Q' v H1)->te σ H Q->te σ H Q'):
  ∃W:Nat->Nat->List V->Hp->Prop,(∃m,W 0 m [] (upd H1 D (.lst [])))/\
   ∀i m ys H',W i m ys H'->H' D=some (.lst ys)/\(((zu K a).stop i H'/\Q H')\/((zu K a).go i H'/\∀z H2,(zu K a).yld i H' z H2->te (σ++[some z]) H2 λv T=>T D=some (.lst ys)/\ys.length<sizeLine/\∃m',m'<m/\W (i+1) m' (ys++[v]) (upd T D (.lst (ys++[v]))))):=by
 refine kA (xs:=xs) (λi ys H'=>∃g:LK,ys=g.map V.ref/\g.length=i/\Same H1 H'/\H' D=some (.lst ys)/\dw H' g (M.take i)/\∀r∈g,H1 r=none/\r≠D) ⟨[],rfl,rfl,Same.upd hD,au,⟨rfl,(λi r x h _=>by cases h),fM⟩,(λr I=>by cases I)⟩ (λi ys H' _ ⟨_,_,_,sm,p,_⟩=>⟨Same.sq sm hxs,p⟩) ?_ ?_ mono;rintro i x ys H4 hx ⟨g,rfl,l4,t,p,J,U⟩;have hi:i<M.length:=by rw[hlen];exact(aZ.mp hx).1
 have hrow:M[i]?=some M[i]:=aq hi;refine mono _ _ _ _ ?_ (hs i x M[i] H4 hx hrow t);rintro v H5 ⟨r,rfl,s5,I,er⟩;have C:r≠D:=(aI p I).symm;have nR:=AG J I;have R5:dw H5 (g++[r]) (M.take i++[M[i]]):=J.snoc (λl _ o' z=>s5 l o' z) er nR;refine⟨s5 _ _ p,cq (by rw[aa];lia),g++[r],by rw[a0];rfl,by rw[ah,l4];rfl,λb u e=>?_,au,?_,?_⟩;have:b≠D:=λz=>by subst z;rw[hD]at e;cases e
 rw[aW this];exact s5 _ _ (t _ _ e);rw[cU hrow];refine R5.keep λl j o' e=>?_;have:l≠D:=by rcases be.mp j with z|z;exact(U l z).2;rw[aX.mp z];exact C
 rw[aW this];exact e;intro l j;rcases be.mp j with z|z;exact U l z;rw[aX.mp z];exact⟨t.free I,C⟩;rintro ys H4 ⟨g,rfl,l4,t,p,J,U⟩;rw[<-hlen,ce]at J;exact hd g H4 t p J U
def dW (hs:LH)(M:LA):PyData:=.tuple [dI hs,.list (M.map dI)]
theorem vx:∀M:LA,PyData.canLayAll0 (M.map dI)=true/\PyData.depthAll (M.map dI)<=1
 |[]=>⟨rfl,bp _⟩
 |x::M=>by obtain⟨h1,h2⟩:=vx M;obtain⟨a1,a2⟩:=oK x;rw[aJ];simp only[PyData.canLayAll0,PyData.depthAll,h1,a1,eK,true_and];lia
theorem LE (hs:LH)(M:LA):(dW hs M).canLay0=true/\(dW hs M).depth<=3:=by obtain⟨h1,h2⟩:=vx M;obtain⟨a1,a2⟩:=oK hs;unfold dW;simp only[PyData.canLay0,PyData.canLayAll0,PyData.depth,PyData.depthAll,h1,a1,eK,true_and];lia
theorem vN:∀{rs:LK} {M:LA},rs.length=M.length->(∀(i:Nat) (r:Addr) (x:LH),rs[i]?=some r->M[i]?=some x->H r=some (.lst (x.map V.int)))->DAs K any H (rs.map V.ref) (M.map dI)
 |[],[],_,_=>.nil
 |r::rs,x::M,l,h=>.cons (Sh trivial (bW.of (h 0 r x rfl rfl))) (vN (by simpa using l) λi g x' h1 h2=>h (i+1) g x' h1 h2)
structure iY (n:Nat)(M:LA):Prop where
 len:M.length=n
 row:∀(i:Nat) (x:LH),M[i]?=some x->x.length=n/\∀z∈x,z.natAbs<=2*kr
theorem Sq.n {n:Nat}(S:Sq n M):iY n M:=⟨S.len,λi x h=>⟨(S.row i x h).1,λz hz=>bj ((S.row i x h).2 z hz) (by lia)⟩⟩
structure Wz (H:Hp)(p:Addr)(n:Nat)(hs:LH)(M:LA):Prop where
 wr:WR H p hs M
 len:hs.length=n
 sq:iY n M
 hb:∀z∈hs,0<=z/\z<=3
theorem Wz.same {n:Nat}(W:Wz H p n hs M)(s:Same H H'):Wz H' p n hs M:=⟨W.wr.mono s,W.len,W.sq,W.hb⟩
structure WN (H H':Hp)(p:Addr)(hs:LH)(M:LA):Prop where
 ex:∃hA rA rs,H' p=some (.tup [.ref hA,.ref rA])/\H' hA=some (.lst (hs.map V.int))/\H' rA=some (.lst (rs.map V.ref))/\dw H' rs M/\(∀a∈p::hA::rA::rs,H a=none)/\hA≠rA/\hA∉rs/\rA∉rs
theorem yW {Q:Hp->Prop}(zs:LH)(hlen:zs.length=xs.length)(I:xs.length<=900)(t:H1 D=none)(j:bW K H1 a xs)(hs:∀(i:Nat) (x:V) (z:Int) (H':Hp),xs[i]?=some x->zs[i]?=some z->Same H1 H'->te (σ++[some x]) H' λv g=>v=.int z/\g=H')(hd:Q (upd H1 D (.lst (zs.map V.int))))(mono:∀σ H Q C,(∀v H1,Q v H1->C v H1)->te σ H Q->te σ H C):
  ∃W:Nat->Nat->List V->Hp->Prop,(∃m,W 0 m [] (upd H1 D (.lst [])))/\
   ∀i m ys H',W i m ys H'->H' D=some (.lst ys)/\(((zu K a).stop i H'/\Q H')\/((zu K a).go i H'/\∀z H2,(zu K a).yld i H' z H2->te (σ++[some z]) H2 λv g=>g D=some (.lst ys)/\ys.length<sizeLine/\∃l,l<m/\W (i+1) l (ys++[v]) (upd g D (.lst (ys++[v]))))):=by
 refine kA (xs:=xs) (λi ys H'=>ys=(zs.take i).map V.int/\H'=upd H1 D (.lst ys)) ⟨rfl,rfl⟩ (λi ys H' _ ⟨_,e⟩=>?_) ?_ ?_ mono;subst e;exact⟨Same.sq (Same.upd t) j,au⟩;rintro i x ys H4 p ⟨rfl,rfl⟩;have hi:i<zs.length:=by rw[hlen];exact(aZ.mp p).1
 have hz:zs[i]?=some zs[i]:=aq hi;refine mono _ _ _ _ ?_ (hs i x zs[i] _ p hz (Same.upd t));rintro v H5 ⟨rfl,rfl⟩;refine⟨au,cq (by rw[aa,cm];lia),?_,by rw[qH]⟩;rw[cU hz,a0];rfl;rintro ys H4 ⟨rfl,rfl⟩;rw[<-hlen,ce];exact hd
theorem dw.append {g:LK}{N:LA}(R:dw H rs M)(S:dw H g N)(d:∀r∈g,r∉rs):dw H (rs++g) (M++N):=by refine⟨by rw[ah,ah,R.len,S.len],λi r y h1 h2=>?_,?_⟩;by_cases hi:i<rs.length;rw[aN hi]at h1;rw[aN (by rw[<-R.len];exact hi)]at h2;exact R.row i r y h1 h2;rw[aE (by lia)]at h1;rw[aE (by rw[<-R.len];lia),<-R.len]at h2;exact S.row _ r y h1 h2;rw[jm];refine⟨R.nd,S.nd,λa j b hb e=>?_⟩;subst e;exact d a hb j
def dN (n m:Nat)(M M':LA):LA:=M.map (λx=>x++List.replicate m 0)++M'.map (λx=>List.replicate n 0++x)
inductive Ae (vs:LI)(H:Hp)(Q:VK):Prop|mk (wA g:Addr) (n m:Nat) (hs hs':LH) (M M':LA) (_:vs=[.ref wA,.ref g]) (_:WR H wA hs M) (_:WR H g hs' M') (_:hs.length=n) (_:hs'.length=m) (_:iY n M) (_:iY m M') (_:n<=8) (_:m<=8) (_:∀p H',Same H H'->WN H H' p (hs++hs') (dN n m M M')->Q (.ref p) H'):Ae vs H Q
def Cp:Sp:=λvs H Q _=>Ae vs H Q
abbrev K7:LM:=["web","other","ahead","behind","rows","rows_there"]
theorem uS:bv K7 ["web","other"] (aw qS):={}
theorem Ou:cn (aw qS) K7 (cX (eU (dM qS 2))) ["row"]:={}
theorem Ot:cn (aw qS) K7 (cX (eU (dM qS 3))) ["row"]:={}
theorem NL (B:tT mg)(F:Fun K "side_by_side" "side_by_side" qS f fd):cW P w K mg base gK 1 f fd ["web","other"] Cp:=by
 refine F.q uS λH vs _ hr h=>?_;obtain⟨wA,oA,n,m,hs,hs',M,M',rfl,hW,hO,hl,hl',hS,hS',hn,hm,q⟩:=h;obtain⟨hA,rA,rs,w1,w2,w3,R⟩:=hW.ex;obtain⟨hB,rB,ss,o1,o2,o3,S⟩:=hO.ex;refine⟨_,am (fk 2 uS.nd (bE bQ (by rfl) B.len bu (ac (bf bL (pv 0) ar) aj)))
  (am (fk 3 uS.nd (bE bQ (by rfl) B.len bu (ac (bf bL (pv 1) ar) aj)))
  (am (mM (i:=4) uS.nd rfl (Or.inl rfl) rfl Ou rfl (cK (bf bL (pv 0) ar)) λ_ _ _=>bR qf (pv 6) (bR p7 (dC (ac ar aj)) (pv 3)))
  (am (mM (i:=5) uS.nd rfl (Or.inl rfl) rfl Ot rfl (cK (bf bL (pv 1) ar)) λ_ _ _=>bR qf (bR p7 (dC (ac ar aj)) (pv 2)) (pv 6))
  (aC (bw (dm (ac (bR qf (bf bL (pv 0) ar) (bf bL (pv 1) ar)) (ac (bR qf (pv 4) (pv 5)) aj)))))))),?_⟩
 show let ω1:TS:=_;let ω2:TS:=bN _ ω1;let ω3:TS:=bN _ ω2;let ω4:TS:=bN _ ω3;bN _ ω4 _ _ _;intro ω1 ω2 ω3 ω4;refine⟨_,rfl,wA,_,_,_,rfl,rfl,dH.of w1,rfl,hA,_,rfl,.inl (bW.of w2),?_⟩;refine⟨_,rfl,oA,_,_,_,rfl,rfl,dH.of o1,rfl,hB,_,rfl,.inl (bW.of o2),?_⟩;rw[aa,aa,hl,hl'];refine⟨_,rfl,wA,_,_,_,rfl,rfl,dH.of w1,rfl,rA,rfl,⟨_,bW.of w3⟩,λD hD=>?_⟩;refine yV (xs:=rs.map V.ref) (M.map λx=>x++List.replicate m 0) (by rw[aa,aa,R.len]) (by rw[aa,R.len,hS.len];lia) hD (bW.of w3) ?_ ?_ ?_;intro i x row H1 hx hrow s1;obtain⟨r,C,rfl⟩:=bJ hx;obtain⟨y,hy,rfl⟩:=bJ hrow;have er:=s1 _ _ (R.row i r y C hy);have ly:=(hS.row i y hy).1;refine⟨_,rfl,F4,λl1 hl1=>?_⟩;refine⟨_,rfl,l1,(m:Int),_,rfl,rfl,au,by lia,by lia,cu (cq (by show 1*(m:Int).toNat<=1000;lia)),λl2 hl2=>?_⟩;have J:Same H1 (L2.upd (L2.upd H1 l1 (.lst [.int 0])) l2 (.lst (List.replicate (m:Int).toNat [V.int 0]).flatten)):=(Same.upd hl1).trans (Same.upd hl2);have el:L2.upd (L2.upd H1 l1 (.lst [.int 0])) l2 (.lst (List.replicate (m:Int).toNat [V.int 0]).flatten) l2=some (.lst ((List.replicate m (0:Int)).map V.int)):=by rw[au,bg,mn]
 generalize L2.upd (L2.upd H1 l1 (.lst [.int 0])) l2 (.lst (List.replicate (m:Int).toNat [V.int 0]).flatten)=H2 at J el ⊢;refine⟨r,l2,_,_,rfl,rfl,J _ _ er,el,cu (cq (by rw[aa,aa,cN];lia)),λl3 I=>?_⟩;exact⟨l3,rfl,J.trans (Same.upd I),J.free I,by rw[au,a0]⟩;intro t H1 s1 eD1 R1 f1;refine⟨_,rfl,oA,_,_,_,rfl,rfl,dH.of (s1 _ _ o1),rfl,rB,rfl,⟨_,bW.of (s1 _ _ o3)⟩,λD2 hD2=>?_⟩;refine yV (xs:=ss.map V.ref) (M'.map λx=>List.replicate n 0++x) (by rw[aa,aa,S.len]) (by rw[aa,S.len,hS'.len];lia) hD2 (bW.of (s1 _ _ o3)) ?_ ?_ ?_;intro i x row H2 hx hrow s2;obtain⟨r,C,rfl⟩:=bJ hx;obtain⟨y,hy,rfl⟩:=bJ hrow;have er:=s2 _ _ (s1 _ _ (S.row i r y C hy));have ly:=(hS'.row i y hy).1;refine⟨F4,λl1 hl1=>?_⟩;refine⟨_,rfl,l1,(n:Int),_,rfl,rfl,au,by lia,by lia,cu (cq (by show 1*(n:Int).toNat<=1000;lia)),λl2 hl2=>?_⟩;have J:Same H2 (L2.upd (L2.upd H2 l1 (.lst [.int 0])) l2 (.lst (List.replicate (n:Int).toNat [V.int 0]).flatten)):=(Same.upd hl1).trans (Same.upd hl2);have el:L2.upd (L2.upd H2 l1 (.lst [.int 0])) l2 (.lst (List.replicate (n:Int).toNat [V.int 0]).flatten) l2=some (.lst ((List.replicate n (0:Int)).map V.int)):=by rw[au,bg,mn]
 generalize L2.upd (L2.upd H2 l1 (.lst [.int 0])) l2 (.lst (List.replicate (n:Int).toNat [V.int 0]).flatten)=H3 at J el ⊢;refine⟨_,rfl,l2,r,_,_,rfl,rfl,el,J _ _ er,cu (cq (by rw[aa,aa,cN];lia)),λl3 I=>?_⟩;exact⟨l3,rfl,J.trans (Same.upd I),J.free I,by rw[au,a0]⟩;intro j H2 s2 eD2 R2 f2;have t2:=s1.trans s2;refine⟨_,rfl,wA,_,_,_,rfl,rfl,dH.of (t2 _ _ w1),rfl,_,rfl,oA,_,_,_,rfl,rfl,dH.of (t2 _ _ o1),rfl,hA,hB,_,_,rfl,rfl,t2 _ _ w2,t2 _ _ o2,cu (cq (by rw[aa,aa];lia)),λU hpA=>?_⟩;have s3:Same H2 (L2.upd H2 U (.lst (hs.map V.int++hs'.map V.int))):=Same.upd hpA;have e3:L2.upd H2 U (.lst (hs.map V.int++hs'.map V.int)) U=some (.lst ((hs++hs').map V.int)):=by rw[au,a0]
 generalize L2.upd H2 U (.lst (hs.map V.int++hs'.map V.int))=H3 at s3 e3 ⊢;have l1:t.length=n:=by rw[R1.len,aa,hS.len]
 have l2:j.length=m:=by rw[R2.len,aa,hS'.len]
 refine⟨_,rfl,_,rfl,D,D2,_,_,rfl,rfl,s3 _ _ (s2 _ _ eD1),s3 _ _ eD2,cu (cq (by rw[aa,aa];lia)),λT hrN=>?_⟩;have s4:Same H3 (L2.upd H3 T (.lst (t.map V.ref++j.map V.ref))):=Same.upd hrN;have e4:L2.upd H3 T (.lst (t.map V.ref++j.map V.ref)) T=some (.lst ((t++j).map V.ref)):=by rw[au,a0]
 have nrp:U≠T:=aI e3 hrN;generalize L2.upd H3 T (.lst (t.map V.ref++j.map V.ref))=H4 at s4 e4 ⊢;refine⟨k9,λtA htA=>?_⟩;have s5:Same H4 (L2.upd H4 tA (.tup [.ref U,.ref T])):=Same.upd htA;have u2:Same H2 (L2.upd H4 tA (.tup [.ref U,.ref T])):=(s3.trans s4).trans s5;have R6:dw H2 (t++j) (dN n m M M'):=(R1.keep λr _ o z=>s2 r o z).append R2 λr hr2 C=>by obtain⟨o,z⟩:=rX R1 C;rw[(f2 r hr2).1]at z;cases z
 have fr:∀r∈t++j,H r=none/\r≠U/\r≠T:=λr hr=>by obtain⟨o,z⟩:=rX R6 hr;refine⟨?_,aI z hpA,aI (s3 _ _ z) hrN⟩;rcases be.mp hr with y|y;exact(f1 r y).1;exact s1.free (f2 r y).1
 refine q tA _ (t2.trans u2) ⟨U,T,t++j,au,s5 _ _ (s4 _ _ e3),s5 _ _ e4,R6.keep λr _ o z=>u2 r o z,?_,nrp,λz=>(fr _ z).2.1 rfl,λz=>(fr _ z).2.2 rfl⟩;intro a ha;rcases bT.mp ha with rfl|ha;exact((t2.trans s3).trans s4).free htA;rcases bT.mp ha with rfl|ha;exact t2.free hpA;rcases bT.mp ha with rfl|ha;exact(t2.trans s3).free hrN;exact(fr a ha).1;rintro σ H' Q1 Q2 hq ⟨z,fn⟩;exact⟨z,λl1 h1=>let⟨v,e,l,k,xs,a1,a2,a3,a4,a5,a6,g⟩:=fn l1 h1;⟨v,e,l,k,xs,a1,a2,a3,a4,a5,a6,λp hp=>let⟨v',e',l',b',xs',zs',c1,c2,c3,c4,c5,g'⟩:=g p hp;⟨v',e',l',b',xs',zs',c1,c2,c3,c4,c5,λp' hp'=>hq _ _ (g' p' hp')⟩⟩⟩;rintro σ H' Q1 Q2 hq ⟨v',e',z,fn⟩;exact⟨v',e',z,λl1 h1=>let⟨v,e,l,k,xs,a1,a2,a3,a4,a5,a6,g⟩:=fn l1 h1;⟨v,e,l,k,xs,a1,a2,a3,a4,a5,a6,λp hp=>let⟨l',b',xs',zs',c1,c2,c3,c4,c5,g'⟩:=g p hp;⟨l',b',xs',zs',c1,c2,c3,c4,c5,λp' hp'=>hq _ _ (g' p' hp')⟩⟩⟩
end
section
theorem ou (a b:LC)(l:Int):fz (a++b) l=fz a l+fz b l:=by induction a with|nil=>simp[fz]|cons x a g=>obtain⟨u,v⟩:=x;rw[IA,eV,eV,g];lia
theorem rH (l:Int):∀(m:Nat) (ls:LH),fz ((List.replicate m 0).zip ls) l=0
 |0,_=>by simp[fz]
 |_+1,[]=>by simp[fz]
 |m+1,x::ls=>by rw[cT,ij,eV,rH l m ls];split<;>rfl
theorem AH (h:x.length=ls.length)(o:Int):fz ((x++List.replicate m 0).zip (ls++ls')) o=fz (x.zip ls) o:=by rw[n6 h,ou,rH];lia
theorem xp {n:Nat}(h:ls.length=n)(o:Int):fz ((List.replicate n 0++x).zip (ls++ls')) o=fz (x.zip ls') o:=by rw[n6 (by rw[cN,h]),ou,rH];lia
variable {n m:Nat}{M M':LA}
theorem zn (h1:M.length=n)(h2:M'.length=m):(dN n m M M').length=n+m:=by unfold dN;rw[ah,aa,aa,h1,h2]
theorem vT (h1:M.length=n)(hi:i<n)(h:(dN n m M M')[i]?=some ws):∃x,M[i]?=some x/\ws=x++List.replicate m 0:=by unfold dN at h;rw[aN (by rw[aa,h1];exact hi)]at h;exact bJ h
theorem sN (h1:M.length=n)(hi:n<=i)(h:(dN n m M M')[i]?=some ws):∃x,M'[i-n]?=some x/\ws=List.replicate n 0++x:=by unfold dN at h;rw[aE (by rw[aa,h1];exact hi),aa,h1]at h;exact bJ h
theorem BV (h1:iY n M)(h2:iY m M'):∀ws∈dN n m M M',ws.length=n+m:=by intro ws j;obtain⟨i,hi⟩:=aU.mp j;by_cases c:i<n;obtain⟨x,g,rfl⟩:=vT h1.len c hi;rw[ah,cN,(h1.row i x g).1];obtain⟨x,g,rfl⟩:=sN h1.len (by lia) hi;rw[ah,cN,(h2.row _ x g).1]
end
section
variable {P:Program}{w:World}{K:LO}{mg:LQ}{base:Heap}
theorem Bz (ns:LH)(n:Nat)(h:n<=ns.length):oN (ns.map V.int) (some (n:Int)) none=(ns.drop n).map V.int:=by unfold oN;rw[HT.sIx_none,HT.sIx_nat,aa,jc h,<-zI,di (by rw[aa,fF];exact av _)]
inductive qJ (vs:LI)(H:Hp)(Q:VK):Prop|mk (wA g:Addr) (n m:Nat) (hs hs':LH) (M M':LA) (_:vs=[.ref wA,.ref g]) (_:Wz H wA n hs M) (_:Wz H g m hs' M') (_:n<=8) (_:m<=8) (_:∀(p a b:Addr) (ls:LH) (H':Hp),Same H H'->H' p=some (.tup [.ref a,.ref b])->H' a=some (.lst ((ls.take n).map V.int))->H' b=some (.lst ((ls.drop n).map V.int))->fW (hs++hs') (dN n m M M') ls->Q (.ref p) H'):qJ vs H Q
def pT:Sp:=λvs H Q _=>qJ vs H Q
abbrev U3:LM:=["web","other","lots","ahead"]
theorem JN:bv U3 ["web","other"] (aw mF):={}
theorem AR (B:tT mg)(F:Fun K "coarsest_together" "coarsest_together" mF f fd)(GC:Cl P w K mg base "coarsest_parting" oZ ["web"] 3 (uL K))(GS:Cl P w K mg base "side_by_side" qS ["web","other"] 1 Cp):cW P w K mg base gK 4 f fd ["web","other"] pT:=by
 refine F.q JN λH vs _ hr h=>?_;obtain⟨wA,oA,n,m,hs,hs',M,M',rfl,W,O,hn,hm,q⟩:=h;refine⟨_,am (fk 2 JN.nd (bH GC hr rfl (ac (bH GS (hr.mono (by decide)) rfl (ac (pv 0) (ac (pv 1) aj))) aj)))
  (am (fk 3 JN.nd (bE bQ (by rfl) B.len bu (ac (bf bL (pv 0) ar) aj)))
  (aC (bw (dm (ac (jp lH (pv 2) lK (jV (pv 3))) (ac (jp lH (pv 2) (jV (pv 3)) lK) aj)))))),?_⟩
 show let l:TS:=_;let g:TS:=bN _ l;bN _ g _ _ _;intro l g;refine⟨_,rfl,_,rfl,wA,oA,n,m,hs,hs',M,M',rfl,W.wr,O.wr,W.len,O.len,W.sq,O.sq,hn,hm,λpS H1 s1 WN1=>?_⟩;obtain⟨hR,rR,rsR,g1,g2,g3,RR,_⟩:=WN1.ex;have lu:(hs++hs').length=n+m:=by rw[ah,W.len,O.len]
 have lM:=zn (n:=n) (m:=m) W.sq.len O.sq.len;have U:Ix K H1 (.ref pS) (hs++hs') (dN n m M M'):=⟨pS,hR,rR,rsR,rfl,dH.of g1,bW.of g2,bW.of g3,RR.len,λj t ws e1 e2=>bW.of (RR.row j t ws e1 e2)⟩;refine⟨.ref pS,_,_,rfl,U,by rw[lM,lu],by lia,λws hws=>by rw[BV W.sq O.sq ws hws,lu],λT ls H2 s2 nT eT C=>?_⟩;have ll:ls.length=n+m:=by rw[<-C.len,lu]
 have I:=s1.trans s2;obtain⟨hA,rA,rs,w1,w2,w3,R⟩:=(W.same I).wr.ex;refine⟨_,rfl,wA,_,_,_,rfl,rfl,dH.of w1,rfl,hA,_,rfl,.inl (bW.of w2),?_⟩;rw[aa,W.len];refine⟨_,rfl,_,rfl,_,rfl,T,_,rfl,bW.of eT,λa ha=>?_⟩;rw[vP ls n (by lia)];obtain⟨H3,J,s3,e3⟩:=nw (.lst ((ls.take n).map V.int)) ha;rw[J];clear J;refine⟨_,rfl,_,rfl,(n:Int),rfl,T,_,rfl,bW.of (s3 _ _ eT),λb hb=>?_⟩;rw[Bz ls n (by lia)];obtain⟨H4,J,s4,e4⟩:=nw (.lst ((ls.drop n).map V.int)) hb;rw[J];clear J;refine⟨k9,λp hp=>?_⟩;have s5:Same H4 (L2.upd H4 p (.tup [.ref a,.ref b])):=Same.upd hp;exact q p a b ls _ (((I.trans s3).trans s4).trans s5) au (s5 _ _ (s4 _ _ e3)) (s5 _ _ e4) C
inductive wV (vs:LI)(H:Hp)(Q:VK):Prop|mk (wA g:Addr) (n m:Nat) (hs hs':LH) (M M':LA) (_:vs=[.ref wA,.ref g]) (_:Wz H wA n hs M) (_:Wz H g m hs' M') (_:n<=8) (_:m<=8) (_:∀(r:Bool) (ls:LH) (H':Hp),Same H H'->fW (hs++hs') (dN n m M M') ls->(r=true↔(ls.take n).Perm (ls.drop n))->Q (.bl r) H'):wV vs H Q
def Ez:Sp:=λvs H Q _=>wV vs H Q
abbrev Q7:LM:=["web","other","together"]
theorem EO:bv Q7 ["web","other"] (aw yB):={}
theorem JJ {a b a' b':LH}(j:a'.Perm a)(sa:a'.Pairwise (·<=·))(g:b'.Perm b)(l:b'.Pairwise (·<=·)):a'=b'↔a.Perm b:=by constructor;rintro rfl;exact j.symm.trans g;intro h;exact PySem.W.ksm_same ((j.trans h).trans g.symm) sa l
theorem KZ (B:tT mg)(F:Fun K "part_alike" "part_alike" yB f fd)(GT:Cl P w K mg base "coarsest_together" mF ["web","other"] 4 pT):cW P w K mg base gK 5 f fd ["web","other"] Ez:=by
 refine F.q EO λH vs _ hr h=>?_;obtain⟨wA,oA,n,m,hs,hs',M,M',rfl,W,O,hn,hm,q⟩:=h;refine⟨_,am (fk 2 EO.nd (bH GT hr rfl (ac (pv 0) (ac (pv 1) aj))))
  (aC (bw (fH (qe hr.units) (bE tM (by rfl) B.sorted boot_sorted (ac (bf bL (pv 2) ar) aj)) (bE tM (by rfl) B.sorted boot_sorted (ac (bf bL (pv 2) ar) aj)) (bO _)))),?_⟩
 show let g:TS:=_;bN _ g _ _ _;intro g;refine⟨_,rfl,_,rfl,wA,oA,n,m,hs,hs',M,M',rfl,W,O,hn,hm,λp a b ls H1 s1 ep ea eb C=>?_⟩;have ll:ls.length=n+m:=by rw[<-C.len,ah,W.len,O.len]
 refine⟨_,rfl,p,_,_,_,rfl,rfl,dH.of ep,rfl,a,_,rfl,bW.of ea,by rw[cm];lia,λl1 t hl1 pm1 J=>?_⟩;obtain⟨H2,j,T,e2⟩:=nw (.lst (t.map V.int)) hl1;rw[j];clear j;refine⟨_,rfl,p,_,_,_,rfl,rfl,dH.of (T _ _ ep),rfl,b,_,rfl,bW.of (T _ _ eb),by rw[fF];lia,λl2 l hl2 U I=>?_⟩;obtain⟨H3,j,s3,e3⟩:=nw (.lst (l.map V.int)) hl2;rw[j];clear j;refine⟨dI t,dI l,Sh trivial (bW.of (s3 _ _ e2)),Sh trivial (bW.of e3),⟨(oK _).1,(oK _).1,bj (oK _).2 (by decide)⟩,?_⟩;rw[Dq];refine q _ ls H3 ((s1.trans T).trans s3) C ?_;rw[cR];exact JJ pm1 J U I
inductive Ao (vs:LI)(H:Hp)(Q:VK):Prop|mk (wA g:Addr) (n:Nat) (hs:LH) (M:LA) (os:LH) (_:vs=[.ref wA,.ref g]) (_:WR H wA hs M) (_:hs.length=n) (_:iY n M) (_:n<=8) (_:H g=some (.lst (os.map V.int))) (_:os.Perm (rI n)) (_:∀p H',Same H H'->WN H H' p (i6 hs os) (nu M os)->Q (.ref p) H'):Ao vs H Q
def JB:Sp:=λvs H Q _=>Ao vs H Q
abbrev Fk:LM:=["_law_web_here","_law_order_here","_law_hues","_law_rows"]
def Tv (e:Expr):Expr:=match e with
 | .ListComp x _ _ _=>x
 |_=>.Constant .none 0 ⟨0,0,0,0⟩
theorem CA:bv Fk ["_law_web_here","_law_order_here"] (aw oB):={}
theorem Oz:cn (aw oB) Fk (cX (zR (eU (dM oB 1)) 0)) ["_law_k"]:={}
theorem Oy:cn (aw oB) Fk (cX (zR (eU (dM oB 1)) 1)) ["_law_k"]:={}
def O0:Scope:=relabel (cX (zR (eU (dM oB 1)) 1)) (envOfC "" (aw oB) 0 0 .none)
theorem Ox:cn O0 (gj Fk ["_law_k"]) (cX (Tv (zR (eU (dM oB 1)) 1))) ["_law_j"]:={}
theorem NT (F:Fun K "_law_renamed" "_law_renamed" oB f fd):cW P w K mg base gK 1 f fd ["_law_web_here","_law_order_here"] JB:=by
 refine F.q CA λH vs _ _ h=>?_;obtain⟨wA,oA,n,hs,M,os,rfl,hW,hl,hS,hn,U,hp,q⟩:=h;obtain⟨hA,rA,rs,w1,w2,w3,R⟩:=hW.ex;have hmem:∀o∈os,0<=o/\o<(n:Int):=λo h=>CI (hp.mem_iff.mp h);have hlos:os.length=n:=by rw[hp.length_eq,i7]
 refine⟨_,am (jM (pv 0) (oG rfl (gc (l9 2 CA.nd) (gc (l9 3 CA.nd) lN))))
  (aC (bw (dm (ac (il rfl Oz rfl (cK (pv 1)) λ_ _ _=>bf (fB (K:=K)) (pv 2) (pv 4)) (ac (il rfl Oy rfl (cK (pv 1))
   (λ_ _ _=>il rfl Ox rfl (Ks (K:=K) (pv 1)) λ_ _ _=>bf (fB (K:=K)) (bf (fB (K:=K)) (pv 3) (pv 4)) (pv 5))) aj))))),?_⟩
 show let ω1:TS:=_;bN _ ω1 _ _ _;intro ω1;refine⟨_,rfl,wA,_,rfl,dH.of w1,rfl,_,_,rfl,_,_,rfl,rfl,?_⟩;refine⟨_,rfl,oA,rfl,⟨_,bW.of U⟩,λD hD=>?_⟩;refine yW (xs:=os.map V.int) (i6 hs os) (by unfold i6;rw[aa,aa]) (by rw[aa];lia) hD (bW.of U) ?_ ?_ ?_;intro i x z H1 hx hz t;obtain⟨o,p,rfl⟩:=bJ hx;obtain⟨o2,l,rfl⟩:=bJ (show(os.map λo=>hs.getD o.toNat 0)[i]?=some z from hz);rw[p]at l;cases l;have hm:=hmem o (af p);exact⟨_,rfl,_,rfl,hA,_,_,_,rfl,rfl,bW.of (t _ _ w2),MF hm.1 (by rw[hl];exact hm.2),rfl,rfl⟩;obtain⟨H1,qw,t,e1⟩:=nw (.lst ((i6 hs os).map V.int)) hD;rw[qw];clear qw;refine⟨_,rfl,oA,rfl,⟨_,bW.of (t _ _ U)⟩,λD2 J=>?_⟩;have nDD:D≠D2:=aI e1 J;refine yV (xs:=os.map V.int) (nu M os) (by unfold nu;rw[aa,aa]) (by rw[aa];lia) J (bW.of (t _ _ U)) ?_ ?_ ?_;intro i x row H2 hx hrow s2;obtain⟨o,p,rfl⟩:=bJ hx;obtain⟨o2,l,rfl⟩:=bJ (show(os.map λo=>i6 (M.getD o.toNat []) os)[i]?=some row from hrow);rw[p]at l;cases l;have hm:=hmem o (af p);obtain⟨j,rfl⟩:=cC hm.1;have hj:j<rs.length:=by rw[R.len,hS.len];lia
 obtain⟨r,xr,g1,g2,g3⟩:=R.get hj;have t2:=t.trans s2;have hlr:=(hS.row j xr g2).1;have er:M.getD (Int.toNat (j:Int)) []=xr:=by rw[bg,getD_some g2]
 rw[er];refine⟨_,rfl,oA,rfl,⟨_,bW.of (t2 _ _ U)⟩,λD3 I=>?_⟩;refine yW (xs:=os.map V.int) (i6 xr os) (by unfold i6;rw[aa,aa]) (by rw[aa];lia) I (bW.of (t2 _ _ U)) ?_ ?_ ?_;intro i' x' z H3 hx' hz' T;obtain⟨o',ho1,rfl⟩:=bJ hx';obtain⟨o2,l,rfl⟩:=bJ (show(os.map λo=>xr.getD o.toNat 0)[i']?=some z from hz');rw[ho1]at l;cases l;have hm':=hmem o' (af ho1);have t3:=t2.trans T;exact⟨_,rfl,_,rfl,rA,_,_,_,rfl,rfl,bW.of (t3 _ _ w3),iQ g1,_,rfl,r,_,_,_,rfl,rfl,bW.of (t3 _ _ g3),MF hm'.1 (by rw[hlr];exact hm'.2),rfl,rfl⟩;exact⟨D3,rfl,Same.upd I,I,au⟩;rintro σ H' Q1 Q2 hq ⟨v,x1,v2,x2,p2,y3,i2,z2,y4,y5,y6,y7,v4,y8,p3,u3,i3,z3,u4,u5,u6,u7,u8⟩;exact⟨v,x1,v2,x2,p2,y3,i2,z2,y4,y5,y6,y7,v4,y8,p3,u3,i3,z3,u4,u5,u6,u7,hq _ _ u8⟩;intro rs1 H2 s2 eD R2 f2;refine⟨k9,λtA htA=>?_⟩;have T:Same H2 (L2.upd H2 tA (.tup [.ref D,.ref D2])):=Same.upd htA;refine q tA _ ((t.trans s2).trans T) ⟨D,D2,rs1,au,T _ _ (s2 _ _ e1),T _ _ eD,R2.keep λr _ o z=>T r o z,?_,nDD,λz=>?_,λz=>(f2 _ z).2 rfl⟩;intro a C;rcases bT.mp C with rfl|C;exact(t.trans s2).free htA;rcases bT.mp C with rfl|C;exact hD;rcases bT.mp C with rfl|C;exact t.free J;exact t.free (f2 a C).1;have:=(f2 _ z).1;rw[e1]at this;cases this;rintro σ H' Q1 Q2 hq ⟨v,e,a,e2,e3,g⟩;exact⟨v,e,a,e2,e3,λD hD=>let⟨W,m0,st⟩:=g D hD;⟨W,m0,λi m ys H' hw=>let⟨a1,a2⟩:=st i m ys H' hw;⟨a1,a2.imp (λ⟨b1,b2⟩=>⟨b1,hq _ _ b2⟩) id⟩⟩⟩;rintro σ H' Q1 Q2 hq ⟨v,x1,v2,x2,p2,y3,i2,z2,y4,y5,y6,y7,y8⟩;exact⟨v,x1,v2,x2,p2,y3,i2,z2,y4,y5,y6,y7,hq _ _ y8⟩
end
section
theorem NA {n:Nat}(hl:M.length=n)(hz:Pz z)(C:∀(i:Nat) (x:LH),M[i]?=some x->x.length=n/\∀z∈x,Pz z):
  (put M i j z).length=n/\∀(k:Nat) (x:LH),(put M i j z)[k]?=some x->x.length=n/\∀z∈x,Pz z:=by
 unfold put;refine⟨by rw[gQ];exact hl,λk x g=>?_⟩;by_cases hk:k=i;subst hk;by_cases l:k<M.length;rw[fO l]at g;have g:=bK g;have t:M[k]?=some M[k]:=by simp[l]
 have I:=C k _ t;subst g;rw[t];simp only[jQ,gQ];refine⟨I.1,λy p=>?_⟩;rcases ql p with q|q;exact I.2 y q;rw[q];exact hz;rw[aY (by rw[gQ];lia)]at g;cases g;rw[gB (Ne.symm hk)]at g;exact C k x g
theorem iY.put {n:Nat}(S:iY n M)(i j:Nat)(hz:z.natAbs<=2*kr):iY n (put M i j z):=by obtain⟨a,b⟩:=NA (i:=i) (j:=j) (Pz:=λz=>z.natAbs<=2*kr) S.len hz S.row;exact⟨a,b⟩
theorem iY.ent {n:Nat}(S:iY n M){a b:Nat}(hi:i<n)(g:j<n):ent (My.put M i j z) a b=if a=i/\b=j then z else My.ent M a b:=
 rn M n i j a b z S.len (λi x h=>(S.row i x h).1) hi g
theorem lY {a s s':Nat}(l:a<m)(j:u<m)(hs:s<2)(hs':s'<2):a+s*m=u+s'*m↔a=u/\s=s':=by
 have h1:s=0\/s=1:=by lia
 have h2:s'=0\/s'=1:=by lia
 constructor;intro h;rcases h1 with q|q<;>rcases h2 with g|g<;>rw[q,g]at h ⊢ <;>lia;rintro⟨rfl,rfl⟩;rfl
theorem lV {a s:Nat}(g:a<m)(hs:s<2):a+s*m<2*m:=by
 have h1:s=0\/s=1:=by lia
 rcases h1 with rfl|rfl<;>simp only[DD,qx]<;>lia
def nV (m:Nat)(tw:Nat->Nat->Nat)(R:Nat->Nat->Int)(N:LA)(u v s:Nat):LA:=put (put N (u+s*m) (v+(s+tw u v)%2*m) (R u v)) (v+(s+tw u v)%2*m) (u+s*m) (R u v)
def MR (m:Nat)(tw:Nat->Nat->Nat)(R:Nat->Nat->Int)(dn:Nat->Nat->Prop)(N:LA):Prop:=
 ∀a b s t:Nat,a<m->b<m->s<2->t<2->(dn (min a b) (max a b)->ent N (a+s*m) (b+t*m)=if(s+t)%2=tw (min a b) (max a b)then R (min a b) (max a b)else 0)/\(¬dn (min a b) (max a b)->ent N (a+s*m) (b+t*m)=0)
theorem HK {N:LA}{v:Nat}(ht:tw u v<2)(uv:u<=v)(l:v<m)(S:iY (2*m) N)(hR:(R u v).natAbs<=2*kr)(nd:¬dn u v)(L:MR m tw R dn N):
  MR m tw R (λx y=>dn x y\/(x=u/\y=v)) (nV m tw R (nV m tw R N u v 0) u v 1):=by
 intro a b s t C hb hs g;have p:u<m:=by lia
 have J:(0+tw u v)%2<2:=Nat.mod_lt _ (by decide);have I:(1+tw u v)%2<2:=Nat.mod_lt _ (by decide);have c1:=lV (m:=m) p (show 0<2 by decide);have c2:=lV (m:=m) l J;have c3:=lV (m:=m) p (show 1<2 by decide);have c4:=lV (m:=m) l I;have S1:=S.put (u+0*m) (v+(0+tw u v)%2*m) hR;have S2:=S1.put (v+(0+tw u v)%2*m) (u+0*m) hR;have S3:=S2.put (u+1*m) (v+(1+tw u v)%2*m) hR;have e:ent (nV m tw R (nV m tw R N u v 0) u v 1) (a+s*m) (b+t*m)=
   if(a=v/\s=(1+tw u v)%2)/\b=u/\t=1 then R u v else if(a=u/\s=1)/\b=v/\t=(1+tw u v)%2 then R u v else
   if(a=v/\s=(0+tw u v)%2)/\b=u/\t=0 then R u v else if(a=u/\s=0)/\b=v/\t=(0+tw u v)%2 then R u v else ent N (a+s*m) (b+t*m):=by unfold nV;rw[S3.ent c4 c3,S2.ent c3 c4,S1.ent c2 c1,S.ent c1 c2];simp only[lY C l hs I,lY hb p g (show 1<2 by decide),lY C p hs (show 1<2 by decide),lY hb l g I,lY C l hs J,lY hb p g (show 0<2 by decide),lY C p hs (show 0<2 by decide),lY hb l g J]
 rw[e];obtain⟨l1,l2⟩:=L a b s t C hb hs g;have hs2:s=0\/s=1:=by lia
 have U:t=0\/t=1:=by lia
 have T:tw u v=0\/tw u v=1:=by lia
 by_cases j:min a b=u/\max a b=v;have mm:(a=u/\b=v)\/(a=v/\b=u):=by lia
 rw[j.1,j.2]at l2 ⊢;have e0:=l2 nd;refine⟨λ_=>?_,λz=>absurd (Or.inr ⟨rfl,rfl⟩) z⟩;rw[e0];rcases mm with⟨ra,rb⟩|⟨ra,rb⟩<;>rcases hs2 with rfl|rfl<;>rcases U with rfl|rfl<;>rcases T with hw|hw<;>rw[hw]<;>simp[ra,rb];have n1:¬(a=v/\b=u):=λz=>j (by omega);have n2:¬(a=u/\b=v):=λz=>j (by omega);rw[if_neg λz=>n1 ⟨z.1.1,z.2.1⟩,if_neg λz=>n2 ⟨z.1.1,z.2.1⟩,if_neg λz=>n1 ⟨z.1.1,z.2.1⟩,if_neg λz=>n2 ⟨z.1.1,z.2.1⟩];exact⟨λz=>l1 (z.resolve_right j),λz=>l2 λy=>z (.inl y)⟩
theorem ul {W:LH}(h:M[i]?=some W):ent M i j=W.getD j 0:=by unfold ent;rw[h,ax];rfl
def jz (n:Nat)(M:Nat->Nat->Int):Prop:=∀u<n,∀v<n,M u v=M v u
theorem Ra {N:LA}(L:MR m tw R dn N)(h:∀x y,x<=y->y<m->dn x y):jz (2*m) (ent N):=by
 have key:∀u,u<2*m->∃a s,a<m/\s<2/\u=a+s*m:=λu g=>by by_cases c:u<m;exact⟨u,0,c,by decide,by lia⟩;exact⟨u-m,1,by lia,by decide,by lia⟩
 intro u g v p;obtain⟨a,s,l,hs,rfl⟩:=key u g;obtain⟨b,t,hb,j,rfl⟩:=key v p;rw[(L a b s t l hb hs j).1 (h _ _ (by lia) (by lia)),(L b a t s hb l j hs).1 (h _ _ (by lia) (by lia)),Nat.add_comm t s,Nat.min_comm b a,Nat.max_comm b a]
theorem qI {n:Nat}(S:Sq n M):jz n (ent M):=λu j v g=>S.sym u v j g
def sg (os:LH)(u:Nat):Nat:=(os[u]?.getD 0).toNat
theorem EE {n:Nat}(h:os.Perm (My.rI n))(j:u<n):os[u]?=some ((sg os u:Nat):Int)/\sg os u<n:=by
 have lo:os.length=n:=by rw[h.length_eq,i7]
 obtain⟨o,g⟩:=bA (l:=os) (i:=u) (by lia);have:=CI (h.mem_iff.mp (af g));unfold sg;rw[g];show some o=some ((o.toNat:Nat):Int)/\o.toNat<n;rw[Int.toNat_of_nonneg this.1];exact⟨rfl,by lia⟩
theorem FE {n:Nat}(h:os.Perm (My.rI n)){v:Nat}(j:u<n)(g:v<n):ent (nu M os) u v=ent M (sg os u) (sg os v):=by unfold ent nu;rw[ao,(EE h j).1];show((i6 (M.getD (Int.toNat ((sg os u:Nat):Int)) []) os)[v]?).getD 0=_;unfold i6;rw[bg,ax,ao,(EE h g).1];show List.getD _ (Int.toNat ((sg os v:Nat):Int)) 0=_;rw[bg,ax]
theorem yh {n:Nat}(h:os.Perm (My.rI n))(y:jz n (ent M)):jz n (ent (nu M os)):=λu j v g=>by rw[FE h j g,FE h g j];exact y _ (EE h j).2 _ (EE h g).2
theorem M6 {n:Nat}(S:iY n M)(hi:i<n)(g:j<n)(hz:z.natAbs<=2*kr)(y:jz n (ent M)):jz n (ent (put (put M i j z) j i z)):=λu p v l=>by rw[(S.put i j hz).ent g hi,S.ent hi g,(S.put i j hz).ent g hi,S.ent hi g,y u p v l];by_cases C:u=j/\v=i<;>by_cases t:u=i/\v=j<;>simp[C,t,And.comm]
theorem Gk {p q:LC}(h:p.Perm q)(l:Int):fz p l=fz q l:=by
 induction h with
 |nil=>rfl
 |cons x _ C=>obtain⟨a,b⟩:=x;rw[eV,eV,C]
 |swap x y t=>obtain⟨a,b⟩:=x;obtain⟨c,d⟩:=y;rw[eV,eV,eV,eV];lia
 |trans _ _ j g=>exact j.trans g
section
variable {n:Nat}{os:LH}(hp:os.Perm (rI n))
include hp
theorem IN (h1:ws.length=n)(h2:ls.length=n):((i6 ws os).zip (i6 ls os)).Perm (ws.zip ls):=by
 have j:(i6 ws os).zip (i6 ls os)=os.map λo=>(ws.getD o.toNat 0,ls.getD o.toNat 0):=by unfold i6;rw[List.zip_map']
 have g:ws.zip ls=(rI n).map λo=>(ws.getD o.toNat 0,ls.getD o.toNat 0):=by
  conv=>lhs;rw[<-C3 ws 0,<-C3 ls 0,h1,h2]
  rw[List.zip_map']
 rw[j,g];exact hp.map _
end
end
section
variable {n m:Nat}{hs hs' ls ls':LH}{M M':LA}
end
structure Pb (hs:LH)(M:LA)(π:LH)(bh:Int->Int)(R:Int->Int->Int):Prop where
 len:π.length=hs.length
 hue:∀(i:Nat) (p h:Int),π[i]?=some p->hs[i]?=some h->h=bh p
 sum:∀(i:Nat) (p:Int) (ws:LH),π[i]?=some p->M[i]?=some ws->∀b,fz (ws.zip π) b=R p b
def DR (hs:LH)(M:LA)(hs':LH)(M':LA):Prop:=∃(π g:LH) (bh:Int->Int) (R:Int->Int->Int),Pb hs M π bh R/\Pb hs' M' g bh R/\π.Perm g
theorem BA {n:Nat}(h1:hs.length=n):Pb hs M (rI n) (λp=>hs.getD p.toNat 0) (λp b=>fz ((M.getD p.toNat []).zip (rI n)) b):=by
 refine⟨by rw[i7,h1],λi p h g j=>?_,λi p ws g j b=>?_⟩;have l:i<n:=by rw[<-h1];exact cw j
 rw[vd l]at g;cases g;rw[bg,ax,j];rfl;have l:i<n:=by rw[<-i7 n];exact cw g
 rw[vd l]at g;cases g;rw[bg,ax,j];rfl
theorem FN {n:Nat}(hp:os.Perm (rI n)){R:Int->Int->Int}(h1:hs.length=n)(h3:M.length=n)(h4:∀ws∈M,ws.length=n)(C:Pb hs M π bh R):Pb (i6 hs os) (nu M os) (i6 π os) bh R:=by
 have lp:π.length=n:=by rw[C.len,h1]
 refine⟨by rw[nj,nj],λi p h j I=>?_,λi p ws j I b=>?_⟩;obtain⟨o,g⟩:=bA (l:=os) (i:=i) (by rw[<-nj π os];exact cw j);obtain⟨a,rfl,U⟩:=Ff hp g;obtain⟨x,t⟩:=bA (l:=π) (i:=a) (by lia);obtain⟨y,T⟩:=bA (l:=hs) (i:=a) (by lia);rw[CH g t]at j;rw[CH g T]at I;cases j;cases I;exact C.hue a p h t T;obtain⟨o,g⟩:=bA (l:=os) (i:=i) (by rw[<-nj π os];exact cw j);obtain⟨a,rfl,U⟩:=Ff hp g;obtain⟨x,t⟩:=bA (l:=π) (i:=a) (by lia);obtain⟨W,J⟩:=bA (l:=M) (i:=a) (by lia);rw[CH g t]at j;rw[Nq g J]at I;cases j;cases I;rw[Gk (IN hp (h4 W (af J)) lp)];exact C.sum a p W t J b
theorem Iv {n:Nat}(hp:os.Perm (rI n))(h1:hs.length=n)(j:M.length=n)(g:∀ws∈M,ws.length=n):DR hs M (i6 hs os) (nu M os):=
 ⟨_,_,_,_,BA h1,FN hp h1 j g (BA h1),(oC hp (i7 n)).symm⟩
section
variable {n m:Nat}{hs hs' ls:LH}{M M':LA}
theorem FM {g:LH}{R:Int->Int->Int}(h1:hs.length=n)(h2:hs'.length=m)(S:iY n M)(C:Pb hs M π bh R)(I:Pb hs' M' g bh R)(U:iY m M'){p h:Int}(j:(π++g)[i]?=some p)(l:(hs++hs')[i]?=some h)(J:(dN n m M M')[i]?=some ws):
  h=bh p/\∀b,fz (ws.zip (π++g)) b=R p b:=by
 have lp:π.length=n:=by rw[C.len,h1]
 have T:g.length=m:=by rw[I.len,h2]
 by_cases c:i<n;obtain⟨x,t,rfl⟩:=vT S.len c J;rw[aN (by lia)]at j l;refine⟨C.hue i p h j l,λb=>?_⟩;rw[AH (by rw[(S.row i x t).1,lp])];exact C.sum i p x j t b;obtain⟨x,t,rfl⟩:=sN S.len (by lia) J;rw[aE (by lia)]at j l;rw[lp]at j;rw[h1]at l;refine⟨I.hue _ p h j l,λb=>?_⟩;rw[xp lp];exact I.sum _ p x j t b
theorem Du (h1:hs.length=n)(h2:hs'.length=m)(S:iY n M)(T:iY m M')(A:DR hs M hs' M')(C:fW (hs++hs') (dN n m M M') ls):(ls.take n).Perm (ls.drop n):=by
 obtain⟨π,g,bh,R,c,I,pm⟩:=A;have lp:π.length=n:=by rw[c.len,h1]
 have t:g.length=m:=by rw[I.len,h2]
 have ll:ls.length=n+m:=by rw[<-C.len,ah,h1,h2]
 have J:(π++g).length=ls.length:=by rw[ah,lp,t,ll]
 have fin:=C.top (π++g) J λi j l u u' ws ws' a1 a2 b1 b2 c1 c2=>by obtain⟨q1,q2⟩:=FM h1 h2 S c I T a1 b1 c1;obtain⟨r1,U⟩:=FM h1 h2 S c I T a2 b2 c2;exact⟨q1.trans r1.symm,λo _=>by rw[q2,U]⟩
 have e:=sJ J fin;generalize(λp=>(ls[(π++g).idxOf p]?).getD 0)=f at e;rw[a0]at e;rw[e,List.take_left' (by rw[aa,lp]),List.drop_left' (by rw[aa,lp])];exact pm.map f
end
section
theorem yi (b:Int):∀(m:Nat) (V:LH),V.length=m->fz (V.zip (rI m)) b=if 0<=b/\b<(m:Int)then V.getD b.toNat 0 else 0
 |0,V,h=>by rw[show V=[]from iR h,if_neg (by lia)];rfl
 |m+1,V,h=>by
  obtain⟨g,z,rfl⟩:∃g z,V=g++[z]:=⟨V.dropLast,V.getLast (by intro q;rw[q]at h;cases h),(oh _).symm⟩;have h':g.length=m:=by simpa using h
  rw[E5,n6 (by rw[i7,h']),ou,yi b m g h'];show _+fz [(z,(m:Int))] b=_;rw[eV];by_cases j:0<=b/\b<(m:Int);rw[if_pos j,if_neg (by lia),if_pos (by lia)];obtain⟨k,rfl⟩:=cC j.1;rw[bg,ax,ax,aN (by lia)];simp[fz];rw[if_neg j];by_cases l:b=(m:Int);subst l;rw[if_pos rfl,if_pos (by lia),bg,ax,aE (by lia),h',iW];simp[fz];rw[if_neg λq=>l q.symm,if_neg (by lia)];simp[fz]
def Vi (hs:LH)(p:Int):Int:=hs.getD p.toNat 0
def RL (m:Nat)(R:Nat->Nat->Int)(p b:Int):Int:=if 0<=b/\b<(m:Int)then R (min p.toNat b.toNat) (max p.toNat b.toNat)else 0
theorem Lr {N:LA}(T:hs.length=m)(ht:∀x y,x<=y->y<m->tw x y<2)(S:iY (2*m) N)(L:MR m tw R (λ_ _=>True) N):Pb (hs++hs) N (rI m++rI m) (Vi hs) (RL m R):=by
 have J:(rI m++rI m).length=2*m:=by rw[ah,i7];lia
 have at_:∀{i:Nat} {p:Int},(rI m++rI m)[i]?=some p->∃a s:Nat,p=(a:Int)/\a<m/\s<2/\i=a+s*m:=by intro i p e;have li:=cw e;rw[J]at li;by_cases c:i<m;rw[aN (by rw[i7];exact c),vd c]at e;cases e;exact⟨i,0,rfl,c,by decide,by lia⟩;rw[aE (by rw[i7];lia),i7,vd (by lia)]at e;cases e;exact⟨i-m,1,rfl,by lia,by decide,by lia⟩
 refine⟨by rw[J,ah,T];lia,λi p h I j=>?_,λi p W I j b=>?_⟩;obtain⟨a,s,rfl,C,g,rfl⟩:=at_ I;obtain⟨y,t⟩:=bA (l:=hs) (i:=a) (by lia);have hc:s=0\/s=1:=by lia
 have:(hs++hs)[a+s*m]?=some y:=by rcases hc with rfl|rfl;rw[DD,jR,aN (by lia)];exact t;rw[qx,aE (by lia),T,Nat.add_sub_cancel];exact t
 rw[this]at j;cases j;unfold Vi;rw[bg,ax,t];rfl;obtain⟨a,s,rfl,C,g,rfl⟩:=at_ I;have lW:=(S.row _ W j).1;have sp:W=W.take m++W.drop m:=(mf m W).symm;have l1:(W.take m).length=m:=by rw[cm];lia
 have l2:(W.drop m).length=m:=by rw[fF];lia
 rw[sp,n6 (by rw[l1,i7]),ou,yi b m _ l1,yi b m _ l2];unfold RL;by_cases c:0<=b/\b<(m:Int);rw[if_pos c,if_pos c,if_pos c];obtain⟨k,rfl⟩:=cC c.1;have hk:k<m:=by lia
 have x0:(W.take m).getD (Int.toNat (k:Int)) 0=ent N (a+s*m) (k+0*m):=by rw[ul j,bg,DD,jR,ax,ax,List.getElem?_take_of_lt hk]
 have U:(W.drop m).getD (Int.toNat (k:Int)) 0=ent N (a+s*m) (k+1*m):=by rw[ul j,bg,qx,ax,ax,List.getElem?_drop,Nat.add_comm]
 rw[x0,U,(L a k s 0 C hk g (by decide)).1 trivial,(L a k s 1 C hk g (by decide)).1 trivial,bg,bg];have tb:=ht (min a k) (max a k) (by lia) (by lia);have h1:s=0\/s=1:=by lia
 have h2:tw (min a k) (max a k)=0\/tw (min a k) (max a k)=1:=by lia
 rcases h1 with rfl|rfl<;>rcases h2 with h2|h2<;>rw[h2]<;>simp;rw[if_neg c,if_neg c,if_neg c];rfl
end
section
variable {P:Program}{w:World}{K:LO}{mg:LQ}{base:Heap}
inductive Ak (vs:LI)(H:Hp)(Q:VK):Prop|mk (wA:Addr) (m:Nat) (hs:LH) (M:LA) (c:Int) (fr:Bool) (_:vs=[.ref wA,.int c,.bl fr]) (_:Wz H wA m hs M) (_:m<=4) (_:∀(p:Addr) (N:LA) (H':Hp),Same H H'->Wz H' p (2*m) (hs++hs) N->jz (2*m) (ent N)->Pb (hs++hs) N (rI m++rI m) (Vi hs) (RL m (ent M))->Q (.ref p) H'):Ak vs H Q
def Jy (K:LO):Sp:=λvs H Q _=>Ak vs H Q
abbrev Tg:LM:=["_law_web_here","_law_cell","_law_free","_law_hues","_law_rows","_law_many","_law_twists","_law_square_here","_law_u","_law_v","_law_side","_law_there","_law_here"]
abbrev ML:LM:=["_law_web_here","_law_cell","_law_free"]
theorem jI:bv Tg ML (aw ET):={}
theorem Jo (n:Nat):iY n (List.replicate n (List.replicate n 0)):=(Ed n).n
theorem Om (h:∀x y,¬dn x y):MR m tw R dn (List.replicate (2*m) (List.replicate (2*m) 0)):=by intro a b s t j hb hs g;refine⟨λz=>absurd z (h _ _),λ_=>?_⟩;unfold ent;rw[cz,if_pos (lV j hs)];simp only[jQ,cz,if_pos (lV hb g)]
theorem MR.mono {N:LA}(L:MR m tw R dn N)(h:∀x y,x<=y->y<m->(dn x y↔dn' x y)):MR m tw R dn' N:=by intro a b s t j hb hs g;obtain⟨l1,l2⟩:=L a b s t j hb hs g;have e:=h (min a b) (max a b) (by lia) (by lia);exact⟨λz=>l1 (e.mpr z),λz=>l2 λy=>z (e.mp y)⟩
theorem NV (B:tT mg)(F:Fun K "_law_lift" "_law_lift" ET f fd)(GD:Cl P w K mg base "_law_draws" rV ["_law_cell","_law_many","_law_base","_law_free"] 1 tX):cW P w K mg base gK 2 f fd ML (Jy K):=by
 refine F.o jI λcdv A outer s H vs Q E hr h=>?_;obtain⟨wA,m,hs,M,c,fr,rfl,W,hm,q⟩:=h;obtain⟨hA,rA,rs,w1,w2,w3,RM⟩:=W.wr.ex;refine⟨_,am (jM (pv 0) (oG rfl (gc (l9 3 jI.nd) (gc (l9 4 jI.nd) lN))))
  (am (fk 5 jI.nd (bE bQ (by rfl) B.len bu (ac (pv 3) aj)))
  (am (fk 6 jI.nd (bH GD hr rfl (ac (pv 1) (ac (bR i8 (pv 5) (pv 5)) (ac ar (ac (pv 2) aj))))))
  (am (fk 7 jI.nd (dC aj))
  (am (eQ PassesOwn.never rfl (fT rfl B.range (ac (bR i8 ar (pv 5)) aj)) (l9 8 jI.nd)
   (aC (g0 (mO bX dr dq ir (pv 7) (ac (bR p7 (dC (ac ar aj)) (bR i8 ar (pv 5))) aj)))))
  (am (eQ PassesOwn.never rfl (fT rfl B.range (ac (pv 5) aj)) (l9 8 jI.nd)
   (aC (eQ PassesOwn.never rfl (xz rfl B.range (ac (pv 8) (ac (pv 5) aj))) (l9 9 jI.nd)
    (aC (eQ PassesOwn.never rfl (fT rfl B.range (ac ar aj)) (l9 10 jI.nd)
     (am (fk 11 jI.nd (bR gR (bR gt (pv 10) (bf cD (pv 6) (bR gt (bR i8 (pv 8) (pv 5)) (pv 9)))) ar))
     (am (fk 12 jI.nd (bR gt (pv 8) (bR i8 (pv 10) (pv 5))))
     (am (fk 11 jI.nd (bR gt (pv 9) (bR i8 (pv 11) (pv 5))))
     (am (jM (bf cD (bf cD (pv 4) (pv 8)) (pv 9)) (oH (bf cD (pv 7) (pv 12)) (pv 11) jY))
     (aC (jM (bf cD (bf cD (pv 4) (pv 8)) (pv 9)) (oH (bf cD (pv 7) (pv 11)) (pv 12) jY))))))))))))
  (aC (bw (dm (ac (bR qf (pv 3) (pv 3)) (ac (pv 7) aj)))))))))),?_⟩
 show let ω1:TS:=_;let ω2:TS:=_;let ω3:TS:=bN _ ω2;let ω4:TS:=bN _ ω3;let ω5:TS:=bN _ ω4;let ω6:TS:=bN _ ω5;let ω7:TS:=(i0 _ _ ω6);let ω8:TS:=(i0 _ _ ω7);let ω9:TS:=bN (i0 _ _ ω8) ω1;let ω10:TS:=_;let ω11:TS:=bN (i0 _ _ ω10) ω9;let ω12:TS:=bN _ ω11;let ω13:TS:=bN _ ω12;let ω14:TS:=bN _ ω13;bN _ ω14 _ _ _;intro ω1 ω2 ω3 ω4 ω5 ω6 ω7 ω8 ω9 ω10 ω11 ω12 ω13 ω14;refine⟨_,rfl,wA,_,rfl,dH.of w1,rfl,_,_,rfl,_,_,rfl,rfl,?_⟩;refine⟨_,rfl,hA,_,rfl,.inl (bW.of w2),?_⟩;rw[aa,W.len];have mm:m*m<=16:=gA hm hm;refine⟨_,rfl,_,rfl,_,rfl,_,_,rfl,rfl,ja (by lia) (by lia),_,rfl,c,m*m,2,fr,?_,by lia,by decide,.inl (by decide),λT ds H1 hd s1 nT eT=>?_⟩;show[V.int c,V.int ((m:Int)*(m:Int)),_,_]=_;rw[show(m:Int)*(m:Int)=((m*m:Nat):Int) by push_cast;rfl];obtain⟨ld,bd⟩:=hd;refine⟨bp _,λD hD=>?_⟩;have nD:H D=none:=s1.free hD;have e2m:(2:Int)*(m:Int)=((2*m:Nat):Int):=by push_cast;rfl
 refine⟨_,rfl,_,_,rfl,rfl,ja (by decide) (by decide),_,rfl,by lia,by lia,?_⟩;have etn:((2:Int)*(m:Int)).toNat=2*m:=by lia
 rw[etn];refine gG (n:=2*m) (λi σ H'=>∃(o8:LU) (g:LK),σ=[some (.ref wA),some (.int c),some (.bl fr),some (.ref hA),some (.ref rA),some (.int (m:Int)),some (.ref T),some (.ref D),o8,none,none,none,none]/\g.length=i/\Same H1 H'/\H' D=some (.lst (g.map V.ref))/\
  dw H' g (List.replicate i (List.replicate (2*m) 0))/\∀r∈g,H1 r=none/\r≠D) ⟨none,[],rfl,rfl,Same.upd hD,au,⟨rfl,(λi r x h _=>by cases h),fM⟩,(λr hr=>by cases hr)⟩ ?_ ?_
 rintro i σ H4 hlt ⟨o8,g,rfl,l4,c4,eD,R4,o4⟩;refine⟨_,rfl,.inl ⟨rfl,_,bW.of eD⟩,F4,λl1 hl1=>?_⟩;refine⟨_,rfl,_,_,rfl,rfl,ja (by decide) (by decide),l1,_,_,rfl,rfl,au,by lia,by lia,cu (cq (by rw[etn];show 1*(2*m)<=1000;lia)),λl2 J=>?_⟩;rw[etn,mn]at*;have n21:l2≠l1:=(aI au J).symm;have hl2':H4 l2=none:=by rw[aW n21]at J;exact J
 have sm:Same H4 (upd (upd H4 l1 (.lst [.int 0])) l2 (.lst ((List.replicate (2*m) (0:Int)).map V.int))):=(Same.upd hl1).trans (Same.upd J);have el:upd (upd H4 l1 (.lst [.int 0])) l2 (.lst ((List.replicate (2*m) (0:Int)).map V.int)) l2=some (.lst ((List.replicate (2*m) (0:Int)).map V.int)):=au;generalize upd (upd H4 l1 (.lst [.int 0])) l2 (.lst ((List.replicate (2*m) (0:Int)).map V.int))=H5 at sm el ⊢;have l2D:l2≠D:=(aI eD hl2').symm;have l2r:l2∉g:=AG R4 hl2';refine⟨D,_,_,rfl,rfl,sm _ _ eD,cq (by rw[aa];lia),?_⟩;refine⟨_,g++[l2],rfl,by rw[ah,l4];rfl,λb o e=>?_,by rw[a0];exact au,?_,?_⟩;rw[aW (aI e hD)];exact sm _ _ (c4 _ _ e);have R5:dw H5 (g++[l2]) (List.replicate i (List.replicate (2*m) 0)++[List.replicate (2*m) 0]):=R4.snoc (λr _ o e=>sm r o e) el l2r;rw[<-List.replicate_succ']at R5;refine R5.keep λr hr o e=>?_;have:r≠D:=by rcases be.mp hr with z|z;exact(o4 r z).2;rw[aX.mp z];exact l2D
 rw[aW this];exact e;intro r hr;rcases be.mp hr with z|z;exact o4 r z;rw[aX.mp z];exact⟨c4.free hl2',l2D⟩;rintro σ H4 ⟨o8,g,rfl,l4,c4,eD,R4,o4⟩;obtain⟨tw,htw⟩:∃tw:Nat->Nat->Nat,tw=λu v=>((ds[u*m+v]?).getD 0).toNat:=⟨_,rfl⟩;have ix:∀{u v:Nat},u<m->v<m->u*m+v<m*m:=λ{u v} hu hv=>by have h1:(u+1)*m<=m*m:=nM m hu;rw[qy,qx]at h1;lia
 have twd:∀{u v:Nat},u<m->v<m->ds[u*m+v]?=some ((tw u v:Nat):Int)/\tw u v<2:=λ{u v} hu hv=>by
  obtain⟨d,ed⟩:=bA (l:=ds) (i:=u*m+v) (by rw[ld];exact ix hu hv);obtain⟨d0,d1⟩:=bd d (af ed);have e:tw u v=d.toNat:=by rw[htw];show((ds[u*m+v]?).getD 0).toNat=_;rw[ed];rfl
  rw[e,ed];exact⟨by congr 1;lia,by lia⟩
 clear htw;have t4:=s1.trans c4;refine⟨_,rfl,(m:Int),rfl,by lia,by lia,gG (n:=m) (λu σ H'=>∃(o8 o9 C t p:LU) (N:LA),σ=[some (.ref wA),some (.int c),some (.bl fr),some (.ref hA),some (.ref rA),some (.int (m:Int)),some (.ref T),some (.ref D),o8,o9,C,t,p]/\Same H1 H'/\H' D=some (.lst (g.map V.ref))/\
  dw H' g N/\iY (2*m) N/\MR m tw (ent M) (λx _=>x<u) N) ⟨_,_,_,_,_,_,rfl,c4,eD,R4,Jo _,Om λx y z=>absurd z (Nat.not_lt_zero _)⟩ ?_ ?_⟩
 rintro u σ H5 hu ⟨o8,o9,C,t,p,N,rfl,c5,eD5,R5,S5,L5⟩;refine⟨_,rfl,_,rfl,(0+(u:Nat):Int),(m:Int),rfl,⟨by lia,by lia,by lia,by lia⟩,?_⟩;have eu:((m:Int)-(0+(u:Nat):Int)).toNat=m-u:=by lia
 rw[eu];refine gG (lo:=(0+(u:Nat):Int)) (n:=m-u) (λi σ H'=>∃(o9 C t p:LU) (N:LA),σ=[some (.ref wA),some (.int c),some (.bl fr),some (.ref hA),some (.ref rA),some (.int (m:Int)),some (.ref T),some (.ref D),some (.int (0+(u:Nat):Int)),o9,C,t,p]/\Same H1 H'/\H' D=some (.lst (g.map V.ref))/\
  dw H' g N/\iY (2*m) N/\MR m tw (ent M) (λx y=>x<u\/(x=u/\y<u+i)) N) ⟨_,_,_,_,N,rfl,c5,eD5,R5,S5,L5.mono λx y h1 h2=>by lia⟩ ?_ ?_
 rintro i σ H6 hi ⟨o9,C,t,p,N,rfl,c6,eD6,R6,S6,L6⟩;have hv:u+i<m:=by lia
 have evi:(0+(u:Nat)+(i:Nat):Int)=((u+i:Nat):Int):=by lia
 obtain⟨ed,tlt⟩:=twd hu hv;obtain⟨ru,xu,gu1,gu2,gu3⟩:=RM.get (i:=u) (by rw[RM.len,W.sq.len];exact hu);have lxu:=(W.sq.row u xu gu2);obtain⟨z,ez⟩:=bA (l:=xu) (i:=u+i) (by rw[lxu.1];exact hv);have ezn:ent M u (u+i)=z:=by rw[ul gu2,ax,ez];rfl
 have hz:z.natAbs<=2*kr:=lxu.2 z (af ez);have L7:=HK (u:=u) (v:=u+i) tlt (by lia) hv S6 (by rw[ezn];exact hz) (by lia) L6;have aT:pK (ds.map V.int) ((0+(u:Nat):Int)*(m:Int)+(0+(u:Nat)+(i:Nat):Int))=some (.int ((tw u (u+i):Nat):Int)):=by rw[show(0+(u:Nat):Int)*(m:Int)+(0+(u:Nat)+(i:Nat):Int)=((u*m+(u+i):Nat):Int) by rw[fQ];push_cast;rfl];exact cV (by rw[ao,ed];rfl)
 have aru:pK (rs.map V.ref) (0+(u:Nat):Int)=some (.ref ru):=by rw[fQ];exact iQ gu1
 have axv:pK (xu.map V.int) (0+(u:Nat)+(i:Nat):Int)=some (.int z):=by rw[evi];exact cV (by rw[ao,ez];rfl)
 refine⟨2,rfl,by decide,by decide,gG (n:=2) (λI σ H'=>∃(C t p:LU),σ=[some (.ref wA),some (.int c),some (.bl fr),some (.ref hA),some (.ref rA),some (.int (m:Int)),some (.ref T),some (.ref D),some (.int (0+(u:Nat):Int)),some (.int (0+(u:Nat)+(i:Nat):Int)),C,t,p]/\Same H1 H'/\H' D=some (.lst (g.map V.ref))/\
  dw H' g ((List.range I).foldl (λN s=>nV m tw (ent M) N u (u+i) s) N)/\iY (2*m) ((List.range I).foldl (λN s=>nV m tw (ent M) N u (u+i) s) N)) ⟨_,_,_,rfl,c6,eD6,R6,S6⟩ ?_ ?_⟩
 rintro I σ H7 hsd ⟨C,t,p,rfl,c7,eD7,R7,S7⟩;rw[n9,jn];generalize(List.range I).foldl (λN s=>nV m tw (ent M) N u (u+i) s) N=Nn at R7 S7;show _;have t7:=s1.trans c7;obtain⟨th,U⟩:∃th:Nat,th=(I+tw u (u+i))%2:=⟨_,rfl⟩;have hth:th<2:=by rw[U];exact Nat.mod_lt _ (by decide)
 have ethI:((0+(I:Nat):Int)+((tw u (u+i):Nat):Int))%2=((th:Nat):Int):=by rw[U];lia
 have ehe:(0+(u:Nat):Int)+(0+(I:Nat):Int)*(m:Int)=((u+I*m:Nat):Int):=by rw[fQ,fQ];push_cast;rfl
 have eth2:(0+(u:Nat)+(i:Nat):Int)+((th:Nat):Int)*(m:Int)=((u+i+th*m:Nat):Int):=by rw[fQ];push_cast;rfl
 have c1:=lV (m:=m) hu hsd;have c2:=lV (m:=m) hv hth;refine⟨_,rfl,_,rfl,_,rfl,_,rfl,_,_,rfl,rfl,ja (by lia) (by lia),_,rfl,_,_,rfl,rfl,T,_,_,_,rfl,rfl,bW.of (c7 _ _ eT),aT,_,_,rfl,rfl,_,_,rfl,rfl,(by show(0:Int)<2;decide),?_⟩;refine⟨_,rfl,_,rfl,_,rfl,_,_,rfl,rfl,ja (by lia) (by lia),_,_,rfl,rfl,?_⟩;refine⟨_,rfl,_,rfl,_,rfl,_,_,rfl,rfl,ja (by show _<((0+(I:Nat):Int)+((tw u (u+i):Nat):Int))%2;lia) (by show((0+(I:Nat):Int)+((tw u (u+i):Nat):Int))%2<_;lia),_,_,rfl,rfl,?_⟩;dsimp only;rw[ethI,ehe,eth2];obtain⟨ra,xa,ga1,ga2,ga3⟩:=R7.get (i:=u+I*m) (by rw[R7.len,S7.len];exact c1);have hra:=o4 ra (af ga1);have lxa:=(S7.row _ xa ga2).1;have x7:=t7 _ _ gu3;refine⟨_,rfl,_,rfl,rA,_,_,_,rfl,rfl,bW.of (t7 _ _ w3),aru,_,rfl,ru,_,_,_,rfl,rfl,bW.of x7,axv,?_⟩;refine⟨_,rfl,_,rfl,D,_,_,_,rfl,rfl,bW.of eD7,iQ ga1,_,rfl,ra,_,_,u+i+th*m,rfl,rfl,ga3,by rw[aa,lxa];exact lQ c2,?_⟩;rw[<-jS];have R8:=R7.put (j:=u+i+th*m) (z:=z) ga1 ga2;have c8:Same H1 (L2.upd H7 ra (.lst ((xa.set (u+i+th*m) z).map V.int))):=λb o e=>by rw[aW (aI e hra.1)];exact c7 _ _ e
 have eD8:L2.upd H7 ra (.lst ((xa.set (u+i+th*m) z).map V.int)) D=_:=(aW hra.2.symm).trans eD7;generalize L2.upd H7 ra (.lst ((xa.set (u+i+th*m) z).map V.int))=H8 at R8 c8 eD8 ⊢;have S8:=S7.put (u+I*m) (u+i+th*m) hz;have t8:=s1.trans c8;obtain⟨rb,xb,gb1,gb2,gb3⟩:=R8.get (i:=u+i+th*m) (by rw[R8.len,S8.len];exact c2);have hrb:=o4 rb (af gb1);have lxb:=(S8.row _ xb gb2).1;refine⟨_,rfl,_,rfl,rA,_,_,_,rfl,rfl,bW.of (t8 _ _ w3),aru,_,rfl,ru,_,_,_,rfl,rfl,bW.of (t8 _ _ gu3),axv,?_⟩;refine⟨_,rfl,_,rfl,D,_,_,_,rfl,rfl,bW.of eD8,iQ gb1,_,rfl,rb,_,_,u+I*m,rfl,rfl,gb3,by rw[aa,lxb];exact lQ c1,?_⟩;rw[<-jS];have R9:=R8.put (j:=u+I*m) (z:=z) gb1 gb2;have S9:=S8.put (u+i+th*m) (u+I*m) hz;refine⟨_,_,_,rfl,λb o e=>by rw[aW (aI e hrb.1)];exact c8 _ _ e,(aW hrb.2.symm).trans eD8,?_,?_⟩;show dw _ _ (nV m tw (ent M) Nn u (u+i) I);unfold nV;rw[ezn,<-U];exact R9;show iY _ (nV m tw (ent M) Nn u (u+i) I);unfold nV;rw[ezn,<-U];exact S9;rintro σ H7 ⟨C,t,p,rfl,c7,eD7,R7,S7⟩;refine⟨_,_,_,_,_,rfl,c7,eD7,R7,S7,?_⟩;exact MR.mono (dn:=λx y=>(x<u\/(x=u/\y<u+i))\/(x=u/\y=u+i)) L7 λx y h1 h2=>by lia
 rintro σ H6 ⟨o9,C,t,p,N,rfl,c6,eD6,R6,S6,L6⟩;exact⟨_,_,_,_,_,N,rfl,c6,eD6,R6,S6,L6.mono λx y h1 h2=>by lia⟩;rintro σ H5 ⟨o8,o9,C,t,p,N,rfl,c5,eD5,R5,S5,L5⟩;have t5:=s1.trans c5;refine⟨_,rfl,_,rfl,hA,hA,_,_,rfl,rfl,t5 _ _ w2,t5 _ _ w2,cu (cq (by rw[aa,W.len];lia)),λpA hpA=>?_⟩;have s6:Same H5 (L2.upd H5 pA (.lst (hs.map V.int++hs.map V.int))):=Same.upd hpA;have e6:L2.upd H5 pA (.lst (hs.map V.int++hs.map V.int)) pA=some (.lst ((hs++hs).map V.int)):=by rw[au,a0]
 generalize L2.upd H5 pA (.lst (hs.map V.int++hs.map V.int))=H6 at s6 e6 ⊢;refine⟨_,rfl,k9,λtA htA=>?_⟩;have s7:Same H6 (L2.upd H6 tA (.tup [.ref pA,.ref D])):=Same.upd htA;refine q tA N _ ((t5.trans s6).trans s7) ⟨⟨pA,D,g,au,s7 _ _ e6,s7 _ _ (s6 _ _ eD5),R5.keep λr _ o e=>s7 _ _ (s6 _ _ e)⟩,by rw[ah,W.len];lia,S5,λz hz=>W.hb z (by simpa using hz)⟩ (Ra L5 λx y h1 h2=>by show x<m;lia) (Lr W.len (λx y h1 h2=>(twd (by lia) h2).2) S5 (L5.mono λx y h1 h2=>by simp;lia))
theorem MO.wz {g:Addr}{n:Nat}(W:MO H p g rA rs n hs M):Wz H p n hs M:=
 ⟨⟨g,rA,rs,W.tup,W.hue,W.rws,W.row⟩,W.len,W.sq.n,λz hz=>by have:=W.pos z hz;lia⟩
theorem yC {n:Nat}(S:iY n M)(hp:os.Perm (rI n)):iY n (nu M os):=by have lo:=CP hp;refine⟨by unfold nu;rw[aa,lo],λi x j=>?_⟩;unfold nu at j;obtain⟨o,p,rfl⟩:=bJ j;refine⟨by rw[nj,lo],λz hz=>?_⟩;obtain⟨a,rfl,t⟩:=Ff hp p;obtain⟨W,g⟩:=bA (l:=M) (i:=a) (by rw[S.len];exact t);rw[bg,getD_some g]at hz;exact(S.row a W g).2 z ((oC hp (S.row a W g).1).mem_iff.mp hz)
theorem Np {n:Nat}(S:Sq n M)(hp:os.Perm (rI n))(j:(nu M os)[i]?=some x):∀z∈x,z.natAbs<=kr:=by unfold nu at j;obtain⟨o,p,rfl⟩:=bJ j;intro z hz;obtain⟨a,rfl,t⟩:=Ff hp p;obtain⟨W,g⟩:=bA (l:=M) (i:=a) (by rw[S.len];exact t);rw[bg,getD_some g]at hz;exact(S.row a W g).2 z ((oC hp (S.row a W g).1).mem_iff.mp hz)
theorem J2 {n:Nat}(hp:os.Perm (rI n))(g:hs.length=n)(h:∀z∈hs,Pz z):∀z∈i6 hs os,Pz z:=λz hz=>h z ((oC hp g).mem_iff.mp hz)
inductive Ee (K:LO)(vs:LI)(H:Hp)(Q:VK):Prop|mk (a:Addr) (ns:LH) (g:Nat) (_:vs=[.ref a,.int (g:Int)]) (_:bW K H a (ns.map V.int)) (_:g<=8) (_:∀(p wA j:Addr) (n m:Nat) (hs hs':LH) (M M':LA) (H':Hp),Same H H'->H' p=some (.tup [.ref wA,.ref j])->Wz H' wA n hs M->Wz H' j m hs' M'->n<=g->m<=g->((BK ns 0/14%5=1\/BK ns 0/14%5=4)->DR hs M hs' M')->jz n (ent M)->jz m (ent M')->Q (.ref p) H'):Ee K vs H Q
def Pm (K:LO):Sp:=λvs H Q _=>Ee K vs H Q
abbrev U2:LM:=["_law_script","_law_most","_law_first","_law_free","_law_many","_law_way","_law_small","_law_web_here","_law_other","_law_u","_law_v"]
theorem nU:bv U2 ["_law_script","_law_most"] (aw Nj):={}
theorem QL (B:tT mg)(F:Fun K "_law_two" "_law_two" Nj f fd)(GC:Cl P w K mg base "_law_cell_at" pd ["_law_script","_law_k"] 1 (yp K))(GW:Cl P w K mg base "_law_web" w6 MI 2 (Jq K))(GO:Cl P w K mg base "_law_order" yz Dx 2 El)(GL:Cl P w K mg base "_law_lift" ET ML 2 (Jy K))(GR:Cl P w K mg base "_law_renamed" oB ["_law_web_here","_law_order_here"] 1 JB):
  cW P w K mg base gK 3 f fd ["_law_script","_law_most"] (Pm K):=by
 refine F.q nU λH vs _ I h=>?_;obtain⟨a,ns,mo,rfl,hS,hmo,q⟩:=h;have r1:=I.mono (j:=1) (by decide);refine⟨_,am (fk 2 nU.nd (bH GC r1 rfl (ac (pv 0) (ac ar aj))))
  (am (fk 3 nU.nd (fH gh (bR gR (pv 2) ar) ar (bO _)))
  (am (fk 4 nU.nd (bR gR (bR nB (pv 2) ar) (bR gt (pv 1) ar)))
  (am (fk 5 nU.nd (bR gR (bR nB (pv 2) ar) ar))
  (am (dX (bV gh (pv 5) ar (bO _))
   (am (fk 6 nU.nd (bH GW I rfl (ac (pv 0) (ac ar (ac (bR nB (pv 4) ar) (ac (pv 3) aj))))))
   (am (fk 7 nU.nd (bH GL I rfl (ac (pv 6) (ac (bH GC r1 rfl (ac (pv 0) (ac ar aj))) (ac (pv 3) aj)))))
   (am (fk 8 nU.nd (bH GL I rfl (ac (pv 6) (ac (bH GC r1 rfl (ac (pv 0) (ac ar aj))) (ac (pv 3) aj)))))
   (aC (bw (dm (ac (pv 7) (ac (bH GR r1 rfl (ac (pv 8) (ac (bH GO I rfl (ac (bH GC r1 rfl (ac (pv 0) (ac ar aj))) (ac (bE bQ (by rfl) B.len bu (ac (bf bL (pv 8) ar) aj)) (ac (pv 3) aj)))) aj))) aj)))))))) cE)
  (am (fk 7 nU.nd (bH GW I rfl (ac (pv 0) (ac ar (ac (pv 4) (ac (pv 3) aj))))))
  (am (dX (bV gh (pv 5) ar (bO _))
   (aC (bw (dm (ac (pv 7) (ac (bH GW I rfl (ac (pv 0) (ac ar (ac (bR gR (bR nB (pv 2) ar) (bR gt (pv 1) ar)) (ac (pv 3) aj))))) aj))))) cE)
  (am (fk 8 nU.nd (bH GR r1 rfl (ac (pv 7) (ac (bH GO I rfl (ac (bH GC r1 rfl (ac (pv 0) (ac ar aj))) (ac (pv 4) (ac (pv 3) aj)))) aj))))
  (iX (dX (PW.pt (pW (bV gh (pv 5) ar (bO _)) (pe (bV AQ (pv 4) ar (bO _)))))
   (am (fk 9 nU.nd (bR gR (bH GC r1 rfl (ac (pv 0) (ac ar aj))) (pv 4)))
   (am (fk 10 nU.nd (bR gR (bH GC r1 rfl (ac (pv 0) (ac ar aj))) (pv 4)))
   (am (jM (bR gt (bf cD (bf cD (bf bL (pv 8) ar) (pv 9)) (pv 10)) ar) (oH (bf cD (bf bL (pv 8) ar) (pv 9)) (pv 10) jY))
   (aC (jM (bf cD (bf cD (bf bL (pv 8) ar) (pv 9)) (pv 10)) (oH (bf cD (bf bL (pv 8) ar) (pv 10)) (pv 9) jY)))))) cE)
  (iX (dX (PW.pt (pW (bV gh (pv 5) ar (bO _)) (pe (bV AQ (pv 4) ar (bO _)))))
   (aC (jM (bR gR (bH GC r1 rfl (ac (pv 0) (ac ar aj))) ar) (oH (bf bL (pv 8) ar) (bR gR (bH GC r1 rfl (ac (pv 0) (ac ar aj))) (pv 4)) jY))) cE)
  (aC (bw (dm (ac (pv 7) (ac (pv 8) aj)))))))))))))),?_⟩
 show let ω1:TS:=_;let ω2:TS:=_;let ω3:TS:=rG (gL _ ω2 _) ω1;let ω4:TS:=_;let ω5:TS:=bN _ ω4;let ω6:TS:=bN _ ω5;let ω7:TS:=bN _ ω6;let ω8:TS:=rG (gL _ ω7 _) ω3;let ω9:TS:=bN _ ω8;let ω10:TS:=_;let ω11:TS:=bN (gL _ ω10 _) ω9;let ω12:TS:=bN _ ω11;let ω13:TS:=_;let ω14:TS:=bN _ ω13;let ω15:TS:=bN _ ω14;let ω16:TS:=bN _ ω15;let ω17:TS:=bN (gL _ ω16 _) ω12;let ω18:TS:=bN _ ω17;let ω19:TS:=bN _ ω18;let ω20:TS:=bN _ ω19;bN _ ω20 _ _ _;intro ω1 ω2 ω3 ω4 ω5 ω6 ω7 ω8 ω9 ω10 ω11 ω12 ω13 ω14 ω15 ω16 ω17 ω18 ω19 ω20;refine⟨_,rfl,a,ns,0,rfl,hS,by decide,λC hc0=>?_⟩;rw[<-hc0]at q;refine⟨_,rfl,_,_,rfl,rfl,(by show(0:Int)<2;decide),rfl,?_⟩;generalize decide ((λi j=>V.int (i%j)) C 2=V.int 0)=fr;refine⟨_,rfl,_,_,rfl,rfl,⟨by decide,by decide⟩,_,rfl,_,_,rfl,rfl,_,_,rfl,rfl,(by show(0:Int)<(mo:Int)+1;lia),?_⟩;obtain⟨n,en⟩:=cC (fZ (C/2) (by lia:((mo:Int)+1)≠0));have hnm:n<=mo:=by have:=eJ (C/2) (by lia:(0:Int)<(mo:Int)+1);lia
 have hn:n<=8:=by lia
 refine⟨_,rfl,_,_,rfl,rfl,⟨by decide,by decide⟩,_,_,rfl,rfl,(by show(0:Int)<5;decide),?_⟩;dsimp only;rw[en];refine⟨_,rfl,rfl,_,rfl,?_⟩;by_cases h4:C/14%5=4;refine jr (by rw[h4]) ?_;refine⟨_,rfl,_,rfl,_,_,rfl,rfl,⟨by decide,by decide⟩,_,rfl,a,ns,1,n/2,fr,?_,hS,by decide,by lia,λpS hAs rAs rss hs M H1 s1 nw WS=>?_⟩;show[V.ref a,V.int 1,V.int ((n:Int)/2),V.bl fr]=_;rw[show(n:Int)/2=((n/2:Nat):Int) by lia];have T:=WS.wz;refine⟨_,rfl,_,rfl,a,ns,5,rfl,s1.seq hS,by decide,λc5 _=>?_⟩;refine⟨_,rfl,pS,n/2,hs,M,c5,fr,rfl,T,by lia,λp1 N1 H2 s2 Z2 y1 C1=>?_⟩;have Z12:=T.same s2;have t2:=s1.trans s2;refine⟨_,rfl,_,rfl,a,ns,6,rfl,t2.seq hS,by decide,λc6 _=>?_⟩;refine⟨_,rfl,pS,n/2,hs,M,c6,fr,rfl,Z12,by lia,λp2 N2 H3 s3 Z3 y2 C2=>?_⟩;have t3:=t2.trans s3;have Z23:=Z2.same s3;obtain⟨hA3,rA3,rs3,w1,w2,w3,R3⟩:=Z3.wr.ex;refine⟨_,rfl,_,rfl,_,rfl,a,ns,4,rfl,t3.seq hS,by decide,λc4 _=>?_⟩;refine⟨_,rfl,p2,_,_,_,rfl,rfl,dH.of w1,rfl,hA3,_,rfl,.inl (bW.of w2),?_⟩;rw[aa,Z3.len];refine⟨_,rfl,c4,2*(n/2),fr,rfl,by lia,λO os H4 s4 nO eO pm=>?_⟩;have Z34:=Z3.same s4;refine⟨p2,O,2*(n/2),hs++hs,N2,os,rfl,Z34.wr,Z3.len,Z3.sq,by lia,eO,pm,λg H5 s5 WN5=>?_⟩;obtain⟨J,U,t,g1,g2,g3,RR,_⟩:=WN5.ex;refine⟨k9,λtA htA=>?_⟩;have s6:Same H5 (L2.upd H5 tA (.tup [.ref p1,.ref g])):=Same.upd htA;have s36:=(s4.trans s5).trans s6;have ZR:Wz H5 g (2*(n/2)) (i6 (hs++hs) os) (nu N2 os):=⟨⟨J,U,t,g1,g2,g3,RR⟩,by rw[nj,CP pm],yC Z3.sq pm,J2 pm Z3.len Z3.hb⟩;have rw2:∀ws∈N2,ws.length=2*(n/2):=λws hws=>by obtain⟨j,hj⟩:=aU.mp hws;exact(Z3.sq.row j ws hj).1
 refine q tA p1 g _ _ _ _ _ _ _ (t3.trans s36) au (Z23.same s36) (ZR.same s6) (by lia) (by lia) (λ_=>⟨_,_,_,_,C1,FN pm Z3.len Z3.sq.len rw2 C2,(oC pm (by rw[ah,i7];lia)).symm⟩) y1 (yh pm y2);refine js (λz=>h4 (V.int.inj z)) ?_;refine⟨_,rfl,_,rfl,_,rfl,a,ns,1,n,fr,rfl,hS,by decide,hn,λp1 hA1 rA1 rs1 hs M H1 s1 nw W1=>?_⟩;have T:=W1.wz;refine⟨_,rfl,rfl,_,rfl,?_⟩;by_cases h0:C/14%5=0;refine jr (by rw[h0]) ?_;refine⟨_,rfl,_,rfl,_,rfl,_,_,rfl,rfl,⟨by decide,by decide⟩,_,rfl,_,_,rfl,rfl,_,_,rfl,rfl,(by show(0:Int)<(mo:Int)+1;lia),?_⟩;obtain⟨n',en'⟩:=cC (fZ (C/70) (by lia:((mo:Int)+1)≠0));have hnm':n'<=mo:=by have:=eJ (C/70) (by lia:(0:Int)<(mo:Int)+1);lia
 have hn':n'<=8:=by lia
 refine⟨_,rfl,a,ns,4,n',fr,by rw[<-en'];rfl,s1.seq hS,by decide,hn',λp2 hA2 rA2 rs2 hs' M' H2 s2 nw2 W2=>?_⟩;refine⟨k9,λtA htA=>?_⟩;have s3:Same H2 (L2.upd H2 tA (.tup [.ref p1,.ref p2])):=Same.upd htA;exact q tA p1 p2 _ _ _ _ _ _ _ ((s1.trans s2).trans s3) au ((T.same s2).same s3) (W2.wz.same s3) hnm hnm' (λz=>by lia) (qI W1.sq) (qI W2.sq);refine js (λz=>h0 (V.int.inj z)) ?_;refine⟨_,rfl,_,rfl,a,ns,4,rfl,s1.seq hS,by decide,λc4 _=>?_⟩;refine⟨_,rfl,_,rfl,c4,n,fr,rfl,hn,λO os H2 s2 nO eO pm=>?_⟩;have Z12:=T.same s2;refine⟨p1,O,n,hs,M,os,rfl,Z12.wr,T.len,T.sq,hn,eO,pm,λg H3 s3 WN3=>?_⟩;have lo:=CP pm;have lRen:(i6 hs os).length=n:=by rw[nj,lo]
 have hbR:=J2 pm T.len T.hb;have t2:=s1.trans s2;have rwM:∀ws∈M,ws.length=n:=λws hws=>by obtain⟨j,hj⟩:=aU.mp hws;exact(T.sq.row j ws hj).1
 refine⟨λσ' H'=>∃(o9 o10:LU) (M':LA),σ'=[some (.ref a),some (.int (mo:Int)),some (.int C),some (.bl fr),some (.int (n:Int)),some (.int (C/14%5)),none,some (.ref p1),some (.ref g),o9,o10]/\Same H2 H'/\WN H2 H' g (i6 hs os) M'/\iY n M'/\jz n (ent M')/\(C/14%5=1->M'=nu M os),?_,?_⟩;obtain⟨J,U,t,g1,g2,g3,RR,nw3,d1,d2,d3⟩:=WN3.ex;have nh:∀r∈t,J≠r:=λr I q=>by subst q;exact d2 I
 have nr:∀r∈t,U≠r:=λr I q=>by subst q;exact d3 I
 have keep0:∃(o9 o10:LU) (M':LA),([some (.ref a),some (.int (mo:Int)),some (.int C),some (.bl fr),some (.int (n:Int)),some (.int (C/14%5)),none,some (.ref p1),some (.ref g),none,none]:L2.St)=[some (.ref a),some (.int (mo:Int)),some (.int C),some (.bl fr),some (.int (n:Int)),some (.int (C/14%5)),none,some (.ref p1),some (.ref g),o9,o10]/\Same H2 H3/\WN H2 H3 g (i6 hs os) M'/\iY n M'/\jz n (ent M')/\(C/14%5=1->M'=nu M os):=
  ⟨none,none,_,rfl,s3,WN3,yC T.sq pm,yh pm (qI W1.sq),λ_=>rfl⟩
 refine⟨_,rfl,rfl,_,rfl,?_⟩;by_cases h2:C/14%5=2;refine jr (by rw[h2]) ?_;refine⟨_,rfl,_,_,rfl,rfl,_,rfl,?_⟩;by_cases p:(0:Int)<(n:Int);refine jr p ?_;have t3:=t2.trans s3;refine⟨_,rfl,a,ns,5,rfl,t3.seq hS,by decide,λc5 _=>⟨_,rfl,_,_,rfl,rfl,p,?_⟩⟩;refine⟨_,rfl,a,ns,6,rfl,t3.seq hS,by decide,λc6 _=>⟨_,rfl,_,_,rfl,rfl,p,?_⟩⟩;obtain⟨u,eu⟩:=cC (fZ c5 (by lia:(n:Int)≠0));obtain⟨v,ev⟩:=cC (fZ c6 (by lia:(n:Int)≠0));have hu:u<n:=by have:=eJ c5 p;lia
 have hv:v<n:=by have:=eJ c6 p;lia
 dsimp only;rw[eu,ev];have SR:=yC T.sq pm;obtain⟨ru,xu,gu1,gu2,gu3⟩:=RR.get (i:=u) (by rw[RR.len,SR.len];exact hu);have lxu:=(SR.row u xu gu2).1;obtain⟨z,ez⟩:=bA (l:=xu) (i:=v) (by lia);have hz:(z+1).natAbs<=2*kr:=by
  have h1:=Np W1.sq pm gu2 z (af ez);have h2':kr=1000000000000000000000:=by decide
  lia
 have nru:H2 ru=none:=nw3 ru (by simp[af gu1]);have az:pK (xu.map V.int) (v:Int)=some (.int z):=cV (by rw[ao,ez];rfl);refine⟨_,rfl,g,_,_,_,rfl,rfl,dH.of g1,rfl,_,rfl,U,_,_,_,rfl,rfl,bW.of g3,iQ gu1,_,rfl,ru,_,_,_,rfl,rfl,bW.of gu3,az,_,_,rfl,rfl,?_⟩;refine⟨_,rfl,g,_,_,_,rfl,rfl,dH.of g1,rfl,_,rfl,U,_,_,_,rfl,rfl,bW.of g3,iQ gu1,_,rfl,ru,_,_,v,rfl,rfl,gu3,by rw[aa,lxu];exact lQ hv,?_⟩;rw[<-jS];have R4:=RR.put (j:=v) (z:=z+1) gu1 gu2;have S4:=SR.put u v hz;have npr:∀{r:Addr} {o:LI},H3 r=some (.lst o)->g≠r:=λe q=>by subst q;rw[g1]at e;cases e
 have s4:Same H2 (L2.upd H3 ru (.lst ((xu.set v (z+1)).map V.int))):=λb o e=>by rw[aW (aI e nru)];exact s3 _ _ e
 have g1':L2.upd H3 ru (.lst ((xu.set v (z+1)).map V.int)) g=_:=(aW (npr gu3)).trans g1;have g2':L2.upd H3 ru (.lst ((xu.set v (z+1)).map V.int)) J=_:=(aW (nh _ (af gu1))).trans g2;have g3':L2.upd H3 ru (.lst ((xu.set v (z+1)).map V.int)) U=_:=(aW (nr _ (af gu1))).trans g3;generalize L2.upd H3 ru (.lst ((xu.set v (z+1)).map V.int))=H4 at R4 s4 g1' g2' g3' ⊢;obtain⟨rv,xv,gv1,gv2,gv3⟩:=R4.get (i:=v) (by rw[R4.len,S4.len];exact hv);obtain⟨ru',xu',gw1,gw2,gw3⟩:=R4.get (i:=u) (by rw[R4.len,S4.len];exact hu);have lxv:=(S4.row v xv gv2).1;have lxw:=(S4.row u xu' gw2).1;obtain⟨y,ey⟩:=bA (l:=xu') (i:=v) (by lia);have hy:=(S4.row u xu' gw2).2 y (af ey);have ay:pK (xu'.map V.int) (v:Int)=some (.int y):=cV (by rw[ao,ey];rfl);have nrv:H2 rv=none:=nw3 rv (by simp[af gv1]);refine⟨_,rfl,g,_,_,_,rfl,rfl,dH.of g1',rfl,_,rfl,U,_,_,_,rfl,rfl,bW.of g3',iQ gw1,_,rfl,ru',_,_,_,rfl,rfl,bW.of gw3,ay,?_⟩;refine⟨_,rfl,g,_,_,_,rfl,rfl,dH.of g1',rfl,_,rfl,U,_,_,_,rfl,rfl,bW.of g3',iQ gv1,_,rfl,rv,_,_,u,rfl,rfl,gv3,by rw[aa,lxv];exact lQ hu,?_⟩;rw[<-jS];have R5:=R4.put (j:=u) (z:=y) gv1 gv2;have S5:=S4.put v u hy;have npr':g≠rv:=λq=>by subst q;rw[g1']at gv3;cases gv3
 refine⟨_,_,_,rfl,λb o e=>by rw[aW (aI e nrv)];exact s4 _ _ e,⟨J,U,t,(aW npr').trans g1',(aW (nh _ (af gv1))).trans g2',(aW (nr _ (af gv1))).trans g3',R5,nw3,d1,d2,d3⟩,S5,?_,λq=>by lia⟩;have ezy:y=z+1:=by
  have h1:ent (put (nu M os) u v (z+1)) u v=y:=by rw[ul gw2,ax,ey];rfl
  rw[<-h1,SR.ent hu hv,if_pos ⟨rfl,rfl⟩]
 rw[ezy];exact M6 SR hu hv hz (yh pm (qI W1.sq));exact js p keep0;exact js (λz=>h2 (V.int.inj z)) (gu keep0);rintro σ' H4 ⟨o9,o10,M',rfl,s4,WN4,SN,yM,hM⟩;refine⟨λσ' H'=>∃(hs':LH),σ'=[some (.ref a),some (.int (mo:Int)),some (.int C),some (.bl fr),some (.int (n:Int)),some (.int (C/14%5)),none,some (.ref p1),some (.ref g),o9,o10]/\Same H2 H'/\WN H2 H' g hs' M'/\hs'.length=n/\(∀z∈hs',0<=z/\z<=3)/\(C/14%5=1->hs'=i6 hs os),?_,?_⟩;obtain⟨J,U,t,g1,g2,g3,RR,nw4,d1,d2,d3⟩:=WN4.ex;have nh:∀r∈t,J≠r:=λr I q=>by subst q;exact d2 I
 refine⟨_,rfl,rfl,_,rfl,?_⟩;by_cases h3:C/14%5=3;refine jr (by rw[h3]) ?_;refine⟨_,rfl,_,_,rfl,rfl,_,rfl,?_⟩;by_cases p:(0:Int)<(n:Int);refine jr p ?_;have t4:=t2.trans s4;refine⟨_,rfl,a,ns,6,rfl,t4.seq hS,by decide,λc6 _=>⟨_,_,rfl,rfl,(by show(0:Int)<4;decide),?_⟩⟩;refine⟨_,rfl,g,_,_,_,rfl,rfl,dH.of g1,rfl,?_⟩;refine⟨_,rfl,a,ns,5,rfl,t4.seq hS,by decide,λc5 _=>⟨_,rfl,_,_,rfl,rfl,p,?_⟩⟩;obtain⟨u,eu⟩:=cC (fZ c5 (by lia:(n:Int)≠0));have hu:u<n:=by have:=eJ c5 p;lia
 have nhR:H2 J=none:=nw4 J (by simp);refine⟨J,_,_,u,rfl,rfl,g2,?_,?_⟩;show MV _ (c5%(n:Int))=_;rw[eu,aa,lRen];exact lQ hu;rw[<-jS];have npr:g≠J:=λq=>by subst q;rw[g1]at g2;cases g2
 refine⟨(i6 hs os).set u (c6%4),rfl,λb o e=>by rw[aW (aI e nhR)];exact s4 _ _ e,⟨J,U,t,(aW npr).trans g1,au,(aW d1.symm).trans g3,RR.keep λr I o e=>by rw[aW (nh r I).symm];exact e,nw4,d1,d2,d3⟩,by rw[gQ,lRen],λz hz=>?_,λq=>by lia⟩;rcases ql hz with q|q;exact hbR z q;rw[q];lia;exact js p ⟨_,rfl,s4,WN4,lRen,hbR,λ_=>rfl⟩;exact js (λz=>h3 (V.int.inj z)) (gu ⟨_,rfl,s4,WN4,lRen,hbR,λ_=>rfl⟩);rintro σ' H5 ⟨hs',rfl,s5,WN5,lh,hb,hh⟩;obtain⟨J,U,t,g1,g2,g3,RR,_⟩:=WN5.ex;refine⟨_,rfl,_,rfl,k9,λtA htA=>?_⟩;have s6:Same H5 (L2.upd H5 tA (.tup [.ref p1,.ref g])):=Same.upd htA;have ZR:Wz H5 g n hs' M':=⟨⟨J,U,t,g1,g2,g3,RR⟩,lh,SN,hb⟩;refine q tA p1 g _ _ _ _ _ _ _ ((t2.trans s5).trans s6) au ((Z12.same s5).same s6) (ZR.same s6) hnm hnm (λz=>z.elim (λz=>by rw[hM z,hh z];exact Iv pm T.len T.sq.len rwM) λz=>absurd z h4) (qI W1.sq) yM
end
section
open M11
def wk (s f:Int×Int):Int×Int:=low (s.1*f.2+f.1*s.2) (s.2*f.2)
def iD (fs:LC):Int×Int:=fs.foldl wk (0,1)
def DC (fs:LC):Prop:=∀f∈fs,0<f.2
def Lw (s:Int×Int):Prop:=0<s.2/\Int.gcd s.1 s.2=1
theorem O5 {f:Int×Int}(hs:0<s.2)(g:0<f.2):Lw (wk s f):=by have h:s.2*f.2≠0:=dU (nP hs g);exact⟨uj h,yS h⟩
def kU (W:Int)(f:Int×Int):Int:=f.1*W.fdiv f.2
theorem Kw {W:Int}{f:Int×Int}(g:0<f.2)(h:f.2∣W):kU W f*f.2=f.1*W:=by obtain⟨q,e,j⟩:=fdiv_of_dvd g h;unfold kU;rw[j];rw[e];grind
theorem Iw {W x:Int}{f:Int×Int}(hs:0<s.2)(g:0<f.2)(h:f.2∣W)(e:s.1*W=x*s.2):(wk s f).1*W=(x+kU W f)*(wk s f).2:=by
 have hp:s.2*f.2≠0:=dU (nP hs g);have c:=sv (t:=s.1*f.2+f.1*s.2) hp;have o:=Kw g h;show(low (s.1*f.2+f.1*s.2) (s.2*f.2)).1*W=(x+kU W f)*(low (s.1*f.2+f.1*s.2) (s.2*f.2)).2;generalize low (s.1*f.2+f.1*s.2) (s.2*f.2)=l at c;refine dB hp ?_;have p:l.1*W*(s.2*f.2)=l.1*(s.2*f.2)*W:=by grind
 rw[p,c];have j:(s.1*f.2+f.1*s.2)*l.2*W=l.2*(s.1*W*f.2+f.1*W*s.2):=by grind
 rw[j,e,<-o];grind
theorem zW {W:Int}:∀(fs:LC) (s:Int×Int) (x:Int),Lw s->DC fs->(∀f∈fs,f.2∣W)->s.1*W=x*s.2->Lw (fs.foldl wk s)/\(fs.foldl wk s).1*W=(x+(fs.map (kU W)).sum)*(fs.foldl wk s).2
 |[],s,x,hs,_,_,e=>⟨hs,by simpa using e⟩
 |f::fs,s,x,hs,hp,hd,e=>by have l:=hp f aM;have r:=zW fs (wk s f) (x+kU W f) (O5 hs.1 l) (λg j=>hp g (aB _ j)) (λg j=>hd g (aB _ j)) (Iw hs.1 l (hd f aM) e);refine⟨r.1,?_⟩;rw[aJ,dG,<-Int.add_assoc];exact r.2
theorem ww {W:Int}(hp:DC fs)(hd:∀f∈fs,f.2∣W):Lw (iD fs)/\(iD fs).1*W=(fs.map (kU W)).sum*(iD fs).2:=by have r:=zW (W:=W) fs (0,1) 0 ⟨by decide,by decide⟩ hp hd (by simp);rw[fQ]at r;exact r
theorem Lw.eq {t:Int×Int}(hs:Lw s)(g:Lw t)(h:s.1*t.2=t.1*s.2):s=t:=by have h1:=low_self hs.1 hs.2;have h2:=low_self g.1 g.2;have j:=Q9 (t:=s.1) (t':=t.1) (dU hs.1) (dU g.1) h;rw[h1,h2]at j;exact j
theorem Ec {W:Int}(t:0<W)(hp:DC fs)(hd:∀f∈fs,f.2∣W)(j:DC gs)(l:∀f∈gs,f.2∣W):iD fs=iD gs↔(fs.map (kU W)).sum=(gs.map (kU W)).sum:=by
 obtain⟨l1,g⟩:=ww hp hd;obtain⟨l2,p⟩:=ww j l;generalize(fs.map (kU W)).sum=x at g;generalize(gs.map (kU W)).sum=y at p;constructor;intro h;rw[h]at g;have:=g.symm.trans p;exact dB (dU l2.1) this;intro h;subst h;refine l1.eq l2 ?_;refine dB (dU t) ?_;have a:(iD fs).1*(iD gs).2*W=(iD fs).1*W*(iD gs).2:=by grind
 have b:(iD gs).1*(iD fs).2*W=(iD gs).1*W*(iD fs).2:=by grind
 rw[a,b,g,p];grind
theorem zY {W:Int}(j:0<W)(hp:DC fs)(hd:∀f∈fs,f.2∣W):iD fs=(1,1)↔(fs.map (kU W)).sum=W:=by
 have h:=Ec j hp hd (gs:=[(1,1)]) (λf g=>by rw[aX.mp g];decide) (λf g=>by rw[aX.mp g];exact Int.one_dvd _);have p:iD [(1,1)]=(1,1):=by decide
 have l:([((1:Int),(1:Int))].map (kU W)).sum=W:=by show 1*W.fdiv 1+0=W;rw[Int.fdiv_one];lia
 rw[p,l]at h;exact h
theorem RS {t b:Int}(hb:b≠0)(h1:Bn k t)(h2:Bn k b):Bn k (low t b).1/\Bn k (low t b).2:=⟨h1.le (Ll hb).1,h2.le (Ll hb).2⟩
theorem wx (fs:LC)(f:Int×Int):iD (fs++[f])=wk (iD fs) f:=by unfold iD;rw[jn];rfl
theorem M7:∀(n:Nat) (fs:LC),fs.length=n->DC fs->(∀f∈fs,Bn 200 f.1/\Bn 200 f.2)->0<(iD fs).2/\Bn (1+201*n) (iD fs).1/\Bn (1+201*n) (iD fs).2:=by
 intro n;induction n with
 |zero=>intro fs e _ _;have:fs=[]:=iR e;subst this;exact⟨by decide,show(0:Nat)<2^1 by decide,show(1:Nat)<2^1 by decide⟩
 |succ n I=>
  intro fs e hp hb;obtain⟨gs,f,rfl⟩:∃gs f,fs=gs++[f]:=⟨fs.dropLast,fs.getLast (by intro z;rw[z]at e;cases e),(oh _).symm⟩;obtain⟨i1,i2,i3⟩:=I gs (by rw[ah]at e;simpa using e) (λg l=>hp g (cB _ l)) (λg l=>hb g (cB _ l));obtain⟨b1,p⟩:=hb f (bM _ aM);have J:=hp f (bM _ aM);have j:(iD gs).2*f.2≠0:=dU (nP i1 J);rw[wx];have T:1+201*(n+1)=(1+201*n+200)+1:=by lia
  have C:Bn (1+201*(n+1)) ((iD gs).1*f.2+f.1*(iD gs).2):=by rw[T];exact(i2.mul p).add (by rw[iF];exact i3.mul b1)
  have t:Bn (1+201*(n+1)) ((iD gs).2*f.2):=(i3.mul p).mono (by lia);obtain⟨c1,U⟩:=RS j C t;exact⟨uj j,c1,U⟩
end
section
variable {P:Program}{w:World}{K:LO}{mg:LQ}{base:Heap}
def zC (H:Hp)(a:Addr)(F:List (LC)):Prop:=∃X:LB,iL H a X/\X.length=F.length/\∀(i:Nat) (x:LI) (fs:LC),X[i]?=some x->F[i]?=some fs->jU H x fs
theorem zC.mono (g:zC H a F)(s:Same H H'):zC H' a F:=by obtain⟨X,g,l,r⟩:=g;exact⟨X,g.mono s,l,λi x fs h1 h2=>(r i x fs h1 h2).mono s⟩
theorem jU.app {x y:LI}(a:jU H x fs)(b:jU H y gs):jU H (x++y) (fs++gs):=by refine⟨by rw[ah,ah,a.1,b.1],λi v f h1 h2=>?_⟩;by_cases hi:i<x.length;rw[aN hi]at h1;rw[aN (by rw[<-a.1];exact hi)]at h2;exact a.2 i v f h1 h2;rw[aE (by lia)]at h1;rw[aE (by rw[<-a.1];lia),<-a.1]at h2;exact b.2 _ v f h1 h2
theorem xJ:∀{X:LB} {F:List (LC)},X.length=F.length->(∀(i:Nat) (x:LI) (fs:LC),X[i]?=some x->F[i]?=some fs->jU H x fs)->jU H X.flatten F.flatten
 |[],[],_,_=>⟨rfl,λi v f h _=>by simp at h⟩
 |x::X,r::F,l,h=>(h 0 x r rfl rfl).app (xJ (by simpa using l) λi y fs h1 h2=>h (i+1) y fs h1 h2)
theorem xN {α:Type}{n:Nat}:∀{M:List (List α)},(∀x∈M,x.length=n)->M.flatten.length=M.length*n
 |[],_=>by simp
 |x::M,h=>by rw[dS,ah,xN λy g=>h y (aB _ g),h x aM,aH,Nat.succ_mul];lia
theorem AI {n:Nat}:∀{M:LB} {i:Nat} {x:LI},(∀x∈M,x.length=n)->M[i]?=some x->(M.flatten.drop (n*i)).take n=x
 |y::M,0,x,h,e=>by cases e;rw[dS,Nat.mul_zero,List.drop_zero,dJ (by rw[h _ aM];exact av _),di (by rw[h _ aM];exact av _)]
 |y::M,i+1,x,h,e=>by rw[dS,Nat.mul_succ,List.drop_append,tR (by rw[h _ aM];lia),iu,h _ aM,Nat.add_sub_cancel];exact AI (λx g=>h x (aB _ g)) (by simpa using e)
theorem M8 {n:Nat}{M:LB}(hl:M.length=n)(h:∀x∈M,x.length=n):lE M.flatten n=M:=by refine cJ λi=>?_;unfold lE;rw[ao];by_cases hi:i<n;obtain⟨x,g⟩:=bA (l:=M) (i:=i) (by lia);rw[cy hi,g,jb,AI h g];rw[aY (by rw[aA];lia),aY (by lia)];rfl
theorem Mo:∀A B:LA,PyData.eqvAll (A.map dI) (B.map dI)=decide (A=B)
 |[],[]=>rfl
 |[],_::_=>rfl
 |_::_,[]=>rfl
 |a::A,b::B=>by rw[aJ,aJ];simp only[PyData.eqvAll,Dq,Mo A B];by_cases h:a=b;subst h;by_cases h2:A=B;subst h2;simp;simp[h2];simp[h]
theorem iL.da (g:iL H a (gI M)):DA K any H (.ref a) (.list (M.map dI)):=by obtain⟨rs,h,R⟩:=g;exact .lst trivial (bW.of h) (vN (by rw[R.len,kX]) λi r x h1 h2=>R.row i r _ h1 (sI h2))
theorem De (M:LA):(PyData.list (M.map dI)).canLay0=true/\(PyData.list (M.map dI)).depth<=64:=by obtain⟨h1,h2⟩:=vx M;refine⟨by simp only[PyData.canLay0,h1],?_⟩;simp only[PyData.depth];lia
theorem vE (h:H a=some (.lst (rs.map V.ref)))(R:dw H rs M):iL H a (gI M):=
 ⟨rs,h,by rw[R.len,kX],λi r x h1 h2=>by obtain⟨y,g,rfl⟩:=bJ (show(M.map λx=>x.map V.int)[i]?=some x from h2);exact R.row i r y h1 g⟩
def tG (n:Nat)(F:List (LC)):Bool:=decide (F.length=n)&&F.all λr=>decide (r.length=n)
theorem Rt {n:Nat}{X:LB}(l:X.length=F.length)(h:∀(i:Nat) (x:LI) (fs:LC),X[i]?=some x->F[i]?=some fs->jU H x fs):Bm n X=tG n F:=by
 unfold Bm tG;rw[l];congr 1;induction X generalizing F with
 |nil=>cases F with|nil=>rfl|cons=>cases l
 |cons x X g=>cases F with|nil=>cases l|cons r F=>rw[List.all_cons,List.all_cons,g (F:=F) (by simpa using l) λi y fs h1 h2=>h (i+1) y fs h1 h2,(h 0 x r rfl rfl).1]
def lC (F:List (LC))(W:Int):LA:=F.map λr=>r.map λf=>Cc f W
def oM (n:Nat)(hs hs':LH)(M M':LA)(F:List (LC)):Bool:=
 decide (hs'.length=n)&&(tG n F&&(oW (lC F (jB F.flatten)) n (jB F.flatten)&&(vy hs hs' (lC F (jB F.flatten))&&decide (re M (lC F (jB F.flatten)) n=re (lC F (jB F.flatten)) M' n))))
def IM (f:Int×Int):Prop:=Bt f/\M11.Bn 100 f.1
inductive Au (vs:LI)(H:Hp)(Q:VK):Prop|mk (wA g tA:Addr) (n m:Nat) (hs hs':LH) (M M':LA) (F:List (LC)) (_:vs=[.ref wA,.ref g,.ref tA]) (_:WR H wA hs M) (_:WR H g hs' M') (_:hs.length=n) (_:hs'.length=m) (_:iY n M) (_:iY m M') (_:n<=8) (_:m<=8) (_:zC H tA F) (_:F.length<=16) (_:(∀r∈F,r.length<=16/\∀f∈r,IM f)) (_:∀b H',b=oM n hs hs' M M' F->Same H H'->Q (.bl b) H'):Au vs H Q
def JG:Sp:=λvs H Q _=>Au vs H Q
abbrev PR:LM:=["web","other","table","size","fractions","whole","shares"]
abbrev MN:LM:=["web","other","table"]
theorem uU:bv PR MN (aw xj):={}
theorem Ri:cn (aw xj) PR (cX (oQ (eU (dM xj 4)) 0)) ["f"]:={}
theorem Jp {n:Nat}(h:tG n F=true):F.length=n/\∀r∈F,r.length=n:=by unfold tG at h;rw[dg]at h;exact⟨jk h.1,λr g=>jk (ig.mp h.2 r g)⟩
theorem zS {W:Int}(h:x∈lC F W):∃r∈F,x=r.map λf=>Cc f W:=by obtain⟨r,g,e⟩:=aV.mp h;exact⟨r,g,e.symm⟩
theorem Gj (F:List (LC))(W:Int):(F.flatten.map λf=>Cc f W)=(lC F W).flatten:=by unfold lC;rw[List.map_flatten]
theorem Bb {α:Type}{F:List (List α)}{f:α}(h:f∈F.flatten):∃r∈F,f∈r:=by simpa using mZ.mp h
theorem N3 (B:IH mg)(F:Fun K "goes_through" "goes_through" xj f fd)(GIs:Cl P w K mg base "is_square" xh ["rows","size"] 1 JD)(GIn:Cl P w K mg base "in_one_list" uY ["rows"] 1 yn)(GBo:Cl P w K mg base "common_bottom" ug ["fractions"] 2 AA)(GTo:Cl P w K mg base "top_over" qQ ["f","bottom"] 1 wy)(GSq:Cl P w K mg base "in_square" xi ["things","size"] 1 (JE K))(GSh:Cl P w K mg base "are_shared_out" oX ["shares","whole"] 3 Af)(GKe:Cl P w K mg base "keep_hues" kH mS 2 uK)(GPr:Cl P w K mg base "product_of_grids" xf ["rows","others"] 3 Jt):cW P w K mg base gK 4 f fd MN JG:=by
 refine F.q uU λH vs _ I h=>?_;obtain⟨wA,oA,tA,n,m,hs,hs',M,M',F,rfl,W,W',hl,hl',S,S',hn,hm,g,hF,hFr,q⟩:=h;have r1:=I.mono (j:=1) (by decide);have r2:=I.mono (j:=2) (by decide);obtain⟨hA,rA,rs,w1,w2,w3,R⟩:=W.ex;obtain⟨hA',rA',rs',v1,v2,v3,R'⟩:=W'.ex;obtain⟨X,gX,lX,fX⟩:=g;refine⟨_,am (fk 3 uU.nd (bE bQ (by rfl) B.len bu (ac (bf bL (pv 0) ar) aj)))
  (am (dX (PW.pt (kT (bV jF (bE bQ (by rfl) B.len bu (ac (bf bL (pv 1) ar) aj)) (pv 3) (bO _)) (jJ (l5 (jK (bH GIs r1 rfl (ac (pv 2) (ac (pv 3) aj)))))))) (aC (bw jf)) cE)
  (am (fk 4 uU.nd (bH GIn r1 rfl (ac (pv 2) aj)))
  (am (fk 5 uU.nd (bH GBo r2 rfl (ac (pv 4) aj)))
  (am (fk 6 uU.nd (bH GSq r1 rfl (ac (il rfl Ri rfl (cK (pv 4)) λ_ _ _=>bH GTo r1 rfl (ac (pv 7) (ac (pv 5) aj))) (ac (pv 3) aj))))
  (am (dX (PW.pt (kT (l5 (jK (bH GSh I rfl (ac (pv 6) (ac (pv 5) aj))))) (jJ (l5 (jK (bH GKe r2 rfl (ac (bf bL (pv 0) ar) (ac (bf bL (pv 1) ar) (ac (pv 6) aj))))))))) (aC (bw jf)) cE)
  (aC (bw (fH (qe I.units) (bH GPr I rfl (ac (bf bL (pv 0) ar) (ac (pv 6) aj))) (bH GPr I rfl (ac (pv 6) (ac (bf bL (pv 1) ar) aj))) (bO _))))))))),?_⟩
 show let ω1:TS:=_;let ω2:TS:=_;let ω3:TS:=bN (gL _ ω2 _) ω1;let ω4:TS:=bN _ ω3;let ω5:TS:=bN _ ω4;let ω6:TS:=bN _ ω5;let ω7:TS:=_;let ω8:TS:=bN (gL _ ω7 _) ω6;bN _ ω8 _ _ _;intro ω1 ω2 ω3 ω4 ω5 ω6 ω7 ω8;refine⟨_,rfl,wA,_,_,_,rfl,rfl,dH.of w1,eY _ _,hA,_,rfl,.inl (bW.of w2),?_⟩;rw[aa,hl];refine⟨_,rfl,oA,_,_,_,rfl,rfl,dH.of v1,eY _ _,hA',_,rfl,.inl (bW.of v2),?_⟩;rw[aa];refine⟨_,rfl,rfl,_,rfl,?_⟩;unfold oM at q;by_cases J:hs'.length=n
 case neg=>
  refine tF (λz=>J (by have:=V.int.inj z;lia)) (iV (q false H ?_ (Same.refl _)));rw[bq J,lq]
 rw[bi J,kh]at q;refine iP (by rw[J]) ?_;refine⟨_,rfl,_,rfl,tA,X,n,rfl,gX,by lia,by lia,λx t=>?_,λH1 s1=>⟨_,rfl,?_⟩⟩;obtain⟨i,hi⟩:=aU.mp t;obtain⟨fs,hfs⟩:=bA (l:=F) (i:=i) (by rw[<-lX];exact cw hi);rw[(fX i x fs hi hfs).1];have:=(hFr fs (af hfs)).1;lia;rw[Rt lX fX];cases hsq:tG n F with
 |false=>refine iV (q false H1 ?_ s1);rw[hsq,lq]
 |true=>
  refine gu ?_;rw[hsq,kh]at q;obtain⟨sq1,sq2⟩:=Jp hsq;have flF:F.flatten.length=n*n:=by rw[xN sq2,sq1]
  have nn:n*n<=64:=gA hn hn;have ff:=xJ lX fX;have hB:∀f∈F.flatten,IM f:=λf hf=>by obtain⟨r,I,hf⟩:=Bb hf;exact(hFr r I).2 f hf
  refine⟨_,rfl,tA,X,rfl,gX.mono s1,by rw[ff.1,flF];lia,λfA H2 s2 nf ef=>?_⟩;have s12:=s1.trans s2;refine⟨_,rfl,fA,X.flatten,F.flatten,rfl,ef,ff.mono s12,by lia,λf hf=>(hB f hf).1,?_⟩;obtain⟨b1,b2,b3⟩:=vR (fs:=F.flatten) λf hf=>(hB f hf).1;generalize jB F.flatten=Wh at b1 b2 b3 q ⊢;have b4:M11.Bn 1300 Wh:=b3.mono (by rw[flF];lia);refine⟨_,rfl,fA,rfl,⟨_,bW.of ef⟩,λD hD=>?_⟩;refine lO ((F.flatten.map λf=>Cc f Wh).map V.int) (by rw[aa,aa,ff.1]) (by rw[ff.1,flF];lia) hD (bW.of ef) ?_ ?_ ?_;intro i x v H' t hv s';obtain⟨z,hz,rfl⟩:=bJ hv;obtain⟨g,hg,rfl⟩:=bJ hz;obtain⟨p,rfl,hp⟩:=ff.2 i x g t hg;obtain⟨g1,g2⟩:=hB g (af hg);exact⟨_,rfl,_,rfl,p,g,Wh,rfl,s' _ _ (s12 _ _ hp),g1,g2.mono (by decide),b4.mono (by decide),rfl,Same.refl _⟩;intro H3 s3 eD;rw[Gj]at eD;have s13:=s12.trans s3;have tw:∀x∈lC F Wh,x.length=n:=λx t=>by obtain⟨r,I,rfl⟩:=zS t;rw[aa,sq2 r I]
  have tl:(lC F Wh).length=n:=by unfold lC;rw[aa,sq1]
  have tb:∀x∈lC F Wh,∀z∈x,M11.Bn 2000 z:=λx t z hz=>by obtain⟨r,I,rfl⟩:=zS t;obtain⟨g,hg,rfl⟩:=aV.mp hz;obtain⟨g1,g2⟩:=(hFr r I).2 g hg;exact(g2.mul (M11.Bn.le b4 (zd g1.1))).mono (by decide)
  generalize lC F Wh=T at eD tw tl tb q;refine⟨_,rfl,D,_,n,rfl,bW.of eD,by rw[aa,vG tw,tl],by lia,λsA H4 s4 nS gS=>?_⟩;rw[<-yY,M8 (by rw[kX];exact tl) (λx t=>by obtain⟨y,hy,rfl⟩:=aV.mp t;rw[aa];exact tw y hy)]at gS;have s14:=s13.trans s4;refine⟨_,rfl,_,rfl,sA,T,n,Wh,rfl,gS,tl,by lia,tw,λH5 s5=>⟨_,rfl,?_⟩⟩;have C:=s14.trans s5;cases hsh:oW T n Wh with
  |false=>refine iV (q false H5 ?_ C);rw[hsh,lq]
  |true=>
   refine gu ?_;rw[hsh,kh]at q;refine⟨_,rfl,wA,_,_,_,rfl,rfl,dH.of (C _ _ w1),eY _ _,_,rfl,oA,_,_,_,rfl,rfl,dH.of (C _ _ v1),eY _ _,_,rfl,?_⟩;refine⟨hA,hA',sA,hs,hs',T,rfl,C _ _ w2,C _ _ v2,gS.mono s5,by lia,by lia,by lia,λx t=>by rw[J];exact tw x t,λH6 s6=>⟨_,rfl,?_⟩⟩;have U:=C.trans s6;cases hk:vy hs hs' T with
   |false=>refine iV (q false H6 ?_ U);rw[hk,lq]
   |true=>
    refine gu ?_;rw[hk,kh]at q;have hwx:(2*kr:Nat)<2^2000:=by
     have:kr=1000000000000000000000:=by decide
     rw[this];exact ba (show(2*1000000000000000000000:Nat)<2^100 by decide) (dh (by decide) (by decide))
    have mr:∀{k:Nat} {N:LA},iY k N->∀x∈N,x.length=k/\∀z∈x,M11.Bn 2000 z:=λSq x t=>by obtain⟨i,hi⟩:=aU.mp t;exact⟨(Sq.row i x hi).1,λz hz=>cg ((Sq.row i x hi).2 z hz) hwx⟩
    have nil0:∀{N:LA},N.length=n->N=[]->n=0:=λe z=>by rw[z]at e;exact e.symm
    have em:m=n:=by lia
    refine⟨_,rfl,wA,_,_,_,rfl,rfl,dH.of (U _ _ w1),fK _ _ _,_,rfl,?_⟩;refine⟨rA,sA,M,T,n,2000,rfl,(vE w3 R).mono U,gS.mono (s5.trans s6),by rw[S.len];lia,by lia,by lia,by decide,λx t=>?_,λx t=>⟨tw x t,tb x t⟩,nil0 tl,λpA H7 s7 n7 g7=>?_⟩;obtain⟨h1,h2⟩:=mr S x t;exact⟨by rw[h1,tl],h2⟩;have s17:=U.trans s7;refine⟨_,rfl,_,rfl,oA,_,_,_,rfl,rfl,dH.of (s17 _ _ v1),fK _ _ _,?_⟩;refine⟨sA,rA',T,M',n,2000,rfl,gS.mono ((s5.trans s6).trans s7),(vE v3 R').mono s17,by lia,by rw[S'.len];lia,by lia,by decide,λx t=>⟨by rw[tw x t,S'.len,em],tb x t⟩,λx t=>?_,nil0 (by rw[S'.len,em]),λpB H8 s8 n8 g8=>?_⟩;obtain⟨h1,h2⟩:=mr S' x t;exact⟨by rw[h1,em],h2⟩;refine⟨_,_,(g7.mono s8).da,g8.da,⟨(De _).1,(De _).1,(De _).2⟩,q _ H8 ?_ (s17.trans s8)⟩;simp only[PyData.eqv];exact Mo _ _
  rintro σ H' Q1 Q2 hq ⟨v,e,v',e',a1,a2,a3,a4,a5,a6,a7,a8,g⟩;exact⟨v,e,v',e',a1,a2,a3,a4,a5,a6,a7,a8,hq _ _ g⟩
end
section
def cQ (us:LH)(u:Nat):Int:=us[u]?.getD 0
def gW (n:Nat)(f:Nat->Int):Int:=((List.range n).map f).sum
theorem fJ (n:Nat)(f:Nat->Int):gW (n+1) f=gW n f+f n:=by unfold gW;rw[n9,a0,List.sum_append];simp
theorem mD (f:Nat->Int):gW 0 f=0:=rfl
theorem bZ {n:Nat}{f g:Nat->Int}(h:∀i<n,f i=g i):gW n f=gW n g:=by unfold gW;rw[bU λi hi=>h i (bc.mp hi)]
theorem qN (n:Nat)(f g:Nat->Int):gW n (λi=>f i+g i)=gW n f+gW n g:=by induction n with|zero=>rfl|succ n j=>rw[fJ,fJ,fJ,j];lia
theorem fS (c:Int)(n:Nat)(f:Nat->Int):gW n (λi=>c*f i)=c*gW n f:=by induction n with|zero=>rw[mD,mD,gY]|succ n g=>rw[fJ,fJ,g,Int.mul_add]
theorem fR (n:Nat):gW n (λ_=>0)=0:=by induction n with|zero=>rfl|succ n g=>rw[fJ,g];rfl
theorem JK (n m:Nat)(f:Nat->Nat->Int):gW n (λi=>gW m (f i))=gW m λj=>gW n λi=>f i j:=by induction n with|zero=>rw[mD];exact(fR m).symm|succ n g=>rw[fJ,g,<-qN];exact bZ λj _=>(fJ n λi=>f i j).symm
theorem Cu {n:Nat}{f:Nat->Int}(h:∀i<n,0<=f i):0<=gW n f:=by induction n with|zero=>exact Int.le_refl _|succ n g=>rw[fJ];have:=g λi hi=>h i (by lia);have:=h n (by lia);lia
theorem M9 {n:Nat}{f:Nat->Int}(h:∀i<n,0<=f i)(hk:k<n)(j:0<f k):0<gW n f:=by induction n with|zero=>lia|succ n g=>rw[fJ];have l:=h n (by lia);by_cases e:k=n;subst e;have:=Cu (n:=k) λi hi=>h i (by lia);lia;have:=g (λi hi=>h i (by lia)) (by lia);lia
theorem Qn {n:Nat}{f:Nat->Int}(h:0<gW n f):∃i<n,f i≠0:=by induction n with|zero=>rw[mD]at h;lia|succ n g=>rw[fJ]at h;by_cases e:f n=0;obtain⟨i,hi,x⟩:=g (by lia);exact⟨i,by lia,x⟩;exact⟨n,by lia,e⟩
def qF (a:Nat->Int)(o:Int)(u:Nat):Int:=if a u=o then 1 else 0
theorem GZ (a:Nat->Int)(o:Int)(u:Nat):0<=qF a o u:=by unfold qF;split<;>decide
theorem Nz (a:Nat->Int)(u:Nat):qF a (a u) u=1:=if_pos rfl
def dO (n:Nat)(a:Nat->Int)(o:Int):Int:=gW n (qF a o)
def oi (n:Nat)(M:Nat->Nat->Int)(a:Nat->Int)(u:Nat)(o:Int):Int:=gW n λv=>qF a o v*M u v
theorem ju {n:Nat}{a:Nat->Int}(g:u<n):0<dO n a (a u):=M9 (λi _=>GZ a _ i) g (by rw[Nz];decide)
theorem OY {n:Nat}{a:Nat->Int}(h:0<dO n a o):∃u<n,a u=o:=by obtain⟨u,g,x⟩:=Qn h;refine⟨u,g,?_⟩;unfold qF at x;by_cases e:a u=o;exact e;rw[if_neg e]at x;exact absurd rfl x
theorem xn {n:Nat}{M:Nat->Nat->Int}{a:Nat->Int}(ev:∀u<n,∀v<n,a u=a v->∀o,oi n M a u o=oi n M a v o)(j:u<n)(o:Int):gW n (λx=>qF a (a u) x*oi n M a x o)=dO n a (a u)*oi n M a u o:=by
 have:gW n (λx=>qF a (a u) x*oi n M a x o)=gW n λx=>oi n M a u o*qF a (a u) x:=bZ λx g=>by unfold qF;by_cases e:a x=a u;rw[if_pos e,ev x g u j e,iF];rw[if_neg e,gv,gY]
 rw[this,fS];exact iF _ _
theorem xm {n:Nat}{M:Nat->Nat->Int}{a:Nat->Int}(g:jz n M)(ev:∀u<n,∀v<n,a u=a v->∀o,oi n M a u o=oi n M a v o){v:Nat}(t:u<n)(p:v<n):dO n a (a u)*oi n M a u (a v)=dO n a (a v)*oi n M a v (a u):=by rw[<-xn ev t,<-xn ev p];have I:gW n (λx=>qF a (a u) x*oi n M a x (a v))=gW n λx=>gW n λy=>qF a (a u) x*(qF a (a v) y*M x y):=bZ λx _=>(fS _ n _).symm;have C:gW n (λy=>qF a (a v) y*oi n M a y (a u))=gW n λy=>gW n λx=>qF a (a v) y*(qF a (a u) x*M y x):=bZ λx _=>(fS _ n _).symm;rw[I,C,JK];refine bZ λy j=>bZ λx l=>?_;rw[g y j x l];grind
structure BZ (n m:Nat)(h h':Nat->Int)(M M':Nat->Nat->Int)(a b:Nat->Int):Prop where
 here:∀u<n,∀v<n,a u=a v->h u=h v/\∀o,oi n M a u o=oi n M a v o
 there:∀u<m,∀v<m,b u=b v->h' u=h' v/\∀o,oi m M' b u o=oi m M' b v o
 cross:∀u<n,∀w<m,a u=b w->h u=h' w/\∀o,oi n M a u o=oi m M' b w o
structure Pc (n m:Nat)(h h':Nat->Int)(M M':Nat->Nat->Int)(a b:Nat->Int):Prop where
 ev:BZ n m h h' M M' a b
 here:∀{a' b':Nat->Int},BZ n m h h' M M' a' b'->∀u<n,∀v<n,a' u=a' v->a u=a v
 there:∀{a' b':Nat->Int},BZ n m h h' M M' a' b'->∀u<m,∀v<m,b' u=b' v->b u=b v
 cross:∀{a' b':Nat->Int},BZ n m h h' M M' a' b'->∀u<n,∀w<m,a' u=b' w->a u=b w
def DQ (n m:Nat)(a b:Nat->Int):Prop:=∀o,dO n a o=dO m b o
theorem DQ.ex {n:Nat}{a:Nat->Int}(h:DQ n m a b)(g:u<n):∃w<m,b w=a u:=OY (by rw[<-h];exact ju g)
theorem DQ.symm {n:Nat}{a:Nat->Int}(h:DQ n m a b):DQ m n b a:=λo=>(h o).symm
theorem BZ.symm {n:Nat}{h:Nat->Int}{M M':Nat->Nat->Int}{a:Nat->Int}(E:BZ n m h h' M M' a b):BZ m n h' h M' M b a:=
 ⟨E.there,E.here,λu j w g e=>⟨(E.cross w g u j e.symm).1.symm,λo=>((E.cross w g u j e.symm).2 o).symm⟩⟩
theorem Pc.symm {n:Nat}{h:Nat->Int}{M M':Nat->Nat->Int}{a:Nat->Int}(C:Pc n m h h' M M' a b):Pc m n h' h M' M b a:=
 ⟨C.ev.symm,λE=>C.there E.symm,λE=>C.here E.symm,λE u j w g e=>(C.cross E.symm w g u j e.symm).symm⟩
def uQ (a b:Nat->Int)(k:Int->Int)(u w:Nat):Int:=if a u=b w then k (a u)else 0
section
variable {n m:Nat}{h h':Nat->Int}{M M':Nat->Nat->Int}{a b:Nat->Int}{k:Int->Int}{W:Int}
theorem EC (as:DQ n m a b)(hk:k (a u)*dO n a (a u)=W):gW m (λw=>uQ a b k u w)=W:=by
 have:gW m (λw=>uQ a b k u w)=gW m λw=>k (a u)*qF b (a u) w:=bZ λw _=>by unfold uQ qF;by_cases e:a u=b w;rw[if_pos e,if_pos e.symm,hE];rw[if_neg e,if_neg (Ne.symm e),gY]
 rw[this,fS,<-hk,as];rfl
theorem ED (hk:k (b w)*dO n a (b w)=W):gW n (λu=>uQ a b k u w)=W:=by
 have:gW n (λu=>uQ a b k u w)=gW n λu=>k (b w)*qF a (b w) u:=bZ λu _=>by unfold uQ qF;by_cases e:a u=b w;rw[if_pos e,if_pos e,hE,e];rw[if_neg e,if_neg e,gY]
 rw[this,fS,<-hk];rfl
theorem Nc (E:BZ n m h h' M M' a b)(j:u<n)(g:w<m):uQ a b k u w=0\/h' w=h u:=by unfold uQ;by_cases e:a u=b w;exact .inr (E.cross u j w g e).1.symm;exact .inl (if_neg e)
theorem SB:gW n (λv=>uQ a b k v w*M u v)=k (b w)*oi n M a u (b w):=by unfold oi;rw[<-fS];refine bZ λv _=>?_;unfold uQ qF;by_cases e:a v=b w;rw[if_pos e,if_pos e,e,g9];rw[if_neg e,if_neg e,gv,gY]
theorem SA (g:jz m M')(j:w<m):gW m (λv=>M' v w*uQ a b k u v)=k (a u)*oi m M' b w (a u):=by unfold oi;rw[<-fS];refine bZ λv l=>?_;unfold uQ qF;by_cases e:a u=b v;rw[if_pos e,if_pos e.symm,g v l w j,g9,iF];rw[if_neg e,if_neg (Ne.symm e),gv,gY,gY]
theorem AB (E:BZ n m h h' M M' a b)(as:DQ n m a b)(t:jz n M)(p:jz m M')(hk:∀u<n,k (a u)*dO n a (a u)=W)(g:u<n)(l:w<m):
  gW n (λv=>uQ a b k v w*M u v)=gW m λv=>M' v w*uQ a b k u v:=by rw[SB,SA p l];obtain⟨x,j,ex⟩:=as.symm.ex l;have r:=(E.cross x j w l ex).2 (a u);have c:=xm t (λu g v I e=>(E.here u g v I e).2) g j;rw[<-ex,<-r];have k1:=hk u g;have J:=hk x j;have C:0<dO n a (a u):=ju g;have p2:0<dO n a (a x):=ju j;refine dB (a:=dO n a (a u)*dO n a (a x)) (dU (nP C p2)) ?_;grind
end
abbrev Rw:=Nat->Int
def Lp (F:List Rw->Int)(c:Nat):List Rw->Int
 |[]=>0
 |x::xs=>x c*F xs-Lp (λys=>F (x::ys)) c xs
def Dt:List Nat->List Rw->Int
 |[],_=>1
 |c::g,xs=>Lp (Dt g) c xs
theorem Da (a:Int)(c:Nat):∀(xs:List Rw) (F G:List Rw->Int),Lp (λys=>a*F ys-G ys) c xs=a*Lp F c xs-Lp G c xs
 |[],_,_=>by simp[Lp]
 |x::xs,F,G=>by simp only[Lp];rw[Da a c xs (λys=>F (x::ys)) λys=>G (x::ys)];grind
theorem Fo (c d:Nat):∀(xs:List Rw) (F:List Rw->Int),Lp (λys=>Lp F d ys) c xs=- Lp (λys=>Lp F c ys) d xs
 |[],_=>rfl
 |x::xs,F=>by show x c*Lp F d xs-Lp (λys=>x d*F ys-Lp (λzs=>F (x::zs)) d ys) c xs=- (x d*Lp F c xs-Lp (λys=>x c*F ys-Lp (λzs=>F (x::zs)) c ys) d xs);rw[Da,Da,Fo c d xs λzs=>F (x::zs)];grind
theorem Lj (c:Nat):∀(xs:List Rw) (F:List Rw->Int),(∀ys,F ys=0)->Lp F c xs=0
 |[],_,_=>rfl
 |x::xs,F,h=>by show x c*F xs-Lp (λys=>F (x::ys)) c xs=0;rw[h,Lj c xs _ λys=>h _];simp
theorem jt (q:Nat):∀(g:LL) (xs:List Rw),q∈g->Dt (q::g) xs=0
 |[],_,h=>nomatch h
 |c::g,xs,h=>by
  have e:Dt (q::c::g) xs=- Lp (λys=>Lp (Dt g) q ys) c xs:=Fo q c xs (Dt g);by_cases j:q=c;subst j;have:Dt (q::q::g) xs=Lp (λys=>Lp (Dt g) q ys) q xs:=rfl;lia;have l:q∈g:=by cases h with|head=>exact absurd rfl j|tail _ h=>exact h
  have p:Lp (λys=>Lp (Dt g) q ys) c xs=0:=Lj c xs _ λys=>jt q g ys l;lia
def Zs:List Rw->Rw->Prop
 |[],y=>∀q,y q=0
 |r::rs,y=>∃c:Int,Zs rs λq=>y q-c*r q
theorem Zs.lin:∀{rs:List Rw} {y z:Rw} (a b:Int),Zs rs y->Zs rs z->Zs rs λq=>a*y q+b*z q
 |[],_,_,a,b,h,k=>λq=>by show a*_+b*_=(0:Int);rw[h q,k q];simp
 |r::rs,y,z,a,b,⟨c,h⟩,⟨d,k⟩=>⟨a*c+b*d,by
  have:=Zs.lin a b h k;have e:(λq=>a*(y q-c*r q)+b*(z q-d*r q))=λq=>a*y q+b*z q-(a*c+b*d)*r q:=by funext q;grind
  rw[e]at this;exact this⟩
theorem Zs.zero:∀rs:List Rw,Zs rs λ_=>0
 |[]=>λ_=>rfl
 |r::rs=>⟨0,by simpa using Zs.zero rs⟩
theorem Zs.more {r:Rw}{rs:List Rw}{y:Rw}(h:Zs rs y):Zs (r::rs) y:=⟨0,by simpa using h⟩
theorem Zs.self (r:Rw)(rs:List Rw):Zs (r::rs) r:=⟨1,by simpa using Zs.zero rs⟩
theorem PV:∀(rs:List Rw) (F:List Rw->Int),Zs rs λq=>Lp F q rs
 |[],_=>λ_=>rfl
 |r::rs,F=>⟨F rs,by
  have h:=Zs.lin (-1) 0 (PV rs λys=>F (r::ys)) (Zs.zero rs);have e:(λq=>-1*Lp (λys=>F (r::ys)) q rs+0*0)=λq=>Lp F q (r::rs)-F rs*r q:=by funext q;show _=r q*F rs-_-_;grind
  rw[e]at h;exact h⟩
theorem tJ (ps:LL)(rs:List Rw)(x:Rw):Zs rs λq=>Dt ps rs*x q-Dt (q::ps) (x::rs):=by
 have h:=PV rs λys=>Dt ps (x::ys);have e:(λq=>Lp (λys=>Dt ps (x::ys)) q rs)=λq=>Dt ps rs*x q-Dt (q::ps) (x::rs):=by funext q;show _=_-(x q*Dt ps rs-_);grind
 rw[e]at h;exact h
inductive me:List Rw->List Nat->Prop
 |nil:me [] []
 |cons {rs:List Rw} {ps:LL} (r:Rw) (p:Nat):me rs ps->Dt (p::ps) (r::rs)≠0->me (r::rs) (p::ps)
theorem me.ne {rs:List Rw}(h:me rs ps):Dt ps rs≠0:=by cases h with|nil=>decide|cons r p _ h=>exact h
theorem me.uniq:∀{rs:List Rw} {ps:LL},me rs ps->∀{y:Rw},Zs rs y->(∀p∈ps,y p=0)->∀q,y q=0:=by
 intro rs ps h;induction h with
 |nil=>intro y h _;exact h
 | @cons rs ps r p f hd l=>
  intro y ⟨c,t⟩ h0;have hz:=Zs.lin (Dt ps rs) c t (tJ ps rs r);have e:(λq=>Dt ps rs*(y q-c*r q)+c*(Dt ps rs*r q-Dt (q::ps) (r::rs)))=λq=>Dt ps rs*y q-c*Dt (q::ps) (r::rs):=by funext q;grind
  rw[e]at hz;have j:=l hz λp' g=>by show Dt ps rs*y p'-c*Dt (p'::ps) (r::rs)=0;rw[h0 p' (aB _ g),jt p' ps _ g];simp
  have C:c=0:=by
   have:=j p;simp only[h0 p aM]at this;have:c*Dt (p::ps) (r::rs)=0:=by lia
   rcases kq.mp this with h|h;exact h;exact absurd h hd
  intro q;have:=j q;simp only[C]at this;have:Dt ps rs*y q=0:=by lia
  rcases kq.mp this with h|h;exact absurd h f.ne;exact h
theorem OW {rs:List Rw}{r:Rw}{p:Nat}(h:me (r::rs) (p::ps))(x:Rw)(q:Nat):
  Dt (p::ps) (r::rs)*Dt (q::ps) (x::rs)-Dt (p::ps) (x::rs)*Dt (q::ps) (r::rs)=Dt ps rs*Dt (q::p::ps) (x::r::rs):=by
 have a1:=tJ (p::ps) (r::rs) x;have a2:=Zs.more (r:=r) (tJ ps rs x);have a3:=Zs.more (r:=r) (tJ ps rs r);have b1:=Zs.lin (Dt ps rs) (-(Dt (p::ps) (r::rs))) a1 a2;have l:=Zs.lin (Dt (p::ps) (x::rs)) (-(Dt (p::ps) (x::rs)*Dt ps rs)) a3 (Zs.self r rs);have j:=Zs.lin 1 1 b1 l;have k:=h.uniq j λp' g=>by show 1*(Dt ps rs*(Dt (p::ps) (r::rs)*x p'-Dt (p'::p::ps) (x::r::rs))+-(Dt (p::ps) (r::rs))*(Dt ps rs*x p'-Dt (p'::ps) (x::rs)))+1*(Dt (p::ps) (x::rs)*(Dt ps rs*r p'-Dt (p'::ps) (r::rs))+-(Dt (p::ps) (x::rs)*Dt ps rs)*r p')=0;rw[jt p' (p::ps) _ g];cases g with|head=>grind|tail _ g=>rw[jt p' ps _ g,jt p' ps _ g];grind
 have:=k q;grind
def Bd (n:Nat):List Rw->List Nat->Prop
 |[],[]=>True
 |x::xs,b::bs=>(∀q,q<n->(x q).natAbs<=b)/\Bd n xs bs
 |_,_=>False
def Pd:List Nat->Nat
 |[]=>1
 |b::bs=>b*Pd bs
theorem PX {n c:Nat}(j:c<n):∀(xs:List Rw) (bs:LL) (F:List Rw->Int) (M:Nat),Bd n xs bs->(∀ys g,Bd n ys g->ys.length+1=xs.length->(F ys).natAbs<=M*Pd g)->(Lp F c xs).natAbs<=xs.length*(M*Pd bs)
 |[],_,_,_,_,_=>by simp[Lp]
 |x::xs,[],_,_,h,_=>h.elim
 |x::xs,b::bs,F,M,⟨h1,h2⟩,l=>by
  have i1:=l xs bs h2 rfl;have i2:=PX j xs bs (λys=>F (x::ys)) (M*b) h2 λys g p hl=>by
   have:=l (x::ys) (b::g) ⟨h1,p⟩ (by simp only[aH];lia);have e:M*Pd (b::g)=M*b*Pd g:=by show M*(b*_)=_;rw[zG]
   rw[e]at this;exact this
  show(x c*F xs-Lp (λys=>F (x::ys)) c xs).natAbs<=(xs.length+1)*(M*(b*Pd bs));have i3:(x c*F xs).natAbs<=b*(M*Pd bs):=by rw[gD];exact gA (h1 c j) i1
  have C:b*(M*Pd bs)=M*(b*Pd bs):=Nat.mul_left_comm ..;have t:M*b*Pd bs=M*(b*Pd bs):=zG ..;rw[C]at i3;rw[t]at i2;rw[qy,qx];lia
def Fc:Nat->Nat
 |0=>1
 |n+1=>(n+1)*Fc n
theorem P7 {n:Nat}:∀(g:LL) (xs:List Rw) (bs:LL),(∀c∈g,c<n)->Bd n xs bs->g.length=xs.length->(Dt g xs).natAbs<=Fc g.length*Pd bs
 |[],[],[],_,_,_=>by decide
 |[],[],_::_,_,h,_=>h.elim
 |[],_::_,_,_,_,h=>nomatch h
 |c::g,xs,bs,j,hb,hl=>by have:=PX (j c aM) xs bs (Dt g) (Fc g.length) hb λys ds l p=>P7 g ys ds (λt h=>j t (aB _ h)) l (by simp only[aH]at hl;lia);show(Lp (Dt g) c xs).natAbs<=(g.length+1)*Fc g.length*Pd bs;rw[zG,show g.length+1=xs.length from hl];exact this
inductive Tr where
 |nd (w:Option Int) (bs:List Tr)
def i9 (U:Nat->Int)(w:Option Int)(x:Nat):Int:=match w with
 |none=>1
 |some c=>if U x=c then 1 else 0
def Nr (N:Nat)(W:Nat->Nat->Int)(y:Rw):Rw:=λq=>gW N λv=>W q v*y v
mutual
def Tr.val (N:Nat)(U:Nat->Int)(W:Nat->Nat->Int):Tr->Rw
 | .nd w bs,x=>i9 U w x*Tr.vals N U W bs x
def Tr.vals (N:Nat)(U:Nat->Int)(W:Nat->Nat->Int):List Tr->Rw
 |[],_=>1
 |t::ts,x=>Nr N W (Tr.val N U W t) x*Tr.vals N U W ts x
end
mutual
def Tr.knots:Tr->Nat
 | .nd _ bs=>1+Tr.knotss bs
def Tr.knotss:List Tr->Nat
 |[]=>0
 |t::ts=>t.knots+Tr.knotss ts
end
mutual
def Tr.deep:Tr->Nat
 | .nd _ bs=>1+Tr.deeps bs
def Tr.deeps:List Tr->Nat
 |[]=>0
 |t::ts=>max t.deep (Tr.deeps ts)
end
variable {N:Nat}{U:Nat->Int}{W:Nat->Nat->Int}
theorem uw:∀(a b:List Tr) (x:Nat),Tr.vals N U W (a++b) x=Tr.vals N U W a x*Tr.vals N U W b x
 |[],b,x=>by simp[Tr.vals]
 |t::a,b,x=>by show Nr N W (Tr.val N U W t) x*Tr.vals N U W (a++b) x=Nr N W (Tr.val N U W t) x*Tr.vals N U W a x*_;rw[uw a b x,zJ]
theorem oo (w:Option Int)(bs:List Tr)(b:Tr):Tr.val N U W (.nd w (bs++[b]))=λx=>Tr.val N U W (.nd w bs) x*Nr N W (Tr.val N U W b) x:=by funext x;show i9 U w x*Tr.vals N U W (bs++[b]) x=i9 U w x*Tr.vals N U W bs x*_;rw[uw,zJ];show _*(_*(Nr N W (Tr.val N U W b) x*1))=_;rw[hE]
theorem qh (w:Option Int)(bs:List Tr)(b:Tr):(Tr.nd w (bs++[b])).knots=(Tr.nd w bs).knots+b.knots:=by
 have:∀bs:List Tr,Tr.knotss (bs++[b])=Tr.knotss bs+b.knots:=λbs=>by induction bs with|nil=>simp[Tr.knotss]|cons t ts g=>show t.knots+Tr.knotss (ts++[b])=t.knots+Tr.knotss ts+_;rw[g];lia
 show 1+Tr.knotss (bs++[b])=1+Tr.knotss bs+_;rw[this];lia
theorem Ig (w:Option Int)(bs:List Tr)(b:Tr):(Tr.nd w (bs++[b])).deep=max (Tr.nd w bs).deep (b.deep+1):=by
 have:∀bs:List Tr,Tr.deeps (bs++[b])=max (Tr.deeps bs) b.deep:=λbs=>by induction bs with|nil=>simp[Tr.deeps]|cons t ts g=>show max t.deep (Tr.deeps (ts++[b]))=max (max t.deep (Tr.deeps ts)) _;rw[g];lia
 show 1+Tr.deeps (bs++[b])=max (1+Tr.deeps bs) _;rw[this];lia
theorem iO (t:Tr):0<t.knots:=by cases t;show 0<1+_;lia
theorem vL (t:Tr):0<t.deep:=by cases t;show 0<1+_;lia
theorem QX (x y:Rw):Nr N W (λq=>x q+y q)=λq=>Nr N W x q+Nr N W y q:=by funext q;unfold Nr;rw[<-qN];exact bZ λv _=>Int.mul_add ..
theorem QV (c:Int)(x:Rw):Nr N W (λq=>c*x q)=λq=>c*Nr N W x q:=by funext q;unfold Nr;rw[<-fS];exact bZ λv _=>by grind
theorem N9:Nr N W (λ_=>0)=λ_=>0:=by funext q;exact(bZ λv _=>gY _).trans (fR N)
inductive jl (N:Nat)(G:Rw->Prop):Rw->Prop
 |gen {r:Rw}:G r->jl N G r
 |zero:jl N G λ_=>0
 |add {x y:Rw}:jl N G x->jl N G y->jl N G λq=>x q+y q
 |mul {x:Rw} (c:Int):jl N G x->jl N G λq=>c*x q
 |div {x y:Rw} (c:Int):c≠0->(∀q,q<N->c*y q=x q)->jl N G x->jl N G y
variable {G G' G2:Rw->Prop}
theorem jl.mono (h:∀r,G r->jl N G' r){y:Rw}(s:jl N G y):jl N G' y:=by induction s with|gen g=>exact h _ g|zero=>exact .zero|add _ _ a b=>exact .add a b|mul c _ a=>exact .mul c a|div c j e _ a=>exact .div c j e a
theorem jl.ext {x y:Rw}(h:jl N G x)(e:∀q,q<N->y q=x q):jl N G y:=.div 1 (by decide) (λq g=>by rw[g9];exact e q g) h
theorem jl.sub {x y:Rw}(a:jl N G x)(b:jl N G y):jl N G λq=>x q-y q:=(a.add (b.mul (-1))).ext λq _=>by lia
theorem QW {x y:Rw}(e:∀q,q<N->c*y q=x q)(q:Nat):c*Nr N W y q=Nr N W x q:=by unfold Nr;rw[<-fS];exact bZ λv g=>by rw[<-e v g];grind
theorem jl.bil {x z:Rw}(h:∀a b,G a->G' b->jl N G2 λq=>a q*Nr N W b q)(s:jl N G x)(s':jl N G' z):jl N G2 λq=>x q*Nr N W z q:=by
 have one:∀a,G a->jl N G2 λq=>a q*Nr N W z q:=λa t=>by induction s' with|gen g=>exact h _ _ t g|zero=>exact jl.zero.ext λq _=>by rw[N9];simp|add _ _ i j=>exact(i.add j).ext λq _=>by rw[QX];grind|mul c _ i=>exact(i.mul c).ext λq _=>by rw[QV];grind|div c l e _ i=>exact .div c l (λq _=>by rw[<-QW e];grind) i
 induction s with|gen g=>exact one _ g|zero=>exact jl.zero.ext λq _=>by simp|add _ _ i j=>exact(i.add j).ext λq _=>by grind|mul c _ i=>exact(i.mul c).ext λq _=>by grind|div c l e _ i=>exact .div c l (λq p=>by rw[<-e q p];grind) i
theorem jl.prod {x z:Rw}(h:∀a b,G a->G' b->jl N G2 λq=>a q*b q)(s:jl N G x)(s':jl N G' z):jl N G2 λq=>x q*z q:=by
 have one:∀a,G a->jl N G2 λq=>a q*z q:=λa t=>by induction s' with|gen g=>exact h _ _ t g|zero=>exact jl.zero.ext λq _=>by simp|add _ _ i j=>exact(i.add j).ext λq _=>by grind|mul c _ i=>exact(i.mul c).ext λq _=>by grind|div c p e _ i=>exact .div c p (λq l=>by rw[<-e q l];grind) i
 induction s with|gen g=>exact one _ g|zero=>exact jl.zero.ext λq _=>by simp|add _ _ i j=>exact(i.add j).ext λq _=>by grind|mul c _ i=>exact(i.mul c).ext λq _=>by grind|div c p e _ i=>exact .div c p (λq l=>by rw[<-e q l];grind) i
theorem yb {rs:List Rw}:∀{y:Rw},Zs rs y->jl N (λr=>r∈rs) y:=by induction rs with|nil=>intro y h;exact jl.zero.ext λq _=>h q|cons r rs g=>intro y ⟨c,h⟩;have a:=(g h).mono (G':=λx=>x∈r::rs) λx j=>.gen (aB _ j);exact(a.add ((jl.gen (G:=λx=>x∈r::rs) aM).mul c)).ext λq _=>by lia
end
section
variable {N:Nat}{U:Nat->Int}{W:Nat->Nat->Int}
def Uy (N:Nat)(U:Nat->Int)(W:Nat->Nat->Int)(r:Rw):Prop:=∃t:Tr,r=Tr.val N U W t
abbrev MT (N:Nat)(U:Nat->Int)(W:Nat->Nat->Int):Rw->Prop:=jl N (Uy N U W)
theorem FY:MT N U W λ_=>1:=(jl.gen ⟨.nd none [],rfl⟩).ext λq _=>by show(1:Int)=1*1;rfl
theorem O4 (c:Int):MT N U W λq=>if U q=c then 1 else 0:=(jl.gen ⟨.nd (some c) [],rfl⟩).ext λq _=>by show _=(if U q=c then(1:Int)else 0)*1;rw[hE]
theorem RV {x:Rw}(h:MT N U W x):MT N U W (Nr N W x):=by have:=jl.bil (N:=N) (W:=W) (G:=λr=>r=λ_=>1) (G':=Uy N U W) (G2:=Uy N U W) (x:=λ_=>1) (z:=x) (λa b g hb=>by obtain⟨t,rfl⟩:=hb;subst g;refine(jl.gen ⟨.nd none [t],rfl⟩).ext λq _=>?_;show(1:Int)*Nr N W (Tr.val N U W t) q=1*(Nr N W (Tr.val N U W t) q*1);rw[hE]) (.gen rfl) h;exact this.ext λq _=>by rw[g9]
theorem MH {x y:Rw}(C:MT N U W x)(t:MT N U W y):MT N U W λq=>x q*y q:=by
 refine jl.prod (λa b I hb=>?_) C t;obtain⟨⟨w,bs⟩,rfl⟩:=I;obtain⟨⟨j,g⟩,rfl⟩:=hb;have go:∀l:Option Int,(∀q,i9 U w q*i9 U j q=i9 U l q)->MT N U W λq=>Tr.val N U W (.nd w bs) q*Tr.val N U W (.nd j g) q:=λl e=>by refine(jl.gen ⟨.nd l (bs++g),rfl⟩).ext λq _=>?_;show i9 U w q*Tr.vals N U W bs q*(i9 U j q*Tr.vals N U W g q)=i9 U l q*Tr.vals N U W (bs++g) q;rw[uw,<-e q];grind
 cases w with|none=>exact go j λq=>g9 _|some c=>cases j with|none=>exact go (some c) λq=>hE _|some p=>by_cases e:c=p;subst e;refine go (some c) λq=>?_;show(if U q=c then(1:Int)else 0)*(if U q=c then 1 else 0)=if U q=c then 1 else 0;split<;>rfl;refine jl.zero.ext λq _=>?_;show(if U q=c then(1:Int)else 0)*_*((if U q=p then 1 else 0)*_)=0;by_cases h:U q=c;rw[if_neg λz=>e (h.symm.trans z)];simp;rw[if_neg h];simp
def F3 (N:Nat)(U:Nat->Int)(W:Nat->Nat->Int)(a b:Nat):Prop:=∀y,MT N U W y->y a=y b
theorem F3.symm {a b:Nat}(h:F3 N U W a b):F3 N U W b a:=λy g=>(h y g).symm
theorem F3.trans {a b c:Nat}(h:F3 N U W a b)(k:F3 N U W b c):F3 N U W a c:=λy g=>(h y g).trans (k y g)
theorem VF (a:Nat):∀k:Nat,k<=N->∃h,MT N U W h/\h a≠0/\∀b,b<k->¬F3 N U W a b->h b=0
 |0,_=>⟨_,FY,by decide,λb hb=>absurd hb (by lia)⟩
 |k+1,hk=>by obtain⟨h,h1,h2,j⟩:=VF a k (by lia);by_cases e:F3 N U W a k;refine⟨h,h1,h2,λb hb n=>?_⟩;by_cases z:b=k;subst z;exact absurd e n;exact j b (by lia) n;obtain⟨y,g⟩:=Classical.not_forall.mp e;obtain⟨g,ne⟩:=Classical.not_imp.mp g;refine⟨_,MH h1 (g.sub (FY.mul (y k))),?_,λb hb n=>?_⟩;show h a*(y a-y k*1)≠0;exact Int.mul_ne_zero h2 (by lia);show h b*(y b-y k*1)=0;by_cases z:b=k;subst z;simp;rw[j b (by lia) n];simp
noncomputable def jq (N:Nat)(U:Nat->Int)(W:Nat->Nat->Int)(a:Nat):Nat:=Classical.epsilon λb=>F3 N U W b a
theorem Bj (a:Nat):F3 N U W (jq N U W a) a:=Classical.epsilon_spec (p:=λb=>F3 N U W b a) ⟨a,λ_ _=>rfl⟩
theorem yX {a b:Nat}:jq N U W a=jq N U W b↔F3 N U W a b:=by constructor;intro e;have g:=Bj (N:=N) (U:=U) (W:=W) b;rw[<-e]at g;exact(Bj a).symm.trans g;intro e;unfold jq;congr 1;funext c;exact propext ⟨λz=>z.trans e,λz=>z.trans e.symm⟩
def gq (n m:Nat)(y:Rw):Int:=gW n y-gW m λq=>y (n+q)
theorem m9 {n:Nat}{G:Rw->Prop}(h:∀r,G r->gq n m r=0){y:Rw}(s:jl (n+m) G y):gq n m y=0:=by
 unfold gq at*;induction s with
 |gen g=>exact h _ g
 |zero=>rw[fR,fR];rfl
 |add _ _ a b=>rw[qN,qN];lia
 |mul c _ a=>rw[fS,fS,<-Int.mul_sub,a,gY]
 | @div x y c l e _ a=>
  have t:gW n x=c*gW n y:=by rw[<-fS];exact bZ λq j=>(e q (by lia)).symm
  have p:gW m (λq=>x (n+q))=c*gW m λq=>y (n+q):=by rw[<-fS];exact bZ λq j=>(e (n+q) (by lia)).symm
  rw[t,p,<-Int.mul_sub]at a;rcases kq.mp a with h|h;exact absurd h l;exact h
theorem EF (a:Nat):∃h:Rw,∃c:Int,c≠0/\MT N U W h/\∀b,b<N->h b=c*qF (λx=>(jq N U W x:Int)) (jq N U W a) b:=by obtain⟨h,h1,h2,g⟩:=VF (U:=U) (W:=W) a N (av _);refine⟨h,h a,h2,h1,λb hb=>?_⟩;unfold qF;by_cases e:F3 N U W a b;rw[if_pos (by show((jq N U W b:Nat):Int)=_;rw[yX.mpr e]),hE];exact(e h h1).symm;have ne:¬(((jq N U W b:Nat):Int)=(jq N U W a:Nat)):=λz=>e (yX.mp (Int.ofNat.inj z).symm);show h b=h a*if((jq N U W b:Nat):Int)=(jq N U W a:Nat)then 1 else 0;rw[if_neg ne,gY];exact g b hb e
theorem LZ {a b:Nat}(e:jq N U W a=jq N U W b):U a=U b/\∀o:Int,gW N (λv=>qF (λx=>(jq N U W x:Int)) o v*W a v)=gW N λv=>qF (λx=>(jq N U W x:Int)) o v*W b v:=by
 have q:=yX.mp e;constructor;have:=q _ (O4 (U a));simp only[if_true]at this;by_cases z:U b=U a;exact z.symm;rw[if_neg z]at this;exact absurd this (by decide);intro o;by_cases j:∃c,c<N/\((jq N U W c:Nat):Int)=o;obtain⟨c,C,rfl⟩:=j;obtain⟨h,k,l,t,p⟩:=EF (U:=U) (W:=W) c;have:=q _ (RV t);have z:∀x,Nr N W h x=k*gW N λv=>qF (λx=>(jq N U W x:Int)) (jq N U W c) v*W x v:=λx=>by unfold Nr;rw[<-fS];exact bZ λv g=>by rw[p v g];grind
 rw[z,z]at this;exact Int.eq_of_mul_eq_mul_left l this;have z:∀x,gW N (λv=>qF (λx=>(jq N U W x:Int)) o v*W x v)=0:=λx=>(bZ λv g=>by unfold qF;rw[if_neg λy=>j ⟨v,g,y⟩,gv]).trans (fR N);rw[z,z]
theorem HL {n:Nat}(h:∀t:Tr,gq n m (Tr.val (n+m) U W t)=0)(o:Int):dO n (λx=>(jq (n+m) U W x:Int)) o=dO m (λx=>(jq (n+m) U W (n+x):Int)) o:=by
 by_cases g:∃c,c<n+m/\((jq (n+m) U W c:Nat):Int)=o;obtain⟨c,hc,rfl⟩:=g;obtain⟨y,k,C,T,j⟩:=EF (U:=U) (W:=W) c;have:=m9 (n:=n) (m:=m) (G:=Uy (n+m) U W) (λr ⟨t,e⟩=>by rw[e];exact h t) T;unfold gq at this;have e1:gW n y=k*dO n (λx=>(jq (n+m) U W x:Int)) (jq (n+m) U W c):=by unfold dO;rw[<-fS];exact bZ λq J=>j q (by lia)
 have e2:gW m (λq=>y (n+q))=k*dO m (λx=>(jq (n+m) U W (n+x):Int)) (jq (n+m) U W c):=by unfold dO;rw[<-fS];exact bZ λq J=>j (n+q) (by lia)
 rw[e1,e2]at this;exact Int.eq_of_mul_eq_mul_left C (by lia);have p:dO n (λx=>(jq (n+m) U W x:Int)) o=0:=(bZ λv I=>by unfold qF;rw[if_neg λy=>g ⟨v,by lia,y⟩]).trans (fR n);have l:dO m (λx=>(jq (n+m) U W (n+x):Int)) o=0:=(bZ λv I=>by unfold qF;rw[if_neg λy=>g ⟨n+v,by lia,y⟩]).trans (fR m);rw[p,l]
end
section
theorem kP (f g:Nat->Int)(o:Int):∀L:LL,fz ((L.map f).zip (L.map g)) o=(L.map λv=>qF g o v*f v).sum
 |[]=>rfl
 |x::L=>by rw[aJ,aJ,ij,eV,kP f g o L,aJ,dG];congr 1;unfold qF;split;rw[g9];rw[gv]
theorem kB (a:Nat->Int)(o:Int):∀n:Nat,dO n a o=((((List.range n).map a).count o:Nat):Int)
 |0=>rfl
 |n+1=>by unfold dO;rw[fJ,show gW n (qF a o)=dO n a o from rfl,kB a o n,n9,a0,List.count_append,aJ,jT,List.count_singleton];unfold qF;by_cases e:a n=o;rw[if_pos e,if_pos (by simpa using e)];rfl;rw[if_neg e,if_neg (by simpa using e)];rfl
theorem iN (f:Nat->Int){n:Nat}(h:i<n):((List.range n).map f)[i]?=some (f i):=by rw[ao,cy h];rfl
theorem ip {f:Nat->Int}{n:Nat}{l:Int}(h:((List.range n).map f)[i]?=some l):i<n/\l=f i:=by
 have hi:i<n:=by have:=cw h;rwa[aa,aA]at this
 rw[iN f hi]at h;exact⟨hi,(bK h).symm⟩
theorem qX {n:Nat}(g:M[i]?=some x)(t:x.length=n):x=(List.range n).map λv=>ent M i v:=by apply cJ;intro j;by_cases p:j<n;rw[iN _ p];obtain⟨z,hz⟩:=bA (l:=x) (i:=j) (by lia);rw[hz];show some z=some ((M[i]?.getD [])[j]?.getD 0);rw[g];show some z=some (x[j]?.getD 0);rw[hz];rfl;rw[aY (by lia),aY (by rw[aa,aA];lia)]
theorem vb (n m:Nat)(f:Nat->Int):((List.range (n+m)).map f).drop n=(List.range m).map λq=>f (n+q):=by apply cJ;intro j;rw[List.getElem?_drop];by_cases g:j<m;rw[iN _ (by lia:n+j<n+m),iN _ g];rw[aY (by rw[aa,aA];lia),aY (by rw[aa,aA];lia)]
theorem va (n m:Nat)(f:Nat->Int):((List.range (n+m)).map f).take n=(List.range n).map f:=by apply cJ;intro j;rw[List.getElem?_take];by_cases g:j<n;rw[if_pos g,iN _ (by lia:j<n+m),iN _ g];rw[if_neg g,aY (by rw[aa,aA];lia)]
theorem Cs {n:Nat}(h1:us.length=n+m)(h2:M.length=n+m)(p:∀ws∈M,ws.length=n+m)(C:fW us M ls)(na:¬(ls.take n).Perm (ls.drop n)):
  ∃t:Tr,gq n m (Tr.val (n+m) (cQ us) (ent M) t)≠0:=by
 refine Classical.byContradiction λz=>na ?_;have all:∀t:Tr,gq n m (Tr.val (n+m) (cQ us) (ent M) t)=0:=λt=>Classical.byContradiction λy=>z ⟨t,y⟩;let lb:Nat->Int:=λx=>(jq (n+m) (cQ us) (ent M) x:Int);have hl:ls.length=n+m:=C.len.symm.trans h1;have ev:∀i j,Pr us ((List.range (n+m)).map lb) M i j:=by
  intro i j l u g ws ws' e1 e2 e3 e4 J I;obtain⟨hi,rfl⟩:=ip e1;obtain⟨hj,e⟩:=ip e2;have q:=LZ (N:=n+m) (U:=cQ us) (W:=ent M) (Int.ofNat.inj e);have u1:cQ us i=u:=by show us[i]?.getD 0=u;rw[e3];rfl
  have T:cQ us j=g:=by show us[j]?.getD 0=g;rw[e4];rfl
  refine⟨by rw[<-u1,<-T];exact q.1,λo _=>?_⟩;rw[qX J (p ws (af J)),qX I (p ws' (af I)),kP,kP];exact q.2 o
 have f:=C.top _ (by rw[aa,aA,hl]) ev;have fm:=sJ (by rw[aa,aA,hl]) f;rw[fm,<-List.map_take,<-zI,va,vb];refine List.Perm.map _ (List.perm_iff_count.mpr λo=>?_);have:=HL all o;rw[kB,kB]at this;exact Int.ofNat.inj this
end
section
variable {n m:Nat}{U:Nat->Int}{W:Nat->Nat->Int}
def P9 (N:Nat)(U:Nat->Int)(W:Nat->Nat->Int)(ks:List Tr)(k:Nat)(r:Rw):Prop:=∃s∈ks,s.knots<=k/\r=Tr.val N U W s
def Bk:List Tr->Prop
 |[]=>True
 |t::ks=>t.knots<=2^ks.length/\t.deep<=ks.length+1/\Bk ks
theorem Bk.all:∀{ks:List Tr},Bk ks->∀t∈ks,2*t.knots<=2^ks.length/\t.deep<=ks.length
 |t::ks,⟨h1,h2,g⟩,s,hs=>by show 2*s.knots<=2^(ks.length+1)/\s.deep<=ks.length+1;rw[DE];cases hs with|head=>exact⟨by lia,by lia⟩|tail _ hs=>have:=g.all s hs;exact⟨by lia,by lia⟩
structure k4 (n m:Nat)(U:Nat->Int)(W:Nat->Nat->Int)(K:Nat)(ks:List Tr)(ps:LL):Prop where
 free:me (ks.map (Tr.val (n+m) U W)) ps
 lt:∀p∈ps,p<n+m
 alk:∀t∈ks,gq n m (Tr.val (n+m) U W t)=0
 kn:∀t∈ks,t.knots<K
 leaf:∀w,1<K->jl (n+m) (P9 (n+m) U W ks 1) (Tr.val (n+m) U W (.nd w []))
 cls:∀s∈ks,∀b∈ks,s.knots+b.knots<K->jl (n+m) (P9 (n+m) U W ks (s.knots+b.knots)) λq=>Tr.val (n+m) U W s q*Nr (n+m) W (Tr.val (n+m) U W b) q
 bk:Bk ks
theorem k4.start:k4 n m U W 1 [] []:=⟨.nil,(λ_ h=>nomatch h),(λ_ h=>nomatch h),(λ_ h=>nomatch h),(λ_ h=>absurd h (by lia)),(λ_ h=>nomatch h),trivial⟩
theorem P9.mono {ks g:List Tr}{r:Rw}(hs:∀t∈ks,t∈g)(hk:k<=k')(h:P9 N U W ks k r):P9 N U W g k' r:=by obtain⟨s,h1,h2,j⟩:=h;exact⟨s,hs s h1,by lia,j⟩
theorem EA (bs:List Tr):bs=[]\/ ∃g b,bs=g++[b]:=by cases bs with|nil=>exact .inl rfl|cons t ts=>exact .inr ⟨(t::ts).dropLast,(t::ts).getLast (by simp),(oh (by simp)).symm⟩
theorem k4.tree {ks:List Tr}(S:k4 n m U W K ks ps):∀(k:Nat) (t:Tr),t.knots=k->k<K->jl (n+m) (P9 (n+m) U W ks k) (Tr.val (n+m) U W t):=by intro k;induction k using Nat.strongRecOn with|_ k j=>intro⟨w,bs⟩ hk I;rcases EA bs with rfl|⟨g,b,rfl⟩;have:k=1:=hk.symm;subst this;exact S.leaf w I;have e:=qh w g b;have T:=iO (.nd w g);have p2:=iO b;have i1:=j (Tr.nd w g).knots (by lia) _ rfl (by lia);have i2:=j b.knots (by lia) _ rfl (by lia);rw[oo];refine jl.bil (λx y p l=>?_) i1 i2;obtain⟨s,h1,h2,rfl⟩:=p;obtain⟨s',J,h4,rfl⟩:=l;exact(S.cls s h1 s' J (by lia)).mono λr C=>.gen (C.mono (λ_ z=>z) (by lia))
theorem k4.closed {ks:List Tr}(S:k4 n m U W K ks ps)(J:1<K)(h:∀s∈ks,∀b∈ks,s.knots+b.knots<K)(t:Tr):gq n m (Tr.val (n+m) U W t)=0:=by
 have all:∀(k:Nat) (t:Tr),t.knots=k->jl (n+m) (λr=>∃s∈ks,r=Tr.val (n+m) U W s) (Tr.val (n+m) U W t):=by intro k;induction k using Nat.strongRecOn with|_ k p=>intro⟨w,bs⟩ hk;have up:∀j r,P9 (n+m) U W ks j r->jl (n+m) (λr=>∃s∈ks,r=Tr.val (n+m) U W s) r:=λj r ⟨s,h1,_,l⟩=>.gen ⟨s,h1,l⟩;rcases EA bs with rfl|⟨g,b,rfl⟩;exact(S.leaf w J).mono (up 1);have e:=qh w g b;have T:=iO (.nd w g);have p2:=iO b;rw[oo];refine jl.bil (λx y I C=>?_) (p _ (by lia) _ rfl) (p b.knots (by lia) _ rfl);obtain⟨s,h1,rfl⟩:=I;obtain⟨s',l,rfl⟩:=C;exact(S.cls s h1 s' l (h s h1 s' l)).mono (up _)
 exact m9 (λr ⟨s,h1,e⟩=>by rw[e];exact S.alk s h1) (all _ t rfl)
theorem k4.near {ks:List Tr}(S:k4 n m U W K ks ps)(h:∃t:Tr,gq n m (Tr.val (n+m) U W t)≠0):K<=2^ks.length:=by by_cases j:1<K;refine Classical.byContradiction λz=>?_;obtain⟨t,g⟩:=h;refine g (S.closed j (λs hs b hb=>?_) t);have:=S.bk.all s hs;have:=S.bk.all b hb;lia;have:=Nat.one_le_two_pow (n:=ks.length);lia
structure MP (n m:Nat)(U:Nat->Int)(W:Nat->Nat->Int)(K:Nat)(k0 S:List Tr):Prop where
 kn:∀t∈S,t.knots=K
 dp:∀t∈S,t.deep<=k0.length+1
 le:∀t∈S,t.knots<=2^k0.length
 one:K=1->∀w,(∃t∈S,∀q,q<n+m->Tr.val (n+m) U W (.nd w []) q=Tr.val (n+m) U W t q)\/ ∀q,q<n+m->Tr.val (n+m) U W (.nd w []) q=0
 prs:∀s∈k0,∀b∈k0,s.knots+b.knots=K->∃t∈S,Tr.val (n+m) U W t=λq=>Tr.val (n+m) U W s q*Nr (n+m) W (Tr.val (n+m) U W b) q
structure IK (n m:Nat)(U:Nat->Int)(W:Nat->Nat->Int)(K:Nat)(k0 dn ks:List Tr)(ps:LL):Prop where
 free:me (ks.map (Tr.val (n+m) U W)) ps
 lt:∀p∈ps,p<n+m
 alk:∀t∈ks,gq n m (Tr.val (n+m) U W t)=0
 ap:∃new:List Tr,ks=new++k0/\new.length<=dn.length/\∀t∈new,t.knots=K
 sp:∀t∈dn,jl (n+m) (λr=>∃s∈ks,r=Tr.val (n+m) U W s) (Tr.val (n+m) U W t)
 bk:Bk ks
 fr:∀t∈ks,t∈k0\/t∈dn
theorem k4.mid {ks:List Tr}(S:k4 n m U W K ks ps):IK n m U W K ks [] ks ps:=⟨S.free,S.lt,S.alk,⟨[],rfl,av _,(λ_ h=>nomatch h)⟩,(λ_ h=>nomatch h),S.bk,λ_ h=>.inl h⟩
theorem IK.skip {g dn ks:List Tr}(M:IK n m U W K g dn ks ps){t:Tr}(h:∀q,q<n+m->Dt (q::ps) (Tr.val (n+m) U W t::ks.map (Tr.val (n+m) U W))=0):IK n m U W K g (dn++[t]) ks ps:=by
 refine⟨M.free,M.lt,M.alk,?_,λs hs=>?_,M.bk,λs hs=>(M.fr s hs).imp id (cB _)⟩;obtain⟨new,e,l,k⟩:=M.ap;exact⟨new,e,by rw[ah];lia,k⟩;rcases be.mp hs with hs|hs;exact M.sp s hs;rw[aX.mp hs];have z:=yb (N:=n+m) (tJ ps (ks.map (Tr.val (n+m) U W)) (Tr.val (n+m) U W t));have j:=z.mono (G':=λr=>∃s∈ks,r=Tr.val (n+m) U W s) λr p=>by obtain⟨s,h1,rfl⟩:=aV.mp p;exact .gen ⟨s,h1,rfl⟩
 exact .div _ M.free.ne (λq C=>by rw[h q C];lia) j
theorem IK.push {g dn ks:List Tr}(M:IK n m U W K g dn ks ps){t:Tr}{p:Nat}(hp:p<n+m)(h:Dt (p::ps) (Tr.val (n+m) U W t::ks.map (Tr.val (n+m) U W))≠0)(al:gq n m (Tr.val (n+m) U W t)=0)(kn:t.knots=K)(dp:t.deep<=g.length+1)(le:t.knots<=2^g.length):IK n m U W K g (dn++[t]) (t::ks) (p::ps):=by
 obtain⟨new,e,l,k⟩:=M.ap;have hl:g.length<=ks.length:=by rw[e,ah];lia
 refine⟨.cons _ p M.free h,?_,?_,⟨t::new,by rw[e];rfl,by rw[ah];simp only[aH,kj];lia,?_⟩,λs hs=>?_,⟨bj le (dh (by decide) hl),by lia,M.bk⟩,λs hs=>?_⟩;intro q j;cases j with|head=>exact hp|tail _ j=>exact M.lt q j
 intro s hs;cases hs with|head=>exact al|tail _ hs=>exact M.alk s hs
 intro s hs;cases hs with|head=>exact kn|tail _ hs=>exact k s hs
 rcases be.mp hs with hs|hs;exact(M.sp s hs).mono λr ⟨s,h1,h2⟩=>.gen ⟨s,aB _ h1,h2⟩;rw[aX.mp hs];exact .gen ⟨t,aM,rfl⟩;cases hs with|head=>exact .inr (bM _ (aX.mpr rfl))|tail _ hs=>exact(M.fr s hs).imp id (cB _)
theorem IK.done {j S ks:List Tr}(h0:k4 n m U W K j ps0)(T:MP n m U W K j S)(hK:0<K)(M:IK n m U W K j S ks ps):k4 n m U W (K+1) ks ps:=by
 obtain⟨new,e,l,k⟩:=M.ap;have sub:∀t∈j,t∈ks:=λt g=>by rw[e];exact bM _ g
 have kn:∀t∈ks,t.knots<K+1:=λt g=>by rw[e]at g;rcases be.mp g with h|h;rw[k t h];lia;have:=h0.kn t h;lia
 have all:∀r,(∃s∈ks,r=Tr.val (n+m) U W s)->jl (n+m) (P9 (n+m) U W ks K) r:=λr ⟨s,h1,h2⟩=>.gen ⟨s,h1,by have:=kn s h1;lia,h2⟩;refine⟨M.free,M.lt,M.alk,kn,λw h=>?_,λs hs b hb hlt=>?_,M.bk⟩;by_cases h1:K=1;subst h1;rcases T.one rfl w with⟨t,g,p⟩|p;exact((M.sp t g).mono all).ext p;exact jl.zero.ext p;exact(h0.leaf w (by lia)).mono λr C=>.gen (C.mono sub (av _));have p1:=iO s;have p2:=iO b;have old:∀x∈ks,x.knots<K->x∈j:=λx J hk=>by rw[e]at J;rcases be.mp J with h|h;rw[k x h]at hk;lia;exact h
 have I:=old s hs (by lia);have b0:=old b hb (by lia);by_cases eq:s.knots+b.knots=K;obtain⟨t,g,p⟩:=T.prs s I b b0 eq;rw[eq,<-p];exact(M.sp t g).mono all;exact(h0.cls s I b b0 (by lia)).mono λr C=>.gen (C.mono sub (av _))
end
section
theorem vm:∀(N:Nat) (l:LL),l.Nodup->(∀x∈l,x<N)->l.length<=N
 |0,l,_,h=>by cases l with|nil=>exact av _|cons x l=>exact absurd (h x aM) (by lia)
 |N+1,l,nd,h=>by
  have i:=vm N (l.erase N) (nd.erase N) λx g=>by have:=(List.Nodup.mem_erase_iff nd).mp g;have:=h x this.2;lia
  rw[List.length_erase]at i;split at i<;>lia
theorem me.nodup {rs:List Rw}(h:me rs ps):ps.Nodup:=by induction h with|nil=>exact fM|cons r p _ hd g=>exact cA.mpr ⟨λz=>hd (jt p _ _ z),g⟩
theorem me.len {rs:List Rw}(h:me rs ps):rs.length=ps.length:=by induction h with|nil=>rfl|cons r p _ _ g=>simp[g]
variable {n m:Nat}{U:Nat->Int}{W:Nat->Nat->Int}{K:Nat}{ks:List Tr}{ps:LL}
theorem k4.hue (S:k4 n m U W K ks ps)(c:Int){t:Tr}(g:t∈ks):gq n m (λq=>i9 U (some c) q*Tr.val (n+m) U W t q)=0:=by
 have go:∀t':Tr,t'.knots=t.knots->(λq=>i9 U (some c) q*Tr.val (n+m) U W t q)=Tr.val (n+m) U W t'->gq n m (λq=>i9 U (some c) q*Tr.val (n+m) U W t q)=0:=λt' hk e=>by rw[e];exact m9 (λr ⟨s,h1,_,j⟩=>by rw[j];exact S.alk s h1) (S.tree _ t' rfl (by rw[hk];exact S.kn t g))
 obtain⟨w,bs⟩:=t;cases w with
 |none=>refine go (.nd (some c) bs) rfl ?_;funext q;show _*(1*Tr.vals (n+m) U W bs q)=i9 U (some c) q*Tr.vals (n+m) U W bs q;rw[g9]
 |some d=>
  by_cases e:c=d;subst e;refine go (.nd (some c) bs) rfl ?_;funext q;show(if U q=c then(1:Int)else 0)*((if U q=c then 1 else 0)*_)=(if U q=c then 1 else 0)*_;by_cases h:U q=c;rw[if_pos h,g9];rw[if_neg h];simp;have z:(λq=>i9 U (some c) q*Tr.val (n+m) U W (.nd (some d) bs) q)=λ_=>0:=by funext q;show(if U q=c then(1:Int)else 0)*((if U q=d then 1 else 0)*_)=0;by_cases h:U q=c;rw[if_neg λy:U q=d=>e (h.symm.trans y)];simp;rw[if_neg h];simp
  rw[z];unfold gq;rw[fR,fR];rfl
def II (a:Nat):Rw:=λq=>if q=a then 1 else 0
theorem yq {n a:Nat}(k:Int):∀N:Nat,gW N (λq=>if q=a then k else 0)=if a<N then k else 0
 |0=>by rw[if_neg (by lia)];rfl
 |N+1=>by rw[fJ,yq (n:=n) k N];by_cases h1:a<N;rw[if_pos h1,if_neg (by lia),if_pos (by lia),DM];by_cases h2:N=a;rw[if_neg h1,if_pos h2,if_pos (by lia),fQ];rw[if_neg h1,if_neg h2,if_neg (by lia),DM]
theorem Cg (a:Nat)(k:Int):gq n m (λq=>if q=a then k else 0)=if a<n then k else if a<n+m then -k else 0:=by
 unfold gq;rw[yq (n:=0)];by_cases h:a<n;have:gW m (λq=>if n+q=a then k else 0)=0:=(bZ λq _=>if_neg (by lia)).trans (fR m);rw[this,if_pos h,if_pos h,Int.sub_zero];have:gW m (λq=>if n+q=a then k else 0)=gW m λq=>if q=a-n then k else 0:=bZ λq _=>by by_cases e:n+q=a;rw[if_pos e,if_pos (by lia)];rw[if_neg e,if_neg (by lia)]
 rw[this,yq (n:=0),if_neg h,if_neg h];by_cases h2:a<n+m;rw[if_pos (by lia),if_pos h2];lia;rw[if_neg (by lia),if_neg h2];rfl
theorem oV {x y:Rw}(h:∀q,q<n+m->x q=y q):gq n m x=gq n m y:=by unfold gq;rw[bZ (g:=y) λq j=>h q (by lia),bZ (f:=λq=>x (n+q)) (g:=λq=>y (n+q)) λq j=>h (n+q) (by lia)]
theorem tV (a b:Rw)(c:Int):gq n m (λq=>c*a q-b q)=c*gq n m a-gq n m b:=by
 unfold gq;have e:∀(k:Nat) (f g:Nat->Int),gW k (λq=>c*f q-g q)=c*gW k f-gW k g:=λk f g=>by have:=qN k (λq=>c*f q) λq=>-1*g q;rw[fS,fS]at this;rw[bZ (g:=λq=>c*f q+-1*g q) λq _=>by lia,this];lia
 rw[e,e m (λq=>a (n+q)) λq=>b (n+q)];grind
theorem k4.one_hue (S:k4 n m U W K ks ps)(hp0:p0<n+m)(h:∀q,q<n+m->q≠p0->q∈ps):∀q,q<n+m->U q=U p0:=by
 intro a ha;refine Classical.byContradiction λne=>?_;have z:=yb (N:=n+m) (tJ ps (ks.map (Tr.val (n+m) U W)) (II a));generalize hf:Dt ps (ks.map (Tr.val (n+m) U W))=f at z;have f0:f≠0:=by rw[<-hf];exact S.free.ne
 generalize hk:Dt (p0::ps) (II a::ks.map (Tr.val (n+m) U W))=k;have I:=m9 (n:=n) (m:=m) (λr hr=>by obtain⟨s,h1,rfl⟩:=aV.mp hr;exact S.alk s h1) z;have p:jl (n+m) (λr=>∃s∈ks,r=λq=>i9 U (some (U p0)) q*Tr.val (n+m) U W s q) _:=jl.prod (G:=λr=>r=i9 U (some (U p0))) (x:=i9 U (some (U p0))) (λx y hx T=>by obtain⟨s,h1,rfl⟩:=aV.mp T;subst hx;exact .gen ⟨s,h1,rfl⟩) (.gen rfl) z;have C:=m9 (n:=n) (m:=m) (λr ⟨s,h1,e⟩=>by rw[e];exact S.hue _ h1) p;have v:∀q,q<n+m->Dt (q::ps) (II a::ks.map (Tr.val (n+m) U W))=if q=p0 then k else 0:=λq g=>by by_cases e:q=p0;rw[if_pos e,e];exact hk;rw[if_neg e];exact jt q ps _ (h q g e)
 have e1:gq n m (λq=>f*II a q-if q=p0 then k else 0)=0:=(oV λq g=>by rw[v q g]).trans I;have j:gq n m (λq=>f*0-if q=p0 then k else 0)=0:=by refine(oV λq g=>?_).trans C;rw[v q g];show _=(if U q=U p0 then(1:Int)else 0)*(f*(if q=a then 1 else 0)-_);by_cases e:q=p0;subst e;rw[if_pos rfl,if_pos rfl,if_neg (λy=>ne (by rw[y])),g9];rw[if_neg e];by_cases j:q=a;subst j;rw[if_neg ne];simp;rw[if_neg j];simp
 rw[tV]at e1;have l:=tV (n:=n) (m:=m) (λ_=>0) (λq=>if q=p0 then k else 0) f;rw[j]at l;have J:gq n m (λ_=>0)=0:=by unfold gq;rw[fR,fR];rfl
 rw[J]at l;have t:gq n m (II a)=if a<n then 1 else if a<n+m then -1 else 0:=Cg a 1;have e4:f*gq n m (II a)=0:=by lia
 rcases kq.mp e4 with z|z;exact f0 z;rw[t]at z;by_cases c:a<n;rw[if_pos c]at z;exact absurd z (by decide);rw[if_neg c,if_pos ha]at z;exact absurd z (by decide)
theorem k4.most (S:k4 n m U W K ks ps)(T:0<n+m):ks.length<n+m:=by
 have l:=S.free.len;rw[aa]at l;refine Classical.byContradiction λc=>?_;have all:∀q,q<n+m->q∈ps:=λq p=>Classical.byContradiction λI=>by
  have:=vm (n+m) (q::ps) (cA.mpr ⟨I,S.free.nodup⟩) λx j=>by cases j with|head=>exact p|tail _ j=>exact S.lt x j
  rw[aH]at this;lia
 have z:=yb (N:=n+m) (tJ ps (ks.map (Tr.val (n+m) U W)) (II 0));have g:=m9 (n:=n) (m:=m) (λr J=>by obtain⟨s,h1,rfl⟩:=aV.mp J;exact S.alk s h1) z;rw[tV]at g;have C:gq n m (λq=>Dt (q::ps) (II 0::ks.map (Tr.val (n+m) U W)))=0:=(oV (y:=λ_=>0) λq p=>jt q ps _ (all q p)).trans (by unfold gq;rw[fR,fR];rfl);rw[C,Int.sub_zero]at g;have t:gq n m (II 0)=if 0<n then 1 else if 0<n+m then -1 else 0:=Cg 0 1;rcases kq.mp g with z|z;exact S.free.ne z;rw[t]at z;by_cases c:0<n;rw[if_pos c]at z;exact absurd z (by decide);rw[if_neg c,if_pos T]at z;exact absurd z (by decide)
theorem k4.two (S:k4 n m U W K ks ps){a b:Nat}(t:a<n+m)(hb:b<n+m)(ne:U a≠U b):ks.length+1<n+m:=by
 have l:=S.free.len;rw[aa]at l;refine Classical.byContradiction λc=>?_;by_cases ex:∃p0,p0<n+m/\p0∉ps;obtain⟨p0,h1,h2⟩:=ex;have all:∀q,q<n+m->q≠p0->q∈ps:=λq p e=>Classical.byContradiction λj=>by
  have:=vm (n+m) (q::p0::ps) (cA.mpr ⟨λz=>by cases z with|head=>exact e rfl|tail _ z=>exact j z,cA.mpr ⟨h2,S.free.nodup⟩⟩) λx g=>by cases g with|head=>exact p|tail _ g=>cases g with|head=>exact h1|tail _ g=>exact S.lt x g
  rw[aH,aH]at this;lia
 exact ne ((S.one_hue h1 all a t).trans (S.one_hue h1 all b hb).symm);have all:∀q,q<n+m->q≠0->q∈ps:=λq p _=>Classical.byContradiction λj=>ex ⟨q,p,j⟩;exact ne ((S.one_hue (by lia) all a t).trans (S.one_hue (by lia) all b hb).symm)
end
section
def uh (l1 l:LL)(K:Nat):Nat:=(l1.map λa=>l.countP λb=>decide (a+b=K)).sum
theorem CL (l:LL)(K:Nat):∀l1:LL,uh l1 l K<=l1.countP (λa=>decide (2*a<K))*l.countP (λa=>decide (K<2*a))+l1.countP (λa=>decide (2*a=K))*l.countP (λa=>decide (2*a=K))+l1.countP (λa=>decide (K<2*a))*l.countP (λa=>decide (2*a<K))
 |[]=>bp _
 |a::l1=>by
  have i:=CL l K l1;show(l.countP λb=>decide (a+b=K))+uh l1 l K<=_;simp only[m7];rcases Nat.lt_trichotomy (2*a) K with h|h|h;have:(l.countP λb=>decide (a+b=K))<=l.countP λb=>decide (K<2*b):=mj λb _ hb=>by simp only[gH]at hb ⊢;lia
  rw[if_pos (by simpa using h),if_neg (by simp;lia),if_neg (by simp;lia),qy,jR,jR];lia;have:(l.countP λb=>decide (a+b=K))<=l.countP λb=>decide (2*b=K):=mj λb _ hb=>by simp only[gH]at hb ⊢;lia
  rw[if_neg (by simp;lia),if_pos (by simpa using h),if_neg (by simp;lia),qy _ 1,jR,jR];lia;have:(l.countP λb=>decide (a+b=K))<=l.countP λb=>decide (2*b<K):=mj λb _ hb=>by simp only[gH]at hb ⊢;lia
  rw[if_neg (by simp;lia),if_neg (by simp;lia),if_pos (by simpa using h),qy _ 1,jR,jR];lia
theorem rF (K:Nat):∀l:LL,l.countP (λa=>decide (2*a<K))+l.countP (λa=>decide (2*a=K))+l.countP (λa=>decide (K<2*a))=l.length
 |[]=>rfl
 |a::l=>by have i:=rF K l;simp only[m7,aH];rcases Nat.lt_trichotomy (2*a) K with h|h|h;rw[if_pos (by simpa using h),if_neg (by simp;lia),if_neg (by simp;lia)];lia;rw[if_neg (by simp;lia),if_pos (by simpa using h),if_neg (by simp;lia)];lia;rw[if_neg (by simp;lia),if_neg (by simp;lia),if_pos (by simpa using h)];lia
theorem Sm:∀x,x<12->∀y,y<12->∀z,z<8->x+z+y<=11->x*y+z*z+y*x<64:=by decide
theorem UG:∀x,x<4->∀y,y<4->∀z,z<4->x+z+y<=3->8<=x*y+z*z+y*x->z=3:=by decide
theorem pf (l:LL)(K:Nat)(pos:∀a∈l,0<a):uh l l K=uh (l.filter λa=>decide (a<K)) (l.filter λa=>decide (a<K)) K:=by
 have inner:∀a,0<a->(l.countP λb=>decide (a+b=K))=(l.filter λa=>decide (a<K)).countP λb=>decide (a+b=K):=λa p=>by rw[List.countP_filter];refine List.countP_congr λb hb=>?_;simp only[gH,dg];lia
 have outer:∀l1:LL,(∀a∈l1,0<a)->uh l1 l K=uh (l1.filter λa=>decide (a<K)) (l.filter λa=>decide (a<K)) K:=by
  intro l1;induction l1 with
  |nil=>intro _;rfl
  |cons a l1 j=>
   intro hp;have i:=j λb hb=>hp b (aB _ hb);have g:=hp a aM;show(l.countP λb=>decide (a+b=K))+uh l1 l K=_;by_cases h:a<K;rw[cY (by simpa using h),i,inner a g];rfl;rw[cH (by simpa using h),i];have:(l.countP λb=>decide (a+b=K))=0:=zt.mpr λb hb=>by have:=pos b hb;simp;lia
   lia
 exact outer l pos
theorem Ie {l:LL}(pos:∀a∈l,0<a)(hR:l.length<=11)(h1:l.countP (λa=>decide (a=1))<=5)(j:∀a,2<=a->a<K->l.countP (λb=>decide (b=a))<=uh l l a)(h3:3<=l.countP (λa=>decide (a=1))->l.length<=10):uh l l K<64:=by
 have le:=CL l K l;have tl:=rF K l;have C:l.countP (λa=>decide (2*a=K))<8:=by
  refine Classical.byContradiction λc=>?_;have p:8<=l.countP λa=>decide (2*a=K):=by lia
  obtain⟨a,U,e⟩:∃a∈l,2*a=K:=by
   have:0<l.countP λa=>decide (2*a=K):=by lia
   obtain⟨a,h,e⟩:=List.countP_pos_iff.mp this;exact⟨a,h,by simpa using e⟩
  have ea:∀b,decide (2*b=K)=decide (b=a):=λb=>by rw[decide_eq_decide];lia
  have za:8<=l.countP λb=>decide (b=a):=by have:(λb=>decide (2*b=K))=λb=>decide (b=a):=funext ea;rw[this]at p;exact p
  have pa:=pos a U;by_cases a1:a=1;subst a1;lia;have st:=j a (by lia) (by lia);rw[pf l a pos]at st;generalize hl:(l.filter λb=>decide (b<a))=g at st;have len':g.length+l.countP (λb=>decide (b=a))<=l.length:=by
   rw[<-hl,<-List.countP_eq_length_filter];have:∀l:LL,l.countP (λb=>decide (b<a))+l.countP (λb=>decide (b=a))<=l.length:=by intro l;induction l with|nil=>exact av _|cons b l ih=>simp only[m7,aH];by_cases h:b<a;rw[if_pos (by simpa using h),if_neg (by simp;lia)];lia;rw[if_neg (by simpa using h)];split<;>lia
   exact this l
  have T:=CL g a g;have I:=rF a g;have z3:=UG (g.countP λb=>decide (2*b<a)) (by lia) (g.countP λb=>decide (a<2*b)) (by lia) (g.countP λb=>decide (2*b=a)) (by lia) (by lia) (by lia);have ll:g.length=3:=by lia
  obtain⟨c,t,ec⟩:∃c∈g,2*c=a:=by
   have:0<g.countP λb=>decide (2*b=a):=by lia
   obtain⟨c,h,e⟩:=List.countP_pos_iff.mp this;exact⟨c,h,by simpa using e⟩
  have all:∀b∈g,b=c:=λb hb=>by
   have:g.countP (λb=>decide (2*b=a))=g.length:=by lia
   have:=List.countP_eq_length.mp this b hb;simp only[gH]at this;lia
  have c3:3<=l.countP λb=>decide (b=c):=by
   have:g.countP (λb=>decide (b=c))=g.length:=List.countP_eq_length.mpr λb hb=>by simpa using all b hb
   have h2:g.countP (λb=>decide (b=c))<=l.countP λb=>decide (b=c):=by rw[<-hl];exact List.Sublist.countP_le List.filter_sublist
   lia
  have cl:c∈l:=by rw[<-hl]at t;exact(iA.mp t).1
  have pc:=pos c cl;by_cases c1:c=1;subst c1;have:=h3 c3;lia;have J:=j c (by lia) (by lia);have:uh l l c=0:=by
   rw[pf l c pos];have:(l.filter λb=>decide (b<c))=[]:=tQ.mpr λb hb z=>by
    simp only[gH]at z;have:b∈g:=by rw[<-hl];exact iA.mpr ⟨hb,by simp;lia⟩
    have:=all b this;lia
   rw[this];rfl
  lia
 have:=Sm (l.countP λa=>decide (2*a<K)) (by lia) (l.countP λa=>decide (K<2*a)) (by lia) (l.countP λa=>decide (2*a=K)) C (by lia);lia
end
section
variable {n m:Nat}{U:Nat->Int}{W:Nat->Nat->Int}
abbrev md (ks:List Tr):LL:=ks.map Tr.knots
structure M0 (d K:Nat)(ks:List Tr):Prop where
 one:(md ks).countP (λa=>decide (a=1))<=1+d
 st:∀a,2<=a->a<K->(md ks).countP (λb=>decide (b=a))<=uh (md ks) (md ks) a
theorem M0.start (d:Nat):M0 d 1 []:=⟨bp _,λa h1 h2=>by lia⟩
theorem Dh (ks:List Tr):∀a∈md ks,0<a:=λa g=>by obtain⟨t,_,rfl⟩:=aV.mp g;exact iO t
theorem FQ {a:Nat}{new g:List Tr}(l:∀t∈new,t.knots=K)(p:a≠K):(md (new++g)).countP (λb=>decide (b=a))=(md g).countP λb=>decide (b=a):=by
 unfold md;rw[a0,List.countP_append];have:(new.map Tr.knots).countP (λb=>decide (b=a))=0:=zt.mpr λb hb=>by obtain⟨t,j,rfl⟩:=aV.mp hb;rw[l t j];simp;lia
 lia
theorem NC {a:Nat}{new g:List Tr}(l:∀t∈new,t.knots=K)(p:a<=K):uh (md (new++g)) (md (new++g)) a=uh (md g) (md g) a:=by
 rw[pf _ _ (Dh _),pf _ _ (Dh g)];have:(md (new++g)).filter (λb=>decide (b<a))=(md g).filter λb=>decide (b<a):=by
  unfold md;rw[a0,kD];have:(new.map Tr.knots).filter (λb=>decide (b<a))=[]:=tQ.mpr λb hb=>by obtain⟨t,j,rfl⟩:=aV.mp hb;rw[l t j];simp;lia
  rw[this];rfl
 rw[this]
theorem M0.next {d:Nat}{g S ks:List Tr}(C:M0 d K g)(h0:k4 n m U W K g ps0)(M:IK n m U W K g S ks ps)(J:2<=K->S.length=uh (md g) (md g) K)(h1:K=1->S.length<=1+d):M0 d (K+1) ks:=by
 obtain⟨new,rfl,l,k⟩:=M.ap;have own:(md (new++g)).countP (λb=>decide (b=K))<=new.length:=by
  unfold md;rw[a0,List.countP_append];have z:(g.map Tr.knots).countP (λb=>decide (b=K))=0:=zt.mpr λb hb=>by obtain⟨t,I,rfl⟩:=aV.mp hb;have:=h0.kn t I;simp;lia
  have:=List.countP_le_length (p:=λb=>decide (b=K)) (l:=new.map Tr.knots);rw[aa]at this;lia
 refine⟨?_,λa j T=>?_⟩;by_cases e:K=1;subst e;have:=h1 rfl;lia;rw[FQ k (Ne.symm e)];exact C.one;rw[NC k (by lia)];by_cases e:a=K;subst e;have:=J j;lia;rw[FQ k e];exact C.st a j (by lia)
theorem M0.few {ks:List Tr}(S:k4 n m U W K ks ps)(C:M0 ws.length K ks)(I:n+m<=12)(j:0<n+m)(nd:ws.Nodup)(g:∀c∈ws,∃q,q<n+m/\U q=c)(J:ws.length<=4):uh (md ks) (md ks) K<64:=by
 have most:=S.most j;refine Ie (Dh ks) (by rw[aa];lia) (bj C.one (by lia)) (λa h1 h2=>C.st a h1 h2) λT=>?_;rw[aa];have t:2<=ws.length:=by have:=C.one;lia
 match ws,nd,g,t with
 |a::b::r,nd,g,_=>obtain⟨p,hp,rfl⟩:=g a aM;obtain⟨q,l,rfl⟩:=g b (aB _ aM);have ne:U p≠U q:=λz=>(cA.mp nd).1 (by rw[z];exact aM);have:=S.two hp l ne;lia
end
section
variable {N:Nat}{U:Nat->Int}{W:Nat->Nat->Int}
theorem Qo {n b:Nat}{f:Nat->Int}(h:∀i<n,(f i).natAbs<=b):(gW n f).natAbs<=n*b:=by induction n with|zero=>rw[mD,DD];exact av _|succ n g=>rw[fJ,qy,qx];have:=g λi hi=>h i (by lia);have:=h n (by lia);lia
theorem K1 (t:N<=16)(p:∀q,q<N->∀v,v<N->(W q v).natAbs<=2^72){y:Rw}(j:∀v,v<N->(y v).natAbs<=2^(76*k)){q:Nat}(l:q<N):(Nr N W y q).natAbs<=2^(76*(k+1)):=by
 have h:=Qo (n:=N) (b:=2^72*2^(76*k)) (f:=λv=>W q v*y v) λv g=>by rw[gD];exact gA (p q l v g) (j v g)
 refine bj h (bj (nM _ t) (DH ?_));rw[show 76*(k+1)=4+(72+76*k) by lia,kM 2 4,kM 2 72]
mutual
theorem ux (l:N<=16)(j:∀q,q<N->∀v,v<N->(W q v).natAbs<=2^72):∀(t:Tr) (q:Nat),q<N->(Tr.val N U W t q).natAbs<=2^(76*(t.knots-1))
 | .nd w bs,q,g=>by
  have h:=vals_bd l j bs q g;have e:(Tr.nd w bs).knots-1=Tr.knotss bs:=by show 1+Tr.knotss bs-1=_;lia
  rw[e];show(i9 U w q*Tr.vals N U W bs q).natAbs<=_;rw[gD];have i:(i9 U w q).natAbs<=1:=by cases w with|none=>exact av _|some c=>show(if U q=c then(1:Int)else 0).natAbs<=1;split<;>decide
  have:=gA i h;lia
theorem vals_bd (j:N<=16)(g:∀q,q<N->∀v,v<N->(W q v).natAbs<=2^72):∀(ts:List Tr) (q:Nat),q<N->(Tr.vals N U W ts q).natAbs<=2^(76*Tr.knotss ts)
 |[],_,_=>by show(1:Int).natAbs<=2^(76*0);decide
 |t::ts,q,l=>by have h1:=K1 j g (λv C=>ux j g t v C) l;have h2:=vals_bd j g ts q l;have p:=iO t;show(Nr N W (Tr.val N U W t) q*Tr.vals N U W ts q).natAbs<=2^(76*(t.knots+Tr.knotss ts));rw[gD,Nat.mul_add,kM];rw[show t.knots-1+1=t.knots by lia]at h1;exact gA h1 h2
end
theorem MD:∀{ks:List Tr},Bk ks->(ks.map Tr.knots).sum<2^ks.length
 |[],_=>by decide
 |t::ks,⟨h1,_,g⟩=>by have:=MD g;rw[aJ,dG,aH,DE];lia
theorem FU (j:N<=16)(g:∀q,q<N->∀v,v<N->(W q v).natAbs<=2^72):∀ks:List Tr,Bd N (ks.map (Tr.val N U W)) (ks.map λt=>2^(76*t.knots))
 |[]=>trivial
 |t::ks=>⟨λq l=>bj (ux j g t q l) (dh (by decide) (by lia)),FU j g ks⟩
theorem Fd:∀ks:List Tr,Pd (ks.map λt=>2^(76*t.knots))=2^(76*(ks.map Tr.knots).sum)
 |[]=>rfl
 |t::ks=>by show 2^(76*t.knots)*Pd (ks.map λt=>2^(76*t.knots))=_;rw[Fd ks,aJ,dG,Nat.mul_add,kM]
theorem TN:∀k,k<=12->Fc k<=2^29:=by decide
theorem No (T:N<=12)(C:∀q,q<N->∀v,v<N->(W q v).natAbs<=2^72){ks:List Tr}(f:me (ks.map (Tr.val N U W)) ps)(lt:∀p∈ps,p<N)(bk:Bk ks)(hl:ks.length<=11){t:Tr}(J:t.knots<=2^11){q:Nat}(j:q<N):
  M11.Bn 400000 (Dt (q::ps) (Tr.val N U W t::ks.map (Tr.val N U W))):=by
 have l:=f.len;rw[aa]at l;have h:=P7 (q::ps) (Tr.val N U W t::ks.map (Tr.val N U W)) (2^(76*t.knots)::ks.map λt=>2^(76*t.knots)) (λc g=>by
  cases g with
  |head=>exact j
  |tail _ g=>exact lt c g) (FU (by lia) C (t::ks)) (by simp[l])
 have e:Pd (2^(76*t.knots)::ks.map λt=>2^(76*t.knots))=2^(76*(t.knots+(ks.map Tr.knots).sum)):=Fd (t::ks);rw[e]at h;have s:=MD bk;have I:2^ks.length<=2^11:=dh (by decide) hl;have c:=TN (q::ps).length (by rw[aH];lia);have k:76*(t.knots+(ks.map Tr.knots).sum)<=76*4096:=by
  have:(2:Nat)^11=2048:=by decide
  lia
 show _<2^400000;refine cg h (cg (gA c (dh (by decide) k)) ?_);rw[<-kM];exact gz (by decide) (by decide)
theorem B8 (p:N<=12)(j:∀q,q<N->∀v,v<N->(W q v).natAbs<=2^72){t:Tr}(l:t.knots<=4096){q:Nat}(g:q<N):M11.Bn 400000 (Tr.val N U W t q):=by show _<2^400000;refine cg (ux (by lia) j t q g) (gz (by decide) (by lia))
theorem Fi (C:N<=12)(g:∀q,q<N->∀v,v<N->(W q v).natAbs<=2^72){t:Tr}(p:t.knots<=4096){q:Nat}(l:q<N):M11.Bn 400000 (Nr N W (Tr.val N U W t) q):=by show _<2^400000;refine cg (K1 (by lia) g (λv j=>ux (by lia) g t v j) l) (gz (by decide) (by lia))
end
section
variable {hs hs':LH}{M M':LA}{n m:Nat}
theorem vJ (h1:M.length=n)(p:∀x∈M,x.length=n){x y:Nat}(I:x<n):ent (dN n m M M') x y=if y<n then ent M x y else 0:=by
 obtain⟨ws,g⟩:=bA (l:=M) (i:=x) (by lia);have t:(dN n m M M')[x]?=some (ws++List.replicate m 0):=by unfold dN;rw[aN (by rw[aa];lia),ao,g];rfl
 have C:=p ws (af g);unfold ent;rw[t,g];show((ws++List.replicate m 0)[y]?).getD 0=if y<n then(ws[y]?).getD 0 else 0;by_cases j:y<n;rw[if_pos j,aN (by lia)];rw[if_neg j,aE (by lia),cz];split<;>rfl
theorem sL (h1:M.length=n)(h2:M'.length=m){x y:Nat}(t:x<m):ent (dN n m M M') (n+x) y=if y<n then 0 else ent M' x (y-n):=by
 obtain⟨ws,j⟩:=bA (l:=M') (i:=x) (by lia);have p:(dN n m M M')[n+x]?=some (List.replicate n 0++ws):=by unfold dN;rw[aE (by rw[aa];lia),aa,h1,gJ,ao,j];rfl
 unfold ent;rw[p,j];show((List.replicate n 0++ws)[y]?).getD 0=if y<n then 0 else(ws[y-n]?).getD 0;by_cases g:y<n;rw[if_pos g,aN (by rw[cN];lia),cz,if_pos g];rfl;rw[if_neg g,aE (by rw[cN];lia),cN]
theorem EB (n m:Nat)(f:Nat->Int):gW (n+m) f=gW n f+gW m λq=>f (n+q):=by induction m with|zero=>rw[mD,DM];rfl|succ m g=>rw[<-Nat.add_assoc,fJ,fJ,g];lia
theorem Mc (h:hs.length=n){x:Nat}(g:x<n):cQ (hs++hs') x=cQ hs x:=by unfold cQ;rw[aN (by lia)]
theorem HS (h:hs.length=n)(x:Nat):cQ (hs++hs') (n+x)=cQ hs' x:=by unfold cQ;rw[aE (by lia),h,gJ]
theorem Oa (h1:M.length=n)(g:∀x∈M,x.length=n){y z:Rw}(e:∀v,v<n->y v=z v){x:Nat}(j:x<n):Nr (n+m) (ent (dN n m M M')) y x=Nr n (ent M) z x:=by unfold Nr;rw[EB];have a:gW m (λq=>ent (dN n m M M') x (n+q)*y (n+q))=0:=(bZ λq _=>by rw[vJ h1 g j,if_neg (by lia),gv]).trans (fR m);rw[a,DM];exact bZ λv l=>by rw[vJ h1 g j,if_pos l,e v l]
theorem K0 (h1:M.length=n)(h2:M'.length=m){y z:Rw}(e:∀v,v<m->y (n+v)=z v){x:Nat}(g:x<m):Nr (n+m) (ent (dN n m M M')) y (n+x)=Nr m (ent M') z x:=by unfold Nr;rw[EB];have a:gW n (λq=>ent (dN n m M M') (n+x) q*y q)=0:=(bZ λq l=>by rw[sL h1 h2 g,if_pos l,gv]).trans (fR n);rw[a,fQ];exact bZ λv j=>by rw[sL h1 h2 g,if_neg (by lia),gJ,e v j]
theorem L8 {x y:Nat}(h:U x=U' y)(w:Option Int):i9 U w x=i9 U' w y:=by cases w with|none=>rfl|some c=>show(if U x=c then(1:Int)else 0)=if U' y=c then 1 else 0;rw[h]
mutual
theorem zO (h:hs.length=n)(h1:M.length=n)(j:∀x∈M,x.length=n):∀(t:Tr) (x:Nat),x<n->Tr.val (n+m) (cQ (hs++hs')) (ent (dN n m M M')) t x=Tr.val n (cQ hs) (ent M) t x
 | .nd w bs,x,g=>by show i9 _ w x*Tr.vals _ _ _ bs x=i9 _ w x*Tr.vals _ _ _ bs x;rw[vals_left h h1 j bs x g,L8 (Mc h g) w]
theorem vals_left (h:hs.length=n)(h1:M.length=n)(g:∀x∈M,x.length=n):∀(ts:List Tr) (x:Nat),x<n->Tr.vals (n+m) (cQ (hs++hs')) (ent (dN n m M M')) ts x=Tr.vals n (cQ hs) (ent M) ts x
 |[],_,_=>rfl
 |t::ts,x,j=>by show Nr _ _ _ x*Tr.vals _ _ _ ts x=Nr _ _ _ x*Tr.vals _ _ _ ts x;rw[vals_left h h1 g ts x j,Oa h1 g (λv l=>zO h h1 g t v l) j]
end
mutual
theorem wt (h:hs.length=n)(h1:M.length=n)(h2:M'.length=m):∀(t:Tr) (x:Nat),x<m->Tr.val (n+m) (cQ (hs++hs')) (ent (dN n m M M')) t (n+x)=Tr.val m (cQ hs') (ent M') t x
 | .nd w bs,x,g=>by show i9 _ w (n+x)*Tr.vals _ _ _ bs (n+x)=i9 _ w x*Tr.vals _ _ _ bs x;rw[vals_right h h1 h2 bs x g,L8 (HS h x) w]
theorem vals_right (h:hs.length=n)(h1:M.length=n)(h2:M'.length=m):∀(ts:List Tr) (x:Nat),x<m->Tr.vals (n+m) (cQ (hs++hs')) (ent (dN n m M M')) ts (n+x)=Tr.vals m (cQ hs') (ent M') ts x
 |[],_,_=>rfl
 |t::ts,x,g=>by show Nr _ _ _ (n+x)*Tr.vals _ _ _ ts (n+x)=Nr _ _ _ x*Tr.vals _ _ _ ts x;rw[vals_right h h1 h2 ts x g,K0 h1 h2 (λv j=>wt h h1 h2 t v j) g]
end
def cO (hs:LH)(M:LA)(n:Nat)(t:Tr):LH:=(List.range n).map (Tr.val n (cQ hs) (ent M) t)
theorem jo (hs:LH)(M:LA)(n:Nat)(t:Tr):(cO hs M n t).length=n:=by unfold cO;rw[aa,aA]
theorem Je (h:hs.length=n)(h1:M.length=n)(j:∀x∈M,x.length=n)(h2:M'.length=m)(t:Tr):gq n m (Tr.val (n+m) (cQ (hs++hs')) (ent (dN n m M M')) t)=(cO hs M n t).sum-(cO hs' M' m t).sum:=by unfold gq;rw[bZ λq g=>zO (hs':=hs') (M':=M') (m:=m) h h1 j t q g,bZ λq g=>wt (hs':=hs') (M':=M') (m:=m) h h1 h2 t q g];rfl
theorem OT (S:iY n M)(g:iY m M'){q v:Nat}(t:q<n+m):(ent (dN n m M M') q v).natAbs<=2^72:=by
 have w:∀{k:Nat} {A:LA},iY k A->∀i j,(ent A i j).natAbs<=2^72:=λ{k A} S i j=>by unfold ent;cases e:A[i]? with|none=>show((([]:LH)[j]?).getD 0).natAbs<=_;exact bp _|some x=>show((x[j]?).getD 0).natAbs<=_;cases p:x[j]? with|none=>exact bp _|some z=>exact bj ((S.row i x e).2 z (af p)) (by decide)
 by_cases h:q<n;rw[vJ S.len (λx l=>by obtain⟨i,hi⟩:=aU.mp l;exact(S.row i x hi).1) h];split;exact w S _ _;exact bp _;obtain⟨x,rfl⟩:∃x,q=n+x:=⟨q-n,by lia⟩;rw[sL S.len g.len (by lia)];split;exact bp _;exact w g _ _
end
section
variable {P:Program}{w:World}{K:LO}{mg:LQ}{base:Heap}
def P8:Option Int->PyData
 |none=>.none
 |some c=>.int c
def jX:Option Int->V
 |none=>.non
 |some c=>.int c
mutual
def Tr.dat:Tr->PyData
 | .nd w bs=>.tuple [P8 w,.list (Tr.dats bs)]
def Tr.dats:List Tr->LX
 |[]=>[]
 |t::ts=>t.dat::Tr.dats ts
end
theorem Tr.deeps_get {d:Nat}:∀{ts:List Tr} {i:Nat} {t:Tr},Tr.deeps ts<=d->ts[i]?=some t->t.deep<=d
 |t'::ts,0,t,h,e=>by rw[Tr.deeps]at h;cases e;lia
 |t'::ts,i+1,t,h,e=>by rw[Tr.deeps]at h;exact Tr.deeps_get (ts:=ts) (i:=i) (by lia) (by simpa using e)
theorem Tr.knotss_get {d:Nat}:∀{ts:List Tr} {i:Nat} {t:Tr},Tr.knotss ts<=d->ts[i]?=some t->t.knots<=d
 |t'::ts,0,t,h,e=>by rw[Tr.knotss]at h;cases e;lia
 |t'::ts,i+1,t,h,e=>by rw[Tr.knotss]at h;exact Tr.knotss_get (ts:=ts) (i:=i) (by lia) (by simpa using e)
theorem Tr.knotss_len:∀ts:List Tr,ts.length<=Tr.knotss ts
 |[]=>bp _
 |t::ts=>by rw[Tr.knotss,aH];have:=iO t;have:=Tr.knotss_len ts;lia
theorem Tr.dats_len:∀ts:List Tr,(Tr.dats ts).length=ts.length
 |[]=>by rw[Tr.dats];rfl
 |t::ts=>by rw[Tr.dats,aH,aH,Tr.dats_len ts]
theorem Tr.dats_get:∀(ts:List Tr) (i:Nat),(Tr.dats ts)[i]?=(ts[i]?).map Tr.dat
 |[],i=>by rw[Tr.dats];simp
 |t::ts,0=>by rw[Tr.dats];rfl
 |t::ts,i+1=>by rw[Tr.dats];simpa using Tr.dats_get ts i
abbrev Nw (H:Hp)(a:Addr):Prop:=H a=none
theorem DA.same {v:V}{d:PyData}(h:DA K ok H v d)(s:Same H H'):DA K ok H' v d:=h.mono s.keep λ_ x=>x
theorem DAs.get:∀{ys:LI} {ds:LX},DAs K ok H ys ds->ys.length=ds.length/\∀(i:Nat) (x:V),ys[i]?=some x->∃d,ds[i]?=some d/\DA K ok H x d
 |_,_,.nil=>⟨rfl,λi x h=>by cases h⟩
 |_,_,.cons a r=>by obtain⟨h1,h2⟩:=DAs.get r;refine⟨by rw[aH,aH,h1],λi x h=>?_⟩;cases i with|zero=>cases h;exact⟨_,rfl,a⟩|succ i=>exact h2 i x (by simpa using h)
theorem M3 {w:Option Int}{bs:List Tr}(h:DA K ok H (.ref p) (Tr.nd w bs).dat):∃l ys,dH K H p [jX w,.ref l]/\bW K H l ys/\ys.length=bs.length/\∀(i:Nat) (x:V),ys[i]?=some x->∃t,bs[i]?=some t/\DA K ok H x t.dat:=by
 rw[Tr.dat]at h;cases h with
 |tup _ hs r=>
  cases r with
  |cons g r=>
   cases r with
   |cons C r=>
    cases r;cases C with
    |lst _ hl q=>
     obtain⟨j,I⟩:=DAs.get q;rw[Tr.dats_len]at j;refine⟨_,_,?_,hl,j,λi x J=>?_⟩;cases w with|none=>cases g;exact hs|some c=>cases g;exact hs
     obtain⟨d,e,z⟩:=I i x J;rw[Tr.dats_get]at e;obtain⟨t,T,rfl⟩:=dL.mp e;exact⟨t,T,z⟩
theorem Ja {v:V}:∀{t:Tr},DA K ok H v t.dat->∃p,v=.ref p
 | .nd w bs,h=>by rw[Tr.dat]at h;cases h;exact⟨_,rfl⟩
theorem wW {n:Nat}(h:n<=5000):n<sizeLine:=cg h (by decide)
def UE (a:Addr)(H H':Hp):Prop:=∀b o,b≠a->H b=some o->H' b=some o
theorem UE.upd {o:HO}:UE a H (L2.upd H a o):=λb o n e=>by rw[aW n];exact e
structure zD (K:LO)(C:Addr):Prop where
 cl:Pe K C
 tr:kg K C "tree"
 kn:kg K C "knots"
 dp:kg K C "depth"
 rw:kg K C "row"
 rs:kg K C "rest"
abbrev we (g:V)(k d:Nat)(j sa:Addr):List (Str×V):=[("tree",g),("knots",.int (k:Int)),("depth",.int (d:Int)),("row",.ref j),("rest",.ref sa)]
inductive wM (C:Addr)(vs:LI)(H:Hp)(Q:VK):Prop|mk (a dx g:Addr) (j:V) (k d:Nat) (_:vs=[.ref a,j,.int (k:Int),.int (d:Int),.ref g]) (_:H a=some (.ins C dx [])) (_:∀H',UE a H H'->H' a=some (.ins C dx (we j k d g g))->Q .non H'):wM C vs H Q
def ym (C:Addr):Sp:=λvs H Q _=>wM C vs H Q
abbrev oR:LM:=["self","tree","knots","depth","row"]
theorem Nh:bv oR oR (aw rT):={}
theorem KP (T:zD K C)(F:Fun K "__init__" "Sprout.__init__" rT f fd):cW P w K mg base gK 1 f fd oR (ym C):=by refine F.q Nh λH vs _ _ h=>?_;obtain⟨a,dx,I,t,k,d,rfl,e,q⟩:=h;refine⟨_,am (sj (pv 0) (pv 1) rfl) (am (sj (pv 0) (pv 2) rfl) (am (sj (pv 0) (pv 3) rfl) (am (sj (pv 0) (pv 4) rfl) (aC (sj (pv 0) (pv 4) rfl))))),?_⟩;show let p:TS:=_;let l:TS:=bN _ p;let j:TS:=bN _ l;let g:TS:=bN _ j;bN _ g _ _ _;intro p l j g;refine⟨_,rfl,_,rfl,a,C,dx,_,rfl,e,T.cl,T.tr,by decide,?_⟩;refine⟨_,rfl,_,rfl,a,C,dx,_,rfl,au,T.cl,T.kn,(by show 1<1000;decide),?_⟩;rw[qH];refine⟨_,rfl,_,rfl,a,C,dx,_,rfl,au,T.cl,T.dp,(by show 2<1000;decide),?_⟩;rw[qH];refine⟨_,rfl,_,rfl,a,C,dx,_,rfl,au,T.cl,T.rw,(by show 3<1000;decide),?_⟩;rw[qH];refine⟨_,rfl,_,rfl,a,C,dx,_,rfl,au,T.cl,T.rs,(by show 4<1000;decide),?_⟩;rw[qH];exact q _ UE.upd au
def Tr.wi:Tr->Option Int
 | .nd w _=>w
def Tr.bo:Tr->List Tr
 | .nd _ bs=>bs
theorem Tr.eta (t:Tr):t=.nd t.wi t.bo:=by cases t;rfl
mutual
inductive jy (Z:Addr->Prop)(H:Hp):V->Tr->Prop
 |nd {p l:Addr} {w:Option Int} {ys:LI} {bs:List Tr}:Z p->Z l->H p=some (.tup [jX w,.ref l])->H l=some (.lst ys)->TrsAt Z H ys bs->jy Z H (.ref p) (.nd w bs)
inductive TrsAt (Z:Addr->Prop)(H:Hp):List V->List Tr->Prop
 |nil:TrsAt Z H [] []
 |cons {v:V} {t:Tr} {vs:LI} {ts:List Tr}:jy Z H v t->TrsAt Z H vs ts->TrsAt Z H (v::vs) (t::ts)
end
def sT (S:Addr->Prop)(H H':Hp):Prop:=∀b o,¬S b->H b=some o->H' b=some o
theorem qg (p:∀b,S b->(∃C dx fs,H b=some (.ins C dx fs))\/ ¬Z b){x:Addr}{o:HO}(j:Z x)(e:H x=some o)(no:∀C dx fs,o≠.ins C dx fs):¬S x:=λl=>by rcases p x l with⟨C,dx,fs,g⟩|n;rw[e]at g;exact no C dx fs (bK g);exact n j
mutual
theorem jy.chg (c:sT S H H')(g:∀b,S b->(∃C dx fs,H b=some (.ins C dx fs))\/ ¬Z b):∀{v:V} {t:Tr},jy Z H v t->jy Z H' v t
 |_,_,.nd l j h1 h2 p=>.nd l j (c _ _ (qg g l h1 λ_ _ _ z=>by cases z) h1) (c _ _ (qg g j h2 λ_ _ _ z=>by cases z) h2) (TrsAt.chg c g p)
theorem TrsAt.chg (c:sT S H H')(g:∀b,S b->(∃C dx fs,H b=some (.ins C dx fs))\/ ¬Z b):∀{vs:LI} {ts:List Tr},TrsAt Z H vs ts->TrsAt Z H' vs ts
 |_,_,.nil=>.nil
 |_,_,.cons a r=>.cons (jy.chg c g a) (TrsAt.chg c g r)
end
theorem TrsAt.same {ts:List Tr}(h:TrsAt Z H vs ts)(s:Same H H'):TrsAt Z H' vs ts:=h.chg (S:=λ_=>False) (λb o _ e=>s b o e) λ_ z=>z.elim
theorem TrsAt.snoc {v:V}{t:Tr}:∀{vs:LI} {ts:List Tr},TrsAt Z H vs ts->jy Z H v t->TrsAt Z H (vs++[v]) (ts++[t])
 |_,_,.nil,h=>.cons h .nil
 |_,_,.cons a r,h=>.cons a (r.snoc h)
theorem TrsAt.len:∀{vs:LI} {ts:List Tr},TrsAt Z H vs ts->vs.length=ts.length
 |_,_,.nil=>rfl
 |_,_,.cons _ r=>by rw[aH,aH,r.len]
theorem OX (w:Option Int):DA K ok H (jX w) (P8 w):=by cases w with|none=>exact .non|some c=>exact .int c
mutual
theorem jy.da:∀{v:V} {t:Tr},jy Z H v t->DA K any H v t.dat
 |_,_,.nd _ _ h1 h2 g=>.tup trivial (dH.of h1) (.cons (OX _) (.cons (.lst trivial (bW.of h2) (TrsAt.da g)) .nil))
theorem TrsAt.da:∀{vs:LI} {ts:List Tr},TrsAt Z H vs ts->DAs K any H vs (Tr.dats ts)
 |_,_,.nil=>.nil
 |_,_,.cons a r=>.cons (jy.da a) (TrsAt.da r)
end
structure uq (C:Addr)(Z:Addr->Prop)(H:Hp)(a:Addr)(t:Tr)(row iG:LH):Prop where
 ex:∃(dx p l:Addr) (ys:LI) (ra sa:Addr),H a=some (.ins C dx (we (.ref p) t.knots t.deep ra sa))/\H p=some (.tup [jX t.wi,.ref l])/\H l=some (.lst ys)/\TrsAt Z H ys t.bo/\H ra=some (.lst (row.map V.int))/\H sa=some (.lst (iG.map V.int))/\Z p/\Z l/\Z ra/\Z sa
theorem uq.chg {t:Tr}{row:LH}(Sp:uq C Z H a t row iG)(c:sT S H H')(na:¬S a)(g:∀b,S b->(∃C dx fs,H b=some (.ins C dx fs))\/ ¬Z b):uq C Z H' a t row iG:=by obtain⟨dx,p,l,ys,ra,sa,h1,h2,h3,h4,h5,U,T,J,I,j⟩:=Sp.ex;exact⟨dx,p,l,ys,ra,sa,c _ _ na h1,c _ _ (qg g T h2 λ_ _ _ z=>by cases z) h2,c _ _ (qg g J h3 λ_ _ _ z=>by cases z) h3,h4.chg c g,c _ _ (qg g I h5 λ_ _ _ z=>by cases z) h5,c _ _ (qg g j U λ_ _ _ z=>by cases z) U,T,J,I,j⟩
theorem uq.mono {t:Tr}{row:LH}(S:uq C Z H a t row iG)(s:Same H H'):uq C Z H' a t row iG:=S.chg (S:=λ_=>False) (λb o _ e=>s b o e) (λz=>z) λ_ z=>z.elim
theorem uq.tree {l:Addr}{t:Tr}(g:Z p)(j:Z l)(h2:H p=some (.tup [jX t.wi,.ref l]))(I:H l=some (.lst ys))(C:TrsAt Z H ys t.bo):jy Z H (.ref p) t:=by rw[t.eta];exact .nd g j h2 I C
mutual
theorem jy.weak (g:∀x,Z x->H x≠none->Z' x):∀{v:V} {t:Tr},jy Z H v t->jy Z' H v t
 |_,_,.nd l j h1 h2 p=>.nd (g _ l (by rw[h1];exact nofun)) (g _ j (by rw[h2];exact nofun)) h1 h2 (TrsAt.weak g p)
theorem TrsAt.weak (g:∀x,Z x->H x≠none->Z' x):∀{vs:LI} {ts:List Tr},TrsAt Z H vs ts->TrsAt Z' H vs ts
 |_,_,.nil=>.nil
 |_,_,.cons a r=>.cons (jy.weak g a) (TrsAt.weak g r)
end
inductive Av (K:LO)(d:Nat)(vs:LI)(H:Hp)(Q:VK):Prop|mk (v:V) (t:Tr) (_:vs=[v]) (_:DA K any H v t.dat) (_:t.deep<=d) (_:t.knots<=5000) (_:∀u H',Same H H'->jy (Nw H) H' u t->Q u H'):Av K d vs H Q
def JH (K:LO)(d:Nat):Sp:=λvs H Q _=>Av K d vs H Q
theorem JR:bv ["tree"] ["tree"] (aw oY):={}
theorem Rk:cn (aw oY) ["tree"] (cX (zR (eU (dM oY 0)) 1)) ["bough"]:={}
theorem Hn (D:Dn K mg "copied" oY ["tree"] f fd):∀d:Nat,cW P w K mg base gK (d+1) f fd ["tree"] (JH K d):=by
 intro d;induction d with
 |zero=>refine D.fn.q JR λH vs _ _ h=>?_;obtain⟨v,t,rfl,_,h,_⟩:=h;have:=vL t;lia
 |succ d G=>
  refine D.fn.q JR λH vs _ hr h=>?_;obtain⟨v,t,rfl,hT,hd,hk,q⟩:=h;obtain⟨p,rfl⟩:=Ja hT;cases t with
  |nd wi bs=>
   rw[Tr.deep]at hd;rw[Tr.knots]at hk;have hd':Tr.deeps bs<=d:=by lia
   have hk':Tr.knotss bs<=5000:=by lia
   have hbl:=Tr.knotss_len bs;obtain⟨l,ys,hp,hl,hlen,hys⟩:=M3 hT;refine⟨_,aC (bw (dm (ac (bf bL (pv 0) ar) (ac (il rfl Rk rfl (cK (bf bL (pv 0) ar)) λ_ _ _=>Fb D G hr rfl (ac (pv 1) aj)) aj)))),?_⟩;refine⟨_,rfl,p,_,_,_,rfl,rfl,hp,rfl,_,rfl,p,_,_,_,rfl,rfl,hp,rfl,l,rfl,⟨_,hl⟩,λL hL=>?_⟩;refine kA (xs:=ys) (λi zs H'=>Same H H'/\TrsAt (λa=>Nw H a/\a≠L) H' zs (bs.take i)/\zs.length=i/\H' L=some (.lst zs)) ⟨Same.upd hL,by rw[eE];exact .nil,rfl,au⟩ (λi zs H' _ ⟨C,_,_,e⟩=>⟨Same.sq C hl,e⟩) ?_ ?_ ?_;rintro i x zs H1 hx ⟨C,U,l1,T⟩;obtain⟨t,J,hxt⟩:=hys i x hx;have hi:i<bs.length:=(aZ.mp J).1;refine⟨_,rfl,x,t,rfl,DA.same hxt C,Tr.deeps_get hd' J,Tr.knotss_get hk' J,λu H2 j d2=>?_⟩;refine⟨j _ _ T,wW (by lia),λb o e=>?_,?_,by rw[ah,l1];rfl,au⟩;rw[aW (aI e hL)];exact j _ _ (C _ _ e);rw[cU J];have k2:TrsAt (λa=>Nw H a/\a≠L) H2 (zs++[u]) (bs.take i++[t]):=(U.same j).snoc (d2.weak λa h _=>⟨C.free h,(aI T h).symm⟩);exact k2.chg (S:=λb=>b=L) (λb o nb e=>by rw[aW nb];exact e) λb z=>.inr λh=>h.2 z;rintro zs H1 ⟨C,U,l1,T⟩;rw[hlen,ce]at U;refine⟨k9,λt2 I=>?_⟩;have j:Same H1 (L2.upd H1 t2 (.tup [jX wi,.ref L])):=Same.upd I;refine q _ _ (C.trans j) ?_;exact .nd (C.free I) hL au (j _ _ T) ((U.same j).weak λ_ h _=>h.1);rintro σ H' Q1 Q2 hq ⟨v,e,x,t,a1,a2,a3,a4,g⟩;exact⟨v,e,x,t,a1,a2,a3,a4,λu H2 j d2=>hq _ _ (g u H2 j d2)⟩
structure zE (mg:LQ):Prop where
 len:mg "len"=none
 sum:mg "sum"=none
 zip:mg "zip"=none
 enum:mg "enumerate"=none
 max:mg "max"=none
 sorted:mg "sorted"=none
 set:mg "set"=none
theorem ut (f g:Nat->Int):∀l:LL,List.zipWith (λa b=>a*b) (l.map f) (l.map g)=l.map λx=>f x*g x
 |[]=>rfl
 |a::l=>by rw[aJ,aJ,List.zipWith_cons_cons,ut f g l,aJ]
theorem xE (p:M.length=N)(j:∀x∈M,x.length=N)(f:Nat->Int):(M.map λw=>TM.dot w ((List.range N).map f))=(List.range N).map (Nr N (ent M) f):=by apply cJ;intro i;by_cases hi:i<N;obtain⟨ws,g⟩:=bA (l:=M) (i:=i) (by lia);rw[ao,g,iN _ hi];show some (TM.dot ws _)=some (Nr N (ent M) _ i);congr 1;have e:=qX g (j ws (af g));unfold TM.dot;rw[e,ut];rfl;rw[aY (by rw[aa];lia),aY (by rw[aa,aA];lia)]
theorem Hv (j:M.length=N)(g:∀x∈M,x.length=N)(t:Tr):(M.map λw=>TM.dot w (cO hs M N t))=(List.range N).map (Nr N (ent M) (Tr.val N (cQ hs) (ent M) t)):=xE j g _
def Tr.with (t t':Tr):Tr:=.nd t.wi (t.bo++[t'])
theorem pO (t t':Tr):(t.with t').knots=t.knots+t'.knots:=by rw[t.eta];exact qh _ _ _
theorem wp (t t':Tr):(t.with t').deep=max t.deep (t'.deep+1):=by rw[t.eta];exact Ig _ _ _
structure M1 (H:Hp)(wA:Addr)(N:Nat)(hs:LH)(M:LA):Prop where
 gr:iL H wA (gI M)
 hl:hs.length=N
 len:M.length=N
 row:∀x∈M,x.length=N
 le:N<=12
 bd:∀q,q<N->∀v,v<N->(ent M q v).natAbs<=2^72
theorem M1.mono (B:M1 H wA N hs M)(s:Same H H'):M1 H' wA N hs M:=⟨B.gr.mono s,B.hl,B.len,B.row,B.le,B.bd⟩
theorem M1.bn (B:M1 H wA N hs M)(g:x∈M):∀z∈x,M11.Bn 400000 z:=λz hz=>by obtain⟨i,hi⟩:=aU.mp g;have l:=B.row x g;rw[qX hi l]at hz;obtain⟨v,j,rfl⟩:=aV.mp hz;have:=B.bd i (by have:=cw hi;rw[B.len]at this;exact this) v (bc.mp j);exact cg this (gz (by decide) (by decide))
theorem M1.rowBn (B:M1 H wA N hs M){t:Tr}(j:t.knots<=4096):∀z∈cO hs M N t,M11.Bn 400000 z:=λz hz=>by obtain⟨v,g,rfl⟩:=aV.mp hz;exact B8 B.le B.bd j (bc.mp g)
theorem yU {b:Addr}{n:Nat}(vs:LI)(hn:σ.length=n)(hx:bW K H1 a xs)(T:bW K H1 b ys)(hlx:xs.length=vs.length)(hly:ys.length=vs.length)(hm:vs.length<=900)(hs:∀(i:Nat) (x y v:V) (H':Hp),xs[i]?=some x->ys[i]?=some y->vs[i]?=some v->Same H1 H'->te (σ++[some x,some y]) H' λu H3=>u=v/\Same H' H3)(hd:∀D H',Same H1 H'->H1 D=none->H' D=some (.lst vs)->Q (.ref D) H')(mono:∀σ H Q Q',(∀v H1,Q v H1->Q' v H1)->te σ H Q->te σ H Q'):Qc 2 (Sc K a b) (g2 K n) Cj te σ H1 Q:=by
 subst hn;intro D hD;refine⟨λi m zs H'=>m=vs.length-i/\i<=vs.length/\zs=vs.take i/\Same H1 H'/\H' D=some (.lst zs),⟨vs.length,by simp,bp _,by rw[eE],Same.upd hD,au⟩,?_⟩;rintro i m zs H2 ⟨rfl,hi,rfl,g,l⟩;refine⟨l,?_⟩;by_cases j:i<vs.length;have ex:xs[i]?=some xs[i]:=aq (by lia);have ey:ys[i]?=some ys[i]:=aq (by lia);have ev:vs[i]?=some vs[i]:=aq j;refine .inr ⟨⟨xs,ys,_,_,Same.sq g hx,Same.sq g T,ex,ey⟩,?_⟩;rintro z H3 ⟨t,x,y,rfl,ht,rfl,hx',J⟩ os C;have U:=hx' xs (Same.sq g hx);have I:=J ys (Same.sq g T);match os,C with
 |[o1,o2],_=>have p:Same H2 (L2.upd H2 t (.tup [x,y])):=Same.upd ht;refine⟨t,[x,y],rfl,dH.of au,rfl,x,[y],rfl,y,[],rfl,rfl,⟨[some x,some y],Gq σ o1 o2 x y,rfl⟩,?_⟩;dsimp only[Cj];rw[if_pos rfl,Gq σ o1 o2 x y];refine mono _ _ _ _ ?_ (hs i x y vs[i] _ U I ev (g.trans p));rintro u H5 ⟨rfl,s5⟩;refine⟨s5 _ _ (p _ _ l),cq (by rw[cm];lia),vs.length-(i+1),by lia,rfl,j,by rw[cU ev],λc o e=>?_,au⟩;rw[aW (aI e hD)];exact s5 _ _ (p _ _ (g _ _ e))
 have:i=vs.length:=by lia
 subst this;rw[ce]at l ⊢;exact .inl ⟨⟨xs,ys,Same.sq g hx,Same.sq g T,.inl (by lia)⟩,hd D H2 g hD l⟩
inductive wU (C:Addr)(vs:LI)(H:Hp)(Q:VK):Prop|mk (Z:Addr->Prop) (a b wA:Addr) (t t':Tr) (N:Nat) (hs:LH) (M:LA) (r g:LH) (_:vs=[.ref a,.ref b,.ref wA]) (_:M1 H wA N hs M) (_:uq C Z H a t (cO hs M N t) r) (_:uq C Z H b t' (cO hs M N t') g) (_:t.knots<=4096) (_:t'.knots<=4096) (_:(∀x,H x=none->Z x)) (_:∀c H',Same H H'->H c=none->uq C Z H' c (t.with t') (cO hs M N (t.with t')) (cO hs M N (t.with t'))->Q (.ref c) H'):wU C vs H Q
def Ex (K:LO)(C:Addr):Sp:=λvs H Q _=>wU C vs H Q
abbrev Le:LM:=["sprout","bough","weights","tree","near","row"]
abbrev Dz:LM:=["sprout","bough","weights"]
theorem ua:bv Le Dz (aw rW):={}
theorem Fs:cn (aw rW) Le (cX (eU (dM rW 2))) ["number","other"]:={}
theorem MA:bootBuiltins "max"=some (.builtin "max"):=by decide+kernel
theorem J1 (t t':Tr):cO hs M N (t.with t')=List.zipWith (λa b=>a*b) (cO hs M N t) ((List.range N).map (Nr N (ent M) (Tr.val N (cQ hs) (ent M) t'))):=by obtain⟨wi,bs⟩:=t;show cO hs M N (.nd wi (bs++[t']))=_;unfold cO;rw[ut,oo]
theorem KY (B:zE mg)(T:zD K C)(F:Fun K "with_bough" "with_bough" rW f fd)(GE:Cl P w K mg base "sums_with_each" sZ ["numbers","rows"] 2 tW)(hC:mg "Sprout"=some (.ref C))(MK:Mk K C fI)(bI:pM K fdI oR [])(GI:cW P w K mg base gK 1 fI fdI oR (ym C)):cW P w K mg base gK 3 f fd Dz (Ex K C):=by
 refine F.q ua λH vs _ hr h=>?_;obtain⟨zz,a,b,wA,t,t',N,hs,M,r,r',rfl,Z,S1,S2,k1,k2,hz,q⟩:=h;obtain⟨dx,p,l,ys,ra,sa,h1,h2,h3,h4,h5,h6,z1,z2,z3,z4⟩:=S1.ex;obtain⟨dx',p',l',ys',ra',sa',g1,g2,g3,g4,g5,g6,y1,y2,y3,y4⟩:=S2.ex;refine⟨_,am (fk 3 ua.nd (dm (ac (bf bL (im (pv 0) rfl) ar) (ac (bR qf (bf bL (im (pv 0) rfl) ar) (dC (ac (im (pv 1) rfl) aj))) aj))))
  (am (fk 4 ua.nd (bH GE hr rfl (ac (im (pv 1) rfl) (ac (pv 2) aj))))
  (am (mK (i:=5) ua.nd rfl (Or.inl rfl) rfl Fs rfl (pX rfl B.zip (ac (im (pv 0) rfl) (ac (pv 4) aj))) (pY rfl Fs) (λ_ _ _=>lJ) λ_ _ _=>bR io (pv 6) (pv 7))
  (aC (bw (yL MK GI (hr.mono (by decide)) rfl hC bI .nil Fe (ac (pv 3) (ac (bR gt (im (pv 0) rfl) (im (pv 1) rfl)) (ac (bE (Im rfl) (by rfl) B.max MA (ac (im (pv 0) rfl) (ac (bR gt (im (pv 1) rfl) ar) aj))) (ac (pv 5) aj))))))))),?_⟩
 show let ω1:TS:=_;let ω2:TS:=bN _ ω1;let ω3:TS:=bN _ ω2;bN _ ω3 _ _ _;intro ω1 ω2 ω3;have ly:ys.length=t.bo.length:=h4.len;have lb:t.bo.length<=4096:=by
  have:=Tr.knotss_len t.bo;have e:t.knots=1+Tr.knotss t.bo:=by rw[t.eta];rfl
  lia
 refine⟨_,rfl,a,C,dx,_,_,rfl,h1,T.cl,T.tr,rfl,p,_,_,_,rfl,rfl,dH.of h2,rfl,?_⟩;refine⟨_,rfl,a,C,dx,_,_,rfl,h1,T.cl,T.tr,rfl,p,_,_,_,rfl,rfl,dH.of h2,rfl,?_⟩;refine⟨_,rfl,b,C,dx',_,_,rfl,g1,T.cl,T.tr,rfl,?_⟩;refine⟨F4,λx hx=>?_⟩;have sx:Same H (L2.upd H x (.lst [.ref p'])):=Same.upd hx;refine⟨l,x,ys,[.ref p'],rfl,rfl,sx _ _ h3,au,cu (wW (by rw[ly];show _+1<=_;lia)),λy hy=>?_⟩;have sy:=sx.trans (Same.upd (o:=.lst (ys++[.ref p'])) hy);refine⟨k9,λtp htp=>?_⟩;have st:=sy.trans (Same.upd (o:=.tup [jX t.wi,.ref y]) htp);generalize hA:L2.upd (L2.upd (L2.upd H x (.lst [.ref p'])) y (.lst (ys++[.ref p']))) tp (.tup [jX t.wi,.ref y])=A1 at st;have ey:A1 y=some (.lst (ys++[.ref p'])):=by rw[<-hA];exact(Same.upd htp) _ _ au
 have et:A1 tp=some (.tup [jX t.wi,.ref y]):=by rw[<-hA];exact au
 have Z1:=Z.mono st;refine⟨_,rfl,b,C,dx',_,_,rfl,st _ _ g1,T.cl,T.rw,rfl,_,rfl,wA,ra',M,cO hs M N t',400000,rfl,Z1.gr,st _ _ g5,by rw[Z.len];have:=Z.le;lia,by rw[jo];have:=Z.le;lia,by decide,λx hx=>⟨by rw[Z.row x hx,jo],Z.bn hx⟩,Z.rowBn k2,λnA H2 s2 nN eN=>?_⟩;rw[Hv Z.len Z.row]at eN;have J:=st.trans s2;refine⟨_,rfl,a,C,dx,_,_,rfl,J _ _ h1,T.cl,T.rw,rfl,_,rfl,ra,nA,rfl,⟨_,bW.of (J _ _ h5)⟩,⟨_,bW.of eN⟩,?_⟩;refine yU ((cO hs M N (t.with t')).map V.int) rfl (bW.of (J _ _ h5)) (bW.of eN) (by rw[aa,aa,jo,jo]) (by rw[aa,aa,aa,aA,jo]) (by rw[aa,jo];have:=Z.le;lia) ?_ ?_ ?_;intro i x y v H' hx hy hv s';obtain⟨x,ex,rfl⟩:=bJ hx;obtain⟨y,ey,rfl⟩:=bJ hy;obtain⟨z,ez,rfl⟩:=bJ hv;rw[J1,DS ex ey]at ez;cases ez;obtain⟨hi,ey2⟩:=ip ey;exact⟨_,rfl,_,rfl,_,_,rfl,rfl,⟨400000,by decide,Z.rowBn k1 x (af ex),by rw[ey2];exact Fi Z.le Z.bd k2 hi⟩,rfl,Same.refl _⟩;intro rA H3 s3 nR eR;have I:=J.trans s3;refine⟨_,rfl,_,rfl,a,C,dx,_,_,rfl,I _ _ h1,T.cl,T.kn,rfl,_,rfl,b,C,dx',_,_,rfl,I _ _ g1,T.cl,T.kn,rfl,_,_,rfl,rfl,?_⟩;refine⟨_,rfl,a,C,dx,_,_,rfl,I _ _ h1,T.cl,T.dp,rfl,_,rfl,b,C,dx',_,_,rfl,I _ _ g1,T.cl,T.dp,rfl,_,_,rfl,rfl,_,_,rfl,?_⟩;refine⟨_,rfl,λc cx hc hcx hne=>?_⟩;have sc:Same H3 (L2.upd (L2.upd H3 cx (.own c)) c (.ins C cx [])):=λb o e=>by rw[aW (aI e hc),aW (aI e hcx)];exact e
 refine⟨c,cx,rA,.ref tp,(t.with t').knots,(t.with t').deep,?_,au,λH4 b4 e4=>⟨rfl,?_⟩⟩;have e1:(((t.with t').knots:Nat):Int)=(t.knots:Int)+(t'.knots:Int):=by rw[pO];lia
 have e2:(((t.with t').deep:Nat):Int)=if((t'.deep:Int)+1)>(t.deep:Int)then(t'.deep:Int)+1 else(t.deep:Int):=by rw[wp];split<;>lia
 rw[e1,e2];rfl;have s4:Same H3 H4:=λx o e=>b4 x o (aI e hc) (sc x o e);have U:=I.trans s4;refine q c H4 U (I.free hc) ⟨cx,tp,y,ys++[.ref p'],rA,rA,e4,(s2.trans (s3.trans s4)) _ _ et,(s2.trans (s3.trans s4)) _ _ ey,?_,s4 _ _ eR,s4 _ _ eR,hz _ (sy.free htp),hz _ (sx.free hy),hz _ (J.free nR),hz _ (J.free nR)⟩;exact(h4.same U).snoc (uq.tree y1 y2 (U _ _ g2) (U _ _ g3) (g4.same U));rintro σ H' Q1 Q2 hq ⟨v,e,v',e',i,j,a1,a2,a3,g⟩;exact⟨v,e,v',e',i,j,a1,a2,a3,hq _ _ g⟩
def MU (xs:LH)(k:Nat):LL:=(List.range k).filter λi=>decide ((xs[i]?).getD 0≠0)
def RC (xs:LH):Option Nat:=(MU xs xs.length).head?
def P5 (xs:LH):V:=match RC xs with
 |none=>.non
 |some p=>.int (p:Int)
theorem ON {xs:LH}(h:RC xs=none):∀z∈xs,z=0:=λz hz=>by obtain⟨i,hi⟩:=aU.mp hz;have e:MU xs xs.length=[]:=List.head?_eq_none_iff.mp h;have:=tQ.mp e i (bc.mpr (cw hi));rw[hi]at this;simpa using this
theorem y9 {xs:LH}{p:Nat}(h:RC xs=some p):∃z,xs[p]?=some z/\z≠0:=by have m:p∈MU xs xs.length:=List.mem_of_mem_head? (by rw[Option.mem_def];exact h);obtain⟨h1,h2⟩:=iA.mp m;obtain⟨z,hz⟩:=bA (bc.mp h1);refine⟨z,hz,?_⟩;rw[hz]at h2;simpa using h2
theorem Lu {xs:LH}(hN:σ.length=N)(ha:bW K H1 a (xs.map V.int))(hz:xs.length<=900)(ht:∀(i:Nat) (z:Int) (H':Hp) (R:Bool->Hp->Prop),xs[i]?=some z->R (decide (z≠0)) H'->tt (σ++[some (.int (i:Int)),some (.int z)]) H' R)(he:∀(i:Nat) (z:Int) (H':Hp) (R:VK),R (.int (i:Int)) H'->te (σ++[some (.int (i:Int)),some (.int z)]) H' R)(hd:∀(D:Addr) (H':Hp),Same H1 H'->H' D=some (.lst ((MU xs xs.length).map λ(i:Nat)=>V.int (i:Int)))->Q (.ref D) H'):Qc 2 (Sj K a) (g2 K N) tt te σ H1 Q:=by
 subst hN;intro D hD;refine⟨λi m ys H'=>m=xs.length-i/\i<=xs.length/\ys=(MU xs i).map (λ(i:Nat)=>V.int (i:Int))/\Same H1 H'/\H' D=some (.lst ys),⟨xs.length,by simp,bp _,rfl,Same.upd hD,au⟩,?_⟩;rintro i m ys H2 ⟨rfl,hi,rfl,j,T⟩;refine⟨T,?_⟩;by_cases g:i<xs.length;obtain⟨z,J⟩:=bA g;have p:(xs.map V.int)[i]?=some (.int z):=by rw[ao,J];rfl
 refine .inr ⟨⟨_,_,Same.sq j ha,p⟩,?_⟩;rintro y H3 ⟨t,x,rfl,htn,rfl,hx⟩ os U;have l:=hx _ (Same.sq j ha);rw[p]at l;cases l;match os,U with
 |[o1,o2],_=>
  have I:Same H2 (L2.upd H2 t (.tup [.int (i:Int),.int z])):=Same.upd htn;refine⟨t,_,rfl,dH.of au,rfl,_,_,rfl,_,_,rfl,rfl,⟨[some (.int (i:Int)),some (.int z)],Gq σ o1 o2 _ _,rfl⟩,?_⟩;rw[Gq σ o1 o2 _ _];have C:MU xs (i+1)=MU xs i++(if z≠0 then[i]else[]):=by unfold MU;rw[n9,kD];congr 1;by_cases e:z≠0;rw[if_pos e,cY (by rw[J];simpa using e)];rfl;rw[if_neg e,cH (by rw[J];simpa using e)];rfl
  have lr:(MU xs i).length<=i:=by refine bj (mi _ _) ?_;rw[aA];lia
  refine ht i z _ _ J ?_;by_cases e:z≠0;rw[if_pos e]at C;rw[bi e,if_pos rfl];refine he i z _ _ ⟨I _ _ T,cq (by rw[aa];lia),xs.length-(i+1),by lia,rfl,g,by rw[C,a0];rfl,(λb o e=>by rw[aW (aI e hD)];exact I _ _ (j _ _ e)),au⟩;rw[if_neg e,iC]at C;rw[bq e,if_neg (by decide)];exact⟨xs.length-(i+1),by lia,rfl,g,by rw[C],j.trans I,I _ _ T⟩
 have:i=xs.length:=by lia
 subst this;exact .inl ⟨⟨_,Same.sq j ha,by rw[aa];exact av _⟩,hd D H2 j T⟩
inductive wR (K:LO)(vs:LI)(H:Hp)(Q:VK):Prop|mk (a:Addr) (xs:LH) (_:vs=[.ref a]) (_:bW K H a (xs.map V.int)) (_:xs.length<=900) (_:∀H',Same H H'->Q (P5 xs) H'):wR K vs H Q
def yo (K:LO):Sp:=λvs H Q _=>wR K vs H Q
abbrev Ld:LM:=["row","places"]
theorem EM:bv Ld ["row"] (aw pV):={}
theorem Fq:cn (aw pV) Ld (cX (eU (dM pV 0))) ["place","number"]:={}
theorem KS (B:zE mg)(F:Fun K "first_place_not_nought" "first_place_not_nought" pV f fd):cW P w K mg base gK 1 f fd ["row"] (yo K):=by
 refine F.q EM λH vs _ _ h=>?_;obtain⟨a,xs,rfl,t,hz,q⟩:=h;refine⟨_,am (mK (i:=1) EM.nd rfl (Or.inl rfl) rfl Fq rfl (Fa rfl B.enum (ac (pv 0) aj)) (pY rfl Fq) (λ_ _ _=>yF (bV jF (pv 3) ar (bO _))) λ_ _ _=>pv 2)
  (aC (bw (mN (vf (pv 1) λ_=>rfl) (bf cD (pv 1) ar) jO))),?_⟩
 show let g:TS:=_;bN _ g _ _ _;intro g;refine⟨_,rfl,a,rfl,⟨_,t⟩,?_⟩;refine Lu rfl t hz (λi z H' R hi j=>?_) (λi z H' R j=>⟨_,rfl,j⟩) (λD H' s' l=>?_);refine⟨_,rfl,rfl,?_⟩;have e:decide (z≠0)=!decide (V.int z=V.int 0):=by rw[je,Bool.not_eq_true',cR,decide_eq_false_iff_not];exact⟨λn y=>n (V.int.inj y),λn y=>n (by rw[y])⟩
 rw[e]at j;exact⟨_,rfl,j⟩;refine⟨_,rfl,_,.inl ⟨_,bW.of l,rfl⟩,?_⟩;have qq:=q H' s';unfold P5 RC at qq;cases e:MU xs xs.length with|nil=>rw[e]at qq;exact gu (by exact qq)|cons p r=>rw[e]at qq l;refine iV ⟨_,rfl,D,_,_,_,rfl,rfl,bW.of l,eY _ _,qq⟩
structure n0 (C:Addr)(Z:Addr->Prop)(H:Hp)(as:LK)(ts:List Tr)(row:Tr->LH):Prop where
 len:as.length=ts.length
 at':∀(i:Nat) (a:Addr) (t:Tr),as[i]?=some a->ts[i]?=some t->∃r,uq C Z H a t (row t) r
theorem n0.mono {ts:List Tr}{row:Tr->LH}(S:n0 C Z H as ts row)(s:Same H H'):n0 C Z H' as ts row:=⟨S.len,λi a t h1 h2=>let⟨r,h⟩:=S.at' i a t h1 h2;⟨r,h.mono s⟩⟩
theorem M4 {n:Nat}(t:Tr):((cO hs M (n+m) t).take n).sum-((cO hs M (n+m) t).drop n).sum=gq n m (Tr.val (n+m) (cQ hs) (ent M) t):=by unfold cO gq;rw[va,vb];rfl
inductive uD (C:Addr)(vs:LI)(H:Hp)(Q:VK):Prop|mk (Z:Addr->Prop) (l:Addr) (as:LK) (ts:List Tr) (n m:Nat) (hs:LH) (M:LA) (_:vs=[.ref l,.int (n:Int)]) (_:H l=some (.lst (as.map V.ref))) (_:n0 C Z H as ts (cO hs M (n+m))) (_:n+m<=900) (_:(∀H',Same H H'->(∀t∈ts,gq n m (Tr.val (n+m) (cQ hs) (ent M) t)=0)->Q .non H')) (_:∀H' (i:Nat) (a:Addr) (t:Tr),Same H H'->as[i]?=some a->ts[i]?=some t->gq n m (Tr.val (n+m) (cQ hs) (ent M) t)≠0->Q (.ref a) H'):uD C vs H Q
def Aa (C:Addr):Sp:=λvs H Q _=>uD C vs H Q
abbrev Ob:LM:=["sprouts","ahead","sprout"]
theorem AC:bv Ob ["sprouts","ahead"] (aw ub):={}
theorem Hi (B:zE mg)(T:zD K C)(F:Fun K "first_unlike" "first_unlike" ub f fd):cW P w K mg base gK 1 f fd ["sprouts","ahead"] (Aa C):=by
 refine F.q AC λH vs _ _ h=>?_;obtain⟨Z,l,as,ts,n,m,hs,M,rfl,hl,S,hN,q0,q1⟩:=h;refine⟨_,am (eQ PassesOwn.never rfl (cK (pv 0)) (l9 2 AC.nd)
   (aC (dX (bV jF (bE (jv rfl) (by rfl) B.sum jx (ac (jp lH (im (pv 2) rfl) lK (jV (pv 1))) aj)) (bE (jv rfl) (by rfl) B.sum jx (ac (jp lH (im (pv 2) rfl) (jV (pv 1)) lK) aj)) (bO _)) (aC (bw (pv 2))) cE)))
  (aC (bw jO)),?_⟩
 show let J:TS:=_;let I:TS:=_;let j:TS:=(gL _ I _);bN (i0 _ _ j) J _ _ _;intro J I j;refine⟨_,rfl,l,rfl,⟨_,bW.of hl⟩,gi (K:=K) (xs:=as.map V.ref) (λi σ H'=>∃o2:LU,σ=[some (.ref l),some (.int (n:Int)),o2]/\Same H H'/\∀t∈ts.take i,gq n m (Tr.val (n+m) (cQ hs) (ent M) t)=0) ⟨none,rfl,Same.refl _,λt h=>by rw[eE]at h;cases h⟩ (λi σ H' _ ⟨_,_,g,_⟩=>Same.sq g (bW.of hl)) ?_ ?_⟩;rintro i x σ H1 hx ⟨o2,rfl,g,al⟩;obtain⟨a,ha,rfl⟩:=bJ hx;obtain⟨t,ht⟩:=bA (l:=ts) (i:=i) (by rw[<-S.len];exact cw ha);obtain⟨r,Sa⟩:=S.at' i a t ha ht;obtain⟨dx,p,tl,ys,ra,sa,h1,h2,h3,h4,h5,h6,_⟩:=(Sa.mono g).ex;have ln:=jo hs M (n+m) t;refine⟨_,rfl,a,C,dx,_,_,rfl,h1,T.cl,T.rw,rfl,_,rfl,(n:Int),rfl,ra,_,rfl,bW.of h5,λb hb=>?_⟩;rw[vP _ n (by rw[ln];lia)];have U:Same H1 (L2.upd H1 b (.lst (((cO hs M (n+m) t).take n).map V.int))):=Same.upd hb;refine⟨b,_,rfl,bW.of au,?_⟩;refine⟨_,rfl,a,C,dx,_,_,rfl,U _ _ h1,T.cl,T.rw,rfl,_,rfl,(n:Int),rfl,ra,_,rfl,bW.of (U _ _ h5),λc hc=>?_⟩;rw[Bz _ n (by rw[ln];lia)];have s3:=U.trans (Same.upd (o:=.lst (((cO hs M (n+m) t).drop n).map V.int)) hc);refine⟨c,_,rfl,bW.of au,rfl,?_⟩;have tr:=M4 (n:=n) (m:=m) (hs:=hs) (M:=M) t;generalize((cO hs M (n+m) t).take n).sum=u at tr ⊢;generalize((cO hs M (n+m) t).drop n).sum=v at tr ⊢;by_cases e:u=v;have d:(!decide (V.int u=V.int v))=false:=by rw[e];simp
 refine⟨_,rfl,?_⟩;rw[d];refine gu ?_;refine⟨_,rfl,g.trans s3,λt' h'=>?_⟩;rw[cU ht]at h';rcases be.mp h' with h'|h';exact al t' h';rw[aX.mp h',<-tr];lia;have d:(!decide (V.int u=V.int v))=true:=by rw[bq λz=>e (V.int.inj z)];rfl
 refine⟨_,rfl,?_⟩;rw[d];refine iV ?_;exact⟨_,rfl,q1 _ i a t (g.trans s3) ha ht (by rw[<-tr];lia)⟩;rintro σ H1 ⟨o2,rfl,g,al⟩;rw[aa,S.len,ce]at al;exact q0 H1 g al
def pq (hs:LH)(M:LA)(N:Nat)(ks:List Tr)(ps:LL)(t:Tr)(q:Nat):Int:=Dt (q::ps.reverse) (Tr.val N (cQ hs) (ent M) t::(ks.map (Tr.val N (cQ hs) (ent M))).reverse)
def mJ (hs:LH)(M:LA)(N:Nat)(ks:List Tr)(ps:LL)(t:Tr):LH:=(List.range N).map (pq hs M N ks ps t)
def Sg (hs:LH)(M:LA)(N:Nat)(ks:List Tr)(ps:LL):Int:=Dt ps.reverse (ks.map (Tr.val N (cQ hs) (ent M))).reverse
theorem JY (hs:LH)(M:LA)(N:Nat)(t:Tr):mJ hs M N [] [] t=cO hs M N t:=by unfold mJ cO;refine bU λq _=>?_;show Tr.val N (cQ hs) (ent M) t q*1-0=_;lia
theorem kS (hs:LH)(M:LA)(N:Nat)(ks:List Tr)(ps:LL)(t:Tr):(mJ hs M N ks ps t).length=N:=by unfold mJ;rw[aa,aA]
structure jA (C:Addr)(Z:Addr->Prop)(H:Hp)(hs:LH)(M:LA)(N:Nat)(as:LK)(ks:List Tr)(ps:LL):Prop where
 la:as.length=ks.length
 lp:ps.length=ks.length
 sp:∀(i:Nat) (a:Addr) (t:Tr) (p:Nat),as[i]?=some a->ks[i]?=some t->ps[i]?=some p->uq C Z H a t (cO hs M N t) (mJ hs M N (ks.take i) (ps.take i) t)/\RC (mJ hs M N (ks.take i) (ps.take i) t)=some p
 fr:∀i,i<=ks.length->me ((ks.take i).map (Tr.val N (cQ hs) (ent M))).reverse (ps.take i).reverse
theorem jA.mono {ks:List Tr}(A:jA C Z H hs M N as ks ps)(s:Same H H'):jA C Z H' hs M N as ks ps:=⟨A.la,A.lp,λi a t p h1 h2 g=>⟨(A.sp i a t p h1 h2 g).1.mono s,(A.sp i a t p h1 h2 g).2⟩,A.fr⟩
theorem JX {ks:List Tr}{t s:Tr}{p:Nat}(f:me ((ks++[s]).map (Tr.val N (cQ hs) (ent M))).reverse (ps++[p]).reverse)(q:Nat):
  (pq hs M N ks ps s p*pq hs M N ks ps t q-pq hs M N ks ps t p*pq hs M N ks ps s q).fdiv (Sg hs M N ks ps)=pq hs M N (ks++[s]) (ps++[p]) t q:=by
 rw[a0,cZ,cZ]at f;have e:=OW f (Tr.val N (cQ hs) (ent M) t) q;unfold pq Sg;rw[a0,cZ,cZ];have g:Dt ps.reverse (ks.map (Tr.val N (cQ hs) (ent M))).reverse≠0:=by cases f with|cons _ _ f _=>exact f.ne
 have j:Dt (p::ps.reverse) (Tr.val N (cQ hs) (ent M) s::(ks.map (Tr.val N (cQ hs) (ent M))).reverse)*Dt (q::ps.reverse) (Tr.val N (cQ hs) (ent M) t::(ks.map (Tr.val N (cQ hs) (ent M))).reverse)-Dt (p::ps.reverse) (Tr.val N (cQ hs) (ent M) t::(ks.map (Tr.val N (cQ hs) (ent M))).reverse)*Dt (q::ps.reverse) (Tr.val N (cQ hs) (ent M) s::(ks.map (Tr.val N (cQ hs) (ent M))).reverse)=_:=e;rw[j];exact iI _ g
theorem OV (ks:List Tr)(ps:LL)(s:Tr)(p:Nat):Sg hs M N (ks++[s]) (ps++[p])=pq hs M N ks ps s p:=by unfold Sg pq;rw[a0,cZ,cZ];rfl
inductive Ag (C:Addr)(vs:LI)(H:Hp)(Q:VK):Prop|mk (Z:Addr->Prop) (g j:Addr) (as:LK) (ks:List Tr) (ps:LL) (t:Tr) (hs:LH) (M:LA) (N:Nat) (_:vs=[.ref g,.ref j]) (_:H g=some (.lst ((cO hs M N t).map V.int))) (_:H j=some (.lst (as.map V.ref))) (_:jA C Z H hs M N as ks ps) (_:N<=12) (_:(∀(i:Nat) (u:Tr),i<=ks.length->(u=t\/u∈ks)->∀q,q<N->M11.Bn 400000 (pq hs M N (ks.take i) (ps.take i) u q))) (_:∀D H',Same H H'->(D=g\/H D=none)->H' D=some (.lst ((mJ hs M N ks ps t).map V.int))->Q (.ref D) H'):Ag C vs H Q
def Js (C:Addr):Sp:=λvs H Q _=>Ag C vs H Q
abbrev PN:LM:=["row","kept","rest","divisor","sprout","place","factor","taken"]
theorem nc:bv PN ["row","kept"] (aw uW):={}
theorem Lv:cn (aw uW) PN (cX (eU (lU (dM uW 2) 3))) ["number","other"]:={}
theorem NM (B:zE mg)(T:zD K C)(hN:base.NoSeer)(htr:P.given.tree=none)(F:Fun K "rest_behind" "rest_behind" uW f fd)(GF:Cl P w K mg base "first_place_not_nought" pV ["row"] 1 (yo K)):cW P w K mg base gK 41 f fd ["row","kept"] (Js C):=by
 refine F.o nc λcdv A outer s H vs Q E hr h=>?_;obtain⟨Z,ra,kl,as,ks,ps,t,hs,M,N,rfl,hra,hkl,J,hN12,bn,q⟩:=h;have hd:(A.deeper (envOfC "rest_behind" (aw uW) s.heap.objs.size f cdv)).depth+Builtin.pylongFrames<recursionLimit:=by
  have:=hr.dp;have e:Builtin.pylongFrames<=100:=by decide
  lia
 refine⟨_,am (fk 2 nc.nd (pv 0))
  (am (fk 3 nc.nd ar)
  (am (eQ PassesOwn.never rfl (cK (pv 1)) (l9 4 nc.nd)
   (am (fk 5 nc.nd (bH GF (hr.mono (by decide)) rfl (ac (im (pv 4) rfl) aj)))
   (am (fk 6 nc.nd (bf cD (im (pv 4) rfl) (pv 5)))
   (am (fk 7 nc.nd (bf cD (pv 2) (pv 5)))
   (am (mK (i:=2) nc.nd rfl (Or.inl rfl) rfl Lv rfl (pX rfl B.zip (ac (pv 2) (ac (im (pv 4) rfl) aj))) (pY rfl Lv) (λ_ _ _=>lJ) λ_ _ _=>bR (Ky hN htr rfl rfl rfl rfl rfl hd) (bR vh (bR io (pv 6) (pv 8)) (bR io (pv 7) (pv 9))) (pv 3))
   (aC (fk 3 nc.nd (pv 6))))))))
  (aC (bw (pv 2))))),?_⟩
 show let ω1:TS:=_;let ω2:TS:=_;let ω3:TS:=bN _ ω2;let ω4:TS:=bN _ ω3;let ω5:TS:=bN _ ω4;let ω6:TS:=bN _ ω5;let ω7:TS:=bN (i0 _ _ ω6) ω1;let ω8:TS:=bN _ ω7;bN _ ω8 _ _ _;intro ω1 ω2 ω3 ω4 ω5 ω6 ω7 ω8;refine⟨_,rfl,?_⟩;refine⟨_,rfl,kl,rfl,⟨_,bW.of hkl⟩,gi (K:=K) (xs:=as.map V.ref) (λi σ H'=>∃(o4 o5 o6 o7:LU) (D:Addr),σ=[some (.ref ra),some (.ref kl),some (.ref D),some (.int (Sg hs M N (ks.take i) (ps.take i))),o4,o5,o6,o7]/\Same H H'/\(D=ra\/H D=none)/\H' D=some (.lst ((mJ hs M N (ks.take i) (ps.take i) t).map V.int))) ⟨none,none,none,none,ra,?_,Same.refl _,.inl rfl,?_⟩ (λi σ H' _ ⟨_,_,_,_,_,_,U,_⟩=>Same.sq U (bW.of hkl)) ?_ ?_⟩;rw[eE,eE];rfl;rw[eE,eE,JY];exact hra;rintro i x σ H1 hx ⟨o4,o5,o6,o7,D,rfl,U,nD,eD⟩;obtain⟨a,ha,rfl⟩:=bJ hx;have hi:=cw ha;obtain⟨u,hu⟩:=bA (l:=ks) (i:=i) (by rw[<-J.la];exact hi);obtain⟨p,hp⟩:=bA (l:=ps) (i:=i) (by rw[J.lp,<-J.la];exact hi);obtain⟨Su,fu⟩:=J.sp i a u p ha hu hp;obtain⟨dx,tp,tl,ys,rr,sa,h1,h2,h3,h4,h5,h6,_⟩:=(Su.mono U).ex;obtain⟨z,hz,z0⟩:=y9 fu;obtain⟨pN,ez⟩:=ip hz;have hb:i<=ks.length:=by rw[<-J.la];lia
 have fr:=J.fr (i+1) (by rw[<-J.la];lia);rw[cU hu,cU hp]at fr;refine⟨_,rfl,a,C,dx,_,_,rfl,h1,T.cl,T.rs,rfl,sa,_,rfl,bW.of h6,by rw[kS];lia,λH2 I=>?_⟩;have ep:P5 (mJ hs M N (ks.take i) (ps.take i) u)=.int (p:Int):=by unfold P5;rw[fu]
 rw[ep];refine⟨_,rfl,a,C,dx,_,_,rfl,I _ _ h1,T.cl,T.rs,rfl,_,rfl,sa,_,_,_,rfl,rfl,bW.of (I _ _ h6),cV (by rw[ao];unfold mJ;rw[iN _ pN];rfl),?_⟩;refine⟨_,rfl,_,rfl,D,_,_,_,rfl,rfl,bW.of (I _ _ eD),cV (by rw[ao];unfold mJ;rw[iN _ pN];rfl),?_⟩;refine⟨_,rfl,_,rfl,a,C,dx,_,_,rfl,I _ _ h1,T.cl,T.rs,rfl,D,sa,rfl,⟨_,bW.of (I _ _ eD)⟩,⟨_,bW.of (I _ _ h6)⟩,?_⟩;refine yU ((mJ hs M N (ks.take (i+1)) (ps.take (i+1)) t).map V.int) rfl (bW.of (I _ _ eD)) (bW.of (I _ _ h6)) (by rw[aa,aa,kS,kS]) (by rw[aa,aa,kS,kS]) (by rw[aa,kS];lia) ?_ ?_ ?_;intro j x y v H' hx hy hv s';obtain⟨x,ex,rfl⟩:=bJ hx;obtain⟨y,ey,rfl⟩:=bJ hy;obtain⟨v,ev,rfl⟩:=bJ hv;obtain⟨jN,rfl⟩:=ip ex;obtain⟨_,rfl⟩:=ip ey;obtain⟨_,rfl⟩:=ip ev;have um:u∈ks:=af hu;refine⟨_,rfl,_,rfl,_,_,rfl,rfl,⟨400000,by decide,bn i u hb (.inr um) p pN,bn i t hb (.inl rfl) j jN⟩,?_⟩;refine⟨_,rfl,_,rfl,_,_,rfl,rfl,⟨400000,by decide,bn i t hb (.inl rfl) p pN,bn i u hb (.inr um) j jN⟩,_,_,rfl,rfl,?_⟩;refine⟨_,rfl,_,_,rfl,rfl,?_,?_,Same.refl _⟩;exact(J.fr i hb).ne;rw[cU hu,cU hp];exact congrArg V.int (JX fr j);intro D' H3 s3 nD' eD';have edv:Sg hs M N (ks.take (i+1)) (ps.take (i+1))=pq hs M N (ks.take i) (ps.take i) u p:=by rw[cU hu,cU hp,OV]
 exact⟨_,rfl,⟨some (.ref a),some (.int (p:Int)),some (.int (pq hs M N (ks.take i) (ps.take i) u p)),some (.int (pq hs M N (ks.take i) (ps.take i) t p)),D',by rw[edv];rfl,U.trans (I.trans s3),.inr (U.free (I.free nD')),eD'⟩⟩;rintro σ H' Q1 Q2 hq ⟨a1,a2,a3,a4,a5,a6,a7,a8,a9,b1,b2,b3,b4,b5,b6,b7,b8,b9,c1,c2,c3,c4,c5,c6,c7,c8,c9,d1,d2,g⟩;exact⟨a1,a2,a3,a4,a5,a6,a7,a8,a9,b1,b2,b3,b4,b5,b6,b7,b8,b9,c1,c2,c3,c4,c5,c6,c7,c8,c9,d1,d2,hq _ _ g⟩;rintro σ H1 ⟨o4,o5,o6,o7,D,rfl,U,nD,eD⟩;rw[aa,J.la,ce]at eD;rw[show ps.take ks.length=ps by rw[<-J.lp];exact ce]at eD;exact⟨_,rfl,q D H1 U nD eD⟩
theorem me.drop {rs:List Rw}(h:me rs ps):∀k:Nat,me (rs.drop k) (ps.drop k):=by induction h with|nil=>intro k;rw[List.drop_nil,List.drop_nil];exact .nil|cons r p f hd g=>intro k;cases k with|zero=>exact .cons r p f hd|succ k=>exact g k
theorem Bk.drop:∀{ks:List Tr} (k:Nat),Bk ks->Bk (ks.drop k)
 |[],k,_=>by rw[List.drop_nil];trivial
 |t::ks,0,h=>h
 |t::ks,k+1,h=>Bk.drop (ks:=ks) k h.2.2
theorem rg {n:Nat}{ks:List Tr}(free:me (ks.map (Tr.val (n+m) U W)) ps)(lt:∀p∈ps,p<n+m)(alk:∀t∈ks,gq n m (Tr.val (n+m) U W t)=0)(hN:0<n+m):ks.length<n+m:=by
 have l:=free.len;rw[aa]at l;refine Classical.byContradiction λc=>?_;have all:∀q,q<n+m->q∈ps:=λq C=>Classical.byContradiction λT=>by
  have:=vm (n+m) (q::ps) (cA.mpr ⟨T,free.nodup⟩) λx j=>by cases j with|head=>exact C|tail _ j=>exact lt x j
  rw[aH]at this;lia
 have z:=yb (N:=n+m) (tJ ps (ks.map (Tr.val (n+m) U W)) (II 0));have g:=m9 (n:=n) (m:=m) (λr hr=>by obtain⟨s,h1,rfl⟩:=aV.mp hr;exact alk s h1) z;rw[tV]at g;have J:gq n m (λq=>Dt (q::ps) (II 0::ks.map (Tr.val (n+m) U W)))=0:=(oV (y:=λ_=>0) λq C=>jt q ps _ (all q C)).trans (by unfold gq;rw[fR,fR];rfl);rw[J,Int.sub_zero]at g;have I:gq n m (II 0)=if 0<n then 1 else if 0<n+m then -1 else 0:=Cg 0 1;rcases kq.mp g with z|z;exact free.ne z;rw[I]at z;by_cases c:0<n;rw[if_pos c]at z;exact absurd z (by decide);rw[if_neg c,if_pos hN]at z;exact absurd z (by decide)
theorem u9 (hs:LH)(M:LA)(N:Nat)(ks:List Tr)(ps:LL)(t:Tr)(q:Nat):pq hs M N ks ps t q=Dt (q::ps.reverse) (Tr.val N (cQ hs) (ent M) t::ks.reverse.map (Tr.val N (cQ hs) (ent M))):=by unfold pq;rw[List.map_reverse]
structure Uk (C:Addr)(Z:Addr->Prop)(H:Hp)(hs:LH)(M:LA)(n m Kn:Nat)(k0 dn:List Tr)(as:LK)(ks:List Tr)(ps:LL):Prop where
 at':jA C Z H hs M (n+m) as ks ps
 mid:IK n m (cQ hs) (ent M) Kn k0 dn ks.reverse ps.reverse
theorem Uk.bn {n:Nat}{l dn:List Tr}{ks:List Tr}(A:Uk C Z H hs M n m Kn l dn as ks ps)(T:n+m<=12)(hb:∀q,q<n+m->∀v,v<n+m->(ent M q v).natAbs<=2^72){t:Tr}(I:t.knots<=2^11)(i:Nat)(u:Tr)(hi:i<=ks.length)(g:u=t\/u∈ks)(q:Nat)(J:q<n+m):M11.Bn 400000 (pq hs M (n+m) (ks.take i) (ps.take i) u q):=by
 have j:=rg A.mid.free A.mid.lt A.mid.alk (by lia);rw[dy]at j;have U:(ks.take i).reverse=ks.reverse.drop (ks.length-i):=List.reverse_take;have ep:(ps.take i).reverse=ps.reverse.drop (ks.length-i):=by rw[List.reverse_take,A.at'.lp]
 rw[u9,U,ep];refine No T hb (by rw[zI];exact A.mid.free.drop _) (λp hp=>A.mid.lt p (List.mem_of_mem_drop hp)) (A.mid.bk.drop _) (by rw[fF,dy];lia) ?_ J;rcases g with rfl|g;exact I;have:=(A.mid.bk.all u (hV.mpr g)).1;rw[dy]at this;have h2:2^ks.length<=2^11:=dh (by decide) (by lia);lia
theorem jA.push {ks:List Tr}(A:jA C Z H hs M N as ks ps)(c:sT S H H')(J:∀a∈as,¬S a)(T:∀b,S b->(∃C dx fs,H b=some (.ins C dx fs))\/ ¬Z b){b:Addr}{t:Tr}{p:Nat}(Sb:uq C Z H' b t (cO hs M N t) (mJ hs M N ks ps t))(hp:RC (mJ hs M N ks ps t)=some p):jA C Z H' hs M N (as++[b]) (ks++[t]) (ps++[p]):=by
 refine⟨by rw[ah,ah,A.la];rfl,by rw[ah,ah,A.lp];rfl,λi a u r h1 h2 g=>?_,λi hi=>?_⟩;rcases ox h1 with h1|⟨e1,rfl⟩;have l:=cw h1;rw[aN (by rw[<-A.la];exact l)]at h2;rw[aN (by rw[A.lp,<-A.la];exact l)]at g;rw[dJ (by rw[<-A.la];lia),dJ (by rw[A.lp,<-A.la];lia)];obtain⟨g1,g2⟩:=A.sp i a u r h1 h2 g;exact⟨g1.chg c (J a (af h1)) T,g2⟩;subst e1;rw[A.la,aE (av _),iW]at h2;rw[A.la,<-A.lp,aE (av _),iW]at g;cases h2;cases g;rw[A.la,List.take_left,<-A.lp,List.take_left];exact⟨Sb,hp⟩;by_cases h:i<=ks.length;rw[dJ h,dJ (by rw[A.lp];exact h)];exact A.fr i h;rw[ah]at hi;have e:i=ks.length+1:=by simp only[aH,kj]at hi;lia
 rw[di (by rw[ah];simp;lia),di (by rw[ah,A.lp];simp;lia),a0,cZ,cZ];have I:=A.fr ks.length (av _);rw[ce,show ps.take ks.length=ps by rw[<-A.lp];exact ce]at I;obtain⟨z,hz,j⟩:=y9 hp;obtain⟨_,U⟩:=ip hz;rw[U]at j;exact .cons _ p I j
inductive Ap (C:Addr)(vs:LI)(H:Hp)(Q:VK):Prop|mk (Z:Addr->Prop) (j l:Addr) (as bs:LK) (ks S:List Tr) (ps:LL) (hs:LH) (M:LA) (n m Kn:Nat) (_:vs=[.ref j,.ref l]) (_:H j=some (.lst (as.map V.ref))) (_:H l=some (.lst (bs.map V.ref))) (_:Uk C Z H hs M n m Kn ks.reverse [] as ks ps) (_:n0 C Z H bs S (cO hs M (n+m))) (_:¬Z j) (_:(∀x,H x=none->Z x)) (_:j≠l) (_:bs.Nodup) (_:(∀b∈bs,b∉as)) (_:n+m<=12) (_:0<n+m) (_:(∀q,q<n+m->∀v,v<n+m->(ent M q v).natAbs<=2^72)) (_:MP n m (cQ hs) (ent M) Kn ks.reverse S) (_:(∀t∈S,gq n m (Tr.val (n+m) (cQ hs) (ent M) t)=0)) (_:S.length<64) (_:∀g I p H',sT (λb=>b=j\/b∈bs) H H'->(∀x,H' x=none->H x=none)->H' j=some (.lst (g.map V.ref))->Uk C Z H' hs M n m Kn ks.reverse S g I p->(∀a∈g,a∈as\/a∈bs)->Q .non H'):Ap C vs H Q
def JC (C:Addr):Sp:=λvs H Q _=>Ap C vs H Q
abbrev Tj:LM:=["kept","sprouts","sprout"]
theorem JQ:bv Tj ["kept","sprouts"] (aw EV):={}
theorem jA.chg {ks:List Tr}(A:jA C Z H hs M N as ks ps)(c:sT S H H')(j:∀a∈as,¬S a)(l:∀b,S b->(∃C dx fs,H b=some (.ins C dx fs))\/ ¬Z b):jA C Z H' hs M N as ks ps:=
 ⟨A.la,A.lp,λi a t p h1 h2 g=>⟨(A.sp i a t p h1 h2 g).1.chg c (j a (af h1)) l,(A.sp i a t p h1 h2 g).2⟩,A.fr⟩
theorem K2 {α:Type}{l:List α}(nd:l.Nodup){x:α}(h:l[i]?=some x):x∉l.take i:=λz=>by obtain⟨j,g⟩:=aU.mp z;rw[List.getElem?_take]at g;split at g;rename_i lt;have:=(DJ (by have:=cw h;lia) nd).mp (g.trans h.symm);lia;cases g
theorem NX (B:zE mg)(T:zD K C)(F:Fun K "keep_free_ones" "keep_free_ones" EV f fd)(GR:Cl P w K mg base "rest_behind" uW ["row","kept"] 41 (Js C))(GF:Cl P w K mg base "first_place_not_nought" pV ["row"] 1 (yo K)):cW P w K mg base gK 42 f fd ["kept","sprouts"] (JC C):=by
 refine F.q JQ λH vs _ hr h=>?_;obtain⟨Z,U,sl,as,bs,ks,S,ps,hs,M,n,m,Kn,rfl,hkl,hsl,A0,Sp,nZ,hZ,nks,nd,dis,hN,hN0,hb,hS,al,lS,q⟩:=h;have ins0:∀b∈bs,∃C dx fs,H b=some (.ins C dx fs):=λb hb=>by obtain⟨i,hi⟩:=aU.mp hb;obtain⟨t,ht⟩:=bA (l:=S) (i:=i) (by rw[<-Sp.len];exact cw hi);obtain⟨r,h⟩:=Sp.at' i b t hi ht;obtain⟨dx,p,l,ys,ra,sa,h1,_⟩:=h.ex;exact⟨_,_,_,h1⟩
 have slN:¬(sl=U\/sl∈bs):=λz=>by rcases z with z|z;exact nks z.symm;obtain⟨C',dx',fs',e⟩:=ins0 sl z;rw[hsl]at e;cases e
 refine⟨_,aC (eQ PassesOwn.never rfl (cK (pv 1)) (l9 2 JQ.nd)
  (am (sj (pv 2) (bH GR hr rfl (ac (im (pv 2) rfl) (ac (pv 0) aj))) rfl)
  (aC (dX (bV NI (bH GF (hr.mono (by decide)) rfl (ac (im (pv 2) rfl) aj)) jO (bO _)) (aC (g0 (mO bX dr dq ir (pv 0) (ac (pv 2) aj)))) cE)))),?_⟩
 refine⟨_,rfl,sl,rfl,⟨_,bW.of hsl⟩,gi (K:=K) (xs:=bs.map V.ref) (λi σ H'=>∃(o2:LU) (g:LK) (J:List Tr) (I:LL),σ=[some (.ref U),some (.ref sl),o2]/\sT (λb=>b=U\/b∈bs) H H'/\(∀x,H' x=none->H x=none)/\H' U=some (.lst (g.map V.ref))/\Uk C Z H' hs M n m Kn ks.reverse (S.take i) g J I/\(∀a∈g,a∈as\/a∈bs.take i)/\∀(j:Nat) (b:Addr) (t:Tr),i<=j->bs[j]?=some b->S[j]?=some t->∃r,uq C Z H' b t (cO hs M (n+m) t) r) ⟨none,as,ks,ps,rfl,λb o _ e=>e,λx e=>e,hkl,?_,λa h=>.inl h,λj b t _ h1 h2=>Sp.at' j b t h1 h2⟩ (λi σ H' _ ⟨_,_,_,_,_,c1,_⟩=>bW.of (c1 _ _ slN hsl)) ?_ ?_⟩;rw[eE];exact A0;rintro i x σ H1 hx ⟨o2,g,J,I,rfl,c1,n1,hk1,A1,sub,rem⟩;obtain⟨b,hbi,rfl⟩:=bJ hx;obtain⟨t,ht⟩:=bA (l:=S) (i:=i) (by rw[<-Sp.len];exact cw hbi);have bm:b∈bs:=af hbi;have tm:t∈S:=af ht;obtain⟨r0,Sb⟩:=rem i b t (av _) hbi ht;obtain⟨dx,p,l,ys,ra,sa,h1,h2,h3,h4,h5,h6,z1,z2,z3,z4⟩:=Sb.ex;have kt:t.knots<=2^11:=by have lr:=rg A0.mid.free A0.mid.lt A0.mid.alk hN0;have:=hS.le t tm;rw[dy]at lr this;have h2:2^ks.length<=2^11:=dh (by decide) (by lia);lia
 have nab:∀a∈g,a≠b:=λa ha z=>by subst z;rcases sub a ha with h|h;exact dis a bm h;exact K2 nd hbi h
 refine⟨_,rfl,b,C,dx,_,_,rfl,h1,T.cl,T.rw,rfl,_,rfl,Z,ra,U,g,J,I,t,hs,M,n+m,rfl,h5,hk1,A1.at',hN,λj u hj hu q' hq'=>A1.bn hN hb kt j u hj hu q' hq',λD H2 s2 nD eD=>?_⟩;refine⟨_,rfl,b,C,dx,_,rfl,s2 _ _ h1,T.cl,T.rs,(by show 5<1000;decide),?_⟩;have Db:D≠b:=λz=>by rw[z,s2 _ _ h1]at eD;cases eD
 have e3:L2.upd H2 b (.ins C dx (we (.ref p) t.knots t.deep ra D)) D=some (.lst ((mJ hs M (n+m) J I t).map V.int)):=by rw[aW Db];exact eD
 have c3:sT (λx=>x=b) H1 (L2.upd H2 b (.ins C dx (we (.ref p) t.knots t.deep ra D))):=λx o nx e=>by rw[aW nx];exact s2 _ _ e
 have n3:∀x,L2.upd H2 b (.ins C dx (we (.ref p) t.knots t.deep ra D)) x=none->H1 x=none:=λx e=>by by_cases z:x=b;subst z;rw[au]at e;cases e;rw[aW z]at e;exact s2.free e
 have eb3:L2.upd H2 b (.ins C dx (we (.ref p) t.knots t.deep ra D)) b=some (.ins C dx (we (.ref p) t.knots t.deep ra D)):=au;refine⟨_,rfl,b,C,dx,_,_,rfl,eb3,T.cl,T.rs,rfl,D,mJ hs M (n+m) J I t,rfl,bW.of e3,by rw[kS];lia,λH4 s4=>⟨rfl,_,rfl,?_⟩⟩;have c4:sT (λx=>x=b) H1 H4:=λx o nx e=>s4 _ _ (c3 x o nx e);have n4:∀x,H4 x=none->H1 x=none:=λx e=>n3 x (s4.free e);have i4:∀x,x=b->(∃C dx fs,H1 x=some (.ins C dx fs))\/ ¬Z x:=λx z=>.inl ⟨C,dx,we (.ref p) t.knots t.deep ra sa,by rw[z];exact h1⟩;have klb:U≠b:=λz=>by rw[z,h1]at hk1;cases hk1
 have hk4:H4 U=some (.lst (g.map V.ref)):=c4 _ _ klb hk1;have ZD:Z D:=nD.elim (λz=>by rw[z];exact z3) λz=>hZ D (n1 D z);have nb:∀{x:Addr} {o:HO},Z x->H1 x=some o->(∀C dx fs,o≠.ins C dx fs)->x≠b:=λzx e no=>qg i4 zx e no;have S4:uq C Z H4 b t (cO hs M (n+m) t) (mJ hs M (n+m) J I t):=⟨dx,p,l,ys,ra,D,s4 _ _ eb3,c4 _ _ (nb z1 h2 λ_ _ _ z=>by cases z) h2,c4 _ _ (nb z2 h3 λ_ _ _ z=>by cases z) h3,h4.chg c4 i4,c4 _ _ (nb z3 h5 λ_ _ _ z=>by cases z) h5,s4 _ _ e3,z1,z2,z3,ZD⟩;have cc:sT (λb=>b=U\/b∈bs) H H4:=λx o nx e=>c4 x o (λz=>nx (.inr (by rw[z];exact bm))) (c1 x o nx e);have rem4:∀(j:Nat) (b':Addr) (t':Tr),i+1<=j->bs[j]?=some b'->S[j]?=some t'->∃r,uq C Z H4 b' t' (cO hs M (n+m) t') r:=λj b' t' hj e1 e2=>by obtain⟨r,h⟩:=rem j b' t' (by lia) e1 e2;refine⟨r,h.chg c4 (λz=>?_) i4⟩;have z':b'=b:=z;rw[z']at e1;have:=(DJ (cw hbi) nd).mp (hbi.trans e1.symm);lia
 have ts:S.take (i+1)=S.take i++[t]:=cU ht;have bt:bs.take (i+1)=bs.take i++[b]:=cU hbi;cases hf:RC (mJ hs M (n+m) J I t)with
 |none=>
  have ev:P5 (mJ hs M (n+m) J I t)=.non:=by unfold P5;rw[hf]
  rw[ev];refine gu ⟨_,g,J,I,rfl,cc,λx e=>n1 x (n4 x e),hk4,⟨A1.at'.chg c4 (λa ha z=>nab a ha z) i4,?_⟩,λa ha=>(sub a ha).imp_right λh=>by rw[bt];exact cB _ h,rem4⟩;rw[ts];refine A1.mid.skip λq' hq'=>?_;rw[<-u9];exact ON hf _ (aV.mpr ⟨q',bc.mpr hq',rfl⟩)
 |some p'=>
  have ev:P5 (mJ hs M (n+m) J I t)=.int (p':Int):=by unfold P5;rw[hf]
  rw[ev];obtain⟨z,hz,z0⟩:=y9 hf;obtain⟨pN,ez⟩:=ip hz;have la:g.length<=12:=by have lr:=rg A1.mid.free A1.mid.lt A1.mid.alk hN0;rw[dy]at lr;rw[A1.at'.la];lia
  refine iV ⟨_,rfl,.inl ⟨rfl,_,bW.of hk4⟩,_,rfl,U,_,_,rfl,rfl,hk4,cq (by rw[aa];lia),?_⟩;have c5:sT (λx=>x=U) H4 (L2.upd H4 U (.lst (g.map V.ref++[.ref b]))):=λx o nx e=>by rw[aW nx];exact e
  have i5:∀x,x=U->(∃C dx fs,H4 x=some (.ins C dx fs))\/ ¬Z x:=λx z=>.inr (by rw[z];exact nZ);have n5:∀x,L2.upd H4 U (.lst (g.map V.ref++[.ref b])) x=none->H4 x=none:=λx e=>by by_cases z:x=U;subst z;rw[au]at e;cases e;rw[aW z]at e;exact e
  have c15:sT (λx=>x=U\/x=b) H1 (L2.upd H4 U (.lst (g.map V.ref++[.ref b]))):=λx o nx e=>c5 x o (λz=>nx (.inl z)) (c4 x o (λz=>nx (.inr z)) e);have nk:∀a∈g,a≠U:=λa ha z=>by obtain⟨j,hj⟩:=aU.mp ha;obtain⟨u,hu⟩:=bA (l:=J) (i:=j) (by rw[<-A1.at'.la];exact cw hj);obtain⟨r,hr⟩:=bA (l:=I) (i:=j) (by rw[A1.at'.lp,<-A1.at'.la];exact cw hj);obtain⟨dx',_,_,_,_,_,e',_⟩:=(A1.at'.sp j a u r hj hu hr).1.ex;rw[z,hk1]at e';cases e'
  refine⟨_,g++[b],J++[t],I++[p'],rfl,λx o nx e=>c5 x o (λz=>nx (.inl z)) (cc x o nx e),λx e=>n1 x (n4 x (n5 x e)),by rw[au,a0];rfl,⟨?_,?_⟩,λa ha=>?_,λj b' t' hj e1 e2=>?_⟩;refine A1.at'.push c15 (λa ha z=>z.elim (nk a ha) (nab a ha)) (λx z=>z.elim (λz=>.inr (by rw[z];exact nZ)) λz=>.inl ⟨C,dx,we (.ref p) t.knots t.deep ra sa,by rw[z];exact h1⟩) (S4.chg c5 (λz=>klb z.symm) i5) hf;rw[ts,cZ,cZ];refine A1.mid.push pN ?_ (al t tm) (hS.kn t tm) (hS.dp t tm) (hS.le t tm);rw[<-u9,<-ez];exact z0;rcases be.mp ha with ha|ha;exact(sub a ha).imp_right λh=>by rw[bt];exact cB _ h
  rw[aX.mp ha];exact .inr (by rw[bt];exact bM _ aM);obtain⟨r,h⟩:=rem4 j b' t' hj e1 e2;refine⟨r,h.chg c5 (λz=>?_) i5⟩;obtain⟨dx',_,_,_,_,_,e',_⟩:=h.ex;have z':b'=U:=z;rw[z',hk4]at e';cases e'
 rintro σ H1 ⟨o2,g,J,I,rfl,c1,n1,hk1,A1,sub,rem⟩;rw[aa,Sp.len,ce]at A1;refine q g J I H1 c1 n1 hk1 A1 λa ha=>(sub a ha).imp_right λh=>jC h
structure Vt (C:Addr)(Z:Addr->Prop)(H H':Hp)(row:Tr->LH)(sl:Addr)(bs:LK)(S:List Tr):Prop where
 free:H sl=none
 at':H' sl=some (.lst (bs.map V.ref))
 sp:n0 C Z H' bs S row
 nd:bs.Nodup
 nw:∀b∈bs,H b=none
def nW (ws:LH):List Tr:=.nd none []::ws.map λc=>.nd (some c) []
inductive wJ (C:Addr)(vs:LI)(H:Hp)(Q:VK):Prop|mk (Z:Addr->Prop) (j:Addr) (hs:LH) (M:LA) (N:Nat) (_:vs=[.ref j]) (_:H j=some (.lst (hs.map V.int))) (_:hs.length=N) (_:N<=12) (_:(∀z∈hs,0<=z/\z<=3)) (_:(∀x,H x=none->Z x)) (_:∀g bs (ws:LH) H',Same H H'->Vt C Z H H' (cO hs M N) g bs (nW ws)->ws.Nodup->(∀c∈ws,c∈hs)->(∀c∈hs,c∈ws)->ws.length<=4->Q (.ref g) H'):wJ C vs H Q
def Ep (C:Addr):Sp:=λvs H Q _=>wJ C vs H Q
structure Vq (Tb:Hp->Prop)(Pt:Addr):Prop where
 keep:∀H H',Tb H->(∀b o,(b=Pt\/ ∃φ,o=.ext φ)->H b=some o->H' b=some o)->Tb H'
 at':∀H,Tb H->∃tb,H Pt=some (.tbl tb)
inductive wO (C:Addr)(Pt:Addr)(Tb:Hp->Prop)(vs:LI)(H:Hp)(Q:VK):Prop|mk (Z:Addr->Prop) (j wA:Addr) (as:LK) (ks:List Tr) (Kn N:Nat) (hs:LH) (M:LA) (_:vs=[.ref j,.int (Kn:Int),.ref wA]) (_:H j=some (.lst (as.map V.ref))) (_:n0 C Z H as ks (cO hs M N)) (_:M1 H wA N hs M) (_:Tb H) (_:(∀x,H x=none->Z x)) (_:¬Z Pt) (_:(∀t∈ks,t.knots<=4096)) (_:ks.length<=12) (_:uh (md ks) (md ks) Kn<64) (_:∀g bs S H',sT (λb=>b=Pt) H H'->(∀x,H' x=none->H x=none)->Tb H'->Vt C Z H H' (cO hs M N) g bs S->(∀t∈S,∃s∈ks,∃b∈ks,t=s.with b/\s.knots+b.knots=Kn)->(∀s∈ks,∀b∈ks,s.knots+b.knots=Kn->s.with b∈S)->S.length=uh (md ks) (md ks) Kn->Q (.ref g) H'):wO C Pt Tb vs H Q
def Eu (C Pt:Addr)(Tb:Hp->Prop):Sp:=λvs H Q _=>wO C Pt Tb vs H Q
theorem Hg {a b:LL}(h:a.Perm b):a.sum=b.sum:=by induction h with|nil=>rfl|cons x _ g=>rw[dG,dG,g]|swap x y l=>simp only[dG];lia|trans _ _ i j=>exact i.trans j
theorem E8 (ks:List Tr)(k:Nat):uh (md ks.reverse) (md ks.reverse) k=uh (md ks) (md ks) k:=by
 have p:(md ks.reverse).Perm (md ks):=(List.reverse_perm ks).map _;unfold uh;have e:(λa=>(md ks.reverse).countP λb=>decide (a+b=k))=λa=>(md ks).countP λb=>decide (a+b=k):=by funext a;exact p.countP_eq _
 rw[e];exact Hg (p.map _)
theorem Cn {n:Nat}{ks S:List Tr}(bk:Bk ks.reverse)(j:2<=Kn)(h1:∀t∈S,∃s∈ks,∃b∈ks,t=s.with b/\s.knots+b.knots=Kn)(h2:∀s∈ks,∀b∈ks,s.knots+b.knots=Kn->s.with b∈S):MP n m U W Kn ks.reverse S:=by have bd:∀t∈ks,2*t.knots<=2^ks.reverse.length/\t.deep<=ks.reverse.length:=λt g=>bk.all t (hV.mpr g);refine⟨λt g=>?_,λt g=>?_,λt g=>?_,λe=>by lia,λs hs b hb e=>?_⟩;obtain⟨s,hs,b,hb,rfl,e⟩:=h1 t g;rw[pO,e];obtain⟨s,hs,b,hb,rfl,e⟩:=h1 t g;have:=(bd s hs).2;have:=(bd b hb).2;rw[wp];lia;obtain⟨s,hs,b,hb,rfl,e⟩:=h1 t g;have:=(bd s hs).1;have:=(bd b hb).1;rw[pO];lia;refine⟨s.with b,h2 s (hV.mp hs) b (hV.mp hb) e,?_⟩;obtain⟨wi,bs⟩:=s;exact oo wi bs b
theorem Gn {n:Nat}(hl:hs.length=n+m)(j:∀c∈hs,c∈ws):MP n m (cQ hs) W 1 [] (nW ws):=by
 have lf:∀t∈nW ws,∃w,t=.nd w []:=λt g=>by cases g with|head=>exact⟨_,rfl⟩|tail _ g=>obtain⟨c,_,rfl⟩:=aV.mp g;exact⟨_,rfl⟩
 refine⟨λt g=>?_,λt g=>?_,λt g=>?_,λ_ w=>?_,λs hs=>nomatch hs⟩;obtain⟨w,rfl⟩:=lf t g;rfl;obtain⟨w,rfl⟩:=lf t g;exact av _;obtain⟨w,rfl⟩:=lf t g;exact av _;cases w with
 |none=>exact .inl ⟨_,aM,λq _=>rfl⟩
 |some c=>
  by_cases h:c∈ws;exact .inl ⟨.nd (some c) [],aB _ (aV.mpr ⟨c,h,rfl⟩),λq _=>rfl⟩;refine .inr λq p=>?_;show(if cQ hs q=c then(1:Int)else 0)*1=0;obtain⟨z,hz⟩:=bA (l:=hs) (i:=q) (by lia);have e:cQ hs q=z:=by show hs[q]?.getD 0=z;rw[hz];rfl
  rw[if_neg λy=>h (by rw[<-y,e];exact j z (af hz))];rfl
inductive Gd:Tr->Prop
 |nd {w:Option Int} {bs:List Tr}:(∀c,w=some c->0<=c)->(∀b∈bs,Gd b)->Gd (.nd w bs)
theorem Gd.wi {w:Option Int}{bs:List Tr}(h:Gd (.nd w bs)):∀c,w=some c->0<=c:=by cases h with|nd a b=>exact a
theorem Gd.bo {w:Option Int}{bs:List Tr}(h:Gd (.nd w bs)):∀b∈bs,Gd b:=by cases h with|nd a b=>exact b
theorem Gd.with {s b:Tr}(h:Gd s)(h':Gd b):Gd (s.with b):=by obtain⟨w,bs⟩:=s;refine .nd h.wi λx g=>?_;rcases be.mp g with g|g;exact h.bo x g;rw[aX.mp g];exact h'
theorem OM (h:∀c∈ws,0<=c):∀t∈nW ws,Gd t:=λt g=>by cases g with|head=>exact .nd (λ_ z=>by cases z) λ_ z=>by cases z|tail _ g=>obtain⟨c,j,rfl⟩:=aV.mp g;exact .nd (λ_ z=>by cases z;exact h c j) λ_ z=>by cases z
theorem sE (ws:LH):(nW ws).length=1+ws.length:=by show(ws.map _).length+1=_;rw[aa];lia
def Vm (n m:Nat)(hs:LH)(M:LA)(bs:LK)(S:List Tr)(g:V):Prop:=
 (g=.non/\∀t∈S,gq n m (Tr.val (n+m) (cQ hs) (ent M) t)=0)\/ ∃(i:Nat) (a:Addr) (t:Tr),g=.ref a/\bs[i]?=some a/\S[i]?=some t/\gq n m (Tr.val (n+m) (cQ hs) (ent M) t)≠0
structure V2 (C Pt kl:Addr)(Tb:Hp->Prop)(B0 H':Hp)(n m:Nat)(hs:LH)(M:LA)(d Kn:Nat)(as:LK)(ks:List Tr)(ps:LL)(sl:Addr)(bs:LK)(S:List Tr)(uv:V):Prop where
 k1:1<=Kn
 chg:sT (λb=>b=kl\/b=Pt) B0 H'
 nod:∀x,H' x=none->B0 x=none
 tb:Tb H'
 hk:H' kl=some (.lst (as.map V.ref))
 sr:k4 n m (cQ hs) (ent M) Kn ks.reverse ps.reverse
 ka:jA C (λx=>B0 x=none) H' hs M (n+m) as ks ps
 ct:M0 d Kn ks.reverse
 hl:H' sl=some (.lst (bs.map V.ref))
 sp:n0 C (λx=>B0 x=none) H' bs S (cO hs M (n+m))
 ne:kl≠sl
 bz:∀b∈bs,B0 b=none
 nd:bs.Nodup
 ds:∀b∈bs,b∉as
 st:MP n m (cQ hs) (ent M) Kn ks.reverse S
 l2:2<=Kn->S.length=uh (md ks.reverse) (md ks.reverse) Kn
 l1:Kn=1->S.length<=1+d
 lt:S.length<64
 un:Vm n m hs M bs S uv
 gk:∀t∈ks,Gd t
 gs:∀t∈S,Gd t
inductive wF (Pt:Addr)(Tb:Hp->Prop)(vs:LI)(H:Hp)(Q:VK):Prop|mk (wA g:Addr) (n m:Nat) (hs hs':LH) (M M':LA) (_:vs=[.ref wA,.ref g]) (_:Wz H wA n hs M) (_:Wz H g m hs' M') (_:n<=6) (_:m<=6) (_:Tb H) (_:(∀(ls:LH) (H':Hp),sT (λb=>b=Pt) H H'->(∀x,H' x=none->H x=none)->Tb H'->fW (hs++hs') (dN n m M M') ls->(ls.take n).Perm (ls.drop n)->Q .non H')) (_:∀(ls:LH) (v:V) (t:Tr) (H':Hp),sT (λb=>b=Pt) H H'->(∀x,H' x=none->H x=none)->Tb H'->fW (hs++hs') (dN n m M M') ls->¬(ls.take n).Perm (ls.drop n)->jy (Nw H) H' v t->Gd t->t.deep<=12->t.knots<=4096->(cO hs M n t).sum≠(cO hs' M' m t).sum->Q v H'):wF Pt Tb vs H Q
def Ek (Pt:Addr)(Tb:Hp->Prop):Sp:=λvs H Q _=>wF Pt Tb vs H Q
abbrev Q0:LM:=["web","other","both","kept","knots","sprouts","unlike"]
theorem kx:bv Q0 ["web","other"] (aw yy):={}
theorem yj {n:Nat}(S:iY n M):∀x∈M,x.length=n:=λx g=>by obtain⟨i,hi⟩:=aU.mp g;exact(S.row i x hi).1
theorem KH (TT:Vq Tb Pt)(B:zE mg)(T:zD K C)(F:Fun K "parting_tree" "parting_tree" yy f fd)(GA:Cl P w K mg base "part_alike" yB ["web","other"] 5 Ez)(GS:Cl P w K mg base "side_by_side" qS ["web","other"] 1 Cp)(GL:Cl P w K mg base "leaf_sprouts" rS ["hues"] 42 (Ep C))(GU:Cl P w K mg base "first_unlike" ub ["sprouts","ahead"] 1 (Aa C))(GK:Cl P w K mg base "keep_free_ones" EV ["kept","sprouts"] 42 (JC C))(GG:Cl P w K mg base "grown_sprouts" ni ["kept","knots","weights"] 42 (Eu C Pt Tb))(GC:Cl P w K mg base "copied" oY ["tree"] 14 (JH K 13)):cW P w K mg base gK 43 f fd ["web","other"] (Ek Pt Tb):=by
 refine F.o kx λcdv A outer s H vs Q E hr h=>?_;obtain⟨wA,oA,n,m,hs,hs',M,M',rfl,W1,W2,hn,hm,t0,q0,q1⟩:=h;refine⟨_,am (dX (jK (bH GA (hr.mono (by decide)) rfl (ac (pv 0) (ac (pv 1) aj)))) (aC (bw jO)) cE)
  (am (fk 2 kx.nd (bH GS (hr.mono (by decide)) rfl (ac (pv 0) (ac (pv 1) aj))))
  (am (fk 3 kx.nd (dC aj))
  (am (fk 4 kx.nd ar)
  (am (fk 5 kx.nd (bH GL hr rfl (ac (bf bL (pv 2) ar) aj)))
  (iX (fk 6 kx.nd (bH GU (hr.mono (by decide)) rfl (ac (pv 5) (ac (bE bQ (by rfl) B.len bu (ac (bf bL (pv 0) ar) aj)) aj))))
  (am (oF PassesOwn.never (bV yO (pv 6) jO (bO _))
   (am (g0 (bH GK hr rfl (ac (pv 3) (ac (pv 5) aj))))
   (am (QD (i:=4) kx.nd rfl (Or.inl rfl) ar Rv)
   (am (fk 5 kx.nd (bH GG hr rfl (ac (pv 3) (ac (pv 4) (ac (bf bL (pv 2) ar) aj)))))
   (aC (fk 6 kx.nd (bH GU (hr.mono (by decide)) rfl (ac (pv 5) (ac (bE bQ (by rfl) B.len bu (ac (bf bL (pv 0) ar) aj)) aj)))))))))
  (aC (bw (bH GC (hr.mono (by decide)) rfl (ac (im (pv 6) rfl) aj)))))))))),?_⟩
 show let ω1:TS:=_;let ω2:TS:=bN _ ω1;let ω3:TS:=rG _ ω2;let ω4:TS:=bN _ ω3;let ω5:TS:=bN _ ω4;let ω6:TS:=bN _ ω5;let ω7:TS:=bN _ ω6;let ω8:TS:=_;bN (gL _ ω8 _) ω7 _ _ _;intro ω1 ω2 ω3 ω4 ω5 ω6 ω7 ω8;obtain⟨tb0,ePt⟩:=TT.at' H t0;refine⟨_,rfl,_,rfl,wA,oA,n,m,hs,hs',M,M',rfl,W1,W2,by lia,by lia,λr ls H1 s1 Co iff=>⟨r,rfl,?_⟩⟩;have t1:Tb H1:=TT.keep H H1 t0 λ_ o _ e=>s1 _ _ e;cases r with
 |true=>exact iV (q0 ls H1 (λb o _ e=>s1 _ _ e) (λx e=>s1.free e) t1 Co (iff.mp rfl))
 |false=>
  have na:¬(ls.take n).Perm (ls.drop n):=λz=>by have:=iff.mpr z;cases this
  refine gu ?_;refine⟨_,rfl,_,rfl,wA,oA,n,m,hs,hs',M,M',rfl,(W1.same s1).wr,(W2.same s1).wr,W1.len,W2.len,W1.sq,W2.sq,by lia,by lia,λpS H2 s2 WN2=>?_⟩;obtain⟨hA,rA,rs,b1,b2,b3,RR,bn,_⟩:=WN2.ex;refine⟨bp _,λI hkl=>?_⟩;obtain⟨g,qw,s3,ekl⟩:=nw (.lst []) hkl;rw[qw];clear qw;have s03:Same H g:=s1.trans (s2.trans s3);have lu:(hs++hs').length=n+m:=by rw[ah,W1.len,W2.len]
  have lM:=zn (n:=n) (m:=m) W1.sq.len W2.sq.len;have rM:=BV (n:=n) (m:=m) W1.sq W2.sq;have ex:=Cs lu lM rM Co na;have hN0:0<n+m:=by refine Nat.pos_of_ne_zero λz=>na ?_;have:ls=[]:=iR (by rw[<-Co.len,lu,z]);subst this;simp
  have hbd:∀q,q<n+m->∀v,v<n+m->(ent (dN n m M M') q v).natAbs<=2^72:=λq hq v _=>OT W1.sq W2.sq hq;have tB:Tb g:=TT.keep H g t0 λ_ o _ e=>s03 _ _ e;have hue3:∀z∈hs++hs',0<=z/\z<=3:=λz hz=>(be.mp hz).elim (W1.hb z) (W2.hb z);have stay:∀{H':Hp},sT (λb=>b=I\/b=Pt) g H'->∀{x:Addr} {o:HO},g x=some o->(∀tb,o≠.tbl tb)->x≠I->H' x=some o:=λ{H'} c {x o} e nt nk=>c x o (λz=>z.elim nk λz=>by rw[z,s03 _ _ ePt]at e;cases e;exact nt _ rfl) e;obtain⟨hA1,rA1,rs1,w1,w2,w3,R1⟩:=W1.wr.ex;have s02:=s1.trans s2;have old:∀{x:Addr} {o:HO},H2 x=some o->x≠I:=λe=>aI e hkl;have toH:∀{H':Hp},sT (λb=>b=I\/b=Pt) g H'->(∀x,H' x=none->g x=none)->sT (λb=>b=Pt) H H'/\∀x,H' x=none->H x=none:=λ{H'} c nn=>⟨λb o nb e=>c b o (λz=>z.elim (old (s02 _ _ e)) nb) (s03 _ _ e),λx e=>s03.free (nn x e)⟩;have lenW:∀{H':Hp},sT (λb=>b=I\/b=Pt) g H'->H' wA=some (.tup [.ref hA1,.ref rA1])/\H' hA1=some (.lst (hs.map V.int)):=λ{H'} c=>⟨stay c (s03 _ _ w1) (λ_ z=>by cases z) (old (s02 _ _ w1)),stay c (s03 _ _ w2) (λ_ z=>by cases z) (old (s02 _ _ w2))⟩;have bothW:∀{H':Hp},sT (λb=>b=I\/b=Pt) g H'->H' pS=some (.tup [.ref hA,.ref rA]):=λ{H'} c=>stay c (s3 _ _ b1) (λ_ z=>by cases z) (old b1);have bth:∀{H':Hp},sT (λb=>b=I\/b=Pt) g H'->M1 H' rA (n+m) (hs++hs') (dN n m M M'):=λ{H'} c=>⟨⟨rs,stay c (s3 _ _ b3) (λ_ z=>by cases z) (old b3),by rw[kX];exact RR.len,λi r x h1 h2=>by obtain⟨y,hy,rfl⟩:=bJ h2;have e:=RR.row i r y h1 hy;exact stay c (s3 _ _ e) (λ_ z=>by cases z) (old e)⟩,lu,lM,rM,by lia,hbd⟩;refine⟨_,rfl,pS,_,_,_,rfl,rfl,dH.of (s3 _ _ b1),rfl,(λx=>g x=none),hA,hs++hs',dN n m M M',n+m,rfl,s3 _ _ b2,lu,by lia,hue3,(λx e=>e),λsl bs ws H4 s4 Nw4 wnd wi wo w4=>?_⟩;have c4:sT (λb=>b=I\/b=Pt) g H4:=λb o _ e=>s4 _ _ e;have hws:∀c∈ws,∃q,q<n+m/\cQ (hs++hs') q=c:=λc hc=>by obtain⟨i,hi⟩:=aU.mp (wi c hc);exact⟨i,by have:=cw hi;rw[lu]at this;exact this,by show(hs++hs')[i]?.getD 0=c;rw[hi];rfl⟩
  let Wl:Nat->L2.St->Hp->Prop:=λmm σ H'=>∃(Kn:Nat) (as:LK) (ks:List Tr) (ps:LL) (sl:Addr) (bs:LK) (S:List Tr) (uv:V),σ=[some (.ref wA),some (.ref oA),some (.ref pS),some (.ref I),some (.int (Kn:Int)),some (.ref sl),some uv]/\mm=5000-Kn/\V2 C Pt I Tb g H' n m (hs++hs') (dN n m M M') ws.length Kn as ks ps sl bs S uv;refine⟨Wl 4999,?_,?_⟩;have beg:∀(uv:V) (H5:Hp),Same H4 H5->Vm n m (hs++hs') (dN n m M M') bs (nW ws) uv->Wl 4999 [some (.ref wA),some (.ref oA),some (.ref pS),some (.ref I),some (.int 1),some (.ref sl),some uv] H5:=λuv H5 s5 hu=>
   ⟨1,[],[],[],sl,bs,nW ws,uv,rfl,rfl,⟨av _,λb o _ e=>s5 _ _ (s4 _ _ e),λx e=>s4.free (s5.free e),TT.keep g H5 tB λ_ o _ e=>s5 _ _ (s4 _ _ e),s5 _ _ (s4 _ _ ekl),.start,⟨rfl,rfl,(λi a t p h=>by cases h),λi hi=>by rw[List.take_nil,List.take_nil];exact .nil⟩,.start _,s5 _ _ Nw4.at',Nw4.sp.mono s5,(λz=>by have e:=Nw4.free;rw[<-z,ekl]at e;cases e),Nw4.nw,Nw4.nd,(λb _ z=>by cases z),Gn lu wo,(λz=>absurd z (by lia)),(λ_=>DH (sE ws)),by rw[sE];lia,hu,(λ_ z=>by cases z),OM λc hc=>(hue3 c (wi c hc)).1⟩⟩
  obtain⟨y1,y2⟩:=lenW c4;refine⟨_,rfl,_,rfl,wA,_,_,_,rfl,rfl,dH.of y1,rfl,hA1,_,rfl,.inl (bW.of y2),?_⟩;rw[aa,W1.len];refine⟨(λx=>g x=none),sl,bs,nW ws,n,m,hs++hs',dN n m M M',rfl,Nw4.at',Nw4.sp,by lia,λH5 s5 al=>beg .non H5 s5 (.inl ⟨rfl,al⟩),λH5 i a t s5 ha ht ne=>beg (.ref a) H5 s5 (.inr ⟨i,a,t,rfl,ha,ht,ne⟩)⟩;intro σ H5 hW;refine⟨Wl,⟨_,hW⟩,?_⟩;rintro mm σ H6 ⟨Kn,as,ks,ps,sl,bs,S,uv,rfl,rfl,L⟩;have kb:=L.sr.near ex;have ll:=rg L.sr.free L.sr.lt L.sr.alk hN0;rw[dy]at kb ll;have p11:2^ks.length<=2^11:=dh (by decide) (by lia);have e11:(2:Nat)^11=2048:=by decide
  refine⟨_,rfl,rfl,_,rfl,?_⟩;rcases L.un with⟨rfl,al⟩|⟨i,a,t,rfl,ha,ht,hne⟩;refine iV ⟨_,λσ' H' z=>z,?_⟩;obtain⟨x1,x2⟩:=toH L.chg L.nod;have nPt:g Pt≠none:=λz=>by rw[s03 _ _ ePt]at z;cases z
  have nkl:g I≠none:=λz=>by rw[ekl]at z;cases z
  have klPt:I≠Pt:=λz=>by rw[z,s03 _ _ ePt]at ekl;cases ekl
  have n11:n+m<=12:=by lia
  refine⟨_,rfl,_,rfl,(λx=>g x=none),I,sl,as,bs,ks,S,ps,hs++hs',dN n m M M',n,m,Kn,rfl,L.hk,L.hl,⟨L.ka,L.sr.mid⟩,L.sp,nkl,L.nod,L.ne,L.nd,L.ds,n11,hN0,hbd,L.st,al,L.lt,λas' j ps' H7 c7 nn7 hk7 J sub7=>?_⟩;have sr7:=IK.done L.sr L.st L.k1 J.mid;have ct7:=M0.next L.ct L.sr J.mid L.l2 L.l1;have few:=M0.few sr7 ct7 n11 hN0 wnd hws w4;rw[E8]at few;have chg7:sT (λb=>b=I\/b=Pt) g H7:=λb o nb e=>c7 b o (λz=>z.elim (λz=>nb (.inl z)) λz=>by rw[L.bz b z]at e;cases e) (L.chg b o nb e);have nod7:∀x,H7 x=none->g x=none:=λx e=>L.nod x (nn7 x e);have ePt6:∀b o,(b=Pt\/ ∃φ,o=.ext φ)->H6 b=some o->H7 b=some o:=λb o hb e=>c7 b o (λz=>by rcases hb with rfl|⟨φ,rfl⟩;exact z.elim (λz=>klPt z.symm) λz=>nPt (L.bz _ z);rcases z with rfl|z;rw[L.hk]at e;cases e;obtain⟨i,hi⟩:=aU.mp z;have hil:=cw hi;obtain⟨r,Sa⟩:=L.sp.at' i b _ hi (aq (by rw[<-L.sp.len];exact hil));obtain⟨dx,p,l,ys,ra,sa,h1,_⟩:=Sa.ex;rw[h1]at e;cases e) e;have t7:Tb H7:=TT.keep H6 H7 L.tb ePt6;have l7:=rg sr7.free sr7.lt sr7.alk hN0;rw[dy]at l7;have ec:((Kn:Int)+1)=((Kn+1:Nat):Int):=rfl;have insA:∀{H':Hp},jA C (λx=>g x=none) H' (hs++hs') (dN n m M M') (n+m) as' j ps'->∀a∈as',∃dx fs,H' a=some (.ins C dx fs):=λ{H'} A a ha=>by obtain⟨i,hi⟩:=aU.mp ha;have hil:=cw hi;obtain⟨sa,_⟩:=A.sp i a _ _ hi (aq (by rw[<-A.la];exact hil)) (aq (by rw[A.lp,<-A.la];exact hil));obtain⟨dx,p,l,ys,ra,sa,h1,_⟩:=sa.ex;exact⟨dx,_,h1⟩
  have Sp7:n0 C (λx=>g x=none) H7 as' j (cO (hs++hs') (dN n m M M') (n+m)):=⟨J.at'.la,λi a t h1 h2=>by have hil:=cw h2;exact⟨_,(J.at'.sp i a t _ h1 h2 (aq (by rw[J.at'.lp];exact hil))).1⟩⟩;obtain⟨tb7,ePt7⟩:=TT.at' H7 t7;have kn7:∀t∈j,t.knots<=4096:=λt ht=>by have:=sr7.kn t (hV.mpr ht);lia
  refine⟨_,rfl,_,_,rfl,rfl,⟨_,rfl,_,rfl,_,rfl,pS,_,_,_,rfl,rfl,dH.of (bothW chg7),rfl,(λx=>g x=none),I,rA,as',j,Kn+1,n+m,hs++hs',dN n m M M',rfl,hk7,Sp7,bth chg7,t7,nod7,nPt,kn7,by lia,few,λsl8 bs8 S8 H8 c8 nn8 t8 Nw8 g1 g2 g3=>?_⟩⟩;have chg8:sT (λb=>b=I\/b=Pt) g H8:=λb o nb e=>c8 b o (λz=>nb (.inr z)) (chg7 b o nb e);have nod8:∀x,H8 x=none->g x=none:=λx e=>nod7 x (nn8 x e);have hk8:H8 I=some (.lst (as'.map V.ref)):=c8 _ _ klPt hk7;have ka8:jA C (λx=>g x=none) H8 (hs++hs') (dN n m M M') (n+m) as' j ps':=J.at'.chg c8 (λa ha z=>by obtain⟨dx,fs,e⟩:=insA J.at' a ha;rw[z,ePt7]at e;cases e) (λb z=>.inr (by rw[z];exact nPt));have ln8:S8.length=uh (md j.reverse) (md j.reverse) (Kn+1):=by rw[E8];exact g3
  have gk7:∀t∈j,Gd t:=λt ht=>(J.mid.fr t (hV.mpr ht)).elim (λz=>L.gk t (hV.mp z)) (L.gs t);have gs8:∀t∈S8,Gd t:=λt ht=>by obtain⟨s,hs,b,hb,rfl,_⟩:=g1 t ht;exact(gk7 s hs).with (gk7 b hb)
  have st8:=Cn (n:=n) (m:=m) (U:=cQ (hs++hs')) (W:=ent (dN n m M M')) sr7.bk (by have:=L.k1;lia) g1 g2;have nx:∀(uv:V) (H9:Hp),Same H8 H9->Vm n m (hs++hs') (dN n m M M') bs8 S8 uv->∃m',m'<5000-Kn/\Wl m' [some (.ref wA),some (.ref oA),some (.ref pS),some (.ref I),some (.int ((Kn+1:Nat):Int)),some (.ref sl8),some uv] H9:=λuv H9 s9 hu=>
   ⟨5000-(Kn+1),by lia,Kn+1,as',j,ps',sl8,bs8,S8,uv,rfl,rfl,⟨by lia,λb o nb e=>s9 _ _ (chg8 b o nb e),λx e=>nod8 x (s9.free e),TT.keep H8 H9 t8 λ_ o _ e=>s9 _ _ e,s9 _ _ hk8,sr7,ka8.mono s9,ct7,s9 _ _ Nw8.at',Nw8.sp.mono s9,(λz=>by have e:=Nw8.free;rw[<-z,hk7]at e;cases e),(λb hb=>nod7 b (Nw8.nw b hb)),Nw8.nd,(λb hb hb'=>by obtain⟨dx,fs,e⟩:=insA J.at' b hb';rw[Nw8.nw b hb]at e;cases e),st8,(λ_=>ln8),(λz=>by have:=L.k1;lia),by rw[g3];exact few,hu,gk7,gs8⟩⟩
  obtain⟨y1,y2⟩:=lenW chg8;refine⟨_,rfl,_,rfl,wA,_,_,_,rfl,rfl,dH.of y1,rfl,hA1,_,rfl,.inl (bW.of y2),?_⟩;rw[aa,W1.len];refine⟨(λx=>g x=none),sl8,bs8,S8,n,m,hs++hs',dN n m M M',rfl,Nw8.at',Nw8.sp,by lia,λH9 s9 al=>nx .non H9 s9 (.inl ⟨rfl,al⟩),λH9 i a t s9 ha ht ne=>nx (.ref a) H9 s9 (.inr ⟨i,a,t,rfl,ha,ht,ne⟩)⟩;refine gu ?_;obtain⟨r,Sa⟩:=L.sp.at' i a t ha ht;obtain⟨dx,p,l,ys,ra,sa,h1,h2,h3,h4,h5,h6,z1,z2,z3,z4⟩:=Sa.ex;have tm:t∈S:=af ht;have td:=L.st.dp t tm;have tk:=L.st.le t tm;rw[dy]at td tk;refine⟨_,rfl,a,C,dx,_,_,rfl,h1,T.cl,T.tr,rfl,.ref p,t,rfl,(uq.tree z1 z2 h2 h3 h4).da,by lia,by lia,λu H7 s7 d7=>?_⟩;obtain⟨x1,x2⟩:=toH L.chg L.nod;refine q1 ls u t H7 (λb o nb e=>s7 _ _ (x1 b o nb e)) (λx e=>x2 x (s7.free e)) (TT.keep H6 H7 L.tb λ_ o _ e=>s7 _ _ e) Co na (d7.weak λx hx _=>x2 x hx) (L.gs t tm) (by lia) (by lia) ?_;rw[Je W1.len W1.sq.len (yj W1.sq) W2.sq.len]at hne;lia
end
section
variable {prog:Program}{w:World}{A:Around}{E:LP}{s:Shared}
structure Hu where
 a:Option Tok
 b:Option Tok
 c:Option Tok
 d:Option Tok
def HW (z:Int):Option Tok->List (Int×Value)
 |none=>[]
 |some t=>[(z,.int z t)]
def Uw (z:Nat):Option Tok->LL
 |none=>[]
 |some _=>[z]
def Hu.es (u:Hu):Array (Int×Value):=(HW 0 u.a++HW 1 u.b++HW 2 u.c++HW 3 u.d).toArray
def Hu.pl (u:Hu):Array Nat:=(Uw 0 u.a++Uw 1 u.b++Uw 2 u.c++Uw 3 u.d).toArray
def Hu.tb (u:Hu)(fg mv:Nat)(led:Bool):SetTable:={mask:=7,place:=u.pl,dummies:=#[],finger:=fg,led:=led,moves:=mv,plain:=true}
def Hu.ob (u:Hu)(ep fg mv:Nat)(led:Bool):Obj:={cls:=.type "set",dict:=none,data:=.set u.es ep (u.tb fg mv led)}
def Hu.add (u:Hu)(z:Nat)(t:Tok):Hu:=match z with
 |0=>{u with a:=u.a.orElse λ_=>some t}
 |1=>{u with b:=u.b.orElse λ_=>some t}
 |2=>{u with c:=u.c.orElse λ_=>some t}
 |_=>{u with d:=u.d.orElse λ_=>some t}
def Hu.has (u:Hu)(z:Nat):Bool:=match z with
 |0=>u.a.isSome
 |1=>u.b.isSome
 |2=>u.c.isSome
 |_=>u.d.isSome
theorem Hu.fits (u:Hu)(fg mv:Nat)(led:Bool):(u.tb fg mv led).fits u.es.size=true:=by obtain⟨a,b,c,d⟩:=u;cases a<;>cases b<;>cases c<;>cases d<;>rfl
theorem Hu.lay (u:Hu)(fg mv:Nat)(led:Bool){z:Nat}(hz:z<4)(t:Tok)(h:u.has z=false):layNew (u.tb fg mv led) u.es (z:Int) (.int z t)=((u.add z t).es,(u.add z t).tb fg mv led,false,false):=by
 obtain⟨a,b,c,d⟩:=u;have:z=0\/z=1\/z=2\/z=3:=by lia
 rcases this with rfl|rfl|rfl|rfl<;>cases a<;>cases b<;>cases c<;>cases d<;>first|(cases h;done)|kernel_rfl
theorem Hu.full (u:Hu)(fg mv:Nat)(led:Bool):(u.tb fg mv led).tooFull=false:=by obtain⟨a,b,c,d⟩:=u;cases a<;>cases b<;>cases c<;>cases d<;>rfl
theorem Hu.old (u:Hu){z:Nat}(t:Tok)(h:u.has z=true):u.add z t=u:=by obtain⟨a,b,c,d⟩:=u;unfold Hu.has at h;unfold Hu.add;split at h<;>simp_all[iH]<;>(obtain⟨x,rfl⟩:=h;rfl)
theorem Hu.elems (u:Hu):ElemsOf (intKind prog w) u.es.toList:=by
 obtain⟨a,b,c,d⟩:=u;have one:∀(z:Nat),z<4->∀o,ElemsOf (intKind prog w) (HW (z:Int) o):=λz hz o=>by
  cases o with
  |none=>exactλe g=>nomatch g
  |some t=>
   intro e g;cases aX.mp g;refine⟨⟨(z:Int),intKind_is _ _ _ _,?_⟩,rfl⟩;have:z=0\/z=1\/z=2\/z=3:=by lia
   rcases this with rfl|rfl|rfl|rfl<;>rfl
 intro e g;rcases be.mp g with g|g;rcases be.mp g with g|g;rcases be.mp g with g|g;exact one 0 (by decide) a e g;exact one 1 (by decide) b e g;exact one 2 (by decide) c e g;exact one 3 (by decide) d e g
theorem Hu.small (u:Hu):u.es.size<=4:=by obtain⟨a,b,c,d⟩:=u;cases a<;>cases b<;>cases c<;>cases d<;>exact Nat.le_of_ble_eq_true rfl
theorem Hu.find (u:Hu){z:Nat}(hz:z<4):(u.es.toList.findIdx? λe=>(intKind prog w).is (z:Int) e.2).isSome=u.has z:=by
 obtain⟨a,b,c,d⟩:=u;have:z=0\/z=1\/z=2\/z=3:=by lia
 rcases this with rfl|rfl|rfl|rfl<;>cases a<;>cases b<;>cases c<;>cases d<;>rfl
theorem RA {u:Hu}{z:Nat}{t:Tok}{Q:Bool->Shared->Prop}(l:s.heap.get? a=some (u.ob ep fg mv led))(hz:z<4)(h:∀h' C,Heap.SameBut a s.heap h'->h'.get? a=some ((u.add z t).ob C fg mv led)->Q (!u.has z) {s with heap:=h'}):wpAny (model prog w) A (setAddHashed a (.int z t) (z:Int)) Q E s:=by
 have J:=u.fits fg mv led;have T:=u.small;have hb:u.es.size<scanBound:=by unfold scanBound;lia
 have hk:(intKind prog w).hash (z:Int)=(z:Int):=by
  have:z=0\/z=1\/z=2\/z=3:=by lia
  rcases this with rfl|rfl|rfl|rfl<;>rfl
 unfold setAddHashed setAddHashedIn;refine dE (ae (qt l rfl J ?_));dsimp only;rw[byScan_of (knd:=intKind prog w) rfl hb u.elems];simp only[↓reduceIte];unfold setAddByScan;refine ae (ae (mq (ae ?_)));have sc:=λQ'=>wpAny_setScan_of (knd:=intKind prog w) (A:=A) (E:=E) (s:=s) (x:=.int z t) (adding:=true) (Q:=Q') (intKind_is _ _ _ _) l rfl J u.elems;rw[hk]at sc;refine sc _ ?_;have g:=u.find (prog:=prog) (w:=w) hz;cases I:List.findIdx? (λe=>(intKind prog w).is (z:Int) e.2) u.es.toList with
 |some j=>rw[I]at g;have p:u.has z=true:=g.symm;dsimp only;refine ak (ak ?_);have q:=h s.heap ep (Heap.SameBut.refl a s.heap) (by rw[u.old t p];exact l);rw[p]at q;exact q
 |none=>
  rw[I]at g;have p:u.has z=false:=g.symm;dsimp only;rw[u.lay fg mv led hz t p];dsimp only;refine ae (ak ?_);have hp:((u.add z t).tb fg mv led).plain=true:=rfl;rw[hp];simp only[↓reduceIte];refine ae ?_;rw[hashByValue_scannable 8 rfl];refine ak ?_;simp only[plainKind,↓reduceIte];have hsz:(u.add z t).es.size<=sizeLine:=by have:=(u.add z t).small;rw[sizeLine_eq];lia
  refine ae (wpAny_storeSet_of l rfl ?_ hsz);rw[(u.add z t).full fg mv led];simp only[Bool.and_false,ck,↓reduceIte];refine ak (ak ?_);have U:=ik (Obj.putSet (u.add z t).es ((u.add z t).tb fg mv led)) l rfl;have q:=h _ (ep+1) (Heap.SameBut.update s.heap a (Obj.putSet (u.add z t).es ((u.add z t).tb fg mv led))) U;rw[p]at q;exact q
end
section
open PySem PySem.Spec
theorem Hu.has_add (u:Hu){y z:Nat}(g:y<4)(hz:z<4)(t:Tok):(u.add z t).has y=(u.has y||decide (y=z)):=by
 obtain⟨a,b,c,d⟩:=u;have h1:y=0\/y=1\/y=2\/y=3:=by lia
 have h2:z=0\/z=1\/z=2\/z=3:=by lia
 rcases h1 with rfl|rfl|rfl|rfl<;>rcases h2 with rfl|rfl|rfl|rfl<;>cases a<;>cases b<;>cases c<;>cases d<;>rfl
def Hu.upto (u:Hu)(val:Nat->Nat)(i:Nat):Prop:=∀z,z<4->(u.has z=true↔∃j,j<i/\val j=z)
theorem Hu.upto_zero (val:Nat->Nat):Hu.upto ⟨none,none,none,none⟩ val 0:=λz _=>by
 have no:Hu.has ⟨none,none,none,none⟩ z=false:=by unfold Hu.has;split<;>rfl
 rw[no];exact⟨λh=>(nomatch h),λ⟨j,g,_⟩=>absurd g (Nat.not_lt_zero _)⟩
theorem Hu.upto.next {u:Hu}{val:Nat->Nat}(h:u.upto val i)(g:val i<4)(t:Tok):(u.add (val i) t).upto val (i+1):=λz hz=>by rw[u.has_add hz g t,ur,gH,h z hz];constructor;rintro(⟨j,l,e⟩|e);exact⟨j,by lia,e⟩;exact⟨i,by lia,e.symm⟩;rintro⟨j,l,e⟩;by_cases c:j=i;subst c;exact .inr e.symm;exact .inl ⟨j,by lia,e⟩
variable {prog:Program}{w:World}{A:Around}{R:Result->Shared->Prop}{I:Addr}{fp wr:LK}{G:Array GenState->Array GenState->Prop}{n:Nat}{P:Nat->Value->Prop}{St:Nat->Shared->Prop}
theorem OE (W:WalksS prog w A.in1 I fp wr G n P St)(S:Addr)(C:S∉fp)(val:Nat->Nat)(hv:∀i v,P i v->val i<4/\∃t,v=.int (val i:Int) t):
  ∀(k i:Nat) (s:Shared) (u:Hu) (ep:Nat),n-i=k->i<=n->St i s->s.heap.get? S=some (u.ob ep fg mv led)->u.upto val i->
   (∀(s':Shared) (J:Hu) (g:Nat),Moved (S::wr) G s s'->s'.heap.get? S=some (J.ob g fg mv led)->J.upto val n->R (.ok (.ret .none)) s')->codeAny (model prog w) A (.builtin "set.update.loop" ⟨[.ref S,.ref I],[]⟩) R s:=by
 have p:S∉wr:=λh=>C (W.sub _ h);intro k;induction k with
 |zero=>
  intro i s u ep hk hi st hS hu hR;obtain rfl:i=n:=by lia
  refine codeAny_builtin PyProof.Rows.F.entry_set_update_loop ?_;rw[Around.under_plainId PyProof.Rows.F.plain_set_update_loop _];show wpAny _ A.in1 (pyNext (.ref I)>>=_) _ _ s;refine ae (W.done s _ _ st λs' l=>?_);exact ak (hR s' u ep (l.mono λb hb=>aB _ hb) (l.heap S _ p hS) hu)
 |succ k ih=>
  intro i s u ep hk hi st hS hu hR;refine codeAny_builtin PyProof.Rows.F.entry_set_update_loop ?_;rw[Around.under_plainId PyProof.Rows.F.plain_set_update_loop _];show wpAny _ A.in1 (pyNext (.ref I)>>=_) _ _ s;refine ae (W.item i s _ _ (by lia) st λv s' hP T l=>?_);obtain⟨h4,t,rfl⟩:=hv i v hP;have hS':=l.heap S _ p hS;show wpAny _ A.in1 (holding [Value.int (val i:Int) t] (setAdd S (.int (val i:Int) t))>>=_) _ _ s';refine ae (dE ?_);unfold setAdd;refine dE (ae ((intKind prog w).pyHash (k:=(val i:Int)) (intKind_is _ _ _ _) ?_));have hk':(intKind prog w).hash (val i:Int)=(val i:Int):=by
   have:val i=0\/val i=1\/val i=2\/val i=3:=by lia
   rcases this with e|e|e|e<;>rw[e]<;>rfl
  rw[hk'];refine RA (s:={s' with toks:=s'.toks+1}) hS' h4 λh' g j hS2=>?_;refine ak ⟨plainId_quiet PyProof.Rows.F.plain_set_update_loop _,ih (i+1) _ _ g (by lia) (by lia) (W.frame _ s' _ _ T (fY _) λb hb o e=>?_) hS2 (hu.next h4 t) λU J e' hm'' hS'' hu''=>?_⟩;rw[j.2 b λh:b=S=>C (by rw[<-h];exact hb)];exact e;refine hR U J e' (Moved.trans W.gtrans ((l.mono λb hb=>aB _ hb).then_heap (fY _) λb o hb e=>?_) hm'') hS'' hu'';rw[j.2 b λh:b=S=>hb (by rw[h];exact aM)];exact e
end
section
open PySem PySem.Spec
variable {prog:Program}{w:World}{A:Around}{E:LP}{s:Shared}
def pD (w:World):Bool:=!w.params.followText "set-order"
def P4 (w:World):Obj:={cls:=.type "set",dict:=none,data:=.set #[] 0 (.fresh 0 0 (pD w))}
theorem Ry (a:Value)(h:Q₁ (.ref s.heap.objs.size) {s with heap:=s.heap.push (P4 w)}):
  codeAny (model prog w) A (.call (.builtin "set.__new__") ⟨[.type "set",a],[]⟩) (wants Q₁ E) s:=by
 refine codeAny_of_tree ?_;show wpAny _ A.in1 (do checkBuiltinCall "set.__new__" ⟨[.type "set",a],[]⟩;again (.builtin "set.__new__" ⟨[.type "set",a],[]⟩)) _ _ s;refine ae (wpAny_of_eq (F.newCall_set_1 a) (ak ⟨plainId_quiet F.plain_set_new _,codeAny_builtin F.entry_set_new ?_⟩));rw[Around.under_plainId F.plain_set_new _];unfold Builtin.«set.__new__» Builtin.Frozenset.newClass;have hsub:=sub_set_self;obtain⟨hp,g,d,tk,os⟩:=s;dsimp only
 wp_walk
 refine mw (ak ?_);dsimp only;simp only[newObj];refine ae (wpAny_alloc (ak ?_));exact ak h
theorem OI {l:Addr}{val:Nat->Nat}{Q:LP}(hh:A.handled=none)(hl:s.heap.IsList l items)(hv:∀(i:Nat) (v:Value),items[i]?=some v->val i<4/\∃t,v=.int (val i:Int) t)(h:∀(h':Heap) (tk:Nat) (u:Hu) (ep:Nat),h'.get? s.heap.objs.size=some (u.ob ep 0 0 (pD w))->u.upto val items.size->(∀b o,b<s.heap.objs.size->s.heap.get? b=some o->h'.get? b=some o)->Q (.ref s.heap.objs.size) {s with heap:=h',toks:=tk}):
  wpAny (model prog w) A (call (.type "set") [.ref l]) Q E s:=by
 obtain⟨c,tl,hmro⟩:=F.called_set.mro;have hmade:=F.called_set.made;have hsub:=F.called_set.sub;refine wpAny_call (codeAny_of_tree ?_);show wpAny _ _ (callAny (.type "set") _) _ _ _;refine ak ⟨Code.quiet_builtin _ (by decide+kernel),codeAny_builtin F.entry_type_call ?_⟩;rw[Around.under_plain (weight_type_call_type "set" [.ref l] []) rfl];have h1:=F.called_set.notType;have h2:=F.called_set.canCreate;have hct:=F.typeCall_set_1 (.ref l)
 repeat (any_goals (first|assumption|wp_step))
 refine codeAny_mono (Ry (.ref l) (E:=E) (Q₁:=λobj s₁=>obj=.ref s.heap.objs.size/\s₁={s with heap:=s.heap.push (P4 w)}) ⟨rfl,rfl⟩) λr s₁ hr=>?_;cases r with
 |error e=>exact hr
 |ok fl=>
  cases fl with
  |ret obj=>
   obtain⟨rfl,rfl⟩:=hr;have hS:(s.heap.push (P4 w)).get? s.heap.objs.size=some (P4 w):=aQ _ rfl;have hT:Shared.TypeIs {s with heap:=s.heap.push (P4 w)} (.ref s.heap.objs.size) "set":=⟨_,hS,rfl⟩;have hli:=F.called_set.init.lookup;have hbi:=F.called_set.init.bind (.ref s.heap.objs.size)
   repeat (any_goals (first|assumption|wp_step))
   refine codeAny_mono (codeAny_call_builtin (R:=wants (λr j=>r=.none/\∃h' tk u ep,j={s with heap:=h',toks:=tk}/\h'.get? s.heap.objs.size=some (Hu.ob u ep 0 0 (pD w))/\u.upto val items.size/\
     (∀b o,b<s.heap.objs.size->s.heap.get? b=some o->h'.get? b=some o)) E) F.called_set.init.plain F.entry_set_init (check_set_init_1 hT ?_)) λT j g=>?_
   ·obtain⟨ol,U,hcl,nl,hdl⟩:=hl
    obtain⟨ocls,odict,odata,oslots⟩:=ol;simp only at hcl hdl;subst hcl;subst hdl;have hol':(s.heap.push (P4 w)).get? l=some {cls:=.type "list",dict:=odict,data:=.seq items nl,slots:=oslots}:=ai _ U;have hsls:=F.sub_list_set;have hslf:=F.sub_list_frozenset;have hne:(Value.type "list"==Value.type "dict")=false:=by decide
    have C:(s.heap.push (P4 w)).IsList l items:=⟨_,hol',rfl,nl,rfl⟩;unfold P4 at hol' C hS hT ⊢;unfold Builtin.«set.__init__» noKeywords Builtin.Frozenset.updateFrom;generalize hPI:pyIter=PI
    wp_walk
    subst hPI;refine jj C ?_;refine ae (wpAny_runValue ?_);have hlS:l<s.heap.objs.size:=aS U;have hh3:A.in1.in1.in1.handled=none:=by simp[hh]
    refine OE ((Walks.list hh3 _ l (by rw[dj];exact bB (DF hlS)) items).toS) s.heap.objs.size
     (by rw[dj];simp only[bT,sQ,or_false,not_or];exact⟨bB (mX _),dR hlS⟩) val hv (items.size-0) 0 _ ⟨none,none,none,none⟩ 0 rfl (bp _)
     ⟨⟨_,aQ _ rfl,rfl,rfl⟩,(C.push _)⟩ (ai _ hS) (Hu.upto_zero val) ?_
    intro s' u' ep' hm I p;obtain⟨h',g',d',tk',os'⟩:=s';have eg:g'=s.gens:=hm.gens;have ed:d'=s.drawn:=hm.drawn;have eo:os'=s.os:=hm.os;subst eg;subst ed;subst eo;show wpAny _ _ _ _ _ _;refine ak ?_;show wpAny _ _ (ret Value.none) _ _ _;refine ak ⟨rfl,h',tk',u',ep',rfl,I,p,λb o hb e=>?_⟩;refine hm.heap b o ?_ (ai _ (ai _ e));rw[dj];simp only[bT,sQ,or_false,not_or];exact⟨bB hb,bB (DF hb)⟩
   ·cases T with
    |error e=>exact g
    |ok J=>
     cases J with
     |ret r=>
      obtain⟨rfl,h',tk,u,ep,rfl,I,p,hk'⟩:=g
      repeat (any_goals (first|assumption|wp_step))
      exact h _ _ _ _ I p hk'
     |_=>exact g.elim
  |_=>exact hr.elim
end
section
open PySem PySem.Spec
theorem E9 {α:Type}(next:Nat->Nat):∀(f k:Nat) (l:List α) (out:Array α),f=l.length->(pickOrder.go next f k l out).toList.Perm (out.toList++l)
 |0,k,l,out,h=>by have:l=[]:=iR h.symm;subst this;unfold pickOrder.go;rw[iC]
 |f+1,k,l,out,h=>by
  have lt:next k%l.length<l.length:=Nat.mod_lt _ (by lia);unfold pickOrder.go;rw[aq lt];refine(E9 next f (k+1) _ _ (by rw[List.length_eraseIdx_of_lt lt];lia)).trans ?_;rw[Array.toList_push,qA];refine List.Perm.append_left _ ?_;rw[List.eraseIdx_eq_take_drop_succ];have e:l=l.take (next k%l.length)++l[next k%l.length]::l.drop (next k%l.length+1):=by rw[List.getElem_cons_drop,mf]
  refine List.Perm.trans ?_ (List.Perm.of_eq e.symm);exact(List.perm_middle (l₁:=List.take (next k%l.length) l)).symm
theorem Hf {α:Type}(next:Nat->Nat)(xs:Array α):(pickOrder next xs).toList.Perm xs.toList:=E9 next xs.size 0 xs.toList #[] (by rw[fb])
def B2 (w:World)(u:Hu)(a ep:Nat):Array (Int×Value):=if w.params.followText "set-order" then pickOrder (w.params.setOrder a ep) u.es else u.es
theorem vB (w:World)(u:Hu)(a ep:Nat):(B2 w u a ep).toList.Perm u.es.toList:=by unfold B2;split;exact Hf _ _;exact .refl _
theorem rm (w:World)(u:Hu)(a ep:Nat):(B2 w u a ep).size=u.es.size:=by rw[<-fb,(vB w u a ep).length_eq,fb]
def MW (w:World)(u:Hu):Nat->Nat
 |0=>0
 |i+1=>if w.params.followText "set-order" then 0 else u.pl.getD i 0+1
theorem Hu.pl_size (u:Hu):u.pl.size=u.es.size:=by obtain⟨a,b,c,d⟩:=u;cases a<;>cases b<;>cases c<;>cases d<;>rfl
theorem Hu.below (u:Hu):SetTable.below u.pl 0=0/\∀i,i<4->i<u.es.size->SetTable.below u.pl (u.pl.getD i 0+1)=i+1:=by
 obtain⟨a,b,c,d⟩:=u;refine⟨?_,λi g hi=>?_⟩;cases a<;>cases b<;>cases c<;>cases d<;>kernel_rfl;have h:i=0\/i=1\/i=2\/i=3:=by lia
 rcases h with rfl|rfl|rfl|rfl<;>cases a<;>cases b<;>cases c<;>cases d<;>first|exact absurd hi (Nat.not_lt_of_le (Nat.le_of_ble_eq_true rfl))|kernel_rfl
theorem vI:entryFor table "set.__iter__"=some Builtin.«frozenset.__iter__»:=entryFor_alias (id':="frozenset.__iter__") (by kernel_rfl) rfl (by decide+kernel) (by kernel_rfl)
theorem gF:Slot "set_iterator" "__next__" "set_iterator.__next__":=
 .of (owner:="set_iterator") (n:="__next__") (by rw[typeLookup_type,builtinLookup_eq_fast];kernel_rfl) (by decide+kernel) (by decide+kernel) (by decide+kernel)
  (by first|exact .inl (by decide+kernel)|exact .inr (by decide+kernel)) (by rw[isSubtype_type];kernel_rfl)
theorem mW:entryFor table "set_iterator.__next__"=some Builtin.«set_iterator.__next__»:=entryFor_of_tree (by kernel_rfl)
end
section
open PySem PySem.Spec
variable {prog:Program}{w:World}{A:Around}{E:LP}{s:Shared}
theorem tq:Manifest.owners.lookup (String.ofList ['r','o','t','a','r','e','t','i','_','t','e','s'].reverse)=some Manifest.sig_set_iterator:=by kernel_rfl
theorem nX (a:Value):argsOk "set_iterator.__next__" ⟨[a],[]⟩:=by unfold argsOk;rw[signature?_of (id:="set_iterator.__next__") (n:=['_','_','t','x','e','n','_','_']) (o:=['r','o','t','a','r','e','t','i','_','t','e','s']) (by kernel_rfl) tq];kernel_rfl
def Sf (w:World)(u:Hu)(a ep i:Nat):Obj:={cls:=.type "set_iterator",data:=.fields #[.int (MW w u i) 0,.int i 0,.ref a,.int u.es.size 0,.int ep 0]}
theorem OF {u:Hu}{Q:LP}(g:s.heap.get? a=some (u.ob ep fg mv led))(p:Q (.ref s.heap.objs.size) {s with heap:=s.heap.push (Sf w u a ep 0)}):wpAny (model prog w) A (pyIter (.ref a)) Q E s:=by
 have l:s.TypeIs (.ref a) "set":=⟨_,g,rfl⟩;have j:=u.fits fg mv led;refine B6 l F.slot_set_iter (df F.slot_set_iter l vI ?_ (F.args_set_iter_1 _));unfold Builtin.«frozenset.__iter__» Builtin.Frozenset.slot0 slotArgs;simp only[Iz,fj,ck,↓reduceIte,bind_assoc,kj,bne_self_eq_false];unfold Builtin.Frozenset.addrOf Builtin.Frozenset.sizeOf;refine ae (ak ?_)
 try dsimp only
 refine ae (ak ?_);refine ae (ae (yd g rfl j (ak ?_)));unfold setDrawn;refine ae ?_;refine ae (qt g rfl j ?_);dsimp only;unfold setsByText;refine ae (ae (mw (ak ?_)));refine ak ?_;refine fq (λh=>Bool.noConfusion (show false=true from(wn.mp h).2)) (λ_=>?_);refine ae (ak ?_);refine ae (wpAny_setEpoch_of g rfl j ?_);refine ae (fe (ak ⟨_,rfl,"set_iterator",_,⟨_,aQ _ rfl,rfl⟩,gF.lookup,?_⟩));exact p
end
section
open PySem PySem.Spec
variable {prog:Program}{w:World}{A:Around}{E:LP}{s:Shared}
theorem Fz {u:Hu}{Q:Option (Value×Nat)->Shared->Prop}(I:s.heap.get? a=some (u.ob ep fg mv (pD w)))(hi:i<=u.es.size)(l:Q ((B2 w u a ep)[i]?.map λe=>(e.2,MW w u (i+1))) s):wpAny (model prog w) A (setNext a (MW w u i) i ep) Q E s:=by
 have J:=u.fits fg mv (pD w);have T:=u.small;unfold setNext;refine ae (qt I rfl J ?_);dsimp only;unfold setsByText;refine ae (ae (mw (ak ?_)));cases hb:w.params.followText "set-order" with
 |true=>
  have g:(model prog w).w.params.followText "set-order"=true:=hb;have C:B2 w u a ep=pickOrder (w.params.setOrder a ep) u.es:=by unfold B2;rw[if_pos hb]
  have p:∀j,MW w u j=0:=λj=>by cases j with|zero=>rfl|succ j=>show(if w.params.followText "set-order"=true then 0 else u.pl.getD j 0+1)=0;rw[if_pos hb]
  rw[C,p]at l;dsimp only;rw[g,p];simp only[↓reduceIte];refine fq (λh=>absurd h (by simp)) (λ_=>?_);unfold setWalk;refine ae ?_;refine ae (qt I rfl J ?_);dsimp only;unfold setsByText;refine ae (ae (mw (ak ?_)));dsimp only;rw[g];simp only[↓reduceIte];refine ae (mw (ak ?_));exact ak l
 |false=>
  have g:(model prog w).w.params.followText "set-order"=false:=hb;have C:B2 w u a ep=u.es:=by unfold B2;rw[if_neg (by rw[hb];decide)]
  have p:MW w u (i+1)=u.pl.getD i 0+1:=by show(if w.params.followText "set-order"=true then 0 else u.pl.getD i 0+1)=_;rw[if_neg (by rw[hb];decide)]
  rw[C,p]at l;dsimp only;rw[g];simp only[ck,↓reduceIte];refine fq (λh=>Bool.noConfusion (show false=true from h)) (λ_=>?_);refine ae ?_;have hl:(u.tb fg mv (pD w)).led=true:=by show pD w=true;unfold pD;rw[hb];rfl
  show wpAny _ _ (if(!(u.tb fg mv (pD w)).led&& !u.es.isEmpty)=true then unsupported _ else pure ()) _ _ _;refine fq (λh=>absurd h (by rw[hl];simp)) (λ_=>ak ?_);have t:SetTable.below u.pl (MW w u i)=i:=by
   cases i with
   |zero=>exact u.below.1
   |succ j=>
    have e:MW w u (j+1)=u.pl.getD j 0+1:=by show(if w.params.followText "set-order"=true then 0 else u.pl.getD j 0+1)=_;rw[if_neg (by rw[hb];decide)]
    rw[e];exact u.below.2 j (by lia) (by lia)
  show wpAny _ _ (pure (match u.es[SetTable.below u.pl (MW w u i)]?,u.pl[SetTable.below u.pl (MW w u i)]? with
   |some (_,x),some j=>some (x,j+1)
   |_,_=>none)) _ _ _
  rw[t];refine ak ?_;by_cases c:i<u.es.size;rw[cS c,cS (by rw[u.pl_size];exact c)];rw[cS c]at l;have U:u.pl.getD i 0=u.pl[i]'(by rw[u.pl_size];exact c):=by rw[Array.getD_eq_getD_getElem?,cS (by rw[u.pl_size];exact c)];rfl
  rw[U]at l;exact l;rw[lA (by lia)];rw[lA (by lia)]at l;exact l
end
section
open PySem PySem.Spec
variable {prog:Program}{w:World}{A:Around}{E:LP}{s:Shared}
theorem OG {u:Hu}{Q:Option Value->Shared->Prop}(g:s.heap.get? it=some (Sf w u a ep i))(p:s.heap.get? a=some (u.ob ep fg mv (pD w)))(l:(B2 w u a ep)[i]?=some e)(I:∀h',h'.get? it=some (Sf w u a ep (i+1))->Heap.SameBut it s.heap h'->Q (some e.2) {s with heap:=h'}):wpAny (model prog w) A (pyNext (.ref it)) Q E s:=by
 have C:=u.fits fg mv (pD w);have t:s.TypeIs (.ref it) "set_iterator":=⟨_,g,rfl⟩;have hi:i<u.es.size:=by rw[<-rm w u a ep];exact(Array.getElem?_eq_some_iff.mp l).1
 unfold pyNext;refine ae (qD (fD (name:=Str.ofString "__next__") t gF (df gF t mW ?_ (nX _))));unfold Builtin.«set_iterator.__next__» slotArgs;simp only[Iz,fj,ck,↓reduceIte,bind_assoc,kj,bne_self_eq_false];refine ae (ak ?_);dsimp only;refine ae (wpAny_fieldsOf g rfl ?_);dsimp only;refine ae (yd p rfl C ?_);refine fq (λh=>absurd h (by simp)) (λ_=>?_);refine ae (Fz p (cu hi) ?_);have j:(B2 w u a (ep:Int).toNat)[i]?=some e:=l;rw[j];dsimp only[Option.map];refine ae (wpAny_setField g rfl (by show 0<5;decide) ?_);have h1:=ik (Obj.mapFields (·.setIfInBounds 0 (rawInt (MW w u (i+1):Int)))) g rfl;refine ae (wpAny_setField h1 rfl (by show 1<5;decide) ?_);have h2:=ik (Obj.mapFields (·.setIfInBounds 1 (rawInt ((i:Int)+1)))) h1 rfl;exact ak ⟨_,rfl,ak (I _ h2 ((Heap.SameBut.update ..).trans (Heap.SameBut.update ..)))⟩
theorem Rz {u:Hu}{Q:Option Value->Shared->Prop}(t:A.handled=none)(g:s.heap.get? it=some (Sf w u a ep u.es.size))(l:s.heap.get? a=some (u.ob ep fg mv (pD w)))(I:∀h',Heap.ExtBut it s.heap h'->Q none {s with heap:=h'}):wpAny (model prog w) A (pyNext (.ref it)) Q E s:=by have C:=u.fits fg mv (pD w);have p:s.TypeIs (.ref it) "set_iterator":=⟨_,g,rfl⟩;unfold pyNext;refine ae (qD (fD (name:=Str.ofString "__next__") p gF (df gF p mW ?_ (nX _))));unfold Builtin.«set_iterator.__next__» slotArgs;simp only[Iz,fj,ck,↓reduceIte,bind_assoc,kj,bne_self_eq_false];refine ae (ak ?_);dsimp only;refine ae (wpAny_fieldsOf g rfl ?_);dsimp only;refine ae (yd l rfl C ?_);refine fq (λh=>absurd h (by simp)) (λ_=>?_);refine ae (Fz l (av _) ?_);have j:(B2 w u a (ep:Int).toNat)[u.es.size]?=none:=lA (by rw[rm];exact av _);rw[j];dsimp only[Option.map];refine ae (wpAny_setField g rfl (by show 2<5;decide) ?_);refine ae ?_;simp only[newExc,newTuple];refine ae (fe ?_ (by size_fits));refine ae (m:=firstArgMember _ _) (wpAny_of_eq (a:=Value.none) (by first|rfl|(simp only[firstArgMember];rfl)) ?_);refine fe ?_ (by size_fits);simp only[raiseNew];refine ae (wpAny_handled ?_);rw[show A.in1.handled=none from t];refine ae (ak (wpAny_throw ?_));refine ae (iM (T:="StopIteration") (b:=true) ⟨_,aQ _ rfl,rfl⟩ isSubtype_stop ?_);exact ak (I _ (((Heap.SameBut.update ..).extBut.push _).push _))
theorem nQ:Slot "set_iterator" "__iter__" "set_iterator.__iter__":=
 .of (owner:="set_iterator") (n:="__iter__") (by rw[typeLookup_type,builtinLookup_eq_fast];kernel_rfl) (by decide+kernel) (by decide+kernel) (by decide+kernel)
  (by first|exact .inl (by decide+kernel)|exact .inr (by decide+kernel)) (by rw[isSubtype_type];kernel_rfl)
theorem sK:entryFor table "set_iterator.__iter__"=some Builtin.«dict_keyiterator.__iter__»:=entryFor_alias (id':="dict_keyiterator.__iter__") (by kernel_rfl) rfl (by decide+kernel) (by kernel_rfl)
theorem tO (a:Value):argsOk "set_iterator.__iter__" ⟨[a],[]⟩:=by unfold argsOk;rw[signature?_of (id:="set_iterator.__iter__") (n:=['_','_','r','e','t','i','_','_']) (o:=['r','o','t','a','r','e','t','i','_','t','e','s']) (by kernel_rfl) tq];kernel_rfl
theorem OD {u:Hu}{Q:LP}(g:s.heap.get? it=some (Sf w u a ep i))(h:Q (.ref it) s):wpAny (model prog w) A (pyIter (.ref it)) Q E s:=by have j:s.TypeIs (.ref it) "set_iterator":=⟨_,g,rfl⟩;refine B6 j nQ (df nQ j sK ?_ (tO _));show wpAny _ _ (ret (.ref it)) _ _ s;exact ak ⟨_,rfl,"set_iterator",_,j,gF.lookup,h⟩
theorem Md (t:A.handled=none)(I a:Addr)(l:a≠I)(u:Hu)(ep fg mv:Nat):Walks prog w A I [I,a] [I] u.es.size (λi v=>∃z,(B2 w u a ep)[i]?=some (z,v)) (λi h=>h.get? I=some (Sf w u a ep i)/\h.get? a=some (u.ob ep fg mv (pD w)))where
 sub:=λb hb=>by simp at hb;simp[hb]
 frame:=λ_ _ _ st hk=>⟨hk I (by simp) _ st.1,hk a (by simp) _ st.2⟩
 item:=λi s Q E hi st j=>by
  have g:i<(B2 w u a ep).size:=by rw[rm];exact hi
  refine OG st.1 st.2 (cS g) λh' hit' hs'=>?_;exact j _ h' s.toks ⟨_,cS g⟩ ⟨hit',by rw[hs'.2 a l];exact st.2⟩ λb o hb e=>hs'.extBut b o (λh=>hb (by simp[h])) e
 done:=λs Q E st j=>Rz t st.1 st.2 λh' p=>j h' s.toks λb o hb e=>p b o (λh=>hb (by simp[h])) e
 self:=λ_ _ _ _ st j=>OD st.1 j
end
section
open PySem PySem.Spec PySem.W
variable {prog:Program}{w:World}{A:Around}{E:LP}{s:Shared}{r:Addr}
theorem OH {Q:Bool->Shared->Prop}(l:s.TypeIs (.ref r) "set")(h:Q false s):wpAny (model prog w) A (Builtin.List.listLengthHint (.ref r)) Q E s:=by
 unfold Builtin.List.listLengthHint;refine ae (iq l PySem.F.slot_set_len.lookup ?_);generalize MX:("set.__len__":String)=j
 wp_delta
 rw[show splitId j=some ("set","__len__")from by subst MX;decide+kernel];subst MX;refine ae (iM (T:="set") (b:=true) l (by rw[isSubtype_type];kernel_rfl) ?_);refine fq (λg=>absurd g (by decide)) (λ_=>?_);refine fq (λ_=>?_) (λg=>absurd (by decide+kernel) g);refine ae (om l ?_);exact ak h
theorem Rx (u:Hu)(ep fg mv:Nat):KdlSrc prog w "set" r r u.es.size (λi v=>∃z,(B2 w u r ep)[i]?=some (z,v)) (λh=>h.get? r=some (u.ob ep fg mv (pD w)))where
 type:=λ_ g=>⟨_,g,rfl⟩
 there:=λ_ g=>⟨aS g,aS g⟩
 keep:=λ_ _ g hk=>hk r (.inl rfl) _ g
 notList:=by decide
 notTuple:=by decide
 hint:=λ_ _ _ _ g j=>OH ⟨_,g,rfl⟩ j
 iter:=λ_ s l g=>⟨_,_,(λ_ _ j=>OF g j),Md l _ r (bB (aS g)) u ep fg mv,⟨aQ _ rfl,ai _ g⟩⟩
end
section
open PySem PySem.Spec PySem.W
variable {prog:Program}{w:World}{A:Around}{E:LP}{s:Shared}
def Se (u:Hu):LH:=u.es.toList.map (·.1)
theorem Hu.val_at (u:Hu)(h:e∈u.es.toList):∃t,e.2=.int e.1 t:=by
 obtain⟨a,b,c,d⟩:=u;have one:∀z o,e∈HW z o->∃t,e.2=.int e.1 t:=λz o h=>by cases o with|none=>cases h|some t=>cases aX.mp h;exact⟨t,rfl⟩
 rcases be.mp h with h|h;rcases be.mp h with h|h;rcases be.mp h with h|h;exact one _ _ h;exact one _ _ h;exact one _ _ h;exact one _ _ h
theorem Fu:∀(l:List (Int×Value)),(∀e∈l,∃t,e.2=.int e.1 t)->IntsAre (l.map (·.2)) (l.map (·.1))
 |[],_=>.nil
 |e::l,h=>by obtain⟨t,j⟩:=h e aM;rw[aJ,aJ,j];exact .cons _ t (Fu l λx g=>h x (aB _ g))
theorem HU {u:Hu}{Q:LP}(T:A.handled=none)(C:s.heap.get? a=some (u.ob ep fg mv (pD w)))(h:∀(h':Heap) (tk:Nat) (D:Addr) (c:Nat) (out:LV) (ns:LH),(∀b o,s.heap.get? b=some o->h'.get? b=some o)->a<D->h'.get? D=some (seqObj "list" out c)->IntsAre out.toList ns->ns.Perm (Se u)->ns.Pairwise (·<=·)->Q (.ref D) {s with heap:=h',toks:=tk}):
  wpAny (model prog w) A (call (.builtin "sorted") [.ref a]) Q E s:=by
 refine Calls.call_function_entry kind_sorted plain_sorted entry_sorted (args_sorted1 _) ?_;unfold Builtin.«sorted»;refine ae (m:=checkCount "sorted" 1 1 _) (ak ?_);have J:=u.small;have hz:u.es.size<=sizeLine:=by rw[sizeLine_eq];lia
 refine ae (kdu_collect (A:=A.in1) (Rx u ep fg mv) T C hz λh' tk g hk hacc=>?_);have hl:g.toList.length=u.es.size:=by rw[fb];exact hacc.1
 have eacc:g.toList=(B2 w u a ep).toList.map (·.2):=by refine cJ λj=>?_;by_cases c:j<u.es.size;obtain⟨v,t⟩:∃v,g[j]?=some v:=⟨g[j]'(by have:=hacc.1;lia),cS _⟩;obtain⟨z,e⟩:=hacc.2 j v t;rw[ao,v8,v8,t,e];rfl;rw[aY (by lia),aY (by rw[aa,fb,rm];lia)]
 have hI:IntsAre g.toList ((B2 w u a ep).toList.map (·.1)):=by rw[eacc];exact Fu _ λe U=>u.val_at ((vB w u a ep).mem_iff.mp U)
 refine ae (wpAny_newList ?_ (by rw[hl];exact hz));have l:(h'.push (seqObj "list" g.toList.toArray 0)).get? h'.objs.size=some (seqObj "list" g.toList.toArray 0):=aQ _ rfl;refine ae (dE (df slot_list_sort ⟨_,l,rfl⟩ entry_list_sort (list_sort_tree l hI (by lia) λout p a1 a2 a3=>⟨_,rfl,?_⟩) (args_list_sort _)));obtain⟨c,hD⟩:=L2.sortedHeap_at (vs:=g.toList) (out:=out) l;refine ak ⟨_,rfl,h _ tk h'.objs.size c out p (λb o e=>?_) ?_ hD a1 (a2.trans ((vB w u a ep).map _)) a3⟩;have I:=hk b o e;exact L2.sortedHeap_old (bB (aS I)) (ai _ I);exact aS (hk _ _ C)
end
section
open PySem PySem.Spec PySem.W
variable {X:Cx}
theorem HV (u:Hu):(Se u).Nodup:=by obtain⟨a,b,c,d⟩:=u;cases a<;>cases b<;>cases c<;>cases d<;>(show List.Nodup (_:LH);simp[Se,Hu.es,HW])
theorem OJ (u:Hu)(z:Int):z∈Se u↔∃y:Nat,y<4/\z=(y:Int)/\u.has y=true:=by
 obtain⟨a,b,c,d⟩:=u;have one:∀(y:Nat) (o:Option Tok),z∈(HW (y:Int) o).map (·.1)↔z=(y:Int)/\o.isSome=true:=λy o=>by cases o<;>simp[HW]
 have e:Se ⟨a,b,c,d⟩=(HW 0 a).map (·.1)++(HW 1 b).map (·.1)++(HW 2 c).map (·.1)++(HW 3 d).map (·.1):=by simp[Se,Hu.es]
 rw[e,be,be,be];have p:=one 0 a;have l:=one 1 b;have j:=one 2 c;have g:=one 3 d;constructor;rintro(((h|h)|h)|h);exact⟨0,by decide,p.mp h⟩;exact⟨1,by decide,l.mp h⟩;exact⟨2,by decide,j.mp h⟩;exact⟨3,by decide,g.mp h⟩;rintro⟨y,t,h1,h2⟩;have:y=0\/y=1\/y=2\/y=3:=by lia
 rcases this with rfl|rfl|rfl|rfl;exact .inl (.inl (.inl (p.mpr ⟨h1,h2⟩)));exact .inl (.inl (.inr (l.mpr ⟨h1,h2⟩)));exact .inl (.inr (j.mpr ⟨h1,h2⟩));exact .inr (g.mpr ⟨h1,h2⟩)
inductive Pj (K:LO)(Q:VK)(vs:LI)(H1:Hp):Prop|mk (p:Addr) (ns:LH) (_:vs=[.ref p]) (_:bW K H1 p (ns.map V.int)) (_:(∀z∈ns,0<=z/\z<=3)) (_:∀(l:Addr) (ws:LH),H1 l=none->ws.Nodup->ws.Pairwise (·<=·)->(∀c,c∈ws↔c∈ns)->Q (.ref l) (upd H1 l (.lst (ws.map V.int)))):Pj K Q vs H1
def VR (K:LO)(ta:TA):TE:=λσ H Q=>ta σ H λvs H1=>Pj K Q vs H1
theorem Ip:bootBuiltins "set"=some (.type "set"):=by decide+kernel
theorem yJ {a:Expr}{ta:TA}{p p' pos':Pos}(hc:X.calm=true)(hg:Gl X "set")(hm:X.mg "set"=none)(hg':Gl X "sorted")(hm':X.mg "sorted"=none)(ha:PA X [a] ta)(hs:starEach [a] X.env=(false,eval a X.env)::starEach [] X.env:=by rfl)(hpl:(backTo pos (starEach [] X.env)).any (·.1)=false:=by rfl)(C:starEach [Expr.Call (.Name "set" p) [a] [] pos] X.env=[(false,eval (.Call (.Name "set" p) [a] [] pos) X.env)]:=by rfl):
  PE X (.Call (.Name "sorted" p') [.Call (.Name "set" p) [a] [] pos] [] pos') (VR X.K ta):=by with_unfolding_all
 intro pins s σ H Q I h;refine fw (ke I hg' hm' Mz ?_);refine PyProof.Rows.callWith_builtin1 ?_ C rfl;rw[C];show wpAny _ _ (spliced ((false,eval (.Call (.Name "set" p) [a] [] pos) X.env)::backTo pos' [])) _ _ _;refine Calls.spliced_cons ?_;refine fw (ke I hg hm Ip (du (gm (ha pos pins s σ H _ I h) λus s1 ⟨vs,H1,U,r1,q1⟩=>?_) hs hpl));obtain⟨l,ns,rfl,hx,h3,q⟩:=q1;obtain⟨u0,rfl,rx⟩:=lB r1;cases rx;obtain⟨its,rv,pl,hz⟩:=U.list hx;have hh:X.A.handled=none:=U.ok.hd hc;have hlen:=rv.length;rw[aa]at hlen;have g:∀(i:Nat) (x:Int),ns[i]?=some x->((ns.getD i 0).toNat<4/\x=((ns.getD i 0).toNat:Int)):=λi x hi=>by have b:=h3 x (af hi);rw[ax,hi];show x.toNat<4/\x=(x.toNat:Int);lia
 refine OI (val:=λi=>(ns.getD i 0).toNat) hh pl.isList (λi v e=>?_) λh1 tk1 u ep e1 up k1=>?_;rw[List.getElem?_toArray]at e;obtain⟨x,t,ex,rfl⟩:=L3 rv i v e;obtain⟨b1,J⟩:=g i x ex;exact⟨b1,t,by rw[<-J]⟩;refine Calls.spliced_nil ?_;refine HU (s:={s1 with heap:=h1,toks:=tk1}) hh e1 λh' tk D c out ws k2 lt eD iw pw sw=>?_;have hD:H1 D=none:=U.hok.fresh (cu lt);have hmem:∀z,z∈ws↔z∈ns:=λz=>by
  rw[pw.mem_iff,OJ];rw[aO,<-hlen]at up;constructor;rintro⟨y,hy,rfl,hu⟩;obtain⟨j,T,e⟩:=(up y hy).mp hu;have ej:ns[j]?=some ns[j]:=aq T;obtain⟨_,J⟩:=g j _ ej;have:((y:Nat):Int)=ns[j]:=by rw[J,<-e]
  rw[this];exact af ej;intro hz;obtain⟨j,T⟩:=aU.mp hz;obtain⟨b1,J⟩:=g j z T;exact⟨(ns.getD j 0).toNat,b1,J,(up _ b1).mpr ⟨j,(aZ.mp T).1,rfl⟩⟩
 have small:ws.length<=4:=by rw[pw.length_eq];show(u.es.toList.map (·.1)).length<=4;rw[aa,fb];exact u.small
 refine⟨.ref D,_,U.laid (t':=tk) (λb o z=>k2 b o (k1 b o (aS z) z)) (cu lt) ?_,rfl,q D ws hD (pw.nodup_iff.mpr (HV u)) sw hmem⟩;refine⟨?_,out.toList,c,oU iw,eD⟩;rw[aa];exact cu (cq (by lia))
end
theorem sD (hs:LH)(M:LA)(N:Nat):cO hs M N (.nd none [])=List.replicate N 1:=by refine cJ λi=>?_;unfold cO;by_cases c:i<N;rw[ao,cy c,cz,if_pos c];rfl;rw[aY (by rw[aa,aA];lia),cz,if_neg c]
theorem sC (M:LA)(hl:hs.length=N)(c:Int):cO hs M N (.nd (some c) [])=hs.map λh=>if h=c then 1 else 0:=by
 refine cJ λi=>?_;unfold cO;by_cases ci:i<N;have e:hs[i]?=some (cQ hs i):=by show hs[i]?=some (hs[i]?.getD 0);rw[aq (by lia)];rfl
 rw[ao,cy ci,ao,e];show some (Tr.val N (cQ hs) (ent M) (.nd (some c) []) i)=some (if cQ hs i=c then 1 else 0);congr 1;show(if cQ hs i=c then(1:Int)else 0)*1=_;rw[hE];rw[aY (by rw[aa,aA];lia),aY (by rw[aa];lia)]
section
variable {P:Program}{w:World}{K:LO}{mg:LQ}{base:Heap}
abbrev La:LM:=["hues","leaves","wish"]
theorem yv:bv La ["hues"] (aw rS):={}
def RD (s:Stmt):Expr:=match s with
 | .Expr e _=>e
 |_=>.Name "x" ⟨0,0,0,0⟩
theorem Ow:cn (aw rS) La (cX (oQ (oQ (RD (lU (dM rS 1) 0)) 0) 3)) ["hue"]:={}
theorem uq.weak {t:Tr}{row:LH}(S:uq C Z H a t row iG)(g:∀x,Z x->H x≠none->Z' x):uq C Z' H a t row iG:=by obtain⟨dx,p,l,ys,ra,sa,h1,h2,J,h4,I,j,z1,z2,U,T⟩:=S.ex;exact⟨dx,p,l,ys,ra,sa,h1,h2,J,h4.weak g,I,j,g _ z1 (by rw[h2];exact nofun),g _ z2 (by rw[J];exact nofun),g _ U (by rw[I];exact nofun),g _ T (by rw[j];exact nofun)⟩
theorem n0.weak {ts:List Tr}{row:Tr->LH}(S:n0 C Z H as ts row)(g:∀x,Z x->H x≠none->Z' x):n0 C Z' H as ts row:=⟨S.len,λi a t h1 h2=>let⟨r,h⟩:=S.at' i a t h1 h2;⟨r,h.weak g⟩⟩
structure ID (C:Addr)(Z:Addr->Prop)(H H':Hp)(row:Tr->LH)(lv:Addr)(bs:LK)(S:List Tr):Prop where
 same:Same H H'
 free:H lv=none
 at':H' lv=some (.lst (bs.map V.ref))
 sp:n0 C (λx=>Z x/\x≠lv) H' bs S row
 nd:bs.Nodup
 nw:∀b∈bs,H b=none
theorem ID.new {row:Tr->LH}{bs:LK}{S:List Tr}(G:ID C Z H H' row lv bs S):Vt C Z H H' row lv bs S:=⟨G.free,G.at',G.sp.weak λ_ z _=>z.1,G.nd,G.nw⟩
theorem ID.mono {row:Tr->LH}{bs:LK}{S:List Tr}(G:ID C Z H H' row lv bs S)(s:Same H' H2):ID C Z H H2 row lv bs S:=⟨G.same.trans s,G.free,s _ _ G.at',G.sp.mono s,G.nd,G.nw⟩
theorem n0.ins {ts:List Tr}{row:Tr->LH}(S:n0 C Z H as ts row){b:Addr}(hb:b∈as):∃dx fs,H b=some (.ins C dx fs):=by obtain⟨i,hi⟩:=aU.mp hb;have g:=cw hi;obtain⟨r,j⟩:=S.at' i b _ hi (aq (by rw[<-S.len];exact g));obtain⟨dx,p,l,ys,t,sa,h1,_⟩:=j.ex;exact⟨dx,_,h1⟩
theorem ID.push {row:Tr->LH}{bs:LK}{S:List Tr}(G:ID C Z H H' row lv bs S){c:Addr}{t:Tr}(s:Same H' H2)(g:H' c=none)(Sp:uq C (λx=>Z x/\x≠lv) H2 c t (row t) (row t)):
  ID C Z H (upd H2 lv (.lst ((bs++[c]).map V.ref))) row lv (bs++[c]) (S++[t]):=by
 have G2:=G.mono s;have cl:c≠lv:=λz=>by have:=G.at';rw[<-z,g]at this;cases this
 have chg:sT (λb=>b=lv) H2 (upd H2 lv (.lst ((bs++[c]).map V.ref))):=λb o l e=>by rw[aW l];exact e
 have j:∀b,b=lv->(∃C dx fs,H2 b=some (.ins C dx fs))\/ ¬(Z b/\b≠lv):=λb e=>.inr λz=>z.2 e;refine⟨λb o e=>by rw[aW (aI e G.free)];exact G2.same b o e,G.free,au,⟨by rw[ah,ah,G.sp.len];rfl,λi a t' h1 h2=>?_⟩,?_,λb hb=>?_⟩;by_cases hi:i<bs.length;rw[aN hi]at h1;rw[aN (by rw[<-G.sp.len];exact hi)]at h2;obtain⟨r,I⟩:=G2.sp.at' i a t' h1 h2;exact⟨r,I.chg chg (λz=>by obtain⟨dx,fs,e⟩:=G2.sp.ins (af h1);rw[z,G2.at']at e;cases e) j⟩;rw[aE (by lia)]at h1;rw[aE (by rw[<-G.sp.len];lia),<-G.sp.len]at h2;have hz:i-bs.length=0:=by have:=cw h1;rw[bY]at this;lia
 rw[hz]at h1 h2;cases h1;cases h2;exact⟨_,Sp.chg chg cl j⟩;refine jm.mpr ⟨G.nd,cA.mpr ⟨sQ,fM⟩,λa p b hb z=>?_⟩;rw[aX.mp hb]at z;obtain⟨dx,fs,e⟩:=G.sp.ins p;rw[z,g]at e;cases e;rcases be.mp hb with hb|hb;exact G.nw b hb;rw[aX.mp hb];exact G.same.free g
theorem Bg {c p g y:Addr}{wi:Option Int}{row:LH}(U:H c=some (.ins C p (we (.ref g) 1 1 rA rA)))(T:H g=some (.tup [jX wi,.ref y]))(J:H y=some (.lst []))(l:H rA=some (.lst (row.map V.int)))(I:Z g)(t:Z y)(j:Z rA):uq C Z H c (.nd wi []) row row:=
 ⟨p,g,y,[],rA,rA,U,T,J,.nil,l,l,I,t,j,j⟩
theorem OC (nd:ws.Nodup)(h:∀z∈ws,0<=z/\z<=3):ws.length<=4:=by
 have e:=vm 4 (ws.map Int.toNat) (List.pairwise_map.mpr (nd.imp_of_mem λ{a b} l hb g z=>g (by have:=h a l;have:=h b hb;lia))) λx j=>by obtain⟨z,hz,rfl⟩:=aV.mp j;have:=h z hz;lia
 rw[aa]at e;exact e
theorem Ic (n:Nat):(List.replicate n [V.int 1]).flatten=(List.replicate n (1:Int)).map V.int:=by induction n with|zero=>rfl|succ n g=>rw[cT,dS,g];rfl
theorem KN (B:zE mg)(T:zD K C)(F:Fun K "leaf_sprouts" "leaf_sprouts" rS f fd)(hC:mg "Sprout"=some (.ref C))(MK:Mk K C fI)(bI:pM K fdI oR [])(GI:cW P w K mg base gK 1 fI fdI oR (ym C)):cW P w K mg base gK 42 f fd ["hues"] (Ep C):=by
 refine F.q yv λH vs _ hr h=>?_;obtain⟨Z,hA,hs,M,N,rfl,hH,hN,h12,h3,hz,q⟩:=h;refine⟨_,am (fk 1 yv.nd (dC (ac (yL MK GI (hr.mono (by decide)) rfl hC bI .nil Fe (ac (dm (ac jO (ac (dC aj) aj))) (ac ar (ac ar (ac (bR p7 (dC (ac ar aj)) (bE bQ (by rfl) B.len bu (ac (pv 0) aj))) aj))))) aj)))
  (am (eQ PassesOwn.never rfl (cK (yJ rfl (by rfl) B.set (by rfl) B.sorted (ac (pv 0) aj))) (l9 2 yv.nd)
   (aC (g0 (mO bX dr dq ir (pv 1) (ac (yL MK GI (hr.mono (by decide)) rfl hC bI .nil Fe (ac (dm (ac (pv 2) (ac (dC aj) aj))) (ac ar (ac ar (ac (il rfl Ow rfl (cK (pv 0)) λ_ _ _=>mN (bV gh (pv 3) (pv 2) (bO _)) ar ar) aj))))) aj)))))
  (aC (bw (pv 1)))),?_⟩
 show let ω1:TS:=_;let ω2:TS:=_;let ω3:TS:=bN (i0 _ _ ω2) ω1;bN _ ω3 _ _ _;intro ω1 ω2 ω3;refine⟨bp _,λy hy=>⟨k9,λI p=>⟨F4,λx1 hx1=>?_⟩⟩⟩;have s1:=(Same.upd (o:=.lst []) hy).trans ((Same.upd (o:=.tup [.non,.ref y]) p).trans (Same.upd (o:=.lst [.int 1]) hx1));have ey:L2.upd (L2.upd (L2.upd H y (.lst [])) I (.tup [.non,.ref y])) x1 (.lst [.int 1]) y=some (.lst []):=((Same.upd p).trans (Same.upd hx1)) _ _ au;have et:L2.upd (L2.upd (L2.upd H y (.lst [])) I (.tup [.non,.ref y])) x1 (.lst [.int 1]) I=some (.tup [.non,.ref y]):=(Same.upd hx1) _ _ au;have ex:L2.upd (L2.upd (L2.upd H y (.lst [])) I (.tup [.non,.ref y])) x1 (.lst [.int 1]) x1=some (.lst [.int 1]):=au;have ht0:H I=none:=(Same.upd hy).free p;generalize L2.upd (L2.upd (L2.upd H y (.lst [])) I (.tup [.non,.ref y])) x1 (.lst [.int 1])=H1 at*;refine⟨_,rfl,hA,_,rfl,.inl (bW.of (s1 _ _ hH)),x1,_,_,rfl,rfl,ex,by rw[aa];lia,by rw[aa];lia,?_,λrA l=>?_⟩;rw[aa,bY];exact cu (cq (by lia));have e0:(List.replicate (((List.map V.int hs).length:Nat):Int).toNat [V.int 1]).flatten=(cO hs M N (.nd none [])).map V.int:=by rw[sD,<-Ic,aa,hN];rfl
 rw[e0];have s2:=s1.trans (Same.upd (o:=.lst ((cO hs M N (.nd none [])).map V.int)) l);have ey2:=(Same.upd (o:=.lst ((cO hs M N (.nd none [])).map V.int)) l) _ _ ey;have et2:=(Same.upd (o:=.lst ((cO hs M N (.nd none [])).map V.int)) l) _ _ et;have er2:L2.upd H1 rA (.lst ((cO hs M N (.nd none [])).map V.int)) rA=some (.lst ((cO hs M N (.nd none [])).map V.int)):=au;have hr0:=s1.free l;generalize L2.upd H1 rA (.lst ((cO hs M N (.nd none [])).map V.int))=H2 at*;refineλc cx J hcx hne=>?_;have sc:Same H2 (L2.upd (L2.upd H2 cx (.own c)) c (.ins C cx [])):=λb o e=>by rw[aW (aI e J),aW (aI e hcx)];exact e
 refine⟨c,cx,rA,.ref I,1,1,rfl,au,λH4 b4 e4=>⟨rfl,?_⟩⟩;have s4:Same H2 H4:=λx o e=>b4 x o (aI e J) (sc x o e);refine⟨F4,λlv hlv=>?_⟩;have s5:Same H4 (L2.upd H4 lv (.lst [.ref c])):=Same.upd hlv;have el:L2.upd H4 lv (.lst [.ref c]) lv=some (.lst ([c].map V.ref)):=au;generalize L2.upd H4 lv (.lst [.ref c])=H5 at*;have s04:=s2.trans s4;have lv0:H lv=none:=s04.free hlv;have apart:∀{x:Addr} {o:HO},H4 x=some o->x≠lv:=λe=>aI e hlv;have Sp0:uq C (λx=>Z x/\x≠lv) H5 c (.nd none []) (cO hs M N (.nd none [])) (cO hs M N (.nd none [])):=
  Bg (s5 _ _ e4) (s5 _ _ (s4 _ _ et2)) (s5 _ _ (s4 _ _ ey2)) (s5 _ _ (s4 _ _ er2)) ⟨hz _ ht0,apart (s4 _ _ et2)⟩ ⟨hz _ hy,apart (s4 _ _ ey2)⟩ ⟨hz _ hr0,apart (s4 _ _ er2)⟩
 have G0:ID C Z H H5 (cO hs M N) lv [c] (nW []):=⟨s04.trans s5,lv0,el,⟨rfl,λi a t h1 h2=>by
  have:i=0:=by have:=cw h1;rw[bY]at this;lia
  subst this;cases h1;cases h2;exact⟨_,Sp0⟩⟩,cA.mpr ⟨sQ,fM⟩,λb hb=>by rw[aX.mp hb];exact s2.free J⟩
 refine⟨_,rfl,hA,hs,rfl,bW.of (G0.same _ _ hH),h3,λls ws hls wnd _ wiff=>?_⟩;have s6:Same H5 (L2.upd H5 ls (.lst (ws.map V.int))):=Same.upd hls;have els:L2.upd H5 ls (.lst (ws.map V.int)) ls=some (.lst (ws.map V.int)):=au;generalize L2.upd H5 ls (.lst (ws.map V.int))=H6 at*;have nls:ls≠lv:=λz=>by rw[z,el]at hls;cases hls
 have w4:ws.length<=4:=by exact OC wnd λz hz'=>h3 z ((wiff z).mp hz')
 refine⟨ls,rfl,⟨_,bW.of els⟩,gi (K:=K) (xs:=ws.map V.int) (λi σ H'=>∃(o2:LU) (bs:LK),σ=[some (.ref hA),some (.ref lv),o2]/\ID C Z H H' (cO hs M N) lv bs (nW (ws.take i))/\H' ls=some (.lst (ws.map V.int))) ⟨none,[c],rfl,G0.mono s6,els⟩ (λi σ H' _ ⟨_,_,_,_,e⟩=>bW.of e) ?_ ?_⟩;rintro i x σ H7 hx ⟨o2,bs,rfl,G,e7⟩;obtain⟨z,hz',rfl⟩:=bJ hx;refine⟨_,rfl,.inl ⟨rfl,_,bW.of G.at'⟩,_,rfl,bp _,λy hy=>⟨k9,λI p=>?_⟩⟩;have s7:=(Same.upd (o:=.lst []) hy).trans (Same.upd (o:=.tup [.int z,.ref y]) p);have ey:L2.upd (L2.upd H7 y (.lst [])) I (.tup [.int z,.ref y]) y=some (.lst []):=(Same.upd p) _ _ au;have et:L2.upd (L2.upd H7 y (.lst [])) I (.tup [.int z,.ref y]) I=some (.tup [.int z,.ref y]):=au;have ht0:H7 I=none:=(Same.upd hy).free p;generalize L2.upd (L2.upd H7 y (.lst [])) I (.tup [.int z,.ref y])=H8 at*;refine⟨_,rfl,hA,rfl,⟨_,bW.of (s7 _ _ (G.same _ _ hH))⟩,λrA l=>?_⟩;refine yW (xs:=hs.map V.int) (cO hs M N (.nd (some z) [])) (by rw[jo,aa,hN]) (by rw[aa];lia) l (bW.of (s7 _ _ (G.same _ _ hH))) ?_ ?_ ?_;intro j x c H' hx J s';obtain⟨h,eh,rfl⟩:=bJ hx;rw[sC M hN,ao,eh]at J;cases J;refine⟨_,rfl,_,rfl,rfl,_,rfl,?_⟩;by_cases e:h=z;have d:decide (V.int h=V.int z)=true:=by rw[e];simp
 rw[d];exact iV ⟨by show V.int 1=V.int (if h=z then 1 else 0);rw[if_pos e],rfl⟩;rw[bq λy=>e (V.int.inj y)];exact gu ⟨by show V.int 0=V.int (if h=z then 1 else 0);rw[if_neg e],rfl⟩;have s9:=s7.trans (Same.upd (o:=.lst ((cO hs M N (.nd (some z) [])).map V.int)) l);have ey2:=(Same.upd (o:=.lst ((cO hs M N (.nd (some z) [])).map V.int)) l) _ _ ey;have et2:=(Same.upd (o:=.lst ((cO hs M N (.nd (some z) [])).map V.int)) l) _ _ et;have er2:L2.upd H8 rA (.lst ((cO hs M N (.nd (some z) [])).map V.int)) rA=some (.lst ((cO hs M N (.nd (some z) [])).map V.int)):=au;have hr0:=s7.free l;generalize L2.upd H8 rA (.lst ((cO hs M N (.nd (some z) [])).map V.int))=H9 at*;refineλc cx J hcx hne=>?_;have sc:Same H9 (L2.upd (L2.upd H9 cx (.own c)) c (.ins C cx [])):=λb o e=>by rw[aW (aI e J),aW (aI e hcx)];exact e
 refine⟨c,cx,rA,.ref I,1,1,rfl,au,λH10 b4 e4=>⟨rfl,?_⟩⟩;have U:Same H9 H10:=λx o e=>b4 x o (aI e J) (sc x o e);have s710:=s9.trans U;have apart:∀{x:Addr},H7 x=none->x≠lv:=λe z=>by rw[z,G.at']at e;cases e
 have Sp:=Bg (C:=C) (Z:=λx=>Z x/\x≠lv) (wi:=some z) e4 (U _ _ et2) (U _ _ ey2) (U _ _ er2) ⟨hz _ (G.same.free ht0),apart ht0⟩ ⟨hz _ (G.same.free hy),apart hy⟩ ⟨hz _ (G.same.free hr0),apart hr0⟩;have G2:=G.push s710 (s9.free J) Sp;have lb:bs.length<900:=by have e:=G.sp.len;rw[sE,cm]at e;lia
 refine⟨lv,_,.ref c,rfl,rfl,s710 _ _ G.at',cq (by rw[aa];lia),?_⟩;have ea:bs.map V.ref++[V.ref c]=(bs++[c]).map V.ref:=by rw[a0];rfl
 have el2:nW (ws.take i)++[.nd (some z) []]=nW (ws.take (i+1)):=by rw[cU hz'];show _::(List.map _ _++_)=_::List.map _ _;rw[a0];rfl
 rw[el2]at G2;rw[ea];exact⟨_,_,rfl,G2,by rw[aW nls];exact s710 _ _ e7⟩;rintro σ H' Q1 Q2 hq ⟨v,e,v',e',sc,k,ek,g⟩;refine⟨v,e,v',e',sc,k,ek,?_⟩;cases k with|true=>rw[if_pos rfl]at g;exact iV (hq _ _ g)|false=>rw[if_neg bC]at g;exact gu (hq _ _ g)
 rintro σ H7 ⟨o2,bs,rfl,G,e7⟩;rw[aa,ce]at G;exact⟨_,rfl,q lv bs ws H7 G.same G.new wnd (λc J=>(wiff c).mp J) (λc J=>(wiff c).mpr J) w4⟩
theorem VZ {x qual:Str}{N ps:LM}{sp:Sp}(F:Fun K x qual st f fd)(p:fd.code=.ref cc)(S:bv N ps (aw st))(len:∀vs H Q E,sp vs H Q E->vs.length=ps.length)(hbody:∀(A:Around) (outer:List Env) (s:Shared) (H:Hp) (vs:LI) (Q:VK) (E:XK),ji k (A.deeper (envOfC qual (aw st) s.heap.objs.size f (.ref cc)))->sp vs H Q E->
   ∃t,PSs (vO gK P w K mg base N qual (aw st) f (.ref cc) A outer s H E).nox (gO st) t/\t {nx:=λ_ H'=>Q .non H',rt:=Q} (start N vs) H):cW P w K mg base gK (k+1) f fd ps sp:=by obtain⟨oc,od,kV,doc,pm,an,cdv,ct,osl,rfl,lk,j⟩:=F.ex;have e:cdv=.ref cc:=p;subst e;refine P6 lk j S len λA outer s H vs Q E l g=>?_;obtain⟨t,h,q⟩:=hbody A outer s H vs Q E l g;exact⟨t,h.nox,q⟩
abbrev Q5:LM:=["kept","knots","weights","grown","sprout","bough"]
abbrev MM:LM:=["kept","knots","weights"]
theorem tZ:bv Q5 MM (aw ni):={}
def Vb (s:Stmt):Expr:=match s with
 | .Return (some (.Call _ _ (k::_) _)) _=>k.value
 |_=>.Name "x" ⟨0,0,0,0⟩
def Va (e:Expr):Arguments:=match e with
 | .Lambda a _ _ _=>a
 |_=>{posonlyargs:=[],args:=[],vararg:=none,kwonlyargs:=[],kw_defaults:=[],kwarg:=none,defaults:=[]}
def U9 (e:Expr):Expr:=match e with
 | .Lambda _ b _ _=>b
 |e=>e
def U7 (e:Expr):Scope:=match e with
 | .Lambda _ _ s _=>s
 |_=>{kind:=.function,names:=[],isGenerator:=false,isCoroutine:=false}
def Tx (e:Expr):Pos:=match e with
 | .Lambda _ _ _ p=>p
 |_=>⟨0,0,0,0⟩
abbrev LY:Expr:=Vb (dM ni 2)
abbrev Rn:Str:="grown_sprouts.<locals>.<lambda>"
theorem U8:Uj "depth" "sprout" Rn (Va LY) (U9 LY) (U7 LY):=⟨⟨_,_,rfl⟩,λ_ _ _ _=>rfl,rfl,by decide+kernel,rfl,rfl,rfl,by decide⟩
abbrev FZ (Pt:Addr):Hp->Prop:=Vp Pt Rn (Tx LY).line (Tx LY).col
theorem uz (Pt:Addr):Vq (FZ Pt) Pt:=by refine⟨λH H' h k=>?_,λH h=>?_⟩;rcases h with h|⟨c,h,g⟩;exact .inl (k _ _ (.inl rfl) h);exact .inr ⟨c,k _ _ (.inl rfl) h,k _ _ (.inr ⟨_,rfl⟩) g⟩;rcases h with h|⟨c,h,g⟩;exact⟨_,h⟩;exact⟨_,h⟩
def gw1 (Kn:Nat)(s:Tr)(ks:List Tr):List Tr:=(ks.filter λb=>decide (s.knots+b.knots=Kn)).map s.with
def gw (Kn:Nat)(g ks:List Tr):List Tr:=(g.map λs=>gw1 Kn s ks).flatten
theorem Me {g ks:List Tr}{t:Tr}:t∈gw Kn g ks↔∃s∈g,∃b∈ks,t=s.with b/\s.knots+b.knots=Kn:=by unfold gw gw1;rw[mZ];constructor;rintro⟨l,hl,j⟩;obtain⟨s,hs,rfl⟩:=aV.mp hl;obtain⟨b,hb,rfl⟩:=aV.mp j;obtain⟨h1,h2⟩:=iA.mp hb;exact⟨s,hs,b,h1,rfl,jk h2⟩;rintro⟨s,hs,b,hb,rfl,e⟩;exact⟨_,aV.mpr ⟨s,hs,rfl⟩,aV.mpr ⟨b,iA.mpr ⟨hb,bi e⟩,rfl⟩⟩
theorem Mf (Kn:Nat)(ks:List Tr):∀g:List Tr,(gw Kn g ks).length=uh (md g) (md ks) Kn
 |[]=>rfl
 |s::g=>by have j:=Mf Kn ks g;show(gw1 Kn s ks++gw Kn g ks).length=((md ks).countP λb=>decide (s.knots+b=Kn))+uh (md g) (md ks) Kn;rw[ah,j];congr 1;unfold gw1 md;rw[aa,<-List.countP_eq_length_filter,List.countP_map];rfl
theorem OL (Kn:Nat)(ks:List Tr){g:List Tr}{s:Tr}(h:g[i]?=some s):gw Kn (g.take (i+1)) ks=gw Kn (g.take i) ks++gw1 Kn s ks:=by unfold gw;rw[cU h,a0,zq];simp
theorem Bu (Kn:Nat)(s:Tr){ks:List Tr}{b:Tr}(h:ks[j]?=some b):gw1 Kn s (ks.take (j+1))=gw1 Kn s (ks.take j)++if s.knots+b.knots=Kn then[s.with b]else[]:=by unfold gw1;rw[cU h,kD,a0];congr 1;by_cases e:s.knots+b.knots=Kn;rw[if_pos e,cY (by simpa using e)];rfl;rw[if_neg e,cH (by simpa using e)];rfl
theorem Kt {I:LK}(p:I.Perm as):∀{S:List Tr},as.length=S.length->∃J:List Tr,J.Perm S/\I.length=J.length/\∀(i:Nat) (a:Addr) (t:Tr),I[i]?=some a->J[i]?=some t->∃j:Nat,as[j]?=some a/\S[j]?=some t:=by
 induction p with
 |nil=>intro S h;exact⟨S,.refl _,h,λi a t h1 h2=>⟨i,h1,h2⟩⟩
 | @cons x l1 l2 _ ih=>intro S h;cases S with|nil=>cases h|cons y S=>obtain⟨J,h1,h2,h3⟩:=ih (S:=S) (by simpa using h);refine⟨y::J,h1.cons y,by rw[aH,aH,h2],λi a t C g=>?_⟩;cases i with|zero=>exact⟨0,C,g⟩|succ i=>obtain⟨j,g1,g2⟩:=h3 i a t C g;exact⟨j+1,g1,g2⟩
 |swap x y l=>
  intro S h;match S,h with
  |u::v::S,h=>
   refine⟨v::u::S,.swap _ _ _,by simpa using h,λi a t C g=>?_⟩;match i with
   |0=>exact⟨1,C,g⟩
   |1=>exact⟨0,C,g⟩
   |i+2=>exact⟨i+2,C,g⟩
 |trans _ _ U T=>intro S h;obtain⟨S1,h1,h2,h3⟩:=T h;obtain⟨S2,g1,g2,g3⟩:=U h2;refine⟨S2,g1.trans h1,g2,λi a t C g=>?_⟩;obtain⟨j,z1,z2⟩:=g3 i a t C g;exact h3 j a t z1 z2
theorem KR (BM:Qd mg base)(B:zE mg)(T:zD K C)(F:Fun K "grown_sprouts" "grown_sprouts" ni f fd)(hcd:fd.code=.ref cc)(hcc:PySem.W.codeHdIn K cc Pt=true)(GW:Cl P w K mg base "with_bough" rW Dz 3 (Ex K C)):cW P w K mg base gK 42 f fd MM (Eu C Pt (FZ Pt)):=by
 refine VZ F hcd tZ (λvs H Q E h=>?_) (λA outer s H vs Q E hr h=>?_);obtain⟨Z,kl,wA,as,ks,Kn,N,hs,M,rfl,_⟩:=h;rfl;obtain⟨Z,kl,wA,as,ks,Kn,N,hs,M,rfl,hk,Sp,Bt,tb,hz,nZ,kn,k12,p64,q⟩:=h;refine⟨_,am (fk 3 tZ.nd (dC aj))
  (am (eQ PassesOwn.never rfl (cK (pv 0)) (l9 4 tZ.nd)
   (aC (eQ PassesOwn.never rfl (cK (pv 0)) (l9 5 tZ.nd)
    (aC (dX (bV gh (bR gt (im (pv 4) rfl) (im (pv 5) rfl)) (pv 1) (bO _)) (aC (g0 (mO bX dr dq ir (pv 3) (ac (bH GW (hr.mono (by decide)) rfl (ac (pv 4) (ac (pv 5) (ac (pv 2) aj)))) aj)))) cE)))))
  (aC (bw (yK hr.depth U8 (by rfl) B.sorted (ac (pv 3) aj) (ND (QH (q:=Rn) BM rfl rfl rfl rfl hcc) QE))))),?_⟩
 show let ω1:TS:=_;let ω2:TS:=_;let ω3:TS:=(gL _ ω2 _);let ω4:TS:=(i0 _ _ ω3);let ω5:TS:=bN (i0 _ _ ω4) ω1;bN _ ω5 _ _ _;intro ω1 ω2 ω3 ω4 ω5;refine⟨bp _,λlv g=>?_⟩;have s1:Same H (L2.upd H lv (.lst [])):=Same.upd g;have el:L2.upd H lv (.lst []) lv=some (.lst ([].map V.ref)):=au;generalize L2.upd H lv (.lst [])=H1 at s1 el ⊢;have nkl:kl≠lv:=aI hk g;have SpZ:n0 C (λx=>Z x/\x≠lv) H as ks (cO hs M N):=Sp.weak λx zx hx=>⟨zx,λz=>hx (by rw[z];exact g)⟩;let J:List Tr->L2.St->Hp->Prop:=λS σ H'=>∃(o4 o5:LU) (bs:LK),σ=[some (.ref kl),some (.int (Kn:Int)),some (.ref wA),some (.ref lv),o4,o5]/\ID C Z H H' (cO hs M N) lv bs S;refine⟨_,rfl,kl,rfl,⟨_,bW.of (s1 _ _ hk)⟩,gi (K:=K) (xs:=as.map V.ref) (λi σ H'=>J (gw Kn (ks.take i) ks) σ H') ⟨none,none,[],rfl,s1,g,el,⟨rfl,λi a t h1 _=>by cases h1⟩,fM,λb hb=>by cases hb⟩ (λi σ H' _ ⟨_,_,_,_,G⟩=>bW.of (G.same _ _ hk)) ?_ ?_⟩;rintro i x σ H2 hx ⟨o4,o5,bs,rfl,G⟩;obtain⟨a,ha,rfl⟩:=bJ hx;obtain⟨t,ht⟩:=bA (l:=ks) (i:=i) (by rw[<-Sp.len];exact cw ha);refine⟨_,rfl,kl,rfl,⟨_,bW.of (G.same _ _ hk)⟩,gi (K:=K) (xs:=as.map V.ref) (λj σ H'=>∃(o5:LU) (bs:LK),σ=[some (.ref kl),some (.int (Kn:Int)),some (.ref wA),some (.ref lv),some (.ref a),o5]/\ID C Z H H' (cO hs M N) lv bs (gw Kn (ks.take i) ks++gw1 Kn t (ks.take j))) ⟨o5,bs,rfl,by rw[eE];show ID _ _ _ _ _ _ _ (_++[]);rw[iC];exact G⟩ (λi σ H' _ ⟨_,_,_,G⟩=>bW.of (G.same _ _ hk)) ?_ ?_⟩;rintro j y σ H3 hy ⟨o5,bs,rfl,G⟩;obtain⟨b,hb,rfl⟩:=bJ hy;obtain⟨t',U⟩:=bA (l:=ks) (i:=j) (by rw[<-Sp.len];exact cw hb);obtain⟨ra,Sa⟩:=SpZ.at' i a t ha ht;obtain⟨rb,Sb⟩:=SpZ.at' j b t' hb U;have Sa3:=Sa.mono G.same;have Sb3:=Sb.mono G.same;obtain⟨dx,p,l,ys,ra1,sa1,h1,_⟩:=Sa3.ex;obtain⟨dx',p',l',ys',rb1,sb1,g1,_⟩:=Sb3.ex;refine⟨_,rfl,a,C,dx,_,_,rfl,h1,T.cl,T.kn,rfl,_,rfl,b,C,dx',_,_,rfl,g1,T.cl,T.kn,rfl,_,_,rfl,rfl,_,rfl,rfl,_,rfl,?_⟩;by_cases e:t.knots+t'.knots=Kn;have d:decide (V.int ((t.knots:Int)+(t'.knots:Int))=V.int (Kn:Int))=true:=bi (by rw[<-e];rfl);rw[d];refine iV ⟨_,rfl,.inl ⟨rfl,_,bW.of G.at'⟩,_,rfl,_,rfl,_,rfl,(λx=>Z x/\x≠lv),a,b,wA,t,t',N,hs,M,_,_,rfl,Bt.mono G.same,Sa3,Sb3,kn t (af ht),kn t' (af U),(λx hx=>⟨hz x (G.same.free hx),λz=>by rw[z,G.at']at hx;cases hx⟩),λc H4 s4 hc S4=>?_⟩;have G2:=G.push s4 hc S4;rw[qA]at G2;have eg:=Bu Kn t (ks:=ks) U;rw[if_pos e]at eg;rw[<-eg]at G2;have lb:bs.length<900:=by
  have e1:=G.sp.len;have e2:(gw Kn (ks.take i) ks++gw1 Kn t (ks.take j)).length<=12*12+12:=by
   rw[ah];have a1:∀(s:Tr) (l:List Tr),l.length<=12->(gw1 Kn s l).length<=12:=λs l hl=>by unfold gw1;rw[aa];exact bj (mi _ _) hl
   have a2:∀ss:List Tr,(gw Kn ss ks).length<=12*ss.length:=λss=>by induction ss with|nil=>exact av _|cons s ss ih=>show(gw1 Kn s ks++gw Kn ss ks).length<=_;rw[ah,aH];have:=a1 s ks k12;lia
   have b1:=a1 t (ks.take j) (by rw[cm];lia);have b2:=a2 (ks.take i);rw[cm]at b2;lia
  lia
 refine⟨lv,_,.ref c,rfl,rfl,s4 _ _ G.at',cq (by rw[aa];lia),?_⟩;have ea:bs.map V.ref++[V.ref c]=(bs++[c]).map V.ref:=by rw[a0];rfl
 rw[ea];exact⟨_,_,rfl,G2⟩;have d:decide (V.int ((t.knots:Int)+(t'.knots:Int))=V.int (Kn:Int))=false:=bq λz=>e (by have:=V.int.inj z;lia);rw[d];refine gu ?_;have eg:=Bu Kn t (ks:=ks) U;rw[if_neg e,iC]at eg;exact⟨_,bs,rfl,by rw[eg];exact G⟩;rintro σ H3 ⟨o5,bs,rfl,G⟩;rw[aa,Sp.len,ce,<-OL Kn ks ht]at G;exact⟨_,_,bs,rfl,G⟩;rintro σ H2 ⟨o4,o5,bs,rfl,G⟩;rw[aa,Sp.len,ce]at G;have ln:=Mf Kn ks ks;obtain⟨tb0,ePt⟩:=(uz Pt).at' H tb;have tb2:FZ Pt H2:=(uz Pt).keep H H2 tb λb o _ e=>G.same _ _ e;refine⟨_,rfl,tb2,λfl c pm ct H3 hf eF eC k3 n3 tb3=>?_⟩;have e3:H3 lv=some (.lst (bs.map V.ref)):=k3 _ _ (λz=>by rw[<-z,g]at ePt;cases ePt) G.at';have I:n0 C Z H2 bs (gw Kn ks ks) (cO hs M N):=G.sp.weak λ_ z _=>z.1;have insN:∀b∈bs,b≠Pt:=λb hb z=>by obtain⟨dx,fs,e⟩:=I.ins hb;rw[z,G.same _ _ ePt]at e;cases e
 have Sp3:n0 C Z H3 bs (gw Kn ks ks) (cO hs M N):=⟨I.len,λi a t h1 h2=>by obtain⟨r,Sa⟩:=I.at' i a t h1 h2;exact⟨r,Sa.chg (S:=λb=>b=Pt) (λb o nb e=>k3 b o nb e) (insN a (af h1)) λb z=>.inr (by rw[z];exact nZ)⟩⟩;refine⟨lv,fl,c,pm,ct,bs,(gw Kn ks ks).map λt=>(t.deep:Int),rfl,rfl,eF,eC,e3,by rw[aa,I.len],by rw[I.len,ln];exact p64,λi a d h1 h2=>?_,λD as' hD pa=>?_⟩;rw[ao]at h2;obtain⟨t,et,rfl⟩:=dL.mp h2;obtain⟨r,Sa⟩:=Sp3.at' i a t h1 et;obtain⟨dx,p,l,ys,ra1,sa1,h1,_⟩:=Sa.ex;exact⟨C,dx,_,h1,T.cl,T.dp,rfl⟩;obtain⟨S',pS,lS,hS⟩:=Kt pa Sp3.len;have s4:Same H3 (L2.upd H3 D (.lst (as'.map V.ref))):=Same.upd hD;have hD2:H2 D=none:=n3 D hD;refine q D as' S' _ (λb o nb e=>s4 _ _ (k3 b o nb (G.same _ _ e))) (λx e=>G.same.free (n3 x (s4.free e))) ((uz Pt).keep H3 _ tb3 λb o _ e=>s4 _ _ e) ⟨G.same.free hD2,au,⟨lS,λi a t h1 h2=>?_⟩,pa.nodup_iff.mpr G.nd,λb hb=>G.nw b (pa.mem_iff.mp hb)⟩ (λt ht=>Me.mp (pS.mem_iff.mp ht)) (λs hs' b hb e=>pS.mem_iff.mpr (Me.mpr ⟨s,hs',b,hb,rfl,e⟩)) (by rw[pS.length_eq];exact ln);obtain⟨j,g1,g2⟩:=hS i a t h1 h2;obtain⟨r,Sa⟩:=Sp3.at' j a t g1 g2;exact⟨r,Sa.mono s4⟩
theorem P0:PySem.W.kitOne K (.type "list") (.type "list")=some true:=rfl
theorem L0:PySem.W.kitOne K (.type "tuple") (.type "tuple")=some true:=rfl
theorem Ty:PySem.W.kitOne K (.type "int") (.type "int")=some true:=rfl
theorem TD:PySem.W.kitOne K (.type "int") (.type "bool")=some false:=by with_unfolding_all rfl
theorem jy.at' {v:V}{wi:Option Int}{bs:List Tr}(h:jy Z H v (.nd wi bs)):∃p l ys,v=.ref p/\Z p/\Z l/\H p=some (.tup [jX wi,.ref l])/\H l=some (.lst ys)/\TrsAt Z H ys bs:=by cases h with|nd a b c d e=>exact⟨_,_,_,rfl,a,b,c,d,e⟩
theorem TrsAt.get:∀{ys:LI} {bs:List Tr} {i:Nat} {x:V},TrsAt Z H ys bs->ys[i]?=some x->∃t,bs[i]?=some t/\jy Z H x t
 |_,_,0,_,.cons a _,e=>by cases e;exact⟨_,rfl,a⟩
 |_,_,i+1,x,.cons _ r,e=>by obtain⟨t,h1,h2⟩:=TrsAt.get (i:=i) (x:=x) r (by simpa using e);exact⟨t,by simpa using h1,h2⟩
theorem jy.same {v:V}{t:Tr}(h:jy Z H v t)(s:Same H H'):jy Z H' v t:=h.chg (S:=λ_=>False) (λb o _ e=>s b o e) λ_ z=>z.elim
theorem Dg (wi:Option Int)(bs:List Tr)(k:Nat):(Tr.nd wi (bs.take k)).knots<=(Tr.nd wi bs).knots:=by induction bs generalizing k with|nil=>rw[List.take_nil];exact av _|cons b bs g=>cases k with|zero=>show 1+0<=1+(b.knots+Tr.knotss bs);lia|succ k=>have:=g k;rw[Tr.knots,Tr.knots]at this;show 1+(b.knots+Tr.knotss (bs.take k))<=1+(b.knots+Tr.knotss bs);lia
theorem vK {n:Nat}(S:iY n M):∀q,q<n->∀v,v<n->(ent M q v).natAbs<=2^72:=λq p v I=>by
 obtain⟨row,j⟩:=bA (l:=M) (i:=q) (by rw[S.len];exact p);obtain⟨C,t⟩:=S.row q row j;obtain⟨z,g⟩:=bA (l:=row) (i:=v) (by lia);have e:ent M q v=z:=by unfold ent;rw[j];show(row[v]?).getD 0=z;rw[g];rfl
 rw[e];exact bj (t z (af g)) (by decide)
theorem ME {n:Nat}(h:hs.length=n)(wi:Option Int):cO hs M n (.nd wi [])=hs.map λh=>if(wi=none\/wi=some h)then 1 else 0:=by cases wi with|none=>rw[sD,<-h];refine cJ λi=>?_;rw[cz,ao];by_cases c:i<hs.length;rw[if_pos c,aq c];simp;rw[if_neg c,aY (by lia)];rfl|some c=>rw[sC M h];refine bU λx _=>?_;by_cases e:x=c;rw[if_pos e,if_pos (.inr (by rw[e]))];rw[if_neg e,if_neg λz=>z.elim nofun λz=>e (bK z).symm]
theorem JZ {n x y:Nat}(R:dw H rs M)(J:M.length=n)(C:∀z∈M,z.length=n)(I:x<n)(t:y<n):∃r row,rs[x]?=some r/\M[x]?=some row/\H r=some (.lst (row.map V.int))/\row[y]?=some (ent M x y)/\ent M x y∈row:=by
 obtain⟨r,p⟩:=bA (l:=rs) (i:=x) (by rw[R.len];lia);obtain⟨row,g⟩:=bA (l:=M) (i:=x) (by lia);obtain⟨z,j⟩:=bA (l:=row) (i:=y) (by rw[C row (af g)];exact t);have e:ent M x y=z:=by unfold ent;rw[g];show(row[y]?).getD 0=z;rw[j];rfl
 exact⟨r,row,p,g,R.row x r row p g,by rw[e];exact j,by rw[e];exact af j⟩
inductive An (d:Nat)(vs:LI)(H:Hp)(Q:VK):Prop|mk (Z:Addr->Prop) (wA:Addr) (v:V) (t:Tr) (n:Nat) (hs:LH) (M:LA) (_:vs=[.ref wA,v]) (_:Wz H wA n hs M) (_:n<=8) (_:jy Z H v t) (_:t.deep<=d) (_:t.knots<=4096) (_:∀D H',Same H H'->H D=none->H' D=some (.lst ((cO hs M n t).map V.int))->Q (.ref D) H'):An d vs H Q
def Cq (d:Nat):Sp:=λvs H Q _=>An d vs H Q
abbrev PQ:LM:=["_law_web_here","_law_tree","_law_hues","_law_rows","_law_found","_law_bough","_law_inner","_law_u","_law_total","_law_v"]
abbrev BW:LM:=["_law_web_here","_law_tree"]
theorem kQ:bv PQ BW (aw CF):={}
theorem Rf:cn (aw CF) PQ (cX (eU (dM CF 1))) ["_law_hue"]:={}
theorem NS (B:tT mg)(D:Dn K mg "_law_row" CF BW f fd):∀d:Nat,cW P w K mg base gK (d+1) f fd BW (Cq d):=by
 intro d;induction d with
 |zero=>refine D.fn.q kQ λH vs _ _ h=>?_;obtain⟨Z,wA,v,t,n,hs,M,rfl,_,_,_,h,_⟩:=h;have:=vL t;lia
 |succ d G=>
  refine D.fn.o kQ λcdv A outer s H vs Q E hr h=>?_;obtain⟨Z,wA,v,⟨wi,bs⟩,n,hs,M,rfl,hW,hn,hT,hd,hk,q⟩:=h;obtain⟨hA,rA,rs,w1,w2,w3,R⟩:=hW.wr.ex;have j:hs.length=n:=hW.len;have ml:M.length=n:=hW.sq.len;have hr1:∀z∈M,z.length=n:=yj hW.sq;have T:=vK hW.sq;have n12:n<=12:=by lia
  have hd':Tr.deeps bs<=d:=by rw[Tr.deep]at hd;lia
  obtain⟨p,l,ys,rfl,z1,z2,hp0,hl0,hb⟩:=hT.at';have hp:dH K H p [jX wi,.ref l]:=dH.of hp0;have hl:bW K H l ys:=bW.of hl0;have hlen:=hb.len;refine⟨_,am (jM (pv 0) (oG rfl (gc (l9 2 kQ.nd) (gc (l9 3 kQ.nd) lN))))
   (am (mM (i:=4) kQ.nd rfl (Or.inl rfl) rfl Rf rfl (cK (pv 2)) λ_ _ _=>kJ sM (by rfl) B.int boot_int (ac (PJ (fH yO (bf (gN (K:=K)) (pv 1) ar) jO (bO _)) (ny (fH gh (bf (gN (K:=K)) (pv 1) ar) (pv 10) (bO _)))) aj))
   (am (eQ PassesOwn.never rfl (cK (bf bL (pv 1) ar)) (l9 5 kQ.nd)
    (am (fk 6 kQ.nd (Fb D G hr rfl (ac (pv 0) (ac (pv 5) aj))))
    (aC (eQ PassesOwn.never rfl (fT rfl B.range (ac (bE bQ (by rfl) B.len bu (ac (pv 2) aj)) aj)) (l9 7 kQ.nd)
     (am (fk 8 kQ.nd ar)
     (am (eQ PassesOwn.never rfl (fT rfl B.range (ac (bE bQ (by rfl) B.len bu (ac (pv 2) aj)) aj)) (l9 9 kQ.nd)
      (aC (fk 8 kQ.nd (bR gt (pv 8) (bR io (bf cD (bf cD (pv 3) (pv 7)) (pv 9)) (bf cD (pv 6) (pv 9)))))))
     (aC (jM (bR io (bf cD (pv 4) (pv 7)) (pv 8)) (oH (pv 4) (pv 7) jY)))))))))
   (aC (bw (pv 4))))),?_⟩
  show let ω1:TS:=_;let ω2:TS:=_;let ω3:TS:=_;let ω4:TS:=bN (i0 _ _ ω3) ω2;let ω5:TS:=bN _ ω4;let ω6:TS:=(i0 _ _ ω5);let ω7:TS:=bN _ ω6;let ω8:TS:=bN (i0 _ _ ω7) ω1;let ω9:TS:=bN _ ω8;bN _ ω9 _ _ _;intro ω1 ω2 ω3 ω4 ω5 ω6 ω7 ω8 ω9;refine⟨_,rfl,wA,_,rfl,dH.of w1,rfl,_,_,rfl,_,_,rfl,rfl,?_⟩;refine⟨_,rfl,hA,rfl,⟨_,bW.of w2⟩,λJ hD=>?_⟩;refine lO ((cO hs M n (.nd wi [])).map V.int) (by rw[aa,aa,jo,j]) (by rw[aa,j];lia) hD (bW.of w2) ?_ ?_ ?_;intro i x v H' hx hv s';rw[ME j wi]at hv;obtain⟨z,hz,rfl⟩:=bJ hx;obtain⟨z',hz',rfl⟩:=bJ hv;rw[ao,hz]at hz';cases hz';refine⟨_,rfl,p,_,_,_,rfl,rfl,s'.seqT hp,rfl,rfl,_,rfl,?_⟩;cases wi with|none=>refine iV ?_;refine .inr ⟨_,rfl,?_,Same.refl _⟩;simp|some c=>refine gu ?_;refine⟨_,rfl,p,_,_,_,rfl,rfl,s'.seqT hp,rfl,_,rfl,rfl,.inr ⟨_,rfl,?_,Same.refl _⟩⟩;show V.int _=V.int _;congr 1;by_cases e:c=z;subst e;simp[jX];simp[jX,e]
  intro H1 s1 eD;have nD:H J=none:=hD;refine⟨_,rfl,p,_,_,_,rfl,rfl,s1.seqT hp,rfl,l,rfl,⟨_,Same.sq s1 hl⟩,gi (xs:=ys) (λi σ H'=>∃(o5 o6 o7 U C:LU),σ=[some (.ref wA),some (.ref p),some (.ref hA),some (.ref rA),some (.ref J),o5,o6,o7,U,C]/\Same H H'/\H' J=some (.lst ((cO hs M n (.nd wi (bs.take i))).map V.int))) ⟨none,none,none,none,none,rfl,s1,by rw[eE];exact eD⟩ (λi σ H' _ ⟨_,_,_,_,_,_,s,_⟩=>Same.sq s hl) ?_ ?_⟩;rintro i x σ H2 hx ⟨o5,o6,o7,U,C,rfl,s2,e2⟩;obtain⟨t,ht,hxt⟩:=hb.get hx;have kt:t.knots<=4096:=Tr.knotss_get (by rw[Tr.knots]at hk;lia) ht;refine⟨_,rfl,_,rfl,Z,wA,x,t,n,hs,M,rfl,hW.same s2,hn,hxt.same s2,Tr.deeps_get hd' ht,kt,λI H3 s3 nI eI=>?_⟩;have s03:=s2.trans s3;have e3:=s3 _ _ e2;have nID:I≠J:=λz=>by rw[z,e2]at nI;cases nI
  refine⟨_,rfl,hA,_,rfl,.inl (bW.of (s03 _ _ w2)),_,rfl,by lia,by rw[aa,j];lia,?_⟩;rw[aa,j,bg];refine gG (n:=n) (λu σ H'=>∃(o7 U C:LU),σ=[some (.ref wA),some (.ref p),some (.ref hA),some (.ref rA),some (.ref J),some x,some (.ref I),o7,U,C]/\Same H H'/\H' I=some (.lst ((cO hs M n t).map V.int))/\H' J=some (.lst (((List.range n).map λy=>if y<u then Tr.val n (cQ hs) (ent M) (.nd wi (bs.take (i+1))) y else Tr.val n (cQ hs) (ent M) (.nd wi (bs.take i)) y).map V.int))) ⟨_,_,_,rfl,s03,eI,by rw[e3];rfl⟩ ?_ ?_;rintro u σ H4 hu ⟨o7,U,C,rfl,s4,e4,d4⟩;have e0:((0:Int)+(u:Nat))=(u:Int):=by lia
  rw[e0];refine⟨_,rfl,hA,_,rfl,.inl (bW.of (s4 _ _ w2)),_,rfl,by lia,by rw[aa,j];lia,?_⟩;rw[aa,j,bg];refine gG (n:=n) (λv σ H'=>∃(C:LU),σ=[some (.ref wA),some (.ref p),some (.ref hA),some (.ref rA),some (.ref J),some x,some (.ref I),some (.int (u:Int)),some (.int (gW v λy=>ent M u y*Tr.val n (cQ hs) (ent M) t y)),C]/\H'=H4) ⟨_,rfl,rfl⟩ ?_ ?_;rintro v σ H5 hv ⟨C,rfl,rfl⟩;have e0:((0:Int)+(v:Nat))=(v:Int):=by lia
  rw[e0];obtain⟨r,row,er,ew,eh,ee,em⟩:=JZ R ml hr1 hu hv;refine⟨_,rfl,_,rfl,_,rfl,rA,_,_,_,rfl,rfl,bW.of (s4 _ _ w3),cV (by rw[ao,er];rfl),_,rfl,r,_,_,_,rfl,rfl,bW.of (s4 _ _ eh),cV (by rw[ao,ee];rfl),_,rfl,_,rfl,I,_,_,_,rfl,rfl,bW.of e4,cV (by rw[ao];unfold cO;rw[iN _ hv];rfl),_,_,rfl,rfl,⟨400000,by decide,cg (T u hu v hv) (gz (by decide) (by decide)),B8 n12 T kt hv⟩,_,_,rfl,rfl,?_⟩;exact⟨some (.int (v:Int)),by rw[fJ];rfl,rfl⟩;rintro σ H5 ⟨C,rfl,rfl⟩;have ku:=Dg wi bs i;refine⟨_,rfl,_,rfl,J,_,_,_,rfl,rfl,bW.of d4,cV (by rw[ao,iN _ hu];rfl),_,rfl,_,_,rfl,rfl,⟨400000,by decide,?_,Fi n12 T kt hu⟩,?_⟩;rw[if_neg (dP u)];exact B8 n12 T (by lia) hu;refine⟨_,rfl,_,rfl,J,_,_,u,rfl,rfl,d4,?_,?_⟩;rw[aa,aa,aA];exact lQ hu;refine⟨_,_,_,rfl,?_,?_,?_⟩;intro b o e;rw[aW (aI e nD)];exact s4 _ _ e;rw[aW nID];exact e4;rw[au];congr 2;rw[<-jS];congr 1;apply cJ;intro y;rw[List.getElem?_set];by_cases hy:y<n;rw[iN _ hy,iN _ hy];by_cases e:u=y;subst e;rw[if_pos rfl,if_pos (by rw[aa,aA];exact hu),if_pos (mX u),cU ht,oo,if_neg (dP u)];rfl;rw[if_neg e];congr 1;by_cases h1:y<u;rw[if_pos h1,if_pos (by lia)];rw[if_neg h1,if_neg (by lia)];have g:∀f:Nat->Int,((List.range n).map f)[y]?=none:=λf=>aY (by rw[aa,aA];lia);rw[g,g,if_neg (by lia:¬u=y)];rintro σ H4 ⟨o7,U,C,rfl,s4,e4,d4⟩;refine⟨_,_,_,_,_,rfl,s4,?_⟩;rw[d4];congr 3;refine bU λy hy=>?_;rw[if_pos (bc.mp hy)];rintro σ H2 ⟨o5,o6,o7,U,C,rfl,s2,e2⟩;rw[hlen,ce]at e2;exact⟨_,rfl,q J H2 s2 nD e2⟩;rintro σ H' Q1 Q2 hq ⟨v,e,a1,a2,a3,a4,a5,a6,a7,a8,a9,c,e2,g⟩;refine⟨v,e,a1,a2,a3,a4,a5,a6,a7,a8,a9,c,e2,?_⟩;cases c with
  |true=>rw[if_pos rfl]at g;refine iV ?_;rcases g with⟨i,e,g⟩|⟨i,e,g⟩;exact .inl ⟨i,e,hq _ _ g⟩;exact .inr ⟨i,e,hq _ _ g⟩
  |false=>rw[if_neg bC]at g;refine gu ?_;obtain⟨u,f,b1,b2,b3,b4,b5,b6,b7,b8,u2,f2,b9,g⟩:=g;refine⟨u,f,b1,b2,b3,b4,b5,b6,b7,b8,u2,f2,b9,?_⟩;rcases g with⟨i,e,g⟩|⟨i,e,g⟩;exact .inl ⟨i,e,hq _ _ g⟩;exact .inr ⟨i,e,hq _ _ g⟩
end
inductive Tm where
 |leaf (w:Option Int)
 |near (t:Tm)
 |both (t u:Tm)
def Tm.kids:Tm->List Tm
 | .leaf _=>[]
 | .near t=>[t]
 | .both t u=>[t,u]
def Tm.size:Tm->Nat
 | .leaf _=>1
 | .near t=>t.size+1
 | .both t u=>t.size+u.size+1
def Tm.pre:Tm->List Tm
 | .leaf w=>[.leaf w]
 | .near t=>.near t::t.pre
 | .both t u=>.both t u::(u.pre++t.pre)
def Tm.word:Tm->Str
 | .leaf none=>"one"
 | .leaf (some _)=>"hue"
 | .near _=>"near"
 | .both _ _=>"both"
theorem Tm.size_pos (t:Tm):1<=t.size:=by cases t<;>simp[Tm.size]
theorem Tm.pre_eq (t:Tm):t.pre=t::t.kids.reverse.flatMap Tm.pre:=by cases t<;>simp[Tm.pre,Tm.kids]
theorem Tm.pre_len:∀t:Tm,t.pre.length=t.size
 | .leaf w=>rfl
 | .near t=>by simp[Tm.pre,Tm.size,pre_len t]
 | .both t u=>by simp only[Tm.pre,Tm.size,aH,ah,pre_len t,pre_len u];lia
theorem Tm.kids_len (t:Tm):t.kids.length<=2:=by cases t<;>simp[Tm.kids]
theorem Tm.pre_size:∀(t:Tm) (x:Tm),x∈t.pre->x.size<=t.size
 | .leaf w,x,h=>by rw[aX.mp h];exact av _
 | .near t,x,h=>by cases h with|head=>exact av _|tail _ h=>exact bj (pre_size t x h) (fY _)
 | .both t u,x,h=>by cases h with|head=>exact av _|tail _ h=>simp only[Tm.size];rcases be.mp h with h|h;have:=pre_size u x h;lia;have:=pre_size t x h;lia
inductive Ch:List Tm->List Tm->List Tm->Prop
 |nil (st:List Tm):Ch st [] st
 |cons {B:List Tm} {x:Tm} {L st:List Tm}:Ch (B++[x]) L st->Ch (B++x.kids) (x::L) st
theorem Ch.app {a b c:List Tm}{L g:List Tm}(h:Ch a L b)(h':Ch b g c):Ch a (L++g) c:=by induction h with|nil st=>exact h'|cons _ j=>exact .cons (j h')
theorem Tm.chain:∀(t:Tm) (B:List Tm),Ch B t.pre.reverse (B++[t])
 | .leaf w,B=>by simpa[Tm.pre,Tm.kids]using Ch.cons (B:=B) (x:=.leaf w) (.nil _)
 | .near t,B=>by simpa[Tm.pre]using(chain t B).app (Ch.cons (B:=B) (x:=.near t) (.nil _))
 | .both t u,B=>by
  have e:B++[t]++[u]=B++(Tm.both t u).kids:=by simp[Tm.kids]
  simpa[Tm.pre]using((chain t B).app (chain u (B++[t]))).app (e ▸ Ch.cons (B:=B) (x:=.both t u) (.nil _))
theorem Ch.pop {st L fin:List Tm}{x:Tm}(h:Ch st (x::L) fin):∃B,st=B++x.kids/\Ch (B++[x]) L fin:=by cases h with|cons h=>exact⟨_,rfl,h⟩
theorem Ch.done {st fin:List Tm}(h:Ch st [] fin):st=fin:=by cases h;rfl
theorem vF (g:List Tm)(t:Tm):(g++[t]).reverse.flatMap Tm.pre=t::(g++t.kids).reverse.flatMap Tm.pre:=by
 rw[cZ,cZ,List.flatMap_append,List.flatMap_append];show t.pre++[]++_=_;rw[iC]
 conv=>lhs;rw[Tm.pre_eq t]
 rfl
theorem Id (g:List Tm):g.length<=(g.reverse.flatMap Tm.pre).length:=by
 have key:∀l:List Tm,l.length<=(l.flatMap Tm.pre).length:=by intro l;induction l with|nil=>exact av _|cons a l j=>rw[List.flatMap_cons,ah,aH,Tm.pre_len];have:=Tm.size_pos a;lia
 have:=key g.reverse;rw[dy]at this;exact this
def Tm.v (N:Nat)(U:Nat->Int)(W:Nat->Nat->Int):Tm->Rw
 | .leaf w=>Tr.val N U W (.nd w [])
 | .near t=>Nr N W (Tm.v N U W t)
 | .both t u=>λq=>Tm.v N U W t q*Tm.v N U W u q
mutual
def Tr.tm:Tr->Tm
 | .nd w bs=>Tr.tms (.leaf w) bs
def Tr.tms:Tm->List Tr->Tm
 |a,[]=>a
 |a,t::ts=>Tr.tms (.both a (.near t.tm)) ts
end
theorem zT (t:Tr):∀(bs:List Tr) (a:Tm),Tr.tms a (bs++[t])=.both (Tr.tms a bs) (.near t.tm)
 |[],a=>by rw[iu,Tr.tms,Tr.tms,Tr.tms]
 |b::bs,a=>by rw[IA,Tr.tms,Tr.tms,zT t bs]
section
variable {N:Nat}{U:Nat->Int}{W:Nat->Nat->Int}
mutual
theorem Jb:∀(t:Tr),Tm.v N U W t.tm=Tr.val N U W t
 | .nd w bs=>by funext q;rw[Tr.tm,tms_val bs];show i9 U w q*1*_=i9 U w q*_;rw[hE]
theorem tms_val:∀(bs:List Tr) (a:Tm) (q:Nat),Tm.v N U W (Tr.tms a bs) q=Tm.v N U W a q*Tr.vals N U W bs q
 |[],a,q=>by rw[Tr.tms];exact(hE _).symm
 |t::ts,a,q=>by rw[Tr.tms,tms_val ts];show Tm.v N U W a q*Nr N W (Tm.v N U W t.tm) q*_=_*(Nr N W (Tr.val N U W t) q*Tr.vals N U W ts q);rw[Jb t,zJ]
end
mutual
theorem yf:∀(t:Tr),t.tm.size+2<=3*t.knots
 | .nd w bs=>by have h:(Tr.tms (.leaf w) bs).size<=1+3*Tr.knotss bs:=tms_size bs _;rw[Tr.tm,Tr.knots];lia
theorem tms_size:∀(bs:List Tr) (a:Tm),(Tr.tms a bs).size<=a.size+3*Tr.knotss bs
 |[],a=>by rw[Tr.tms,Tr.knotss];exact av _
 |t::ts,a=>by have h1:=tms_size ts (.both a (.near t.tm));have h2:=yf t;rw[Tr.tms,Tr.knotss];simp only[Tm.size]at h1;lia
end
theorem ye (l:N<=16)(j:∀q,q<N->∀v,v<N->(W q v).natAbs<=2^72):∀(t:Tm) (q:Nat),q<N->(Tm.v N U W t q).natAbs<=2^(76*t.size)
 | .leaf w,q,g=>bj (ux l j (.nd w []) q g) (dh (by decide) (bp _))
 | .near t,q,g=>K1 l j (λv p=>ye l j t v p) g
 | .both t u,q,g=>by have h1:=ye l j t q g;have h2:=ye l j u q g;show(Tm.v N U W t q*Tm.v N U W u q).natAbs<=_;rw[gD];refine bj (gA h1 h2) ?_;rw[<-kM];exact dh (by decide) (by simp only[Tm.size];lia)
theorem Cd (l:N<=16)(j:∀q,q<N->∀v,v<N->(W q v).natAbs<=2^72){t:Tm}(h:t.size<=12288){q:Nat}(g:q<N):M11.Bn 950000 (Tm.v N U W t q):=
 cg (ye l j t q g) (gz (by decide) (by lia))
end
inductive Ls {α β:Type}(R:α->β->Prop):List α->List β->Prop
 |nil:Ls R [] []
 |cons {a:α} {b:β} {as:List α} {bs:List β}:R a b->Ls R as bs->Ls R (a::as) (b::bs)
section
variable {α β:Type}{R:α->β->Prop}
theorem Ls.len:∀{as:List α} {bs:List β},Ls R as bs->as.length=bs.length
 |_,_,.nil=>rfl
 |_,_,.cons _ r=>by rw[aH,aH,r.len]
theorem Ls.mono {g:α->β->Prop}(h:∀a b,R a b->g a b):∀{as:List α} {bs:List β},Ls R as bs->Ls g as bs
 |_,_,.nil=>.nil
 |_,_,.cons a r=>.cons (h _ _ a) (r.mono h)
theorem Ls.app:∀{as:List α} {bs:List β} {g:List α} {ds:List β},Ls R as bs->Ls R g ds->Ls R (as++g) (bs++ds)
 |_,_,_,_,.nil,h=>h
 |_,_,_,_,.cons a r,h=>.cons a (r.app h)
theorem Ls.split:∀{bs ds:List β} {as:List α},Ls R as (bs++ds)->∃x y,as=x++y/\Ls R x bs/\Ls R y ds
 |[],_,as,h=>⟨[],as,rfl,.nil,h⟩
 |_::_,_,_,.cons a r=>by obtain⟨x,y,rfl,h1,h2⟩:=r.split;exact⟨_::x,y,rfl,.cons a h1,h2⟩
theorem Ls.rev:∀{as:List α} {bs:List β},Ls R as bs->Ls R as.reverse bs.reverse
 |_,_,.nil=>.nil
 |_,_,.cons a r=>by rw[qz,qz];exact r.rev.app (.cons a .nil)
theorem Ls.get:∀{as:List α} {bs:List β},Ls R as bs->∀{i:Nat} {x:α},as[i]?=some x->∃y,bs[i]?=some y/\R x y
 |_,_,.nil,_,_,h=>by cases h
 |_,_,.cons a r,0,x,h=>by cases h;exact⟨_,rfl,a⟩
 |_,_,.cons a r,i+1,x,h=>r.get (by simpa using h)
end
inductive j0 (H:Hp):V->Tm->Prop
 |one {p:Addr}:H p=some (.tup [.str "one"])->j0 H (.ref p) (.leaf none)
 |hue {p:Addr} {c:Int}:H p=some (.tup [.str "hue",.int c])->j0 H (.ref p) (.leaf (some c))
 |near {p:Addr} {v:V} {t:Tm}:H p=some (.tup [.str "near",v])->j0 H v t->j0 H (.ref p) (.near t)
 |both {p:Addr} {v u:V} {t s:Tm}:H p=some (.tup [.str "both",v,u])->j0 H v t->j0 H u s->j0 H (.ref p) (.both t s)
theorem j0.same (s:Same H H'){v:V}{t:Tm}(h:j0 H v t):j0 H' v t:=by induction h with|one h=>exact .one (s _ _ h)|hue h=>exact .hue (s _ _ h)|near h _ i=>exact .near (s _ _ h) i|both h _ _ i j=>exact .both (s _ _ h) i j
theorem j0.at {v:V}{t:Tm}(h:j0 H v t):∃p g ks,v=.ref p/\H p=some (.tup ((.str t.word::g)++ks))/\Ls (j0 H) ks t.kids/\∀c,t=.leaf (some c)->g=[.int c]:=by cases h with|one h=>exact⟨_,[],[],rfl,h,.nil,λc e=>by cases e⟩|hue h=>exact⟨_,[_],[],rfl,h,.nil,λc e=>by cases e;rfl⟩|near h a=>exact⟨_,[],[_],rfl,h,.cons a .nil,λc e=>by cases e⟩|both h a b=>exact⟨_,[],[_,_],rfl,h,.cons a (.cons b .nil),λc e=>by cases e⟩
def vV (H:Hp)(v:V)(r:LH):Prop:=∃p l,v=.ref p/\H p=some (.tup [.ref l,.int 1])/\H l=some (.lst (r.map V.int))
theorem vV.same (s:Same H H'){v:V}{r:LH}(h:vV H v r):vV H' v r:=by obtain⟨p,l,rfl,h1,h2⟩:=h;exact⟨p,l,rfl,s _ _ h1,s _ _ h2⟩
section
variable {P:Program}{w:World}{K:LO}{mg:LQ}{base:Heap}
theorem uO {n:Nat}(h:n<=20000):n<sizeLine:=cg h (by decide)
def tH:List (Str×Int):=[("one",0),("hue",0),("near",1),("both",2),("rows",1),("same",0),("tie",0),("all",0),("on",1),("turned",1),("then",2),("meet",2),("plus",2),("many",1)]
theorem Jf (t:Tm):PyProof.Rows.KTD.datumAt t.word tH=some ((t.kids.length:Nat):Int):=by
 have h:PyProof.Rows.KTD.datumAt ("one":Str) tH=some 0/\PyProof.Rows.KTD.datumAt ("hue":Str) tH=some 0/\PyProof.Rows.KTD.datumAt ("near":Str) tH=some 1/\PyProof.Rows.KTD.datumAt ("both":Str) tH=some 2:=by decide+kernel
 obtain⟨h1,h2,j,g⟩:=h;cases t with
 |leaf w=>cases w with|none=>exact h1|some c=>exact h2
 |near t=>exact j
 |both t u=>exact g
theorem Ii (pre ks:LI):oN (pre++ks) none (some ((pre.length:Nat):Int))=pre:=by unfold oN;rw[HT.sIx_nat,HT.sIx_none,ah,jc (by lia),List.drop_zero,Nat.sub_zero,List.take_left]
inductive wL (vs:LI)(H:Hp)(Q:VK):Prop|mk (v:V) (t:Tm) (H0:Hp) (_:vs=[v]) (_:Same H0 H) (_:j0 H0 v t) (_:∀q ks H',Same H H'->H' q=some (.tup ks)->Ls (j0 H0) ks t.kids->Q (.ref q) H'):wL vs H Q
def yk:Sp:=λvs H Q _=>wL vs H Q
theorem Ng:bv ["term"] ["term"] (aw uX):={}
theorem KO (B:oT mg)(U:mg "INNER_TERMS"=some (.ref aT))(TB:RY K aT tH)(F:Fun K "inner_terms" "inner_terms" uX f fd):cW P w K mg base gK 1 f fd ["term"] yk:=by
 refine F.q Ng λH vs _ _ h=>?_;obtain⟨v,t,H0,rfl,J,T,q⟩:=h;obtain⟨p,pre,ks,rfl,j,I,_⟩:=T.at;have hp:dH K H p _:=dH.of (J _ _ j);have hk:=I.len;refine⟨_,aC (bw (jp Qp (pv 0) (jV (bR vh (bE bQ (by rfl) B.len bu (ac (pv 0) aj)) (bf (Rs TB) (NG (v:=.ref aT) rfl U rfl) (bf bL (pv 0) ar)))) lK)),?_⟩;have e:((((V.str t.word::pre)++ks).length:Nat):Int)-((t.kids.length:Nat):Int)=(((V.str t.word::pre).length:Nat):Int):=by rw[ah,hk];lia
 refine⟨_,rfl,_,rfl,p,_,rfl,.inr hp,_,rfl,p,_,_,_,rfl,rfl,hp,eY _ _,_,_,rfl,rfl,Jf t,_,_,rfl,rfl,_,rfl,p,_,rfl,hp,?_,λC g=>?_⟩;rintro⟨h1,_⟩;have l:HT.sIx ((V.str t.word::pre)++ks).length 0 (some (((((V.str t.word::pre)++ks).length:Nat):Int)-((t.kids.length:Nat):Int)))=0:=h1;rw[e,HT.sIx_nat,ah,aH]at l;lia;have e2:oN ((V.str t.word::pre)++ks) (some (((((V.str t.word::pre)++ks).length:Nat):Int)-((t.kids.length:Nat):Int))) none=ks:=by rw[e];exact vQ _ _
 have:=q C ks (L2.upd H C (.tup ks)) (Same.upd g) au I;rw[<-e2]at this;exact this
inductive uE (vs:LI)(H:Hp)(Q:VK):Prop|mk (v:V) (t:Tm) (_:vs=[v]) (_:j0 H v t) (_:t.size<=12288) (_:∀F fs H',Same H H'->H' F=some (.lst fs)->Ls (j0 H) fs t.pre.reverse->Q (.ref F) H'):uE vs H Q
def Ab:Sp:=λvs H Q _=>uE vs H Q
abbrev Oc:LM:=["term","waiting","found","part"]
theorem qP:bv Oc ["term"] (aw uc):={}
theorem Gr {c:TT}{tb u:TS}{D:qr}(h:yg c tb {D with nx:=u D} σ H):bN (yg c tb) u D σ H:=h
theorem Hj (F:Fun K "terms_innermost_first" "terms_innermost_first" uc f fd)(GI:Cl P w K mg base "inner_terms" uX ["term"] 1 yk):cW P w K mg base gK 2 f fd ["term"] Ab:=by
 refine F.q qP λH vs _ hr h=>?_;obtain⟨v,t,rfl,hT,hz,q⟩:=h;refine⟨_,am (fk 1 qP.nd (dC (ac (pv 0) aj)))
  (am (fk 2 qP.nd (dC aj))
  (am (oF PassesOwn.never (vf (pv 1) λ_=>rfl)
   (am (fk 3 qP.nd (vg bX PySem.F.slot_list_pop PySem.F.type_list_pop Q8 (pv 1)))
   (am (g0 (mO bX dr dq ir (pv 2) (ac (pv 3) aj)))
   (aC (g0 (mO bX PySem.F.slot_list_extend PySem.F.type_list_extend CZ (pv 1) (ac (bH GI hr rfl (ac (pv 3) aj)) aj)))))))
  (am (g0 (vg bX PySem.F.slot_list_reverse PySem.F.type_list_reverse CY (pv 2)))
  (aC (bw (pv 2)))))),?_⟩
 show let T:TS:=_;let J:TS:=bN _ T;let I:TS:=bN _ J;let C:TS:=bN _ I;bN _ C _ _ _;intro T J I C;refine⟨_,rfl,F4,λW hW=>?_⟩;refine⟨bp _,λR hR=>?_⟩;have j:W≠R:=aI au hR;have U:H R=none:=by rw[aW j.symm]at hR;exact hR
 dsimp only[mV];refine Gr (uu (λσ H'=>∃(o3:LU) (ws fs:LI) (l g:List Tm),σ=[some v,some (.ref W),some (.ref R),o3]/\Same H H'/\H' W=some (.lst ws)/\H' R=some (.lst fs)/\Ls (j0 H) ws l/\Ls (j0 H) fs g/\t.pre=g++l.reverse.flatMap Tm.pre)
  (λ_ H'=>match H' R with|some (.lst fs)=>t.size-fs.length|_=>0) ?_ ?_ ?_)
 refine⟨none,[v],[],[t],[],rfl,(Same.upd hW).trans (Same.upd hR),by rw[aW j];exact au,au,.cons hT .nil,.nil,?_⟩;show t.pre=[]++(t.pre++[]);rw[iC,iu];rintro σ H1 ⟨o3,ws,fs,l,g,rfl,s1,eW,eR,dW,dF,hp⟩;refine⟨_,rfl,!ws.isEmpty,.inl ⟨ws,bW.of eW,rfl⟩,?_⟩;have lW:=dW.len;have lF:=dF.len;have lp:=congrArg List.length hp;rw[Tm.pre_len,ah]at lp;rcases List.eq_nil_or_concat l with rfl|⟨tws',x,rfl⟩;cases dW;refine gu ?_;refine⟨_,rfl,.inl ⟨rfl,_,bW.of eR⟩,R,fs,rfl,rfl,eR,?_⟩;refine⟨_,rfl,q R fs.reverse _ (λb o e=>?_) au ?_⟩;rw[aW (aI e U)];exact s1 _ _ e;have hp':t.pre=g:=by rw[hp];simp
 rw[hp'];exact dF.rev;rw[List.concat_eq_append]at*;obtain⟨a,b,rfl,d1,d2⟩:=dW.split;cases d2 with
 |cons dx d2=>
  cases d2;rename_i y;have en:(!(a++[y]).isEmpty)=true:=by simp
  rw[en];refine iV ?_;refine⟨_,rfl,.inl ⟨rfl,_,bW.of eW⟩,W,a++[y],y,rfl,rfl,eW,by simp,?_⟩;have eR2:L2.upd H1 W (.lst (a++[y]).dropLast) R=some (.lst fs):=by rw[aW j.symm];exact eR
  refine⟨_,rfl,.inl ⟨rfl,_,bW.of eR2⟩,_,rfl,R,fs,y,rfl,rfl,eR2,uO (by rw[vF,aH]at lp;lia),?_⟩;have p:L2.upd (L2.upd H1 W (.lst (a++[y]).dropLast)) R (.lst (fs++[y])) W=some (.lst a):=by rw[aW j,au];simp
  have s3:Same H (L2.upd (L2.upd H1 W (.lst (a++[y]).dropLast)) R (.lst (fs++[y]))):=λb o e=>by rw[aW (aI e U),aW (aI e hW)];exact s1 _ _ e
  have eR3:L2.upd (L2.upd H1 W (.lst (a++[y]).dropLast)) R (.lst (fs++[y])) R=some (.lst (fs++[y])):=au;generalize L2.upd (L2.upd H1 W (.lst (a++[y]).dropLast)) R (.lst (fs++[y]))=H3 at p s3 eR3 ⊢;refine⟨_,rfl,.inl ⟨rfl,_,bW.of p⟩,_,rfl,y,x,H,rfl,s3,dx,λq' ks H4 s4 eq dk=>?_⟩;have lk:=dk.len;refine⟨W,q',a,ks,rfl,rfl,s4 _ _ p,dH.of eq,cu (uO (by have:=Tm.kids_len x;have l1:=d1.len;have hh:=Id (tws'++[x]);rw[ah,bY]at hh;lia)),?_⟩;have eR5:L2.upd H4 W (.lst (a++ks)) R=some (.lst (fs++[y])):=by rw[aW j.symm];exact s4 _ _ eR3
  refine⟨⟨_,a++ks,fs++[y],tws'++x.kids,g++[x],rfl,λb o e=>?_,au,eR5,d1.app dk,dF.app (.cons dx .nil),?_⟩,?_⟩;rw[aW (aI e hW)];exact s4 _ _ (s3 _ _ e);rw[hp,vF,qA];rfl;show(match L2.upd H4 W (.lst (a++ks)) R with|some (.lst fs)=>t.size-fs.length|_=>0)<(match H1 R with|some (.lst fs)=>t.size-fs.length|_=>0);rw[eR5,eR];show t.size-(fs++[y]).length<t.size-fs.length;rw[vF,aH]at lp;rw[ah,bY];lia
 rintro σ H' Q1 Q2 hq ⟨v',e,k',c,q'⟩;exact⟨v',e,k',c,hq _ _ q'⟩
inductive Ey (vs:LI)(H:Hp)(Q:VK):Prop|mk (l:Addr) (xs:LI) (_:vs=[.int 1,.ref l]) (_:H l=some (.lst xs)) (_:Q (.int 1) H):Ey vs H Q
def Pu:Sp:=λvs H Q _=>Ey vs H Q
theorem Px:bv ["divisor","tops","top"] ["divisor","tops"] (aw Nm):={}
theorem QU (F:Fun K "shared_by_all" "shared_by_all" Nm f fd):cW P w K mg base gK 1 f fd ["divisor","tops"] Pu:=by
 refine F.q Px λH vs _ _ h=>?_;obtain⟨l,xs,rfl,hl,q⟩:=h;refine⟨_,am (eQ PassesOwn.never rfl (cK (pv 1)) (l9 2 Px.nd)
   (am (dX (bV gh (pv 0) ar (bO _)) (aC (bw ar)) cE) jL))
  (aC (bw (pv 0))),?_⟩
 show let p:TS:=_;let j:TS:=_;let g:TS:=bN (gL _ j _) _;bN (i0 _ _ g) p _ _ _;intro p j g;refine⟨_,rfl,l,rfl,⟨_,bW.of hl⟩,gi (xs:=xs) (λi σ H'=>∃(t:LU),σ=[some (.int 1),some (.ref l),t]/\H'=H) ⟨none,rfl,rfl⟩ (λi σ H' _ ⟨_,_,e⟩=>by subst e;exact bW.of hl) ?_ ?_⟩;rintro i x σ H1 C ⟨t,rfl,rfl⟩;exact⟨_,rfl,rfl,_,rfl,jr rfl q⟩;rintro σ H1 ⟨t,rfl,rfl⟩;exact⟨_,rfl,q⟩
inductive sW (vs:LI)(H:Hp)(Q:VK):Prop|mk (l:Addr) (xs:LI) (_:vs=[.ref l,.int 1]) (_:H l=some (.lst xs)) (_:∀p,H p=none->Q (.ref p) (L2.upd H p (.tup [.ref l,.int 1]))):sW vs H Q
def wH:Sp:=λvs H Q _=>sW vs H Q
abbrev K8:LM:=["tops","bottom","divisor"]
theorem wZ:bv K8 ["tops","bottom"] (aw qT):={}
theorem CT (F:Fun K "lowered" "lowered" qT f fd)(t:Cl P w K mg base "shared_by_all" Nm ["divisor","tops"] 1 Pu):cW P w K mg base gK 2 f fd ["tops","bottom"] wH:=by
 refine F.q wZ λH vs _ p h=>?_;obtain⟨l,xs,rfl,hl,q⟩:=h;refine⟨_,am (fk 2 wZ.nd (bH t p rfl (ac (pv 1) (ac (pv 0) aj))))
  (am (dX (bV gh (pv 2) ar (bO _)) (aC (bw (dm (ac (pv 0) (ac (pv 1) aj))))) cE) jL),?_⟩
 show let j:TS:=_;let g:TS:=bN (gL _ j _) _;bN _ g _ _ _;intro j g;refine⟨_,rfl,_,rfl,l,xs,rfl,hl,?_⟩;refine⟨_,rfl,rfl,_,rfl,jr rfl ?_⟩;exact⟨_,rfl,_,rfl,k9,q⟩
def Qm:Sp:=λvs H Q _=>∃(v u:V) (n:Nat) (g h:Nat->Int),vs=[v,u]/\vV H v ((List.range n).map g)/\vV H u ((List.range n).map h)/\n<=16/\(∀q,q<n->M11.Bn 950000 (g q)/\M11.Bn 950000 (h q))/\
 ∀z H',Same H H'->vV H' z ((List.range n).map λq=>g q*h q)->Q z H'
abbrev VH:LM:=["value","other","tops"]
theorem JT:bv VH ["value","other"] (aw mH):={}
theorem Lx:cn (aw mH) VH (cX (eU (dM mH 0))) ["top","other_top"]:={}
theorem N7 (B:oT mg)(F:Fun K "one_by_one_product" "one_by_one_product" mH f fd)(GL:Cl P w K mg base "lowered" qT ["tops","bottom"] 2 wH):cW P w K mg base gK 3 f fd ["value","other"] Qm:=by
 refine F.qq JT λH vs _ hr h=>?_;obtain⟨v,u,n,g,h,rfl,⟨p,l,rfl,hp,hl⟩,⟨p',U,rfl,C,I⟩,hn,hb,q⟩:=h;refine⟨_,am (mK (i:=2) JT.nd rfl (Or.inl rfl) rfl Lx rfl (pX rfl B.zip (ac (bf bL (pv 0) ar) (ac (bf bL (pv 1) ar) aj))) (pY rfl Lx) (λ_ _ _=>lJ) λ_ _ _=>bR io (pv 3) (pv 4))
  (aC (bw (bH GL hr rfl (ac (pv 2) (ac (bR io (bf bL (pv 0) ar) (bf bL (pv 1) ar)) aj))))),?_⟩
 show let t:TS:=_;bN _ t _ _ _;intro t;refine⟨_,rfl,p,_,_,_,rfl,rfl,dH.of hp,rfl,_,rfl,p',_,_,_,rfl,rfl,dH.of C,rfl,l,U,rfl,⟨_,bW.of hl⟩,⟨_,bW.of I⟩,?_⟩;refine yU (((List.range n).map λq=>g q*h q).map V.int) rfl (bW.of hl) (bW.of I) (by simp only[aa]) (by simp only[aa]) (by simp only[aa,aA];lia) ?_ ?_ ?_;intro i x y v H' hx hy hv s';obtain⟨x,ex,rfl⟩:=bJ hx;obtain⟨y,ey,rfl⟩:=bJ hy;obtain⟨z,ez,rfl⟩:=bJ hv;obtain⟨hi,rfl⟩:=ip ex;obtain⟨_,rfl⟩:=ip ey;obtain⟨_,rfl⟩:=ip ez;exact⟨_,rfl,_,rfl,_,_,rfl,rfl,⟨950000,by decide,hb i hi⟩,rfl,Same.refl _⟩;intro D H' s' nD J;refine⟨_,rfl,_,rfl,p,_,_,_,rfl,rfl,dH.of (s' _ _ hp),rfl,_,rfl,p',_,_,_,rfl,rfl,dH.of (s' _ _ C),rfl,_,_,rfl,rfl,⟨1,by decide,by unfold M11.Bn;decide,by unfold M11.Bn;decide⟩,D,_,rfl,J,λz hz=>q _ _ (s'.trans (Same.upd hz)) ⟨z,D,rfl,au,?_⟩⟩;exact(Same.upd hz) _ _ J;rintro σ H' Q1 Q2 hq ⟨v,e,T,e',i,j,a1,a2,a3,g⟩;exact⟨v,e,T,e',i,j,a1,a2,a3,hq _ _ g⟩
theorem Pw {a b:Str}(h:a≠b):¬V.str a=V.str b:=λz=>h (V.str.inj z)
theorem Kz (k:Nat):(List.replicate k [V.int 1]).flatten=(List.replicate k (1:Int)).map V.int:=by induction k with|zero=>rfl|succ k g=>rw[cT,dS,g,cT,aJ];rfl
def Cf (hs:LH)(M:LA)(n:Nat)(t:Tm):LH:=(List.range n).map (Tm.v n (cQ hs) (ent M) t)
inductive Al (vs:LI)(H:Hp)(Q:VK):Prop|mk (wA:Addr) (v:V) (c:Option Int) (hs:LH) (M:LA) (n:Nat) (_:vs=[.ref wA,v]) (_:Wz H wA n hs M) (_:n<=8) (_:j0 H v (.leaf c)) (_:∀D H',Same H H'->H' D=some (.lst ((Cf hs M n (.leaf c)).map V.int))->Q (.ref D) H'):Al vs H Q
def Jz:Sp:=λvs H Q _=>Al vs H Q
abbrev PP:LM:=["web","term","size","kind"]
theorem Cz:bv PP ["web","term"] (aw xg):={}
def Ve (st:Stmt):Expr:=match st with
 | .If _ (b::_) _ _=>eU b
 |_=>.Constant .none 0 ⟨0,0,0,0⟩
theorem Re:cn (aw xg) PP (cX (Ve (dM xg 3))) ["hue"]:={}
theorem NW (B:oT mg)(F:Fun K "tops_of_leaf" "tops_of_leaf" xg f fd):cW P w K mg base gK 1 f fd ["web","term"] Jz:=by
 refine F.q Cz λH vs _ _ h=>?_;obtain⟨wA,v,c,hs,M,n,rfl,hW,hn,hT,k⟩:=h;obtain⟨hA,rA,rs,w1,U,w3,R⟩:=hW.wr.ex;have hl:=hW.len;refine⟨_,am (fk 2 Cz.nd (bE bQ (by rfl) B.len bu (ac (bf bL (pv 0) ar) aj)))
  (am (fk 3 Cz.nd (bf bL (pv 1) ar))
  (am (dX (bV gh (pv 3) hJ (bO _)) (aC (bw (bR p7 (dC (ac ar aj)) (pv 2)))) cE)
  (am (dX (bV gh (pv 3) hJ (bO _)) (aC (bw (il rfl Re rfl (cK (bf bL (pv 0) ar)) λ_ _ _=>mN (bV gh (pv 4) (bf (gN (K:=K)) (pv 1) ar) (bO _)) ar ar))) cE)
  jL))),?_⟩
 show let J:TS:=_;let I:TS:=bN (gL _ J _) _;let C:TS:=_;let l:TS:=bN (gL _ C _) I;let j:TS:=bN _ l;bN _ j _ _ _;intro J I C l j;refine⟨_,rfl,wA,_,_,_,rfl,rfl,dH.of w1,rfl,hA,_,rfl,.inl (bW.of U),?_⟩;cases hT with|one hp=>refine⟨_,rfl,_,_,_,_,rfl,rfl,dH.of hp,rfl,?_⟩;refine⟨_,rfl,rfl,_,rfl,?_⟩;refine jr rfl ?_;refine⟨F4,λl1 hl1=>?_⟩;refine⟨_,rfl,l1,_,_,rfl,rfl,au,by lia,by rw[aa];lia,cu (cq (by show 1*((((hs.map V.int).length:Nat):Int)).toNat<=1000;rw[aa];lia)),λl2 hl2=>?_⟩;refine k _ _ ((Same.upd hl1).trans (Same.upd hl2)) ?_;rw[au,bg,aa,Kz,hl,<-sD hs M n];rfl|@hue p c hp=>refine⟨_,rfl,_,_,_,_,rfl,rfl,dH.of hp,rfl,?_⟩;refine⟨_,rfl,rfl,_,rfl,?_⟩;refine js (Pw (show("hue":Str)≠"one" by decide+kernel)) ?_;refine⟨_,rfl,rfl,_,rfl,jr rfl ?_⟩;refine⟨_,rfl,wA,_,_,_,rfl,rfl,dH.of w1,rfl,hA,rfl,⟨_,bW.of U⟩,λD hD=>?_⟩;refine lO (hs.map λh=>V.int (if h=c then 1 else 0)) (by rw[aa,aa]) (by rw[aa];lia) hD (bW.of U) ?_ ?_ ?_;intro i x v H' hx hv s';obtain⟨t,ht,rfl⟩:=bJ hx;obtain⟨t',T,rfl⟩:=bJ hv;rw[ht]at T;cases T;refine⟨_,rfl,_,rfl,p,_,_,_,rfl,rfl,dH.of (s' _ _ hp),fK _ _ _,rfl,_,rfl,?_⟩;by_cases e:t=c;subst e;refine jr rfl ⟨?_,Same.refl _⟩;rw[if_pos rfl];refine js (λz=>e (V.int.inj z)) ⟨?_,Same.refl _⟩;rw[if_neg e];intro H' s' eD;refine k D H' s' ?_;rw[eD,show Cf hs M n (.leaf (some c))=cO hs M n (.nd (some c) [])from rfl,sC M hl,cF];rfl;rintro σ H' Q1 Q2 hq ⟨v,e,v',e',a1,a2,a3,a4,a5,a6,a7,a8,e2,c',e3,g⟩;refine⟨v,e,v',e',a1,a2,a3,a4,a5,a6,a7,a8,e2,c',e3,?_⟩;cases c' with|true=>exact iV (hq _ _ (by rw[if_pos rfl]at g;exact g))|false=>exact gu (hq _ _ (by rw[if_neg bC]at g;exact g))
theorem WR.grd (W:WR H p hs M):∃g rA,H p=some (.tup [.ref g,.ref rA])/\H g=some (.lst (hs.map V.int))/\iL H rA (gI M):=by obtain⟨g,rA,rs,t,l,j,R⟩:=W.ex;exact⟨g,rA,t,l,vE j R⟩
inductive sY (vs:LI)(H:Hp)(Q:VK):Prop|mk (wA l:Addr) (hs:LH) (M:LA) (n:Nat) (t:Tm) (_:vs=[.ref wA,.str "near",.ref l]) (_:Wz H wA n hs M) (_:n<=8) (_:H l=some (.lst ((Cf hs M n t).map V.int))) (_:t.size<=12288) (_:∀D H',Same H H'->H' D=some (.lst ((Cf hs M n (.near t)).map V.int))->Q (.ref D) H'):sY vs H Q
def wQ:Sp:=λvs H Q _=>sY vs H Q
abbrev Lc:LM:=["web","kind","tops","rows"]
theorem Gz:bv Lc ["web","kind","tops"] (aw qV):={}
theorem DU (hs:LH)(M:LA)(n:Nat)(t:Tm):(Cf hs M n t).length=n:=by unfold Cf;rw[aa,aA]
theorem CV (F:Fun K "tops_from_one" "tops_from_one" qV f fd)(GS:Cl P w K mg base "sums_with_each" sZ ["numbers","rows"] 2 tW):cW P w K mg base gK 3 f fd ["web","kind","tops"] wQ:=by refine F.q Gz λH vs _ hr h=>?_;obtain⟨wA,l,hs,M,n,t,rfl,J,hn,hl,hz,k⟩:=h;obtain⟨hA,rA,U,w2,g⟩:=J.wr.grd;have ml:=J.sq.len;have j:=yj J.sq;refine⟨_,am (dX (bV gh (pv 1) hJ (bO _)) (aC (bw (bH GS hr rfl (ac (pv 2) (ac (bf bL (pv 0) ar) aj))))) cE) jL,?_⟩;show let p:TS:=_;bN (gL _ p _) _ _ _ _;intro p;refine⟨_,rfl,rfl,_,rfl,jr rfl ?_⟩;refine⟨_,rfl,_,rfl,wA,_,_,_,rfl,rfl,dH.of U,rfl,rA,l,M,Cf hs M n t,950000,rfl,g,hl,by lia,by rw[DU];lia,by decide,λx I=>⟨by rw[DU];exact j x I,λz C=>?_⟩,λx I=>?_,λD H' s' _ eD=>k D H' s' (by rw[eD];unfold Cf;rw[xE ml j];rfl)⟩;obtain⟨i,hi⟩:=aU.mp I;rw[qX hi (j x I)]at C;obtain⟨v,T,rfl⟩:=aV.mp C;exact cg (vK J.sq i (by have:=cw hi;lia) v (bc.mp T)) (gz (by decide) (by decide));obtain⟨v,T,rfl⟩:=aV.mp I;exact Cd (by lia) (vK J.sq) hz (bc.mp T)
inductive sX (vs:LI)(H:Hp)(Q:VK)(E:XK):Prop|mk (g v u:V) (_:vs=[g,.str "both",v,u]) (_:Qm [v,u] H Q E):sX vs H Q E
def wP:Sp:=λvs H Q E=>sX vs H Q E
abbrev rf:LM:=["web","kind","value","other"]
theorem Gy:bv rf rf (aw qU):={}
theorem CU (F:Fun K "value_from_two" "value_from_two" qU f fd)(p:Cl P w K mg base "one_by_one_product" mH ["value","other"] 3 Qm):cW P w K mg base gK 4 f fd rf wP:=by
 refine F.q Gy λH vs _ l h=>?_;obtain⟨t,v,u,rfl,h⟩:=h;refine⟨_,am (dX (bV gh (pv 1) hJ (bO _)) jL cE)
  (am (dX (bV gh (pv 1) hJ (bO _)) jL cE)
  (aC (bw (bH p l rfl (ac (pv 2) (ac (pv 3) aj)))))),?_⟩
 show let j:TS:=_;let g:TS:=bN (gL _ _ _) j;bN (gL _ _ _) g _ _ _;intro j g;refine⟨_,rfl,rfl,_,rfl,js (Pw (show("both":Str)≠"plus" by decide+kernel)) ?_⟩;refine⟨_,rfl,rfl,_,rfl,js (Pw (show("both":Str)≠"then" by decide+kernel)) ?_⟩;exact⟨_,rfl,_,rfl,h⟩
inductive uM (vs:LI)(H:Hp)(Q:VK):Prop|mk (wA q:Addr) (v:V) (t:Tm) (hs:LH) (M:LA) (n:Nat) (ps:LI) (_:vs=[.ref wA,v,.ref q]) (_:Wz H wA n hs M) (_:n<=8) (_:t.size<=12288) (_:j0 H v t) (_:H q=some (.lst ps)) (_:Ls (λv t=>vV H v (Cf hs M n t)) ps t.kids) (_:∀z H',Same H H'->vV H' z (Cf hs M n t)->Q z H'):uM vs H Q
def Az:Sp:=λvs H Q _=>uM vs H Q
abbrev Of:LM:=["web","term","inner_values","kind","value"]
theorem uV:bv Of ["web","term","inner_values"] (aw uf):={}
theorem Ho (B:oT mg)(F:Fun K "value_by_kind" "value_by_kind" uf f fd)(GE:Cl P w K mg base "tops_of_leaf" xg ["web","term"] 1 Jz)(GO:Cl P w K mg base "tops_from_one" qV ["web","kind","tops"] 3 wQ)(GT:Cl P w K mg base "value_from_two" qU rf 4 wP):cW P w K mg base gK 5 f fd ["web","term","inner_values"] Az:=by
 refine F.q uV λH vs _ hr h=>?_;obtain⟨wA,q,v,t,hs,M,n,ps,rfl,hW,hn,hz,hT,C,g,k⟩:=h;have r1:=hr.mono (j:=1) (by decide);have r3:=hr.mono (j:=3) (by decide);obtain⟨p,pre,ks,rfl,hp,dk,_⟩:=hT.at;refine⟨_,am (fk 3 uV.nd (bf bL (pv 1) ar))
  (am (dX (bV gh (bE bQ (by rfl) B.len bu (ac (pv 2) aj)) ar (bO _)) (aC (bw (bH GT hr rfl (ac (pv 0) (ac (pv 3) (ac (bf cD (pv 2) ar) (ac (bf cD (pv 2) ar) aj))))))) cE)
  (am (dX (bV gh (bE bQ (by rfl) B.len bu (ac (pv 2) aj)) ar (bO _)) (aC (bw (dm (ac (bH GE r1 rfl (ac (pv 0) (ac (pv 1) aj))) (ac ar aj))))) cE)
  (am (fk 4 uV.nd (bf cD (pv 2) ar))
  (am (dX (bV gh (pv 3) hJ (bO _)) jL cE)
  (aC (bw (dm (ac (bH GO r3 rfl (ac (pv 0) (ac (pv 3) (ac (bf bL (pv 4) ar) aj)))) (ac (bf bL (pv 4) ar) aj))))))))),?_⟩
 show let ω1:TS:=_;let ω2:TS:=bN (gL _ _ _) ω1;let ω3:TS:=bN _ ω2;let U:TS:=_;let T:TS:=bN (gL _ U _) ω3;let J:TS:=_;let I:TS:=bN (gL _ J _) T;bN _ I _ _ _;intro ω1 ω2 ω3 U T J I;refine⟨_,rfl,p,_,_,_,rfl,rfl,dH.of hp,eY _ _,?_⟩;refine⟨_,rfl,q,_,rfl,.inl (bW.of C),rfl,_,rfl,?_⟩;have i02:¬V.int 0=V.int 2:=λz=>absurd (V.int.inj z) (by decide);have i12:¬V.int 1=V.int 2:=λz=>absurd (V.int.inj z) (by decide);have i10:¬V.int 1=V.int 0:=λz=>absurd (V.int.inj z) (by decide);cases t with
 |leaf c=>cases g;refine js i02 ?_;refine⟨_,rfl,q,_,rfl,.inl (bW.of C),rfl,_,rfl,jr rfl ?_⟩;refine⟨_,rfl,_,rfl,wA,_,c,hs,M,n,rfl,hW,hn,hT,λD' H' s' eD=>⟨k9,λp' l=>?_⟩⟩;exact k _ _ (s'.trans (Same.upd l)) ⟨p',D',rfl,au,(Same.upd l) _ _ eD⟩
 |near t=>cases g with|cons hx g=>cases g;obtain⟨px,lx,rfl,hpx,hlx⟩:=hx;simp only[Tm.size]at hz;refine js i12 ?_;refine⟨_,rfl,q,_,rfl,.inl (bW.of C),rfl,_,rfl,js i10 ?_⟩;refine⟨_,rfl,q,_,_,_,rfl,rfl,bW.of C,eY _ _,?_⟩;refine⟨_,rfl,rfl,_,rfl,js (Pw (show("near":Str)≠"many" by decide+kernel)) ?_⟩;refine⟨_,rfl,_,rfl,_,rfl,px,_,_,_,rfl,rfl,dH.of hpx,rfl,wA,lx,hs,M,n,t,rfl,hW,hn,hlx,by lia,λD' H' s' eD=>?_⟩;refine⟨_,rfl,px,_,_,_,rfl,rfl,dH.of (s' _ _ hpx),rfl,k9,λp' l=>?_⟩;exact k _ _ (s'.trans (Same.upd l)) ⟨p',D',rfl,au,(Same.upd l) _ _ eD⟩
 |both t u=>cases g with|cons hx g=>cases g with|cons hy g=>cases g;simp only[Tm.size]at hz;refine jr rfl ?_;exact⟨_,rfl,_,rfl,_,rfl,q,_,_,_,rfl,rfl,bW.of C,eY _ _,_,rfl,q,_,_,_,rfl,rfl,bW.of C,fK _ _ _,_,_,_,rfl,_,_,n,_,_,rfl,hx,hy,by lia,λz hz'=>⟨Cd (by lia) (vK hW.sq) (by lia) hz',Cd (by lia) (vK hW.sq) (by lia) hz'⟩,k⟩
inductive Ai (vs:LI)(H:Hp)(Q:VK):Prop|mk (wA:Addr) (v:V) (t:Tm) (hs:LH) (M:LA) (n:Nat) (_:vs=[.ref wA,v]) (_:Wz H wA n hs M) (_:n<=8) (_:t.size<=12288) (_:j0 H v t) (_:∀z H',Same H H'->vV H' z (Cf hs M n t)->Q z H'):Ai vs H Q
def Ju:Sp:=λvs H Q _=>Ai vs H Q
abbrev Td:LM:=["web","term","values","part","first"]
theorem uT:bv Td ["web","term"] (aw ER):={}
theorem NP (B:oT mg)(F:Fun K "value_of" "value_of" ER f fd)(GF:Cl P w K mg base "terms_innermost_first" uc ["term"] 2 Ab)(GI:Cl P w K mg base "inner_terms" uX ["term"] 1 yk)(GK:Cl P w K mg base "value_by_kind" uf ["web","term","inner_values"] 5 Az):cW P w K mg base gK 6 f fd ["web","term"] Ju:=by
 refine F.q uT λH vs _ hr h=>?_;obtain⟨wA,v,t,hs,M,n,rfl,hW,hn,hz,hT,k⟩:=h;have r1:=hr.mono (j:=1) (by decide);have r2:=hr.mono (j:=2) (by decide);refine⟨_,am (fk 2 uT.nd (dC aj))
  (am (eQ PassesOwn.never rfl (cK (bH GF r2 rfl (ac (pv 1) aj))) (l9 3 uT.nd)
   (iX (fk 4 uT.nd (bR vh (bE bQ (by rfl) B.len bu (ac (pv 2) aj)) (bE bQ (by rfl) B.len bu (ac (bH GI r1 rfl (ac (pv 3) aj)) aj))))
   (aC (fk 2 uT.nd (bR qf (jp lH (pv 2) lK (jV (pv 4))) (dC (ac (bH GK hr rfl (ac (pv 0) (ac (pv 3) (ac (jp lH (pv 2) (jV (pv 4)) lK) aj)))) aj)))))))
  (aC (bw (bf cD (pv 2) ar)))),?_⟩
 show let ω1:TS:=_;let ω2:TS:=_;let ω3:TS:=rG _ ω2;let ω4:TS:=bN (i0 _ _ ω3) ω1;bN _ ω4 _ _ _;intro ω1 ω2 ω3 ω4;refine⟨bp _,λR0 hR0=>?_⟩;obtain⟨Ha,g,s0,e0⟩:=nw (.lst []) hR0;rw[g];clear g;refine⟨_,rfl,v,t,rfl,hT.same s0,hz,λL fs H1 s1 eL dF=>?_⟩;have lf:=dF.len;have lp:t.pre.reverse.length=t.size:=by rw[dy,Tm.pre_len]
 have s01:=s0.trans s1;refine⟨L,rfl,⟨_,bW.of eL⟩,gi (xs:=fs) (λi σ H'=>∃(o3 o4:LU) (R:Addr) (ps:LI) (ss:List Tm),σ=[some (.ref wA),some v,some (.ref R),o3,o4]/\Same H1 H'/\H' R=some (.lst ps)/\Ls (λv t=>vV H' v (Cf hs M n t)) ps ss/\Ch ss (t.pre.reverse.drop i) [t]/\ss.length<=i)
  ⟨none,none,R0,[],[],rfl,Same.refl _,s1 _ _ e0,.nil,by simpa using t.chain [],av _⟩ (λi σ H' _ ⟨_,_,_,_,_,_,s',_⟩=>bW.of (s' _ _ eL)) ?_ ?_⟩
 rintro i x σ H2 hx ⟨o3,o4,R,ps,ss,rfl,s2,eR,l,p,U⟩;obtain⟨tm,I,dx⟩:=dF.get hx;have hi:i<t.pre.reverse.length:=(aZ.mp I).1;have edrop:t.pre.reverse.drop i=tm::t.pre.reverse.drop (i+1):=by rw[List.drop_eq_getElem_cons hi];congr 1;rw[aq hi]at I;exact bK I
 rw[edrop]at p;obtain⟨Bs,rfl,hch'⟩:=p.pop;obtain⟨J,ya,rfl,hxa,hya⟩:=l.split;have ts:tm.size<=12288:=bj (Tm.pre_size t tm (hV.mp (af I))) hz;have s02:=s1.trans s2;refine⟨λσ H3=>σ=[some (.ref wA),some v,some (.ref R),some x,some (.int ((J.length:Nat):Int))]/\Same H2 H3,?_,?_⟩;refine⟨_,rfl,R,_,rfl,.inl (bW.of eR),_,rfl,x,tm,Ha,rfl,s02,dx,λq ks H3 s3 eq dk=>?_⟩;refine⟨q,_,rfl,.inr (dH.of eq),_,_,rfl,rfl,?_,s3⟩;have ef:(((J++ya).length:Nat):Int)-((ks.length:Nat):Int)=((J.length:Nat):Int):=by rw[ah,hya.len,dk.len];lia
 rw[<-ef];rfl;rintro σ3 H3 ⟨rfl,s3⟩;refine⟨_,rfl,_,rfl,_,rfl,R,_,rfl,bW.of (s3 _ _ eR),λp0 hp0=>?_⟩;rw[Ii];obtain⟨H4,g,s4,e4⟩:=nw (.lst J) hp0;rw[g];clear g;refine⟨_,rfl,_,rfl,_,rfl,_,rfl,_,rfl,R,_,rfl,bW.of (s4 _ _ (s3 _ _ eR)),λp1 hp1=>?_⟩;rw[vQ];obtain⟨H5,g,s5,e5⟩:=nw (.lst ya) hp1;rw[g];clear g;have C:=(s3.trans s4).trans s5;have s05:=s02.trans C;refine⟨wA,p1,x,tm,hs,M,n,ya,rfl,hW.same (s0.trans s05),hn,ts,dx.same s05,e5,hya.mono λa b h=>h.same C,λz H6 s6 rz=>?_⟩;refine⟨F4,λp2 hp2=>?_⟩;obtain⟨H7,g,s7,e7⟩:=nw (.lst [z]) hp2;rw[g];clear g;have T:=s6.trans s7;refine⟨p0,p2,J,[z],rfl,rfl,T _ _ (s5 _ _ e4),e7,cu (uO (by
  have:=hxa.len;have h8:i<t.size:=by rw[<-lp];exact hi
  rw[ah]at U;show J.length+1<=20000;lia)),λp3 hp3=>?_⟩
 have s8:Same H7 (L2.upd H7 p3 (.lst (J++[z]))):=Same.upd hp3;refine⟨_,_,p3,J++[z],Bs++[tm],rfl,((s2.trans C).trans T).trans s8,au,(hxa.mono λa b h=>h.same ((C.trans T).trans s8)).app (.cons (rz.same (s7.trans s8)) .nil),hch',?_⟩;rw[ah]at U ⊢;show _+1<=_;lia;rintro σ H2 ⟨o3,o4,R,ps,ss,rfl,s2,eR,l,p,U⟩;have ed:t.pre.reverse.drop fs.length=[]:=by rw[lf];exact List.drop_length
 rw[ed]at p;have:=p.done;subst this;cases l with|cons hz' l=>cases l;exact⟨_,rfl,R,_,_,_,rfl,rfl,bW.of eR,eY _ _,k _ H2 (s01.trans s2) hz'⟩
def VI (H:Hp)(v:V)(l:Int×Int):Prop:=∃p,v=.ref p/\H p=some (j8 l)
inductive Ef (vs:LI)(H:Hp)(Q:VK):Prop|mk (v:V) (r:LH) (_:vs=[v]) (_:vV H v r) (_:∀u H',Same H H'->VI H' u (r.sum,1)->Q u H'):Ef vs H Q
def Pn:Sp:=λvs H Q _=>Ef vs H Q
theorem SD:bv ["value"] ["value"] (aw Nk):={}
theorem QM (B:oT mg)(F:Fun K "total_of_value" "total_of_value" Nk f fd)(t:Cl P w K mg base "fraction_of" SI ["top","bottom"] 2 UQ):cW P w K mg base gK 3 f fd ["value"] Pn:=by refine F.q SD λH vs _ j h=>?_;obtain⟨v,r,rfl,⟨p,l,rfl,hp,hl⟩,q⟩:=h;refine⟨_,aC (bw (bH t j rfl (ac (bE (jv rfl) (by rfl) B.sum jx (ac (bf bL (pv 0) ar) aj)) (ac (bf bL (pv 0) ar) aj)))),?_⟩;exact⟨_,rfl,p,_,_,_,rfl,rfl,dH.of hp,rfl,l,_,rfl,bW.of hl,_,rfl,p,_,_,_,rfl,rfl,dH.of hp,rfl,_,_,rfl,by decide,Nat.one_lt_two_pow (by decide),λp' g=>q _ _ (Same.upd g) ⟨p',rfl,by rw[au,M11.low_one]⟩⟩
inductive sU (vs:LI)(H:Hp)(Q:VK):Prop|mk (wA:Addr) (v:V) (t:Tm) (hs:LH) (M:LA) (n:Nat) (_:vs=[.ref wA,v]) (_:Wz H wA n hs M) (_:n<=8) (_:t.size<=12288) (_:j0 H v t) (_:∀u H',Same H H'->VI H' u ((Cf hs M n t).sum,1)->Q u H'):sU vs H Q
def mC:Sp:=λvs H Q _=>sU vs H Q
theorem SE:bv ["web","term"] ["web","term"] (aw Nl):={}
theorem QN (F:Fun K "total_of_term" "total_of_term" Nl f fd)(I:Cl P w K mg base "value_of" ER ["web","term"] 6 Ju)(J:Cl P w K mg base "total_of_value" Nk ["value"] 3 Pn):cW P w K mg base gK 7 f fd ["web","term"] mC:=by refine F.q SE λH vs _ g h=>?_;obtain⟨wA,v,t,hs,M,n,rfl,h1,h2,p,l,k⟩:=h;refine⟨_,aC (bw (bH J (g.mono (by decide)) rfl (ac (bH I g rfl (ac (pv 0) (ac (pv 1) aj))) aj))),?_⟩;exact⟨_,rfl,_,rfl,wA,v,t,hs,M,n,rfl,h1,h2,p,l,λz H1 j hz=>⟨z,_,rfl,hz,λu H' s' C=>k u H' (j.trans s') C⟩⟩
theorem Gw:bv ["web","term"] ["web","term"] (aw oz):={}
theorem CQ (F:Fun K "total_of" "total_of" oz f fd)(p:Cl P w K mg base "total_of_term" Nl ["web","term"] 7 mC):cW P w K mg base gK 8 f fd ["web","term"] mC:=by refine F.q Gw λH vs _ g h=>?_;obtain⟨wA,v,t,hs,M,n,rfl,h1,h2,l,j,k⟩:=h;exact⟨_,aC (bw (bH p g rfl (ac (pv 0) (ac (pv 1) aj)))),_,rfl,_,rfl,wA,v,t,hs,M,n,rfl,h1,h2,l,j,k⟩
inductive uF (d:Nat)(vs:LI)(H:Hp)(Q:VK):Prop|mk (Z:Addr->Prop) (v:V) (t:Tr) (_:vs=[v]) (_:jy Z H v t) (_:t.deep<=d) (_:∀u H',Same H H'->j0 H' u t.tm->Q u H'):uF d vs H Q
def uG (d:Nat):Sp:=λvs H Q _=>uF d vs H Q
abbrev Od:LM:=["tree","wish","term","bough"]
theorem mE:bv Od ["tree"] (aw qR):={}
theorem Hk (D:Dn K mg "term_of" qR ["tree"] f fd):∀d:Nat,cW P w K mg base gK (d+1) f fd ["tree"] (uG d):=by
 intro d;induction d with
 |zero=>refine D.fn.q mE λH vs _ _ h=>?_;obtain⟨Z,v,t,rfl,_,h,_⟩:=h;have:=vL t;lia
 |succ d G=>
  refine D.fn.o mE λcdv A outer s H vs Q E hr h=>?_;obtain⟨Z,v,⟨wi,bs⟩,rfl,hT,hd,q⟩:=h;rw[Tr.deep]at hd;have hd':Tr.deeps bs<=d:=by lia
  obtain⟨p,l,ys,rfl,z1,z2,hp,hl,hb⟩:=hT.at';refine⟨_,am (fk 1 mE.nd (bf bL (pv 0) ar))
   (iX (fk 2 mE.nd (mN (bV yO (pv 1) jO (bO _)) (dm (ac hJ aj)) (dm (ac hJ (ac (pv 1) aj)))))
   (am (eQ PassesOwn.never rfl (cK (bf bL (pv 0) ar)) (l9 3 mE.nd)
    (aC (fk 2 mE.nd (dm (ac hJ (ac (pv 2) (ac (dm (ac hJ (ac (Fb D G hr rfl (ac (pv 3) aj)) aj))) aj)))))))
   (aC (bw (pv 2))))),?_⟩
  show let J:TS:=_;let I:TS:=_;let C:TS:=bN (i0 _ _ I) J;let j:TS:=rG _ C;bN _ j _ _ _;intro J I C j;refine⟨_,rfl,p,_,_,_,rfl,rfl,dH.of hp,rfl,?_⟩;refine⟨λσ H1=>∃tv,σ=[some (.ref p),some (jX wi),some tv,none]/\Same H H1/\j0 H1 tv (.leaf wi),?_,?_⟩;refine⟨_,rfl,rfl,_,rfl,?_⟩;cases wi with|none=>refine iV ?_;exact⟨F4,λt g=>⟨_,rfl,Same.upd g,.one au⟩⟩|some c=>refine gu ?_;exact⟨_,rfl,k9,λt g=>⟨_,rfl,Same.upd g,.hue au⟩⟩
  rintro σ1 H1 ⟨tv0,rfl,s1,d1⟩;refine⟨_,rfl,p,_,_,_,rfl,rfl,dH.of (s1 _ _ hp),rfl,l,rfl,⟨_,bW.of (s1 _ _ hl)⟩,gi (xs:=ys) (λi σ H'=>∃(ob:LU) (tv:V),σ=[some (.ref p),some (jX wi),some tv,ob]/\Same H H'/\j0 H' tv (Tr.tms (.leaf wi) (bs.take i))) ⟨none,tv0,rfl,s1,by rw[eE,Tr.tms];exact d1⟩ (λi σ H' _ ⟨_,_,_,s,_⟩=>bW.of (s _ _ hl)) ?_ ?_⟩;rintro i x σ H2 hx ⟨ob,tv,rfl,s2,d2⟩;obtain⟨t,g,hxt⟩:=hb.get hx;refine⟨_,rfl,_,rfl,Z,x,t,rfl,hxt.same s2,Tr.deeps_get hd' g,λu H3 s3 d3=>?_⟩;refine⟨k9,λT ht1=>?_⟩;refine⟨VA,λt2 U=>?_⟩;have s4:Same H3 (L2.upd H3 T (.tup [.str "near",u])):=Same.upd ht1;have e4:L2.upd H3 T (.tup [.str "near",u]) T=some (.tup [.str "near",u]):=au;generalize L2.upd H3 T (.tup [.str "near",u])=H4 at s4 e4 U ⊢;have s5:Same H4 (L2.upd H4 t2 (.tup [.str "both",tv,.ref T])):=Same.upd U;refine⟨_,_,rfl,(s2.trans s3).trans (s4.trans s5),?_⟩;rw[cU g,zT];exact .both au (d2.same (s3.trans (s4.trans s5))) (.near (s5 _ _ e4) (d3.same (s4.trans s5)));rintro σ H2 ⟨ob,tv,rfl,s2,d2⟩;refine⟨_,rfl,q _ _ s2 ?_⟩;rw[Tr.tm];rw[hb.len,ce]at d2;exact d2
abbrev U5:LM:=["_law_top","_law_bottom","_law_one","_law_other","_law_rest"]
abbrev O6:LM:=["_law_top","_law_bottom"]
theorem w5:bv U5 O6 (aw JU):={}
inductive Em (vs:LI)(H:Hp)(Q:VK):Prop|mk (t b:Int) (_:vs=[.int t,.int b]) (_:0<b) (_:M11.Bn 8000 b) (_:∀p H',Same H H'->H p=none->H' p=some (j8 (M11.low t b))->Q (.ref p) H'):Em vs H Q
def Jw:Sp:=λvs H Q _=>Em vs H Q
theorem QP (B:oT mg)(F:Fun K "_law_lowest" "_law_lowest" JU f fd):cW P w K mg base gK 1 f fd O6 Jw:=by
 refine F.q w5 λH vs _ _ h=>?_;obtain⟨t,b,rfl,hb,T,k⟩:=h;refine⟨_,am (fk 2 w5.nd (bE BQ (by rfl) B.abs boot_abs (ac (pv 0) aj)))
  (am (fk 3 w5.nd (pv 1))
  (am (oF PassesOwn.never (bV jF (pv 2) ar (bO _))
   (am (fk 4 w5.nd (bR Fg (pv 3) (pv 2)))
   (am (fk 3 w5.nd (pv 2))
   (aC (fk 2 w5.nd (pv 4))))))
  (aC (bw (dm (ac (bR op_fdivL (pv 0) (pv 3)) (ac (bR op_fdivL (pv 1) (pv 3)) aj))))))),?_⟩
 show let l:TS:=_;let j:TS:=bN _ l;let g:TS:=bN _ j;bN _ g _ _ _;intro l j g;refine⟨_,rfl,t,rfl,_,rfl,?_⟩;refine uu (λσ H'=>∃(x y:Int) (r:LU),σ=[some (.int t),some (.int b),some (.int x),some (.int y),r]/\H'=H/\0<=x/\0<y/\Int.gcd x y=Int.gcd t b)
  (λσ _=>match σ with|[_,_,some (.int x),_,_]=>x.natAbs|_=>0) ⟨_,b,none,rfl,rfl,?_,hb,?_⟩ ?_ ?_
 split<;>lia;split;rw[Int.neg_gcd];rfl;rintro σ H' ⟨x,y,r,rfl,rfl,hx,U,J⟩;refine⟨_,rfl,rfl,_,rfl,?_⟩;by_cases h0:x=0;subst h0;refine iP rfl ?_;rw[Int.gcd_zero_left]at J;have eG:M11.sgn t b=y:=by unfold M11.sgn;rw[if_neg (by lia)];show((Int.gcd t b:Nat):Int)=y;rw[<-J];lia
 have I:=M11.sgn_le (t:=t) (dU hb);rw[eG]at I;have C:y.natAbs<2^9000:=cg I (T.mono (m:=9000) (by decide));refine⟨_,rfl,_,rfl,_,_,rfl,rfl,⟨dU U,C⟩,_,rfl,_,rfl,_,_,rfl,rfl,⟨dU U,C⟩,k9,λp hp=>k p _ (Same.upd hp) hp ?_⟩;rw[au];unfold M11.low j8;rw[eG];refine tF (λz=>h0 (V.int.inj z)) ?_;refine⟨_,rfl,_,rfl,y,x,rfl,rfl,h0,_,rfl,_,rfl,?_⟩;refine⟨⟨y.fmod x,x,_,rfl,rfl,tS _ (by lia),by lia,?_⟩,M11.fmod_small y x h0⟩;rw[Int.gcd_comm,M11.gcd_step,Int.gcd_comm];exact J;rintro σ H' Q1 Q2 hq ⟨v,e,sc,c,ec,q⟩;exact⟨v,e,sc,c,ec,hq _ _ q⟩
def xZ (H1:Hp)(D:Addr)(fs:LC)(i:Nat)(ys:LI)(H':Hp):Prop:=∃ps:LK,ys=ps.map V.ref/\ps.length=i/\Same H1 H'/\H' D=some (.lst ys)/\(∀r∈ps,r≠D)/\∀(j:Nat) (r:Addr) (f:Int×Int),ps[j]?=some r->fs[j]?=some f->H' r=some (j8 f)
theorem xZ.start (g:H1 D=none):xZ H1 D fs 0 [] (upd H1 D (.lst [])):=⟨[],rfl,rfl,Same.upd g,au,(λr h=>by cases h),(λj r x h _=>by cases h)⟩
theorem xZ.same (g:xZ H1 D fs i ys H'):Same H1 H':=let⟨_,_,_,z,_⟩:=g;z
theorem xZ.at (g:xZ H1 D fs i ys H'):H' D=some (.lst ys):=let⟨_,_,_,_,z,_⟩:=g;z
theorem xZ.step {f:Int×Int}(hD:H1 D=none)(g:xZ H1 D fs i ys H4)(hf:fs[i]?=some f)(hp:H5 p=some (j8 f))(J:H4 p=none)(t:Same H4 H5)(hm:i<900):
  H5 D=some (.lst ys)/\ys.length<sizeLine/\xZ H1 D fs (i+1) (ys++[.ref p]) (upd H5 D (.lst (ys++[.ref p]))):=by
 obtain⟨rs,rfl,I,U,T,C,hr⟩:=g;have l:p≠D:=λz=>by rw[z,T]at J;cases J
 refine⟨t _ _ T,cq (by rw[aa];lia),rs++[p],by rw[a0];rfl,by rw[ah,I];rfl,λb o e=>?_,au,λr h=>?_,λj r y h1 h2=>?_⟩;rw[aW (aI e hD)];exact t _ _ (U _ _ e);rcases be.mp h with z|z;exact C r z;rw[aX.mp z];exact l;rcases ox h1 with z|⟨e,z⟩;rw[aW (C r (af z))];exact t _ _ (hr j r y z h2);subst z;rw[e,I,hf]at h2;cases h2;rw[aW l];exact hp
theorem xZ.done {n:Nat}(g:xZ H1 D fs n ys H')(e:fs.length=n):H' D=some (.lst ys)/\jU H' ys fs:=by obtain⟨rs,rfl,l,C,t,I,p⟩:=g;refine⟨t,by rw[aa,l,e],λi v f h1 h2=>?_⟩;obtain⟨r,j,rfl⟩:=bJ h1;exact⟨r,rfl,p i r f j h2⟩
abbrev Th:LM:=["_law_terms","_law_top","_law_bottom","_law_one"]
theorem rL:bv Th ["_law_terms"] (aw EU):={}
def Sd (f:Int×Int):Prop:=0<f.2/\M11.Bn 200 f.1/\M11.Bn 200 f.2
inductive Am (vs:LI)(H:Hp)(Q:VK):Prop|mk (a:Addr) (x:LI) (fs:LC) (_:vs=[.ref a]) (_:H a=some (.lst x)) (_:jU H x fs) (_:fs.length<=16) (_:(∀f∈fs,Sd f)) (_:∀p H',Same H H'->H' p=some (j8 (iD fs))->Q (.ref p) H'):Am vs H Q
def JA:Sp:=λvs H Q _=>Am vs H Q
theorem NR (F:Fun K "_law_sum" "_law_sum" EU f fd)(GL:Cl P w K mg base "_law_lowest" JU O6 1 Jw):cW P w K mg base gK 2 f fd ["_law_terms"] JA:=by
 refine F.q rL λH vs _ hr h=>?_;obtain⟨a,x,fs,rfl,ha,hx,hl,hb,q⟩:=h;refine⟨_,am (fk 1 rL.nd ar)
  (am (fk 2 rL.nd ar)
  (am (eQ PassesOwn.never rfl (cK (pv 0)) (l9 3 rL.nd)
   (aC (jM (bH GL hr rfl (ac (bR gt (bR io (pv 1) (bf (gN (K:=K)) (pv 3) ar)) (bR io (bf (gN (K:=K)) (pv 3) ar) (pv 2))) (ac (bR io (pv 2) (bf (gN (K:=K)) (pv 3) ar)) aj)))
    (oG rfl (gc (l9 1 rL.nd) (gc (l9 2 rL.nd) lN))))))
  (aC (bw (dm (ac (pv 1) (ac (pv 2) aj))))))),?_⟩
 show let J:TS:=_;let I:TS:=_;let C:TS:=bN (i0 _ _ I) J;let t:TS:=bN _ C;bN _ t _ _ _;intro J I C t;refine⟨_,rfl,a,rfl,⟨_,bW.of ha⟩,gi (xs:=x) (λi σ H'=>∃(o3:LU),σ=[some (.ref a),some (.int (iD (fs.take i)).1),some (.int (iD (fs.take i)).2),o3]/\Same H H') ⟨none,rfl,Same.refl _⟩ (λi σ H' _ ⟨_,_,s'⟩=>bW.of (s' _ _ ha)) ?_ ?_⟩;rintro i v σ H1 hv ⟨o3,rfl,U⟩;obtain⟨g,hg⟩:=bA (l:=fs) (i:=i) (by rw[<-hx.1];exact cw hv);obtain⟨p,rfl,hp⟩:=hx.2 i v g hv hg;have j:=U _ _ hp;obtain⟨g1,g2,g3⟩:=hb g (af hg);obtain⟨b1,b2,b3⟩:=M7 _ (fs.take i) rfl (λf hf=>(hb f (jC hf)).1) (λf hf=>(hb f (jC hf)).2);have T:1+201*(fs.take i).length<=4000:=by rw[cm];lia
 have c2:=b2.mono T;have c3:=b3.mono T;have sn:iD (fs.take (i+1))=wk (iD (fs.take i)) g:=by rw[cU hg,wx]
 generalize iD (fs.take i)=u at b1 c2 c3 sn ⊢;refine⟨_,rfl,_,rfl,p,_,_,.int g.2,rfl,rfl,dH.of j,fK _ _ _,_,_,rfl,rfl,⟨4000,by decide,c2,g3.mono (by decide)⟩,?_⟩;refine⟨_,rfl,p,_,_,.int g.1,rfl,rfl,dH.of j,eY _ _,_,rfl,_,_,rfl,rfl,⟨4000,by decide,g2.mono (by decide),c3⟩,_,_,rfl,rfl,?_⟩;refine⟨_,rfl,_,rfl,p,_,_,.int g.2,rfl,rfl,dH.of j,fK _ _ _,_,_,rfl,rfl,⟨4000,by decide,c3,g3.mono (by decide)⟩,?_⟩;refine⟨_,_,rfl,nP b1 g1,(c3.mul g3).mono (by decide),λr H2 s2 nr er=>?_⟩;refine⟨r,_,rfl,dH.of er,rfl,_,_,rfl,_,_,rfl,rfl,?_⟩;refine⟨some (.ref p),?_,U.trans s2⟩;rw[sn];rfl;rintro σ H1 ⟨o3,rfl,U⟩;refine⟨_,rfl,_,rfl,k9,λp hp=>?_⟩;refine q p _ (U.trans (Same.upd hp)) ?_;rw[au,hx.1,ce];rfl
theorem Lk (h:0<c):M11.low 1 c=(1,c):=M11.low_self h Int.one_gcd
theorem xZ.put {f:Int×Int}(hD:H1 D=none)(g:xZ H1 D fs i ys H4)(U:fs[i]?=some f)(hp:H5 p=some (j8 f))(l:p≠D)(t:Same H4 H5)(hm:i<900):
  H5 D=some (.lst ys)/\ys.length<sizeLine/\xZ H1 D fs (i+1) (ys++[.ref p]) (upd H5 D (.lst (ys++[.ref p]))):=by obtain⟨rs,rfl,I,J,eD,C,T⟩:=g;refine⟨t _ _ eD,cq (by rw[aa];lia),rs++[p],by rw[a0];rfl,by rw[ah,I];rfl,λb o e=>?_,au,λr h=>?_,λj r y h1 h2=>?_⟩;rw[aW (aI e hD)];exact t _ _ (J _ _ e);rcases be.mp h with z|z;exact C r z;rw[aX.mp z];exact l;rcases ox h1 with z|⟨e,z⟩;rw[aW (C r (af z))];exact t _ _ (T j r y z h2);subst z;rw[e,I,U]at h2;cases h2;rw[aW l];exact hp
def qO (as bs:LH)(l:Int):LC:=bs.map λb=>if b=l then(1,((as.count l:Nat):Int))else(0,1)
abbrev K9:LM:=["lot","lots","lots_there","share"]
abbrev Dy:LM:=["lot","lots","lots_there"]
theorem EL:bv K9 Dy (aw rQ):={}
theorem Ov:cn (aw rQ) K9 (cX (eU (dM rQ 1))) ["lot_there"]:={}
inductive wI (vs:LI)(H:Hp)(Q:VK):Prop|mk (a b:Addr) (as bs:LH) (l:Int) (_:vs=[.int l,.ref a,.ref b]) (_:H a=some (.lst (as.map V.int))) (_:H b=some (.lst (bs.map V.int))) (_:l∈as) (_:as.length<=16) (_:bs.length<=16) (_:∀D H' x,Same H H'->H D=none->H' D=some (.lst x)->jU H' x (qO as bs l)->Q (.ref D) H'):wI vs H Q
def Eo:Sp:=λvs H Q _=>wI vs H Q
theorem KJ (F:Fun K "shares_of_lot" "shares_of_lot" rQ f fd)(GF:Cl P w K mg base "fraction_of" SI ["top","bottom"] 2 UQ):cW P w K mg base gK 3 f fd Dy Eo:=by
 refine F.q EL λH vs _ hr h=>?_;obtain⟨a,b,as,bs,l,rfl,ha,hb,ml,la,lb,q⟩:=h;have c0:0<as.count l:=List.count_pos_iff.mpr ml;have c1:as.count l<=16:=bj List.count_le_length la;refine⟨_,am (fk 3 EL.nd (bH GF hr rfl (ac ar (ac (mO bX PySem.F.slot_list_count PySem.F.type_list_count HC (pv 1) (ac (pv 0) aj)) aj))))
  (aC (bw (il rfl Ov rfl (cK (pv 2)) λ_ _ _=>mN (bV gh (pv 4) (pv 0) (bO _)) (pv 3) (dm (ac ar (ac ar aj)))))),?_⟩
 show let C:TS:=_;bN _ C _ _ _;intro C;refine⟨_,rfl,.inl ⟨rfl,_,bW.of ha⟩,_,rfl,a,as,l,rfl,rfl,ha,1,((as.count l:Nat):Int),rfl,by lia,?_,λt ht=>?_⟩;exact M11.Bn.mono (n:=5) (m:=9000) (show((as.count l:Nat):Int).natAbs<2^5 by have:(2:Nat)^5=32:=rfl;lia) (by decide);rw[Lk (by lia)];obtain⟨H0,U,I,T⟩:=nw (j8 (1,((as.count l:Nat):Int))) ht;rw[U];clear U;refine⟨_,rfl,b,rfl,⟨_,bW.of (I _ _ hb)⟩,λD j=>?_⟩;refine kA (K:=K) (xs:=bs.map V.int) (xZ H0 D (qO as bs l)) (xZ.start j) (λi ys H' _ g=>⟨bW.of (g.same _ _ (I _ _ hb)),g.at⟩) ?_ ?_ ?_;rintro i v ys H1 hv g;obtain⟨z,hz,rfl⟩:=bJ hv;have hi:i<bs.length:=cw hz;have J:(qO as bs l)[i]?=some (if z=l then(1,((as.count l:Nat):Int))else(0,1)):=by unfold qO;rw[ao,hz];rfl
 refine⟨_,rfl,_,rfl,rfl,_,rfl,?_⟩;by_cases e:z=l;rw[if_pos e]at J;refine jr (by rw[e]) ⟨_,rfl,?_⟩;exact g.put j J (g.same _ _ T) (λt'=>by rw[t',j]at T;cases T) (Same.refl _) (by lia);rw[if_neg e]at J;refine js (λt=>e (V.int.inj t)) ⟨k9,λp hp=>?_⟩;exact g.step j J au hp (Same.upd hp) (by lia);intro ys H1 g;obtain⟨eD,fr⟩:=g.done (by unfold qO;rw[aa,aa]);refine q D H1 ys (I.trans g.same) ?_ eD fr;cases e:H D with|none=>rfl|some o=>rw[I _ _ e]at j;cases j
 rintro σ H' Q1 Q2 hq ⟨v,e,v',e',sc,c,ec,g⟩;refine⟨v,e,v',e',sc,c,ec,?_⟩;cases c with
 |true=>exact iV (by rw[if_pos rfl]at g;obtain⟨u,eu,g⟩:=g;exact⟨u,eu,hq _ _ g⟩)
 |false=>exact gu (by rw[if_neg bC]at g;obtain⟨u,g⟩:=g;exact⟨u,λp hp=>hq _ _ (g p hp)⟩)
def v7 (H0 H':Hp)(D:Addr)(F:List (LC)):Prop:=∃rs:LK,H' D=some (.lst (rs.map V.ref))/\rs.length=F.length/\H0 D=none/\(∀r∈rs,r≠D/\H0 r=none)/\
 ∀(i:Nat) (r:Addr) (fs:LC),rs[i]?=some r->F[i]?=some fs->∃x,H' r=some (.lst x)/\jU H' x fs
def sS (H1:Hp)(D:Addr)(F:List (LC))(i:Nat)(ys:LI)(H':Hp):Prop:=∃rs:LK,ys=rs.map V.ref/\rs.length=i/\Same H1 H'/\H' D=some (.lst ys)/\(∀r∈rs,r≠D/\H1 r=none)/\
 ∀(j:Nat) (r:Addr) (fs:LC),rs[j]?=some r->F[j]?=some fs->∃x,H' r=some (.lst x)/\jU H' x fs
theorem jU.upd {x:LI}(h:jU H x fs)(g:H D=some (.lst ys)):jU (L2.upd H D (.lst zs)) x fs:=⟨h.1,λi v f h1 h2=>by obtain⟨p,e,hp⟩:=h.2 i v f h1 h2;refine⟨p,e,?_⟩;rw[aW λz=>by rw[z,g]at hp;cases hp];exact hp⟩
theorem sS.start (g:H1 D=none):sS H1 D F 0 [] (upd H1 D (.lst [])):=⟨[],rfl,rfl,Same.upd g,au,(λr h=>by cases h),(λj r x h _=>by cases h)⟩
theorem sS.same (g:sS H1 D F i ys H'):Same H1 H':=let⟨_,_,_,z,_⟩:=g;z
theorem sS.at (g:sS H1 D F i ys H'):H' D=some (.lst ys):=let⟨_,_,_,_,z,_⟩:=g;z
theorem sS.step {x:LI}(hD:H1 D=none)(g:sS H1 D F i ys H4)(hf:F[i]?=some fs)(C:H4 r=none)(hr:H5 r=some (.lst x))(hx:jU H5 x fs)(t:Same H4 H5)(hm:i<900):
  H5 D=some (.lst ys)/\ys.length<sizeLine/\sS H1 D F (i+1) (ys++[.ref r]) (upd H5 D (.lst (ys++[.ref r]))):=by
 obtain⟨rs,rfl,U,J,eD,T,hR⟩:=g;have p:r≠D:=λz=>by rw[z,eD]at C;cases C
 have I:H1 r=none:=by cases e:H1 r with|none=>rfl|some o=>rw[J _ _ e]at C;cases C
 have l:=t _ _ eD;refine⟨l,cq (by rw[aa];lia),rs++[r],by rw[a0];rfl,by rw[ah,U];rfl,λb o e=>?_,au,λc h=>?_,λj c gs h1 h2=>?_⟩;rw[aW (aI e hD)];exact t _ _ (J _ _ e);rcases be.mp h with z|z;exact T c z;rw[aX.mp z];exact⟨p,I⟩;rcases ox h1 with z|⟨e,z⟩;obtain⟨y,hy,fy⟩:=hR j c gs z h2;refine⟨y,?_,((fy.mono t).upd l)⟩;rw[aW (T c (af z)).1];exact t _ _ hy;subst z;rw[e,U,hf]at h2;cases h2;exact⟨x,by rw[aW p];exact hr,hx.upd l⟩
theorem sS.done {n:Nat}(t:H1 D=none)(g:sS H1 D F n ys H')(e:F.length=n):v7 H1 H' D F:=by obtain⟨rs,rfl,l,s,C,j,p⟩:=g;exact⟨rs,C,by rw[l,e],t,j,p⟩
theorem v7.back (g:v7 H1 H' D F)(s:Same H0 H1):v7 H0 H' D F:=by
 have b:∀{c:Addr},H1 c=none->H0 c=none:=λ{c} h=>by cases e:H0 c with|none=>rfl|some o=>rw[s _ _ e]at h;cases h
 obtain⟨rs,I,t,p,j,C⟩:=g;exact⟨rs,I,t,b p,λr l=>⟨(j r l).1,b (j r l).2⟩,C⟩
theorem v7.mono (g:v7 H0 H1 D F)(s:Same H1 H'):v7 H0 H' D F:=by obtain⟨rs,J,p,l,j,C⟩:=g;refine⟨rs,s _ _ J,p,l,j,λi r fs h1 h2=>?_⟩;obtain⟨x,t,I⟩:=C i r fs h1 h2;exact⟨x,s _ _ t,I.mono s⟩
def OR (as bs:LH):List (LC):=as.map (qO as bs)
abbrev K5:LM:=["web","other","together","lots"]
theorem yt:bv K5 ["web","other"] (aw rO):={}
theorem Oq:cn (aw rO) K5 (cX (eU (dM rO 2))) ["lot"]:={}
inductive wB (vs:LI)(H:Hp)(Q:VK):Prop|mk (wA g:Addr) (n m:Nat) (hs hs':LH) (M M':LA) (_:vs=[.ref wA,.ref g]) (_:Wz H wA n hs M) (_:Wz H g m hs' M') (_:n<=8) (_:m<=8) (_:∀(D:Addr) (ls:LH) (H':Hp),Same H H'->fW (hs++hs') (dN n m M M') ls->v7 H H' D (OR (ls.take n) (ls.drop n))->Q (.ref D) H'):wB vs H Q
def Eg:Sp:=λvs H Q _=>wB vs H Q
theorem KB (F:Fun K "table_of" "table_of" rO f fd)(GC:Cl P w K mg base "coarsest_together" mF ["web","other"] 4 pT)(GS:Cl P w K mg base "shares_of_lot" rQ Dy 3 Eo):cW P w K mg base gK 5 f fd ["web","other"] Eg:=by
 refine F.q yt λH vs _ hr h=>?_;obtain⟨wA,oA,n,m,hs,hs',M,M',rfl,W1,W2,hn,hm,q⟩:=h;have r3:=hr.mono (j:=3) (by decide);refine⟨_,am (fk 2 yt.nd (bH GC hr rfl (ac (pv 0) (ac (pv 1) aj))))
  (am (fk 3 yt.nd (bf bL (pv 2) ar))
  (aC (bw (il rfl Oq rfl (cK (pv 3)) λ_ _ _=>bH GS r3 rfl (ac (pv 4) (ac (pv 3) (ac (bf (gN (K:=K)) (pv 2) ar) aj))))))),?_⟩
 show let I:TS:=_;let t:TS:=bN _ I;bN _ t _ _ _;intro I t;refine⟨_,rfl,_,rfl,wA,oA,n,m,hs,hs',M,M',rfl,W1,W2,hn,hm,λp a b ls H1 s1 ep ea eb C=>?_⟩;have ll:ls.length=n+m:=by rw[<-C.len,ah,W1.len,W2.len]
 have lt:(ls.take n).length=n:=by rw[cm];lia
 have ld:(ls.drop n).length=m:=by rw[fF];lia
 refine⟨_,rfl,p,_,_,.ref a,rfl,rfl,dH.of ep,eY _ _,?_⟩;refine⟨_,rfl,a,rfl,⟨_,bW.of ea⟩,λD U=>?_⟩;refine kA (K:=K) (xs:=(ls.take n).map V.int) (sS H1 D (OR (ls.take n) (ls.drop n))) (sS.start U) (λi ys H' _ g=>⟨bW.of (g.same _ _ ea),g.at⟩) ?_ ?_ ?_;rintro i v ys H2 hv g;obtain⟨l,hl,rfl⟩:=bJ hv;have hi:i<n:=by have:=cw hl;lia
 have T:=g.same;have hf:(OR (ls.take n) (ls.drop n))[i]?=some (qO (ls.take n) (ls.drop n) l):=by unfold OR;rw[ao,hl];rfl
 refine⟨_,rfl,_,rfl,_,rfl,p,_,_,.ref b,rfl,rfl,dH.of (T _ _ ep),fK _ _ _,a,b,_,_,l,rfl,T _ _ ea,T _ _ eb,af hl,by lia,by lia,λr H3 x J nr er fr=>?_⟩;exact g.step U hf nr er fr J (by lia);intro ys H2 g;exact q D ls H2 (s1.trans g.same) C ((g.done U (by unfold OR;rw[aa,aa])).back s1);intro σ H' Q1 Q2 hq h;obtain⟨v,e,v',e',u,eu,p',xs,y,z,a1,a2,a3,a4,g⟩:=h;refine⟨v,e,v',e',u,eu,p',xs,y,z,a1,a2,a3,a4,?_⟩;obtain⟨a',b',as,bs,l,e1,h1,h2,h3,h4,h5,k⟩:=g;exact⟨a',b',as,bs,l,e1,h1,h2,h3,h4,h5,λD H3 x J n3 e3 f3=>hq _ _ (k D H3 x J n3 e3 f3)⟩
end
section
def Uz (n:Nat)(a b:Nat->Int):Prop:=∀u<n,∀v<n,a u=a v↔b u=b v
theorem QB {n:Nat}{a:Nat->Int}(h:Uz n a b){x:Nat}(j:u<n)(g:x<n):qF a (a u) x=qF b (b u) x:=by unfold qF;by_cases e:a x=a u;rw[if_pos e,if_pos ((h x g u j).mp e)];rw[if_neg e,if_neg λz=>e ((h x g u j).mpr z)]
theorem BE {n:Nat}{a:Nat->Int}(h:Uz n a b)(j:u<n):dO n a (a u)=dO n b (b u):=bZ λx g=>QB h j g
theorem E6 {a:Nat->Int}{x:Nat}(h:a x≠o):qF a o x=0:=if_neg h
theorem qW {n:Nat}{M:Nat->Nat->Int}{a:Nat->Int}(h:∀x<n,a x≠o)(w:Nat):oi n M a w o=0:=by
 have:oi n M a w o=gW n λ_=>0:=bZ λx g=>by rw[E6 (h x g),gv]
 rw[this,fR]
theorem xR {n:Nat}{a:Nat->Int}(h:∀x<n,a x≠o):dO n a o=0:=by have:dO n a o=gW n λ_=>0:=bZ λx g=>E6 (h x g);rw[this,fR]
section
variable {n m l:Nat}{h h' h2:Nat->Int}{M M' N:Nat->Nat->Int}{a b b' d al de:Nat->Int}
end
theorem EY {n:Nat}(S:iY n M)(g:M[i]?=some x):x=(List.range n).map λv=>ent M i v:=by apply cJ;intro j;rw[ao];have t:=(S.row i x g).1;by_cases p:j<n;rw[cy p];obtain⟨z,hz⟩:=bA (l:=x) (i:=j) (by lia);rw[hz];show some z=some ((M[i]?.getD [])[j]?.getD 0);rw[g];show some z=some (x[j]?.getD 0);rw[hz];rfl;rw[aY (by lia),aY (by rw[aA];lia)];rfl
def iJ (n m:Nat)(a b:Nat->Int):LH:=(List.range n).map a++(List.range m).map b
section
variable {n m:Nat}{us us' ls:LH}{M M':LA}{a b:Nat->Int}
theorem oJ:(iJ n m a b).length=n+m:=by unfold iJ;rw[ah,aa,aa,aA,aA]
theorem gn (g:u<n):(iJ n m a b)[u]?=some (a u):=by unfold iJ;rw[aN (by rw[aa,aA];exact g),ao,cy g];rfl
theorem fE (g:w<m):(iJ n m a b)[n+w]?=some (b w):=by unfold iJ;rw[aE (by rw[aa,aA];lia),aa,aA,gJ,ao,cy g];rfl
theorem Bf:o∈iJ n m a b↔(∃u<n,a u=o)\/ ∃w<m,b w=o:=by unfold iJ;rw[be,aV,aV];constructor;rintro(⟨u,g,e⟩|⟨u,g,e⟩);exact .inl ⟨u,bc.mp g,e⟩;exact .inr ⟨u,bc.mp g,e⟩;rintro(⟨u,g,e⟩|⟨u,g,e⟩);exact .inl ⟨u,bc.mpr g,e⟩;exact .inr ⟨u,bc.mpr g,e⟩
theorem kO (S:iY n M)(j:u<n)(h:(dN n m M M')[u]?=some ws)(o:Int):fz (ws.zip (iJ n m a b)) o=oi n (ent M) a u o:=by obtain⟨x,g,rfl⟩:=vT S.len j h;unfold iJ;rw[AH (by rw[aa,aA,(S.row u x g).1]) o,EY S g,kP];rfl
theorem jH (S:iY n M)(j:iY m M')(h:(dN n m M M')[n+w]?=some ws)(o:Int):fz (ws.zip (iJ n m a b)) o=oi m (ent M') b w o:=by obtain⟨x,g,rfl⟩:=sN S.len (by lia) h;rw[gJ]at g;unfold iJ;rw[xp (by rw[aa,aA]) o,EY j g,kP];rfl
theorem mU (h1:us.length=n)(g:u<n):(us++us')[u]?=some (cQ us u):=by rw[aN (by lia)];obtain⟨z,hz⟩:=bA (l:=us) (i:=u) (by lia);unfold cQ;rw[hz];rfl
theorem kK (h1:us.length=n)(h2:us'.length=m)(g:w<m):(us++us')[n+w]?=some (cQ us' w):=by rw[aE (by lia),h1,gJ];obtain⟨z,hz⟩:=bA (l:=us') (i:=w) (by lia);unfold cQ;rw[hz];rfl
theorem PF (h1:us.length=n)(h2:us'.length=m)(S:iY n M)(S':iY m M'):(∀i j,Pr (us++us') (iJ n m a b) (dN n m M M') i j)↔BZ n m (cQ us) (cQ us') (ent M) (ent M') a b:=by
 have lb:=zn (m:=m) S.len S'.len;constructor;intro P;have zA:∀{o:Int} (u:Nat),o∉iJ n m a b->oi n (ent M) a u o=0:=λu no=>qW (λx hx z=>no (Bf.mpr (.inl ⟨x,hx,z⟩))) u;have zB:∀{o:Int} (u:Nat),o∉iJ n m a b->oi m (ent M') b u o=0:=λu no=>qW (λx hx z=>no (Bf.mpr (.inr ⟨x,hx,z⟩))) u;refine⟨λu T v U e=>?_,λu T v U e=>?_,λu T v U e=>?_⟩;obtain⟨ws,p⟩:=bA (l:=dN n m M M') (i:=u) (by lia);obtain⟨ws',g⟩:=bA (l:=dN n m M M') (i:=v) (by lia);obtain⟨I,t⟩:=P u v _ _ _ ws ws' (gn T) (by rw[e];exact gn U) (mU h1 T) (mU h1 U) p g;refine⟨I,λo=>?_⟩;by_cases C:o∈iJ n m a b;have:=t o C;rw[kO S T p,kO S U g]at this;exact this;rw[zA u C,zA v C];obtain⟨ws,p⟩:=bA (l:=dN n m M M') (i:=n+u) (by lia);obtain⟨ws',g⟩:=bA (l:=dN n m M M') (i:=n+v) (by lia);obtain⟨I,t⟩:=P (n+u) (n+v) _ _ _ ws ws' (fE T) (by rw[e];exact fE U) (kK h1 h2 T) (kK h1 h2 U) p g;refine⟨I,λo=>?_⟩;by_cases C:o∈iJ n m a b;have:=t o C;rw[jH S S' p,jH S S' g]at this;exact this;rw[zB u C,zB v C];obtain⟨ws,p⟩:=bA (l:=dN n m M M') (i:=u) (by lia);obtain⟨ws',g⟩:=bA (l:=dN n m M M') (i:=n+v) (by lia);obtain⟨I,t⟩:=P u (n+v) _ _ _ ws ws' (gn T) (by rw[e];exact fE U) (mU h1 T) (kK h1 h2 U) p g;refine⟨I,λo=>?_⟩;by_cases C:o∈iJ n m a b;have:=t o C;rw[kO S T p,jH S S' g]at this;exact this;rw[zA u C,zB v C];intro E i j l z z' ws ws' I t e3 e4 e5 e6;have hi:i<n+m:=by have:=cw I;rw[oJ]at this;exact this
 have hj:j<n+m:=by have:=cw t;rw[oJ]at this;exact this
 by_cases ci:i<n;rw[gn ci]at I;rw[mU h1 ci]at e3;cases I;cases e3;by_cases J:j<n;rw[gn J]at t;rw[mU h1 J]at e4;cases e4;obtain⟨q1,q2⟩:=E.here i ci j J (bK t).symm;exact⟨q1,λo _=>by rw[kO S ci e5,kO S J e6,q2]⟩;obtain⟨w,rfl⟩:=kN (mY J);have p:w<m:=by lia
 rw[fE p]at t;rw[kK h1 h2 p]at e4;cases e4;obtain⟨q1,q2⟩:=E.cross i ci w p (bK t).symm;exact⟨q1,λo _=>by rw[kO S ci e5,jH S S' e6,q2]⟩;obtain⟨x,rfl⟩:=kN (mY ci);have hx:x<m:=by lia
 rw[fE hx]at I;rw[kK h1 h2 hx]at e3;cases I;cases e3;by_cases J:j<n;rw[gn J]at t;rw[mU h1 J]at e4;cases e4;obtain⟨q1,q2⟩:=E.cross j J x hx (bK t);exact⟨q1.symm,λo _=>by rw[jH S S' e5,kO S J e6,q2]⟩;obtain⟨w,rfl⟩:=kN (mY J);have p:w<m:=by lia
 rw[fE p]at t;rw[kK h1 h2 p]at e4;cases e4;obtain⟨q1,q2⟩:=E.there x hx w p (bK t).symm;exact⟨q1,λo _=>by rw[jH S S' e5,jH S S' e6,q2]⟩
theorem Lm (hl:ls.length=n+m):ls=iJ n m (λu=>ls.getD u 0) λw=>ls.getD (n+w) 0:=by apply cJ;intro i;by_cases hi:i<n;rw[gn hi];obtain⟨z,hz⟩:=bA (l:=ls) (i:=i) (by lia);rw[ax,hz];rfl;by_cases g:i<n+m;obtain⟨w,rfl⟩:=kN (mY hi);rw[fE (by lia)];obtain⟨z,hz⟩:=bA (l:=ls) (i:=n+w) (by lia);rw[ax,hz];rfl;rw[aY (by lia),aY (by rw[oJ];lia)]
theorem TU (h1:us.length=n)(h2:us'.length=m)(S:iY n M)(l:iY m M')(C:fW (us++us') (dN n m M M') (iJ n m a b)):Pc n m (cQ us) (cQ us') (ent M) (ent M') a b:=by have fin:∀{a' b':Nat->Int},BZ n m (cQ us) (cQ us') (ent M) (ent M') a' b'->nY (iJ n m a' b') (iJ n m a b):=λE=>C.top _ (by rw[oJ,oJ]) ((PF h1 h2 S l).mpr E);refine⟨(PF h1 h2 S l).mp C.even,λE u j v g e=>?_,λE u j v g e=>?_,λE u j v g e=>?_⟩;exact fin E u v _ _ _ (gn j) (by rw[e];exact gn g) (gn j) (gn g);exact fin E (n+u) (n+v) _ _ _ (fE j) (by rw[e];exact fE g) (fE j) (fE g);exact fin E u (n+v) _ _ _ (gn j) (by rw[e];exact fE g) (gn j) (fE g)
theorem TX (h:((iJ n m a b).take n).Perm ((iJ n m a b).drop n)):DQ n m a b:=by
 have j:(iJ n m a b).take n=(List.range n).map a:=by unfold iJ;rw[dJ (by rw[aa,aA];exact av _),di (by rw[aa,aA];exact av _)]
 have g:(iJ n m a b).drop n=(List.range m).map b:=by unfold iJ;rw[IL (by rw[aa,aA];exact av _),tR (by rw[aa,aA];exact av _),iu]
 intro o;rw[kB,kB];rw[j,g]at h;rw[h.count_eq]
end
def nE (c:Int)(t:Bool):Int×Int:=if t=true then(1,c)else(0,1)
section
variable {n m l:Nat}{h h' h2:Nat->Int}{M M' N:Nat->Nat->Int}{a b b' d al de:Nat->Int}
end
open M11
def qu {α:Type}(n:Nat)(g:Nat->Nat->α):List (List α):=(List.range n).map λu=>(List.range n).map λw=>g u w
theorem Lf {α:Type}{n:Nat}{a b:Nat->Nat->α}:qu n a=qu n b↔∀u<n,∀w<n,a u w=b u w:=by unfold qu;rw[fN];constructor;intro h u j w g;have:=h u (bc.mpr j);rw[fN]at this;exact this w (bc.mpr g);intro h u j;rw[fN];exactλw g=>h u (bc.mp j) w (bc.mp g)
theorem yR {α:Type}{n:Nat}{xs:List α}{d:α}(h:xs.length=n):xs=(List.range n).map λu=>(xs[u]?).getD d:=by refine cJ λi=>?_;rw[ao];by_cases hi:i<n;obtain⟨x,g⟩:=bA (l:=xs) (i:=i) (by lia);rw[cy hi,g,jb];show _=some ((xs[i]?).getD d);rw[g];rfl;rw[aY (by lia:xs.length<=i),aY (by rw[aA];lia)];rfl
theorem yQ {α:Type}{n:Nat}{M:List (List α)}{d:α}(h:M.length=n)(p:∀x∈M,x.length=n):M=qu n λu w=>(((M[u]?).getD [])[w]?).getD d:=by
 unfold qu
 conv=>lhs;rw[yR (d:=[]) h]
 rw[fN];intro u j;obtain⟨x,g⟩:=bA (l:=M) (i:=u) (by rw[h];exact bc.mp j);have e:=yR (d:=d) (p x (af g));show(M[u]?).getD []=(List.range n).map λw=>(((M[u]?).getD [])[w]?).getD d;rw[g];exact e
theorem zK {α β:Type}(k:α->α->β):∀l:List α,List.zipWith k l l=l.map λa=>k a a
 |[]=>rfl
 |a::l=>by rw[List.zipWith_cons_cons,zK k l];rfl
theorem yc {α β j:Type}{n:Nat}(k:α->β->j)(f:Nat->α)(g:Nat->β):List.zipWith k ((List.range n).map f) ((List.range n).map g)=(List.range n).map λv=>k (f v) (g v):=by rw[List.zipWith_map,zK]
theorem qY {α:Type}{n:Nat}{f:Nat->α}{d:α}(h:i<n):(((List.range n).map f)[i]?).getD d=f i:=by rw[ao,cy h];rfl
theorem BD (n:Nat)(g:Nat->Nat->Int):oO (qu n g) n=qu n λw u=>g u w:=by unfold oO qu;rw[fN];intro w j;rw[cF,fN];intro u _;exact qY (bc.mp j)
theorem rc (n:Nat)(a b:Nat->Nat->Int):re (qu n a) (qu n b) n=qu n λu w=>((List.range n).map λv=>b v w*a u v).sum:=by unfold re;rw[BD];unfold qu;rw[cF,fN];intro u _;show List.map _ (List.map _ _)=_;rw[cF,fN];intro w _;show TM.dot _ _=_;unfold TM.dot;rw[yc]
theorem ky {α:Type}{n:Nat}{g:Nat->Nat->α}{r:List α}:r∈qu n g↔∃u<n,r=(List.range n).map λw=>g u w:=by unfold qu;rw[aV];exact⟨λ⟨u,h1,h2⟩=>⟨u,bc.mp h1,h2.symm⟩,λ⟨u,h1,h2⟩=>⟨u,bc.mpr h1,h2.symm⟩⟩
theorem BC {n:Nat}:xQ (qu n g) z=true↔∀u<n,((List.range n).map λw=>g u w).sum=z:=by unfold xQ;rw[ig];constructor;exactλh u j=>jk (h _ (ky.mpr ⟨u,j,rfl⟩));intro h r l;obtain⟨u,j,rfl⟩:=ky.mp l;exact bi (h u j)
theorem Cv {n:Nat}:oW (qu n g) n z=true↔(∀u<n,∀w<n,0<=g u w)/\(∀u<n,((List.range n).map λw=>g u w).sum=z)/\∀w<n,((List.range n).map λu=>g u w).sum=z:=by unfold oW;rw[dg,dg,BD,BC,BC,ig];refine and_congr ⟨λh u p w l=>jk (h (g u w) ?_),λh x j=>bi ?_⟩ Iff.rfl;exact mZ.mpr ⟨_,ky.mpr ⟨u,p,rfl⟩,aV.mpr ⟨w,bc.mpr l,rfl⟩⟩;obtain⟨r,t,j⟩:=mZ.mp j;obtain⟨u,p,rfl⟩:=ky.mp t;obtain⟨w,l,rfl⟩:=aV.mp j;exact h u p w (bc.mp l)
theorem Bl {n:Nat}(h1:hs.length=n)(h2:hs'.length=n):vy hs hs' (qu n g)=true↔∀u<n,∀w<n,g u w=0\/hs'.getD w 0=hs.getD u 0:=by
 have t:=yR (d:=(0:Int)) h1;have p:=yR (d:=(0:Int)) h2;unfold vy qu
 conv=>lhs;rw[t]
 rw[yc,ig];have k:∀u,xG (hs[u]?.getD 0) hs' ((List.range n).map λw=>g u w)=true↔∀w<n,g u w=0\/hs'.getD w 0=hs.getD u 0:=λu=>by
  unfold xG
  conv=>lhs;rw[p]
  rw[yc,ig];constructor;intro h w j;have:=h _ (aV.mpr ⟨w,bc.mpr j,rfl⟩);rw[id,ur,cR,cR]at this;rw[ax,ax];exact this;intro h b hb;obtain⟨w,j,rfl⟩:=aV.mp hb;rw[id,ur,cR,cR];have:=h w (bc.mp j);rw[ax,ax]at this;exact this
 constructor;intro h u l;exact(k u).mp (h _ (aV.mpr ⟨u,bc.mpr l,rfl⟩));intro h b hb;obtain⟨u,l,rfl⟩:=aV.mp hb;exact(k u).mpr (h u (bc.mp l))
theorem xB (W z:Int)(f:Int×Int):kU W (z*f.1,f.2)=kU W f*z/\kU W (f.1*z,f.2)=z*kU W f:=by unfold kU;constructor<;>grind
end
section
variable {n:Nat}{hs hs':LH}{M M':LA}{a b:Nat->Int}
def oj (n:Nat)(a b:Nat->Int):List (LC):=qu n λu w=>nE (dO n a (a u)) (decide (b w=a u))
theorem Dm (ex:∀u<n,∃w<n,b w=a u)(I:∀u<n,(dO n a (a u)).natAbs<2^20):
  0<jB (oj n a b).flatten/\(∀u<n,(jB (oj n a b).flatten).fdiv (dO n a (a u))*dO n a (a u)=jB (oj n a b).flatten)/\lC (oj n a b) (jB (oj n a b).flatten)=qu n (uQ a b λo=>(jB (oj n a b).flatten).fdiv (dO n a o)):=by
 have l:∀u<n,0<dO n a (a u):=λu g=>ju g;have J:∀f∈(oj n a b).flatten,Bt f:=λf j=>by obtain⟨r,C,j⟩:=Bb j;obtain⟨u,g,rfl⟩:=ky.mp C;obtain⟨w,_,rfl⟩:=aV.mp j;unfold nE;split;exact⟨l u g,I u g⟩;exact⟨by show(0:Int)<1;decide,by show(1:Int).natAbs<2^20;decide⟩
 obtain⟨b1,p,_⟩:=vR J;generalize jB (oj n a b).flatten=W at b1 p;have dv:∀u<n,dO n a (a u)∣W:=λu g=>by obtain⟨w,t,T⟩:=ex u g;refine p (1,dO n a (a u)) (mZ.mpr ⟨_,ky.mpr ⟨u,g,rfl⟩,aV.mpr ⟨w,bc.mpr t,?_⟩⟩);rw[bi T];rfl
 have hk:∀u<n,W.fdiv (dO n a (a u))*dO n a (a u)=W:=λu g=>by obtain⟨q,e,U⟩:=M11.fdiv_of_dvd (l u g) (dv u g);rw[U];rw[e];exact iF _ _
 refine⟨b1,hk,?_⟩;unfold lC oj qu;rw[cF];refine bU λu _=>?_;show List.map _ (List.map _ _)=_;rw[cF];refine bU λw _=>?_;show Cc (nE _ _) W=uQ a b _ u w;unfold Cc nE uQ;by_cases e:b w=a u;rw[bi e,if_pos rfl,if_pos e.symm,g9];rw[bq e,if_neg (by decide),if_neg (Ne.symm e),gv]
theorem Ia (h1:hs.length=n)(h2:hs'.length=n)(S:iY n M)(I:iY n M')(T:jz n (ent M))(J:jz n (ent M'))(E:BZ n n (cQ hs) (cQ hs') (ent M) (ent M') a b)(as:DQ n n a b)(hc:∀u<n,(dO n a (a u)).natAbs<2^20):
  oM n hs hs' M M' (oj n a b)=true:=by
 obtain⟨b1,hk,C⟩:=Dm (λu g=>as.ex g) hc;have cp:∀u<n,0<dO n a (a u):=λu g=>ju g;unfold oM;generalize jB (oj n a b).flatten=W at b1 hk C;have p:∀u<n,0<=W.fdiv (dO n a (a u)):=λu g=>by rcases Int.lt_or_le (W.fdiv (dO n a (a u))) 0 with z|z;have:=Int.mul_neg_of_neg_of_pos z (cp u g);rw[hk u g]at this;lia;exact z
 have eM:M=qu n (ent M):=yQ S.len λx l=>by obtain⟨i,hi⟩:=aU.mp l;exact(S.row i x hi).1
 have t:M'=qu n (ent M'):=yQ I.len λx l=>by obtain⟨i,hi⟩:=aU.mp l;exact(I.row i x hi).1
 have sq:tG n (oj n a b)=true:=by unfold tG;rw[dg,cR,ig];refine⟨by unfold oj qu;rw[aa,aA],λr U=>?_⟩;obtain⟨u,g,rfl⟩:=ky.mp U;exact bi (by rw[aa,aA])
 rw[C,sq,bi h2,kh,kh,dg,dg,cR];refine⟨Cv.mpr ⟨λu g w j=>?_,λu g=>?_,λw j=>?_⟩,(Bl h1 h2).mpr λu g w j=>?_,?_⟩;unfold uQ;split;exact p u g;exact Int.le_refl _;exact EC as (hk u g);obtain⟨u,g,eu⟩:=as.symm.ex j;exact ED (by rw[<-eu];exact hk u g);have:=Nc (k:=λo=>W.fdiv (dO n a o)) E g j;unfold cQ at this;rw[ax,ax];exact this
 ·conv=>lhs;rw[eM]
  conv=>rhs;rw[t]
  rw[rc,rc];exact Lf.mpr λu g w j=>AB E as T J hk g j
end
section
def aF (ls:LH)(u:Nat):Int:=ls.getD u 0
def bF (n:Nat)(ls:LH)(w:Nat):Int:=ls.getD (n+w) 0
theorem Oj {n:Nat}(h:ls.length=n+m):ls=iJ n m (aF ls) (bF n ls):=Lm h
theorem pi {n:Nat}{a:Nat->Int}:(iJ n m a b).take n=(List.range n).map a:=by unfold iJ;rw[dJ (by rw[aa,aA];exact av _),di (by rw[aa,aA];exact av _)]
theorem pj {n:Nat}{a:Nat->Int}:(iJ n m a b).drop n=(List.range m).map b:=by unfold iJ;rw[IL (by rw[aa,aA];exact av _),tR (by rw[aa,aA];exact av _),iu]
theorem RP {n:Nat}{a:Nat->Int}:dO n a o<=(n:Int):=by rw[kB];have:=List.count_le_length (a:=o) (l:=(List.range n).map a);rw[aa,aA]at this;lia
theorem TQ {n:Nat}{a:Nat->Int}:OR ((List.range n).map a) ((List.range n).map b)=oj n a b:=by unfold OR oj qu;rw[cF];refine bU λu _=>?_;show qO _ _ (a u)=_;unfold qO;rw[cF];refine bU λw _=>?_;show(if b w=a u then _ else _)=nE _ _;unfold nE;rw[<-kB];by_cases e:b w=a u;rw[if_pos e,if_pos (bi e)];rw[if_neg e,if_neg (by rw[bq e];decide)]
section
variable {n:Nat}{h h' h2:Nat->Int}{M M' N:Nat->Nat->Int}{a b b' d al de:Nat->Int}
end
theorem KA {n:Nat}(J:n<=16){a:Nat->Int}(I:u<n)(t:Bool):Sd (nE (dO n a (a u)) t)/\IM (nE (dO n a (a u)) t):=by
 have p:0<dO n a (a u):=ju I;have l:dO n a (a u)<=n:=RP;have C:(dO n a (a u)).natAbs<2^5:=by have:(2:Nat)^5=32:=rfl;lia
 have g:(1:Int).natAbs<2^5:=by decide
 have j:(0:Int).natAbs<2^5:=by decide
 have up:∀{z:Int} {k:Nat},5<=k->z.natAbs<2^5->M11.Bn k z:=λhk hz=>M11.Bn.mono (n:=5) hz hk;unfold nE;cases t;exact⟨⟨by show(0:Int)<1;decide,up (by decide) j,up (by decide) g⟩,⟨by show(0:Int)<1;decide,up (by decide) g⟩,up (by decide) j⟩;exact⟨⟨p,up (by decide) g,up (by decide) C⟩,⟨p,up (by decide) C⟩,up (by decide) g⟩
theorem vH {n:Nat}(l:n<=16){a:Nat->Int}:(oj n a b).length=n/\∀r∈oj n a b,r.length=n/\∀f∈r,Sd f/\IM f:=by refine⟨by unfold oj qu;rw[aa,aA],λr j=>?_⟩;obtain⟨u,g,rfl⟩:=ky.mp j;refine⟨by rw[aa,aA],λf p=>?_⟩;obtain⟨w,_,rfl⟩:=aV.mp p;exact KA l g _
theorem Do {n:Nat}(j:n<=16){a:Nat->Int}:∀u<n,(dO n a (a u)).natAbs<2^20:=λu g=>(KA j (a:=a) g true).2.1.2
end
section
variable {P:Program}{w:World}{K:LO}{mg:LQ}{base:Heap}
def dF (f:Int×Int):PyData:=.tuple [.int f.1,.int f.2]
theorem kY (f g:Int×Int):PyData.eqv (dF f) (dF g)=decide (f=g):=by obtain⟨a,b⟩:=f;obtain⟨c,d⟩:=g;unfold dF;simp only[PyData.eqv,PyData.eqvAll];by_cases h1:a=c;subst h1;by_cases h2:b=d;subst h2;simp;simp[h2];simp[h1]
theorem fh (f:Int×Int):(dF f).canLay0=true/\(dF f).depth<=1:=by unfold dF;refine⟨by simp only[PyData.canLay0,PyData.canLayAll0,eK],?_⟩;simp only[PyData.depth,PyData.depthAll];lia
theorem v9 {f:Int×Int}(h:H p=some (j8 f)):DA K any H (.ref p) (dF f):=.tup trivial (dH.of h) (.cons (.int _) (.cons (.int _) .nil))
theorem zC.get (g:zC H a F):∃rs:LK,H a=some (.lst (rs.map V.ref))/\rs.length=F.length/\∀(i:Nat) (fs:LC),F[i]?=some fs->∃r x,rs[i]?=some r/\H r=some (.lst x)/\jU H x fs:=by obtain⟨X,⟨rs,h,R⟩,C,I⟩:=g;refine⟨rs,h,by rw[R.len,C],λi fs t=>?_⟩;have hi:=cw t;obtain⟨x,j⟩:=bA (l:=X) (i:=i) (by lia);obtain⟨r,p⟩:=bA (l:=rs) (i:=i) (by rw[R.len];lia);exact⟨r,x,p,R.row i r x p j,I i x fs j t⟩
theorem jU.get {x:LI}{f:Int×Int}(h:jU H x fs)(j:fs[i]?=some f):∃p,x[i]?=some (.ref p)/\H p=some (j8 f):=by obtain⟨v,g⟩:=bA (l:=x) (i:=i) (by rw[h.1];exact cw j);obtain⟨p,rfl,hp⟩:=h.2 i v f g j;exact⟨p,g,hp⟩
def CG (F:List (LC))(u:Nat):LC:=(F[u]?).getD []
def vU (F:List (LC))(u w:Nat):Int×Int:=((CG F u)[w]?).getD (0,1)
def zk (F:List (LC))(u:Nat):LC:=F.map λr=>(r[u]?).getD (0,1)
def vD (M:LA)(F:List (LC))(n u w:Nat):LC:=(List.range n).map λv=>(ent M u v*(vU F v w).1,(vU F v w).2)
def pP (M':LA)(F:List (LC))(n u w:Nat):LC:=(List.range n).map λx=>((vU F u x).1*ent M' x w,(vU F u x).2)
def TW (hs hs':LH)(F:List (LC))(u w:Nat):Prop:=(vU F u w).1<0\/(0<(vU F u w).1/\hs.getD u 0≠hs'.getD w 0)
structure Ui (n:Nat)(hs hs':LH)(F:List (LC))(u:Nat):Prop where
 row:iD (CG F u)=(1,1)
 col:iD (zk F u)=(1,1)
 ok:∀w<n,¬TW hs hs' F u w
structure LG (n:Nat)(hs hs':LH)(M M':LA)(F:List (LC)):Prop where
 len':hs'.length=n
 len:F.length=n
 rows:∀u<n,(CG F u).length=n
 one:∀u<n,Ui n hs hs' F u
 two:∀u<n,∀w<n,iD (vD M F n u w)=iD (pP M' F n u w)
def L9 (s:Stmt):Expr:=match s with
 | .If c _ _ _=>c
 |_=>.Constant .none 0 ⟨0,0,0,0⟩
def TV (e:Expr):Expr:=match e with
 | .Compare a _ _ _=>a
 |_=>.Constant .none 0 ⟨0,0,0,0⟩
theorem IM.q {f:Int×Int}(h:IM f):Sd f:=⟨h.1.1,h.2.mono (by decide),M11.Bn.mono (n:=20) h.1.2 (by decide)⟩
theorem IM.mulL {f:Int×Int}(h:IM f)(hz:z.natAbs<=2*kr):M11.Bn 100 z/\Sd (z*f.1,f.2)/\Sd (f.1*z,f.2):=by
 have g:kr=1000000000000000000000:=by decide
 have b:M11.Bn 100 z:=cg hz (by rw[g];decide);have e:=h.q;exact⟨b,⟨e.1,b.mul h.2,e.2.2⟩,⟨e.1,h.2.mul b,e.2.2⟩⟩
end
section
variable {n:Nat}{hs hs':LH}{M M':LA}{a b:Nat->Int}
theorem Ol (h2:hs'.length=n)(y1:jz n (ent M))(y2:jz n (ent M'))(E:BZ n n (cQ hs) (cQ hs') (ent M) (ent M') a b)(as:DQ n n a b)(hc:∀u<n,(dO n a (a u)).natAbs<2^20):LG n hs hs' M M' (oj n a b):=by
 obtain⟨b1,hk,_⟩:=Dm (λu j=>as.ex j) hc;generalize jB (oj n a b).flatten=W at b1 hk;have p:∀u<n,∀w,0<(nE (dO n a (a u)) (decide (b w=a u))).2/\(nE (dO n a (a u)) (decide (b w=a u))).2∣W/\kU W (nE (dO n a (a u)) (decide (b w=a u)))=uQ a b (λo=>W.fdiv (dO n a o)) u w:=λu j w=>by unfold kU nE uQ;by_cases e:b w=a u;rw[bi e,if_pos rfl,if_pos e.symm];exact⟨ju j,⟨_,by rw[iF];exact(hk u j).symm⟩,g9 _⟩;rw[bq e,if_neg (by decide),if_neg (Ne.symm e)];exact⟨by decide,Int.one_dvd W,gv _⟩
 have eR:∀u<n,CG (oj n a b) u=(List.range n).map λw=>nE (dO n a (a u)) (decide (b w=a u)):=λu j=>qY j;have C:∀u<n,∀w<n,vU (oj n a b) u w=nE (dO n a (a u)) (decide (b w=a u)):=λu j w t=>by unfold vU;rw[eR u j];exact qY t
 have eC:∀u<n,zk (oj n a b) u=(List.range n).map λv=>nE (dO n a (a v)) (decide (b u=a v)):=λu j=>by unfold zk oj qu;rw[cF];exact bU λv _=>qY j
 have I:∀g:Nat->Int×Int,(∀v<n,0<(g v).2/\(g v).2∣W)->DC ((List.range n).map g)/\(∀f∈(List.range n).map g,f.2∣W)/\(((List.range n).map g).map (kU W)).sum=gW n λv=>kU W (g v):=λg hg=>by refine⟨λf U=>?_,λf U=>?_,by rw[cF];rfl⟩;obtain⟨v,l,rfl⟩:=aV.mp U;exact(hg v (bc.mp l)).1;obtain⟨v,l,rfl⟩:=aV.mp U;exact(hg v (bc.mp l)).2
 refine⟨h2,by unfold oj qu;rw[aa,aA],λu j=>by rw[eR u j,aa,aA],λu j=>⟨?_,?_,λw t z=>?_⟩,λu j w t=>?_⟩;obtain⟨T,p2,J⟩:=I (λw=>nE (dO n a (a u)) (decide (b w=a u))) λv _=>⟨(p u j v).1,(p u j v).2.1⟩;rw[eR u j];refine(zY b1 T p2).mpr ?_;rw[J,bZ λv _=>(p u j v).2.2];exact EC as (hk u j);obtain⟨T,p2,J⟩:=I (λv=>nE (dO n a (a v)) (decide (b u=a v))) λv l=>⟨(p v l u).1,(p v l u).2.1⟩;rw[eC u j];refine(zY b1 T p2).mpr ?_;rw[J,bZ λv l=>(p v l u).2.2];obtain⟨x,hx,ex⟩:=as.symm.ex j;exact ED (by rw[<-ex];exact hk x hx);unfold TW at z;rw[C u j w t]at z;by_cases e:b w=a u;have:=(E.cross u j w t e.symm).1;unfold cQ at this;rw[bi e,ax,ax,this]at z;rcases z with z|z;exact absurd z (by show¬(1:Int)<0;decide);exact z.2 rfl;rw[bq e]at z;rcases z with z|z;exact absurd z (by show¬(0:Int)<0;decide);exact absurd z.1 (by show¬(0:Int)<0;decide);unfold vD pP;obtain⟨a1,a2,a3⟩:=I (λv=>(ent M u v*(vU (oj n a b) v w).1,(vU (oj n a b) v w).2)) λv l=>by rw[C v l w t];exact⟨(p v l w).1,(p v l w).2.1⟩
 obtain⟨c1,c2,c3⟩:=I (λx=>((vU (oj n a b) u x).1*ent M' x w,(vU (oj n a b) u x).2)) λv l=>by rw[C u j v l];exact⟨(p u j v).1,(p u j v).2.1⟩
 rw[Ec b1 a1 a2 c1 c2,a3,c3,bZ λv l=>by rw[(xB W _ _).1,C v l w t,(p v l w).2.2],bZ (n:=n) (f:=λv=>kU W _) λv l=>by rw[(xB W _ _).2,C u j v l,(p u j v).2.2]];exact AB E as y1 y2 hk j t
end
section
theorem zX (Y:Int->Int):∀(k:Nat) (l:LC),l.length<=k->(∀o,fz l o=0)->(l.map λp=>p.1*Y p.2).sum=0
 |_,[],_,_=>rfl
 |k+1,(x,o)::l,hk,h=>by
  have key:∀l:LC,(l.map λp=>p.1*Y p.2).sum=fz l o*Y o+((l.filter λp=>p.2≠o).map λp=>p.1*Y p.2).sum:=by intro l;induction l with|nil=>show(0:Int)=0*_+0;lia|cons p l g=>obtain⟨z,r⟩:=p;rw[aJ,dG,g,eV];by_cases e:r=o;subst e;rw[if_pos rfl,cH (by simp)];grind;rw[if_neg e,cY (by simp[e]),aJ,dG];grind
  have keep:∀(l:LC) (r:Int),fz (l.filter λp=>p.2≠o) r=if r=o then 0 else fz l r:=by intro l r;induction l with|nil=>show(0:Int)=_;split<;>rfl|cons p l g=>obtain⟨z,q⟩:=p;by_cases e:q=o;subst e;rw[cH (by simp),g,eV];by_cases c:r=q;rw[if_pos c,if_pos c];rw[if_neg c,if_neg c,if_neg (Ne.symm c)];lia;rw[cY (by simp[e]),eV,g,eV];by_cases c:r=o;subst c;rw[if_pos rfl,if_pos rfl,if_neg e];lia;rw[if_neg c,if_neg c]
  rw[key,h,gv,fQ];refine zX Y k _ ?_ λr=>?_;rw[cH (by simp)];have:=mi (λp:Int×Int=>decide (p.2≠o)) l;rw[aH]at hk;lia;rw[keep];split;rfl;exact h r
variable {n m:Nat}{a b x x':Nat->Int}
theorem Ln (l:∀o,gW n (λv=>qF a o v*x v)=gW m λv=>qF b o v*x' v)(Y:Int->Int):gW n (λv=>x v*Y (a v))=gW m λv=>x' v*Y (b v):=by
 have h:=zX Y _ (((List.range n).map x).zip ((List.range n).map a)++((List.range m).map λv=>- x' v).zip ((List.range m).map b)) (av _) λo=>by
  rw[ou,kP,kP];have e:=l o;unfold gW at e;rw[e];have j:((List.range m).map λv=>qF b o v* -x' v)=(List.range m).map λv=>-1*(qF b o v*x' v):=bU λv _=>by grind
  rw[j];have:=fS (-1) m λv=>qF b o v*x' v;unfold gW at this;lia
 have z:∀(k:Nat) (f g:Nat->Int),((((List.range k).map f).zip ((List.range k).map g)).map λp=>p.1*Y p.2)=(List.range k).map λv=>f v*Y (g v):=by intro k f g;rw[List.zip_map',cF];rfl
 rw[a0,List.sum_append,z,z]at h;have j:((List.range m).map λv=>-x' v*Y (b v))=(List.range m).map λv=>-1*(x' v*Y (b v)):=bU λv _=>by grind
 rw[j]at h;have:=fS (-1) m λv=>x' v*Y (b v);unfold gW at this ⊢;lia
def IB (n m:Nat)(a b x x':Nat->Int):Prop:=∃Y:Int->Int,(∀u<n,x u=Y (a u))/\∀w<m,x' w=Y (b w)
open Classical in
theorem Lq (h1:∀u<n,∀v<n,a u=a v->x u=x v)(h2:∀u<m,∀v<m,b u=b v->x' u=x' v)(l:∀u<n,∀w<m,a u=b w->x u=x' w):IB n m a b x x':=by refine⟨λo=>if c:∃u,u<n/\a u=o then x c.choose else if d:∃w,w<m/\b w=o then x' d.choose else 0,λu j=>?_,λw g=>?_⟩;have c:∃v,v<n/\a v=a u:=⟨u,j,rfl⟩;dsimp only;rw[dif_pos c];exact h1 u j _ c.choose_spec.1 c.choose_spec.2.symm;dsimp only;by_cases c:∃u,u<n/\a u=b w;rw[dif_pos c];exact(l _ c.choose_spec.1 w g c.choose_spec.2).symm;have d:∃v,v<m/\b v=b w:=⟨w,g,rfl⟩;rw[dif_neg c,dif_pos d];exact h2 w g _ d.choose_spec.1 d.choose_spec.2.symm
theorem IB.sum {c d:Nat->Int}(L:IB n m a b x x')(hk:k=n)(l:k'=m)(C:∀o,gW n (λv=>qF a o v*c v)=gW m λv=>qF b o v*d v):gW k (λv=>c v*x v)=gW k' λv=>d v*x' v:=by subst hk l;obtain⟨Y,t,p⟩:=L;rw[bZ (g:=λv=>c v*Y (a v)) λv j=>by rw[t v j],bZ (n:=k') (g:=λv=>d v*Y (b v)) λv j=>by rw[p v j]];exact Ln C Y
theorem IB.here (L:IB n m a b x x'):IB n n a a x x:=let⟨Y,y,_⟩:=L;⟨Y,y,y⟩
theorem IB.there (L:IB n m a b x x'):IB m m b b x' x':=let⟨Y,_,y⟩:=L;⟨Y,y,y⟩
variable {h h':Nat->Int}{M M':Nat->Nat->Int}
mutual
theorem DT (E:BZ n m h h' M M' a b):∀t:Tr,IB n m a b (Tr.val n h M t) (Tr.val m h' M' t)
 | .nd w bs=>by
  obtain⟨Y,I,C⟩:=vals_lik E bs;obtain⟨Z,p,l⟩:IB n m a b (i9 h w) (i9 h' w):=by cases w with|none=>exact⟨λ_=>1,λ_ _=>rfl,λ_ _=>rfl⟩|some c=>exact Lq (λu g v j e=>by show(if h u=c then(1:Int)else 0)=if h v=c then 1 else 0;rw[(E.here u g v j e).1]) (λu g v j e=>by show(if h' u=c then(1:Int)else 0)=if h' v=c then 1 else 0;rw[(E.there u g v j e).1]) (λu g v j e=>by show(if h u=c then(1:Int)else 0)=if h' v=c then 1 else 0;rw[(E.cross u g v j e).1])
  refine⟨λo=>Z o*Y o,λu g=>?_,λu g=>?_⟩;show i9 h w u*Tr.vals n h M bs u=_;rw[I u g,p u g];show i9 h' w u*Tr.vals m h' M' bs u=_;rw[C u g,l u g]
theorem vals_lik (E:BZ n m h h' M M' a b):∀ts:List Tr,IB n m a b (Tr.vals n h M ts) (Tr.vals m h' M' ts)
 |[]=>⟨λ_=>1,λ_ _=>rfl,λ_ _=>rfl⟩
 |t::ts=>by
  obtain⟨Y,I,C⟩:=vals_lik E ts;have L:=DT E t;obtain⟨Z,p,l⟩:IB n m a b (Nr n M (Tr.val n h M t)) (Nr m M' (Tr.val m h' M' t)):=
   Lq (λu g v j e=>L.here.sum rfl rfl (E.here u g v j e).2) (λu g v j e=>L.there.sum rfl rfl (E.there u g v j e).2) (λu g v j e=>L.sum rfl rfl (E.cross u g v j e).2)
  refine⟨λo=>Z o*Y o,λu g=>?_,λu g=>?_⟩;show Nr n M (Tr.val n h M t) u*Tr.vals n h M ts u=_;rw[I u g,p u g];show Nr m M' (Tr.val m h' M' t) u*Tr.vals m h' M' ts u=_;rw[C u g,l u g]
end
theorem I9 {N g:LA}(E:BZ n m (cQ hs) (cQ hs') (ent N) (ent g) a b)(as:DQ n m a b)(t:Tr):(cO hs N n t).sum=(cO hs' g m t).sum:=by
 have e:=(DT E t).sum (c:=λ_=>1) (d:=λ_=>1) rfl rfl λo=>by have:=as o;unfold dO at this;simpa only[hE]using this
 simp only[g9]at e;exact e
theorem wX {N:LA}(C:Pc k k (cQ hs) (cQ hs) (ent N) (ent N) a b)(g:u<k):a u=b u:=
 C.cross (a':=λu=>(u:Int)) (b':=λu=>(u:Int)) ⟨λu _ v _ e=>by cases Int.ofNat.inj e;exact⟨rfl,λ_=>rfl⟩,λu _ v _ e=>by cases Int.ofNat.inj e;exact⟨rfl,λ_=>rfl⟩,λu _ v _ e=>by cases Int.ofNat.inj e;exact⟨rfl,λ_=>rfl⟩⟩ u g u g rfl
end
section
variable {n:Nat}{hs hs':LH}{M M':LA}{a b:Nat->Int}
theorem Ib (h1:hs.length=n)(S:iY n M)(S':iY n M')(y1:jz n (ent M))(y2:jz n (ent M'))(A:∀u<n,∀v<n,a u=a v->cQ hs u=cQ hs v/\∀o,oi n (ent M) a u o=oi n (ent M) a v o)(I:∀u<n,a u=b u)(hc:∀u<n,(dO n a (a u)).natAbs<2^20)(g:oM n hs hs' M M' (oj n a b)=true):BZ n n (cQ hs) (cQ hs') (ent M) (ent M') a a:=by
 obtain⟨b1,hk,eT⟩:=Dm (b:=b) (λu j=>⟨u,j,(I u j).symm⟩) hc;unfold oM at g;rw[eT]at g;generalize jB (oj n a b).flatten=W at b1 hk eT g;simp only[dg,cR]at g;obtain⟨h2,_,_,g3,J⟩:=g;have eM:M=qu n (ent M):=yQ S.len λx t=>by obtain⟨i,hi⟩:=aU.mp t;exact(S.row i x hi).1
 have U:M'=qu n (ent M'):=yQ S'.len λx t=>by obtain⟨i,hi⟩:=aU.mp t;exact(S'.row i x hi).1
 have ehue:∀u<n,cQ hs' u=cQ hs u:=λu j=>by rcases(Bl h1 h2).mp g3 u j u j with z|z;unfold uQ at z;rw[if_pos (I u j)]at z;have:=hk u j;dsimp only at z;rw[z,gv]at this;lia;rw[ax,ax]at z;exact z
 have T:∀u<n,∀w<n,oi n (ent M') a w (a u)=oi n (ent M) a w (a u):=λu j w p=>by
  rw[eM,U]at J;rw[rc,rc]at J;have e:=Lf.mp J u j w p;have C:gW n (λv=>uQ a b (λo=>W.fdiv (dO n a o)) v w*ent M u v)=gW n λv=>ent M' v w*uQ a b (λo=>W.fdiv (dO n a o)) u v:=by exact e
  rw[SB,SA y2 p,<-I w p]at C;have e2:oi n (ent M') b w (a u)=oi n (ent M') a w (a u):=bZ λv l=>by unfold qF;rw[I v l]
  rw[e2]at C;have c:=xm y1 (λu j v l e=>(A u j v l e).2) j p;have k1:=hk u j;have k2:=hk w p;have p2:0<dO n a (a w):=ju p;refine dB (a:=W*dO n a (a w)) (dU (nP b1 p2)) ?_
  try dsimp only at C k1 k2
  generalize W.fdiv (dO n a (a u))=ku at C k1;generalize W.fdiv (dO n a (a w))=kw at C k2;grind
 have all:∀w<n,∀o,oi n (ent M') a w o=oi n (ent M) a w o:=λw p o=>by by_cases c:∃u,u<n/\a u=o;obtain⟨u,j,rfl⟩:=c;exact T u j w p;rw[qW λx t e=>c ⟨x,t,e⟩,qW λx t e=>c ⟨x,t,e⟩]
 exact⟨A,λu j v l e=>⟨by rw[ehue u j,ehue v l,(A u j v l e).1],λo=>by rw[all u j,all v l,(A u j v l e).2]⟩,λu j v l e=>⟨by rw[ehue v l,(A u j v l e).1],λo=>by rw[all v l,(A u j v l e).2]⟩⟩
variable {ls ms:LH}
section
variable {h h':Nat->Int}{M M':Nat->Nat->Int}{a b a' b':Nat->Int}
theorem TY (C:Pc n n h h' M M' a b)(l:Pc n n h h' M M' a' b')(s:DQ n n a b):DQ n n a' b':=by have sa:Uz n a a':=λx g y p=>⟨l.here C.ev x g y p,C.here l.ev x g y p⟩;have I:Uz n b b':=λx g y p=>⟨l.there C.ev x g y p,C.there l.ev x g y p⟩;intro o;by_cases c:∃u,u<n/\a' u=o;obtain⟨u,j,rfl⟩:=c;obtain⟨w,t,e⟩:=s.ex j;have J:=l.cross C.ev u j w t e.symm;rw[<-BE sa j,s,<-e,BE I t,J];rw[xR λx g z=>c ⟨x,g,z⟩];refine(xR λw t z=>?_).symm;obtain⟨u,j,e⟩:=s.symm.ex t;exact c ⟨u,j,by rw[l.cross C.ev u j w t e,z]⟩
end
structure Qe (n:Nat)(hs hs':LH)(M M':LA)(ls:LH):Prop where
 co:Pc n n (cQ hs) (cQ hs') (ent M) (ent M') (aF ls) (bF n ls)
 as:DQ n n (aF ls) (bF n ls)
 two:ls=iJ n n (aF ls) (bF n ls)
theorem zm (h1:hs.length=n)(h2:hs'.length=m)(S:iY n M)(g:iY m M')(C:fW (hs++hs') (dN n m M M') ls):ls=iJ n m (aF ls) (bF n ls)/\Pc n m (cQ hs) (cQ hs') (ent M) (ent M') (aF ls) (bF n ls):=by have e:=Oj (n:=n) (m:=m) (ls:=ls) (by rw[<-C.len,ah,h1,h2]);exact⟨e,TU h1 h2 S g (by rw[<-e];exact C)⟩
theorem MG (h1:hs.length=n)(h2:hs'.length=n)(S:iY n M)(g:iY n M')(C:fW (hs++hs') (dN n n M M') ls)(p:(ls.take n).Perm (ls.drop n)):Qe n hs hs' M M' ls:=by obtain⟨e,c⟩:=zm h1 h2 S g C;exact⟨c,TX (by rw[<-e];exact p),e⟩
theorem Qe.take (A:Qe n hs hs' M M' ls):OR (ls.take n) (ls.drop n)=oj n (aF ls) (bF n ls):=by
 rw[<-TQ]
 conv=>lhs;rw[A.two]
 rw[pi,pj]
theorem Qe.goes (A:Qe n hs hs' M M' ls)(l:n<=16)(h1:hs.length=n)(h2:hs'.length=n)(S:iY n M)(p:iY n M')(j:jz n (ent M))(g:jz n (ent M')):oM n hs hs' M M' (oj n (aF ls) (bF n ls))=true:=
 Ia h1 h2 S p j g A.co.ev A.as (Do l)
theorem Gs (h1:hs.length=n)(S:iY n M)(C:fW (hs++hs) (dN n n M M) ls):(ls.take n).Perm (ls.drop n):=by obtain⟨e,c⟩:=zm h1 h1 S S C;rw[e,pi,pj,bU λu g=>wX c (bc.mp g)]
theorem Gu (I:n<=16)(h1:hs.length=n)(h2:hs'.length=n)(S:iY n M)(l:iY n M')(t:jz n (ent M))(p:jz n (ent M'))(A:Qe n hs hs M M ls)(C:fW (hs++hs') (dN n n M M') ms)(g:oM n hs hs' M M' (oj n (aF ls) (bF n ls))=true):(ms.take n).Perm (ms.drop n):=by have E:=Ib h1 S l t p A.co.ev.here (λu j=>wX A.co j) (Do I) g;obtain⟨e,c⟩:=zm h1 h2 S l C;rw[e,pi,pj,bU λu j=>c.cross E u (bc.mp j) u (bc.mp j) rfl]
end
theorem yG {n:Nat}(h:ls.length=n+m)(p:(ls.take n).Perm (ls.drop n)):m=n:=by have:=p.length_eq;rw[cm,fF]at this;lia
section
variable {n m:Nat}{hs hs':LH}{M M':LA}{ls ms:LH}
theorem O3 {a:Nat->Int}(h:DQ n n a b):((List.range n).map a).Perm ((List.range n).map b):=List.perm_iff_count.mpr λo=>by have:=h o;rw[kB,kB]at this;exact Int.ofNat.inj this
theorem DZ (h1:hs.length=n)(h2:hs'.length=m)(S:iY n M)(g:iY m M')(C:fW (hs++hs') (dN n m M M') ls)(j:fW (hs'++hs) (dN m n M' M) ms)(p:(ls.take n).Perm (ls.drop n)):(ms.take m).Perm (ms.drop m):=by obtain rfl:=yG (by rw[<-C.len,ah,h1,h2]) p;have A:=MG h1 h2 S g C p;obtain⟨e,c⟩:=zm h2 h1 g S j;rw[e,pi,pj];exact O3 (TY A.co.symm c A.as.symm)
end
section
variable {P:Program}{w:World}{K:LO}{mg:LQ}{base:Heap}
theorem Iq:bootBuiltins "int"=some (.type "int"):=by decide+kernel
def UB (f:Int×Int):Prop:=0<=f.1/\Lw f/\M11.Bn 8000 f.2
abbrev QY:LM:=["_law_found","_law_number"]
theorem EI:bv QY ["_law_found"] (aw ue):={}
inductive wD (vs:LI)(H:Hp)(Q:VK):Prop|mk (p:Addr) (f:Int×Int) (_:vs=[.ref p]) (_:H p=some (j8 f)) (_:UB f) (_:∀H',Same H H'->Q (.bl true) H'):wD vs H Q
def Ei:Sp:=λvs H Q _=>wD vs H Q
theorem KF (B:oT mg)(F:Fun K "_law_share" "_law_share" ue f fd)(GL:Cl P w K mg base "_law_lowest" JU O6 1 Jw):cW P w K mg base gK 2 f fd ["_law_found"] Ei:=by
 refine F.q EI λH vs _ hr h=>?_;obtain⟨p,f,rfl,hp,⟨h0,J,hb⟩,q⟩:=h;refine⟨_,am (dX (PW.pt (kT (l5 (jK (bE jh (by rfl) B.isi boot_isinstance (ac (pv 0) (ac (ph (v:=.ty "tuple") rfl B.tuple vS rfl) aj))))) (jJ (bV jF (bE bQ (by rfl) B.len bu (ac (pv 0) aj)) ar (bO _))))) (aC (bw jf)) cE)
  (am (eQ PassesOwn.never rfl (QF (pv 0)) (l9 1 EI.nd)
   (aC (dX (PW.pt (kT (l5 (jK (bE jh (by rfl) B.isi boot_isinstance (ac (pv 1) (ac (ph (v:=.ty "int") rfl B.int Iq rfl) aj))))) (jJ (jK (bE jh (by rfl) B.isi boot_isinstance (ac (pv 1) (ac (ph (v:=.ty "bool") rfl B.bool boot_bool rfl) aj))))))) (aC (bw jf)) cE)))
  (aC (bw (nz (fH SW (bf bL (pv 0) ar) ar (bO _)) (nz (fH AQ (bf bL (pv 0) ar) ar (bO _))
   (ny (fH (qe hr.units) (bH GL hr rfl (ac (bf bL (pv 0) ar) (ac (bf bL (pv 0) ar) aj))) (pv 0) (bO _)))))))),?_⟩
 show let I:TS:=_;let C:TS:=_;let l:TS:=(gL _ C _);let j:TS:=bN (i0 _ _ l) I;let g:TS:=_;bN (gL _ g _) j _ _ _;intro I C l j g;refine⟨_,rfl,_,_,_,_,rfl,.tup hp,L0,_,rfl,gu ?_⟩;refine⟨_,rfl,p,_,rfl,.inr (dH.of hp),rfl,_,rfl,iP rfl ?_⟩;refine⟨_,rfl,p,rfl,⟨_,dH.of hp⟩,OP (xs:=[.int f.1,.int f.2]) (λi σ H'=>∃T:LU,σ=[some (.ref p),T]/\H'=H) ⟨none,rfl,rfl⟩ (λi σ H' _ ⟨_,_,e⟩=>by rw[e];exact dH.of hp) ?_ ?_⟩;rintro i v σ H1 hv ⟨T,rfl,rfl⟩;obtain⟨z,rfl⟩:∃z:Int,v=.int z:=by
  match i,hv with
  |0,h=>exact⟨_,(bK h).symm⟩
  |1,h=>exact⟨_,(bK h).symm⟩
 refine⟨_,rfl,_,_,_,_,rfl,.int z,Ty,_,rfl,gu ?_⟩;exact⟨_,rfl,_,_,_,_,rfl,.int z,TD,_,rfl,gu ⟨_,rfl,rfl⟩⟩;rintro σ H1 ⟨T,rfl,rfl⟩;refine⟨_,rfl,p,_,_,.int f.1,rfl,rfl,dH.of hp,eY _ _,_,_,rfl,rfl,_,rfl,jr h0 ?_⟩;refine⟨_,rfl,p,_,_,.int f.2,rfl,rfl,dH.of hp,fK _ _ _,_,_,rfl,rfl,_,rfl,jr J.1 ?_⟩;refine⟨_,rfl,p,_,_,.int f.1,rfl,rfl,dH.of hp,eY _ _,_,rfl,p,_,_,.int f.2,rfl,rfl,dH.of hp,fK _ _ _,f.1,f.2,rfl,J.1,hb,λt H2 U nt et=>?_⟩;rw[M11.low_self J.1 J.2]at et;refine⟨_,rfl,dF (f.1,f.2),dF f,v9 et,v9 (U _ _ hp),⟨(fh _).1,(fh _).1,bj (fh _).2 (by decide)⟩,?_⟩;rw[kY,bi rfl];exact q H2 U
end
section
variable {K:LO}
theorem Kx {r:R2}{tb:TE}(h:ta σ H λx H1=>tb σ H1 λy H2=>r x y H2 Q):B1 r ta tb σ H Q:=h
theorem uo {t:TA}{Q:List V->Hp->Prop}(h:te σ H λx H1=>t σ H1 λvs H2=>Q (x::vs) H2):DX te t σ H Q:=h
theorem IY {t:TA}(h:t σ H λvs H1=>vs.length<=sizeLine/\∀p,H1 p=none->Q (.ref p) (upd H1 p (.tup vs))):Qg t σ H Q:=h
theorem VX {a b:Int}{v:V}(h1:σ[i]?=some (some (.ref p)))(h2:σ[j]?=some (some (.int a)))(g:σ[k]?=some (some (.int b)))(t:H p=some (.lst xs))(a1:pK xs a=some (.ref r))(l:H r=some (.lst ys))(a2:pK ys b=some v)(q:Q v H):B1 (yD K) (B1 (yD K) (pQ i) (pQ j)) (pQ k) σ H Q:=
 ⟨_,h1,_,h2,p,_,_,_,rfl,rfl,bW.of t,a1,_,g,r,_,_,_,rfl,rfl,bW.of l,a2,q⟩
theorem Uu {s:Addr}{a b:Int}{v:V}(h1:σ[i]?=some (some (.ref p)))(h2:σ[j]?=some (some (.int a)))(g:σ[k]?=some (some (.int b)))(C:H p=some (.lst xs))(a1:pK xs a=some (.ref r))(t:H r=some (.lst ys))(a2:pK ys b=some (.ref s))(l:H s=some (.tup zs))(a3:pK zs c=some v)(q:Q v H):B1 (GY K) (B1 (yD K) (B1 (yD K) (pQ i) (pQ j)) (pQ k)) (tC (.int c)) σ H Q:=
 Kx (VX (Q:=λx H1=>tC (.int c) σ H1 λy H2=>GY K x y H2 Q) h1 h2 g C a1 t a2 ⟨s,_,_,_,rfl,rfl,dH.of l,a3,q⟩)
theorem VG {s:Addr}{a b:Int}{v:V}(h1:σ[i]?=some (some (.ref p)))(h2:σ[j]?=some (some (.int a)))(g:σ[k]?=some (some (.int b)))(C:H p=some (.tup xs))(a1:pK xs c=some (.ref r))(t:H r=some (.lst ys))(a2:pK ys a=some (.ref s))(l:H s=some (.lst zs))(a3:pK zs b=some v)(q:Q v H):B1 (yD K) (B1 (yD K) (B1 (GY K) (pQ i) (tC (.int c))) (pQ j)) (pQ k) σ H Q:=
 ⟨_,h1,p,_,_,_,rfl,rfl,dH.of C,a1,_,h2,r,_,_,_,rfl,rfl,bW.of t,a2,_,g,s,_,_,_,rfl,rfl,bW.of l,a3,q⟩
def Mn (te:TE):Prop:=∀σ H Q g,(∀v H1,Q v H1->g v H1)->te σ H Q->te σ H g
def UD (t:TA):Prop:=∀σ H Q g,(∀v H1,Q v H1->g v H1)->t σ H Q->t σ H g
def UC (r:R2):Prop:=∀x y H (Q g:VK),(∀v H1,Q v H1->g v H1)->r x y H Q->r x y H g
theorem mT:Mn (pQ i):=λ_ _ _ _ h ⟨v,e,q⟩=>⟨v,e,h _ _ q⟩
theorem HE {v:V}:Mn (tC v):=λ_ _ _ _ h q=>h _ _ q
theorem iU {r:R2}{tb:TE}(a:Mn ta)(b:Mn tb)(m:UC r):Mn (B1 r ta tb):=λ_ _ _ _ h q=>a _ _ _ _ (λ_ _ q=>b _ _ _ _ (λ_ _ q=>m _ _ _ _ _ h q) q) q
theorem su:UC (yD K):=λ_ _ _ _ _ h ⟨p,xs,i,v,a,b,c,d,q⟩=>⟨p,xs,i,v,a,b,c,d,h _ _ q⟩
theorem HD:UC (GY K):=λ_ _ _ _ _ h ⟨p,xs,i,v,a,b,c,d,q⟩=>⟨p,xs,i,v,a,b,c,d,h _ _ q⟩
theorem Tn {C:Int->Int->Prop}{f:Int->Int->V}:UC (L2.rI C f):=λ_ _ _ _ _ h ⟨i,j,a,b,c,q⟩=>⟨i,j,a,b,c,h _ _ q⟩
theorem Tp:UD Qh:=λ_ _ _ _ h q=>h _ _ q
theorem Oh {t:TA}(a:Mn te)(b:UD t):UD (DX te t):=λ_ _ _ _ h q=>a _ _ _ _ (λ_ _ q=>b _ _ _ _ (λ_ _ q=>h _ _ q) q) q
theorem To {t:TA}(a:UD t):Mn (Qg t):=λ_ _ _ _ h q=>a _ _ _ _ (λ_ _ ⟨z,q⟩=>⟨z,λp hp=>h _ _ (q p hp)⟩) q
end
section
variable {P:Program}{w:World}{K:LO}{mg:LQ}{base:Heap}
theorem Oo (U:σ.length=N)(I:H1 a=some (.lst xs))(T:∀(i:Nat) (v:V) (H':Hp) (R:Bool->Hp->Prop),xs[i]?=some v->Same H1 H'->(∀g,Same H' g->R false g)->tt (σ++[some v]) H' R)(hd:∀(D:Addr) (H':Hp),Same H1 H'->H' D=some (.lst [])->Q (.ref D) H'):Qc 1 (zu K a) (mV N) tt te σ H1 Q:=by
 subst U;intro D hD;refine⟨λi m ys H'=>m=xs.length-i/\i<=xs.length/\ys=[]/\Same H1 H'/\H' D=some (.lst []),⟨xs.length,by simp,bp _,rfl,Same.upd hD,au⟩,?_⟩;rintro i m ys H2 ⟨rfl,hi,rfl,j,J⟩;refine⟨J,?_⟩;by_cases p:i<xs.length;obtain⟨v,C⟩:=bA p;refine .inr ⟨⟨_,_,bW.of (j _ _ I),C⟩,?_⟩;rintro z H3 ⟨rfl,hz⟩ os t;have hz:=hz _ (bW.of (j _ _ I));rw[C]at hz;cases hz;match os,t with|[o],_=>refine⟨⟨[some v],Nf σ o _,rfl⟩,?_⟩;rw[Nf σ o _];refine T i v _ _ C j λg l=>?_;exact gu ⟨xs.length-(i+1),by lia,rfl,p,rfl,j.trans l,l _ _ J⟩
 exact .inl ⟨⟨_,bW.of (j _ _ I),by lia⟩,hd D H2 j J⟩
inductive wK (vs:LI)(H:Hp)(Q:VK):Prop|mk (wA g tA:Addr) (m:Nat) (hs hs':LH) (M M':LA) (F:List (LC)) (_:vs=[.ref wA,.ref g,.ref tA]) (_:WR H wA hs M) (_:WR H g hs' M') (_:hs.length=m) (_:iY m M) (_:iY m M') (_:m<=8) (_:zC H tA F) (_:LG m hs hs' M M' F) (_:(∀r∈F,∀f∈r,UB f/\IM f)) (_:∀H',Same H H'->Q (.bl true) H'):wK vs H Q
def Et:Sp:=λvs H Q _=>wK vs H Q
abbrev Ti:LM:=["_law_web_here","_law_other","_law_table","_law_many","_law_row_here","_law_u","_law_w","_law_share_here","_law_here","_law_there"]
abbrev Vl:LM:=["_law_web_here","_law_other","_law_table"]
theorem AF:bv Ti Vl (aw j9):={}
theorem PY:cn (aw j9) Ti (cX (TV (Dr (L9 (lU (dM j9 2) 0)) 2))) ["_law_share_here"]:={}
theorem Tu:cn (aw j9) Ti (cX (oQ (TV (Dr (L9 (lU (dM j9 3) 0)) 1)) 0)) ["_law_row_here"]:={}
theorem Tt:cn (aw j9) Ti (cX (oQ (eU (lU (lU (dM j9 3) 1) 0)) 0)) ["_law_v"]:={}
theorem Tq:cn (aw j9) Ti (cX (oQ (eU (lU (lU (dM j9 3) 1) 1)) 0)) ["_law_x"]:={}
theorem OU {N:LA}(g:iY k N)(j:dw H as N){v:Nat}(p:u<k)(J:v<k):∃(r:Addr) (x:LH),as[u]?=some r/\H r=some (.lst (x.map V.int))/\x[v]?=some (ent N u v)/\(ent N u v).natAbs<=2*kr:=by
 obtain⟨r,x,h1,h2,t⟩:=j.get (i:=u) (by rw[j.len,g.len];exact p);obtain⟨I,bx⟩:=g.row u x h2;obtain⟨z,hz⟩:=bA (l:=x) (i:=v) (by lia);have C:ent N u v=z:=by unfold ent;rw[h2];show(x[v]?).getD 0=z;rw[hz];rfl
 rw[C];exact⟨r,x,h1,t,hz,bx z (af hz)⟩
theorem OS:PyData.eqv (.list []) (.list [])=true:=rfl
theorem OA:(PyData.list []).canLay0=true/\(PyData.list []).canLay0=true/\(PyData.list []).depth<=64:=⟨rfl,rfl,by decide⟩
theorem KK (B:oT mg)(F0:Fun K "_law_goes" "_law_goes" j9 f fd)(GS:Cl P w K mg base "_law_sum" EU ["_law_terms"] 2 JA)(GH:Cl P w K mg base "_law_share" ue ["_law_found"] 2 Ei):cW P w K mg base gK 3 f fd Vl Et:=by
 refine F0.q AF λH vs _ hr h=>?_;obtain⟨wA,oA,tA,m,hs,hs',M,M',F,rfl,W,W',hl,S,S',hn,g,L,hFr,q⟩:=h;obtain⟨hA,rA,rs,w1,w2,w3,R⟩:=W.ex;obtain⟨hA',rA',rs',v1,v2,v3,R'⟩:=W'.ex;obtain⟨ts,t1,lt,tr⟩:=g.get;have hl':=L.len';have hFn:=L.len;refine⟨_,am (fk 3 AF.nd (bE bQ (by rfl) B.len bu (ac (bf bL (pv 0) ar) aj)))
  (am (dX (PW.pt (kT (l5 (jK (bE jh (by rfl) B.isi boot_isinstance (ac (pv 2) (ac (ph (v:=.ty "list") rfl B.list boot_list rfl) aj))))) (kT (bV jF (bE bQ (by rfl) B.len bu (ac (bf bL (pv 1) ar) aj)) (pv 3) (bO _)) (jJ (bV jF (bE bQ (by rfl) B.len bu (ac (pv 2) aj)) (pv 3) (bO _)))))) (aC (bw jf)) cE)
  (am (eQ PassesOwn.never rfl (cK (pv 2)) (l9 4 AF.nd)
   (aC (dX (PW.pt (kT (l5 (jK (bE jh (by rfl) B.isi boot_isinstance (ac (pv 4) (ac (ph (v:=.ty "list") rfl B.list boot_list rfl) aj))))) (kT (bV jF (bE bQ (by rfl) B.len bu (ac (pv 4) aj)) (pv 3) (bO _)) (jJ (bV (p9 hr.units) (yN rfl PY rfl (cK (pv 4)) (yI PY) (λ_ _ _=>yF (l5 (jK (bH GH hr rfl (ac (pv 10) aj))))) λ_ _ _=>pv 10) (dC aj) (bO _)))))) (aC (bw jf)) cE)))
  (am (eQ PassesOwn.never rfl (fT rfl B.range (ac (pv 3) aj)) (l9 5 AF.nd)
   (am (dX (PW.pt (kT (bV (p9 hr.units) (bH GS hr rfl (ac (bf cD (pv 2) (pv 5)) aj)) (dm (ac ar (ac ar aj))) (bO _))
    (jJ (bV (p9 hr.units) (bH GS hr rfl (ac (il rfl Tu rfl (cK (pv 2)) λ_ _ _=>bf (fB (K:=K)) (pv 10) (pv 5)) aj)) (dm (ac ar (ac ar aj))) (bO _))))) (aC (bw jf)) cE)
   (aC (eQ PassesOwn.never rfl (Fa rfl B.enum (ac (bf cD (pv 2) (pv 5)) aj)) (oG rfl (gc (l9 6 AF.nd) (gc (l9 7 AF.nd) lN)))
    (am (fk 8 AF.nd (bH GS hr rfl (ac (il rfl Tt rfl (fT rfl B.range (ac (pv 3) aj)) (λ_ _ _=>dm (ac (bR io
      (bf (fB (K:=K)) (bf (fB (K:=K)) (bf (gN (K:=K)) (pv 0) ar) (pv 5)) (pv 10))
      (bf (gN (K:=K)) (bf (fB (K:=K)) (bf (fB (K:=K)) (pv 2) (pv 10)) (pv 6)) ar))
     (ac (bf (gN (K:=K)) (bf (fB (K:=K)) (bf (fB (K:=K)) (pv 2) (pv 10)) (pv 6)) ar) aj)))) aj)))
    (am (fk 9 AF.nd (bH GS hr rfl (ac (il rfl Tq rfl (fT rfl B.range (ac (pv 3) aj)) (λ_ _ _=>dm (ac (bR io
      (bf (gN (K:=K)) (bf (fB (K:=K)) (bf (fB (K:=K)) (pv 2) (pv 5)) (pv 10)) ar)
      (bf (fB (K:=K)) (bf (fB (K:=K)) (bf (gN (K:=K)) (pv 1) ar) (pv 10)) (pv 6)))
     (ac (bf (gN (K:=K)) (bf (fB (K:=K)) (bf (fB (K:=K)) (pv 2) (pv 5)) (pv 10)) ar) aj)))) aj)))
    (aC (dX (PW.pt (kT (bV (p9 hr.units) (pv 8) (pv 9) (bO _)) (jJ (PW.pt (pW (bV AQ (bf bL (pv 7) ar) ar (bO _))
     (pe (bV jF (bf cD (bf bL (pv 0) ar) (pv 5)) (bf cD (bf bL (pv 1) ar) (pv 6)) (bO _)))))))) (aC (bw jf)) cE))))))))
  (aC (bw jf))))),?_⟩
 show let ω1:TS:=_;let ω2:TS:=_;let ω3:TS:=(gL _ ω2 _);let ω4:TS:=bN _ ω3;let ω5:TS:=bN _ ω4;let ω6:TS:=(i0 _ _ ω5);let ω7:TS:=_;let ω8:TS:=bN (gL _ ω7 _) ω6;let ω9:TS:=bN (i0 _ _ ω8) ω1;let ω10:TS:=_;let ω11:TS:=(gL _ ω10 _);let ω12:TS:=bN (i0 _ _ ω11) ω9;let ω13:TS:=_;let ω14:TS:=bN (gL _ ω13 _) ω12;bN _ ω14 _ _ _;intro ω1 ω2 ω3 ω4 ω5 ω6 ω7 ω8 ω9 ω10 ω11 ω12 ω13 ω14;refine⟨_,rfl,wA,_,_,_,rfl,rfl,dH.of w1,eY _ _,hA,_,rfl,.inl (bW.of w2),?_⟩;rw[aa,hl];refine⟨_,rfl,_,_,_,_,rfl,.lst t1,P0,_,rfl,gu ?_⟩;refine⟨_,rfl,oA,_,_,_,rfl,rfl,dH.of v1,eY _ _,hA',_,rfl,.inl (bW.of v2),_,rfl,rfl,_,rfl,iP (by rw[aa,hl']) ?_⟩;refine⟨_,rfl,tA,_,rfl,.inl (bW.of t1),_,rfl,rfl,_,rfl,iP (by rw[aa,lt,hFn]) ?_⟩;have gr:∀u,u<m->∃fs r x,F[u]?=some fs/\CG F u=fs/\ts[u]?=some r/\H r=some (.lst x)/\jU H x fs/\fs.length=m:=λu hu=>by
  obtain⟨fs,hfs⟩:=bA (l:=F) (i:=u) (by lia);obtain⟨r,x,h1,h2,h3⟩:=tr u fs hfs;have e:CG F u=fs:=by unfold CG;rw[hfs];rfl
  exact⟨fs,r,x,hfs,e,h1,h2,h3,by rw[<-e];exact L.rows u hu⟩
 have ga:∀{u w:Nat},u<m->w<m->∃r x p,ts[u]?=some r/\H r=some (.lst x)/\x[w]?=some (.ref p)/\H p=some (j8 (vU F u w))/\UB (vU F u w)/\IM (vU F u w):=λ{u w} hu hw=>by
  obtain⟨fs,r,x,e1,e2,e3,e4,e5,hlen⟩:=gr u hu;obtain⟨f,I⟩:=bA (l:=fs) (i:=w) (by lia);obtain⟨p,hp1,hp2⟩:=e5.get I;have ea:vU F u w=f:=by unfold vU;rw[e2,I];rfl
  rw[ea];exact⟨r,x,p,e3,e4,hp1,hp2,hFr fs (af e1) f (af I)⟩
 refine⟨_,rfl,tA,rfl,⟨_,bW.of t1⟩,gi (xs:=ts.map V.ref) (λi σ H'=>∃(o4:LU),σ=[some (.ref wA),some (.ref oA),some (.ref tA),some (.int (m:Int)),o4,none,none,none,none,none]/\Same H H') ⟨none,rfl,Same.refl _⟩ (λi σ H' _ ⟨_,_,s'⟩=>bW.of (s' _ _ t1)) ?_ ?_⟩;rintro i x σ H1 hx ⟨o4,rfl,s1⟩;obtain⟨r,hr0,rfl⟩:=bJ hx;have hi:i<m:=by have:=cw hr0;lia
 obtain⟨fs,r',x,e1,e2,e3,e4,e5,hlen⟩:=gr i hi;rw[hr0]at e3;cases e3;refine⟨_,rfl,_,_,_,_,rfl,.lst (s1 _ _ e4),P0,_,rfl,gu ?_⟩;refine⟨_,rfl,r,_,rfl,.inl (bW.of (s1 _ _ e4)),_,rfl,rfl,_,rfl,iP (by rw[e5.1,hlen]) ?_⟩;refine⟨_,rfl,r,rfl,⟨_,bW.of (s1 _ _ e4)⟩,?_⟩;refine Oo rfl (s1 _ _ e4) ?_ ?_;intro j v H2 R' hv s2 hR;obtain⟨f,I⟩:=bA (l:=fs) (i:=j) (by rw[<-e5.1];exact cw hv);obtain⟨p,hp1,hp2⟩:=e5.get I;rw[hv]at hp1;cases hp1;exact⟨_,rfl,p,f,rfl,(s1.trans s2) _ _ hp2,(hFr fs (af e1) f (af I)).1,λH3 s3=>⟨_,rfl,hR H3 s3⟩⟩;intro D H2 s2 eD;refine⟨bp _,λc hc=>?_⟩;have s3:Same H2 (L2.upd H2 c (.lst [])):=Same.upd hc;refine⟨.list [],.list [],.lst trivial (bW.of (s3 _ _ eD)) .nil,.lst trivial (bW.of au) .nil,OA,_,rfl,?_⟩;rw[OS];exact gu ⟨_,rfl,s1.trans (s2.trans s3)⟩;rintro σ H1 ⟨o4,rfl,s1⟩;refine⟨_,rfl,(m:Int),rfl,by lia,by lia,gG (n:=m) (λi σ H'=>∃(o5 o6 o7 o8 o9:LU),σ=[some (.ref wA),some (.ref oA),some (.ref tA),some (.int (m:Int)),o4,o5,o6,o7,o8,o9]/\Same H H') ⟨_,_,_,_,_,rfl,s1⟩ ?_ ?_⟩
 ·rintro i σ H2 hi ⟨o5,o6,o7,o8,o9,rfl,s2⟩
  rw[show((0:Int)+(i:Nat))=(i:Int) by lia];obtain⟨fs,r,x,e1,e2,e3,e4,e5,lfs⟩:=gr i hi;have mfs:=af e1;refine⟨_,rfl,_,rfl,tA,_,_,_,rfl,rfl,bW.of (s2 _ _ t1),iQ e3,r,x,fs,rfl,s2 _ _ e4,e5.mono s2,by lia,λf I=>(hFr fs mfs f I).2.q,λp1 H3 s3 ep1=>?_⟩;refine⟨k9,λc1 hc1=>?_⟩;have s4:Same H3 (L2.upd H3 c1 (.tup [.int 1,.int 1])):=Same.upd hc1;have ec1:L2.upd H3 c1 (.tup [.int 1,.int 1]) c1=some (j8 (1,1)):=au;generalize L2.upd H3 c1 (.tup [.int 1,.int 1])=H4 at s4 ec1 ⊢;have s14:=s2.trans (s3.trans s4);refine⟨dF (iD fs),dF (1,1),v9 (s4 _ _ ep1),v9 ec1,⟨(fh _).1,(fh _).1,bj (fh _).2 (by decide)⟩,_,rfl,?_⟩;rw[kY,bi (by rw[<-e2];exact(L.one i hi).row)];refine gu ?_;obtain⟨X,⟨rs2,hT,RX⟩,lX,fX⟩:=g.mono s14;have xl:∀y∈X,i<y.length:=λy hy=>by obtain⟨k,hk⟩:=aU.mp hy;obtain⟨gs,_,_,hgs,_,_,_,_,e⟩:=gr k (by have:=cw hk;lia);rw[(fX k y gs hk hgs).1];lia
  refine⟨_,rfl,tA,rfl,⟨_,bW.of hT⟩,λD hD=>?_⟩;refine lO (X.map λx=>(x[i]?).getD .non) (by rw[aa,aa,RX.len]) (by rw[aa,RX.len];lia) hD (bW.of hT) ?_ ?_ ?_;intro k y v H' hy hv s';obtain⟨r',hr',rfl⟩:=bJ hy;obtain⟨y',hy',rfl⟩:=bJ hv;obtain⟨z,hz⟩:=bA (xl y' (af hy'));refine⟨_,rfl,_,rfl,r',_,_,z,rfl,rfl,bW.of (s' _ _ (RX.row k r' y' hr' hy')),cV hz,?_,Same.refl _⟩;rw[hz];rfl
  ·intro H5 U eD
   have s15:=s14.trans U;have fc:jU H4 (X.map λx=>(x[i]?).getD .non) (zk F i)/\∀f∈zk F i,Sd f:=by refine⟨⟨by unfold zk;rw[aa,aa,lX],λk v f h1 h2=>?_⟩,λf I=>?_⟩;obtain⟨y,hy,rfl⟩:=bJ h1;obtain⟨gs,hgs,rfl⟩:=bJ (show(F.map λr=>(r[i]?).getD (0,1))[k]?=some f from h2);have fy:=fX k y gs hy hgs;obtain⟨f,I⟩:=bA (l:=gs) (i:=i) (by rw[<-fy.1];exact xl y (af hy));obtain⟨p,hp1,hp2⟩:=fy.get I;rw[hp1,I];exact⟨p,rfl,hp2⟩;obtain⟨gs,hgs,rfl⟩:=aV.mp I;obtain⟨k,hk⟩:=aU.mp hgs;obtain⟨gs',_,_,hgs',_,_,_,_,e⟩:=gr k (by have:=cw hk;lia);rw[hk]at hgs';cases hgs';obtain⟨f,I⟩:=bA (l:=gs) (i:=i) (by lia);rw[I];exact(hFr gs hgs f (af I)).2.q
   refine⟨D,_,zk F i,rfl,eD,fc.1.mono U,by unfold zk;rw[aa];lia,fc.2,λp2 H6 s6 ep2=>?_⟩;refine⟨k9,λc2 hc2=>?_⟩;have J:Same H6 (L2.upd H6 c2 (.tup [.int 1,.int 1])):=Same.upd hc2;have ec2:L2.upd H6 c2 (.tup [.int 1,.int 1]) c2=some (j8 (1,1)):=au;generalize L2.upd H6 c2 (.tup [.int 1,.int 1])=H7 at J ec2 ⊢;have s17:=s15.trans (s6.trans J);refine⟨dF (iD (zk F i)),dF (1,1),v9 (J _ _ ep2),v9 ec2,⟨(fh _).1,(fh _).1,bj (fh _).2 (by decide)⟩,_,rfl,?_⟩;rw[kY,bi (L.one i hi).col];refine gu ?_;refine⟨_,rfl,_,rfl,tA,_,_,_,rfl,rfl,bW.of (s17 _ _ t1),iQ e3,r,rfl,⟨_,bW.of (s17 _ _ e4)⟩,Ml (K:=K) (xs:=x) (λk σ H'=>∃(o6 o7 o8 o9:LU),σ=[some (.ref wA),some (.ref oA),some (.ref tA),some (.int (m:Int)),o4,some (.int (i:Int)),o6,o7,o8,o9]/\Same H H') ⟨_,_,_,_,rfl,s17⟩ (λk σ H' _ ⟨_,_,_,_,_,s'⟩=>bW.of (s' _ _ e4)) ?_ ?_⟩
   ·rintro k v t σ H8 hv ⟨o6,o7,o8,o9,rfl,s8⟩ ht
    refine⟨t,_,rfl,dH.of au,rfl,_,_,rfl,_,_,rfl,rfl,?_⟩;have s9:Same H (L2.upd H8 t (.tup [.int (k:Int),v])):=s8.trans (Same.upd ht);generalize L2.upd H8 t (.tup [.int (k:Int),v])=H9 at s9 ⊢;have hk:k<m:=by have:=cw hv;rw[e5.1,lfs]at this;exact this
    obtain⟨r',x',p,g1,g2,g3,g4,_,_⟩:=ga hi hk;rw[e3]at g1;cases g1;rw[e4]at g2;cases g2;rw[hv]at g3;cases g3;have lh:(vD M F m i k).length=m:=by unfold vD;rw[aa,aA]
    have lth:(pP M' F m i k).length=m:=by unfold pP;rw[aa,aA]
    refine⟨_,rfl,(m:Int),rfl,by lia,by lia,λD hD=>?_⟩;rw[bg];refine rk (n:=m) (xZ H9 D (vD M F m i k)) (xZ.start hD) (λj ys H' _ g=>g.at) ?_ ?_ ?_;rintro j ys H' C g;rw[show((0:Int)+(j:Nat))=(j:Int) by lia];have U:=s9.trans g.same;obtain⟨ru,xu,a1,a2,a3,a4⟩:=OU S R hi C;obtain⟨rv,xv,p,b1,b2,b3,b4,_,b5⟩:=ga C hk;obtain⟨c1,c2,c3⟩:=b5.mulL a4;refine IY (uo (Kx ?_));refine VG rfl rfl rfl (U _ _ w1) (fK _ _ _) (U _ _ w3) (iQ a1) (U _ _ a2) (v:=.int (ent M i j)) (cV (by rw[ao,a3];rfl)) ?_;refine Uu rfl rfl rfl (U _ _ t1) (iQ b1) (U _ _ b2) (cV b3) (U _ _ b4) (eY _ _) ?_;refine⟨_,_,rfl,rfl,⟨100,by decide,c1,b5.2⟩,?_⟩;refine uo (Uu rfl rfl rfl (U _ _ t1) (iQ b1) (U _ _ b2) (cV b3) (U _ _ b4) (fK _ _ _) ?_);refine⟨k9,λy hy=>?_⟩;exact g.step (f:=(ent M i j*(vU F j k).1,(vU F j k).2)) hD (by unfold vD;rw[ao,cy C];rfl) au hy (Same.upd hy) (by lia)
    ·intro ys H5 g
     have U:=s9.trans g.same;obtain⟨eD,fa⟩:=g.done lh;refine⟨D,ys,vD M F m i k,rfl,eD,fa,by lia,λf I=>?_,λp1 H6 s6 ep1=>?_⟩;obtain⟨j,C,rfl⟩:=aV.mp I;obtain⟨_,_,_,_,_,a4⟩:=OU S R hi (bc.mp C);obtain⟨_,_,_,_,_,_,_,_,b5⟩:=ga (bc.mp C) hk;exact(b5.mulL a4).2.1;have s16:=U.trans s6;refine⟨_,rfl,(m:Int),rfl,by lia,by lia,λD2 hD2=>?_⟩;rw[bg];refine rk (n:=m) (xZ H6 D2 (pP M' F m i k)) (xZ.start hD2) (λj ys H' _ g=>g.at) ?_ ?_ ?_;rintro j ys H' C g;rw[show((0:Int)+(j:Nat))=(j:Int) by lia];have J:=s16.trans g.same;obtain⟨ru,xu,a1,a2,a3,a4⟩:=OU S' R' C hk;obtain⟨rv,xv,p,b1,b2,b3,b4,_,b5⟩:=ga hi C;obtain⟨c1,c2,c3⟩:=b5.mulL a4;refine IY (uo (Kx ?_));refine Uu rfl rfl rfl (J _ _ t1) (iQ b1) (J _ _ b2) (cV b3) (J _ _ b4) (eY _ _) ?_;refine VG rfl rfl rfl (J _ _ v1) (fK _ _ _) (J _ _ v3) (iQ a1) (J _ _ a2) (v:=.int (ent M' j k)) (cV (by rw[ao,a3];rfl)) ?_;refine⟨_,_,rfl,rfl,⟨100,by decide,b5.2,c1⟩,?_⟩;refine uo (Uu rfl rfl rfl (J _ _ t1) (iQ b1) (J _ _ b2) (cV b3) (J _ _ b4) (fK _ _ _) ?_);refine⟨k9,λy hy=>?_⟩;exact g.step (f:=((vU F i j).1*ent M' j k,(vU F i j).2)) hD2 (by unfold pP;rw[ao,cy C];rfl) au hy (Same.upd hy) (by lia)
     ·intro ys2 H7 g2
      have J:=s16.trans g2.same;have ep1':=g2.same _ _ ep1;obtain⟨eD2,fa2⟩:=g2.done lth;refine⟨D2,ys2,pP M' F m i k,rfl,eD2,fa2,by lia,λf I=>?_,λp2 H8 s8 ep2=>?_⟩;obtain⟨j,C,rfl⟩:=aV.mp I;obtain⟨_,_,_,_,_,a4⟩:=OU S' R' (bc.mp C) hk;obtain⟨_,_,_,_,_,_,_,_,b5⟩:=ga hi (bc.mp C);exact(b5.mulL a4).2.2;have T:=J.trans s8;refine⟨_,rfl,_,rfl,dF _,dF _,v9 (s8 _ _ ep1'),v9 ep2,⟨(fh _).1,(fh _).1,bj (fh _).2 (by decide)⟩,_,rfl,?_⟩;rw[kY,bi (L.two i hi k hk)];refine gu ?_;refine⟨_,rfl,p,_,_,.int (vU F i k).1,rfl,rfl,dH.of (T _ _ g4),eY _ _,_,_,rfl,rfl,_,rfl,?_⟩;by_cases n2:0<(vU F i k).1
      case neg=>exact js n2 (gu ⟨_,_,_,_,rfl,T⟩)
      refine jr n2 ?_;obtain⟨hu,ehu⟩:=bA (l:=hs) (i:=i) (by lia);obtain⟨hw,ehw⟩:=bA (l:=hs') (i:=k) (by lia);have n3:hu=hw:=Classical.byContradiction λz=>(L.one i hi).ok k hk (.inr ⟨n2,by rw[getD_some ehu,getD_some ehw];exact z⟩);refine⟨_,rfl,wA,_,_,_,rfl,rfl,dH.of (T _ _ w1),eY _ _,_,rfl,hA,_,_,.int hu,rfl,rfl,bW.of (T _ _ w2),cV (by rw[ao,ehu];rfl),?_⟩;refine⟨_,rfl,oA,_,_,_,rfl,rfl,dH.of (T _ _ v1),eY _ _,_,rfl,hA',_,_,.int hw,rfl,rfl,bW.of (T _ _ v2),cV (by rw[ao,ehw];rfl),rfl,_,rfl,?_⟩;exact iP (by rw[n3]) ⟨_,_,_,_,rfl,T⟩
     exact To (Oh (iU (iU (iU (iU mT mT su) mT su) HE HD) (iU (iU (iU mT HE HD) mT su) mT su) Tn) (Oh (iU (iU (iU mT mT su) mT su) HE HD) Tp))
    exact To (Oh (iU (iU (iU (iU mT HE HD) mT su) mT su) (iU (iU (iU mT mT su) mT su) HE HD) Tn) (Oh (iU (iU (iU mT mT su) mT su) HE HD) Tp))
   rintro σ H8 ⟨o6,o7,o8,o9,rfl,s8⟩;exact⟨_,_,_,_,_,rfl,s8⟩
  exact iU mT mT su
 rintro σ H2 ⟨o5,o6,o7,o8,o9,rfl,s2⟩;exact q H2 s2
theorem xT:bootBuiltins "str"=some (.type "str"):=by decide+kernel
def qj (hs:LH)(M:LA)(hs':LH)(M':LA):PyData:=.list [dW hs M,dW hs' M']
theorem xo {n:Nat}(j:n<=8):∀M:LA,(∀x∈M,x.length=n/\∀z∈x,z.natAbs<10^30)->PyData.showableAll (M.map dI)=true/\PyData.intsShortAll 31 (M.map dI)=true/\PyData.hasDictAll (M.map dI)=false/\PyData.weightAll (M.map dI)<=817*M.length
 |[],_=>⟨rfl,rfl,rfl,av _⟩
 |x::M,h=>by obtain⟨a1,a2,a3,a4⟩:=xo j M λy g=>h y (aB _ g);obtain⟨t,bx⟩:=h x aM;obtain⟨b1,p,l,C⟩:=sG x bx;rw[aJ];refine⟨?_,?_,?_,?_⟩;simp only[PyData.showableAll,dI,PyData.showable,a1,b1,eK];simp only[PyData.intsShortAll,dI,PyData.intsShort,a2,p,eK];simp only[PyData.hasDictAll,dI,PyData.hasDict,a3,l,DP];simp only[PyData.weightAll,dI,PyData.weight,aH];lia
theorem Wz.show {n:Nat}(W:Wz H p n hs M)(I:n<=8):(dW hs M).showable=true/\(dW hs M).intsShort 31=true/\(dW hs M).hasDict=false/\(dW hs M).weight<=8000:=by
 have g:kr=1000000000000000000000:=by decide
 obtain⟨a1,a2,a3,a4⟩:=sG hs λz hz=>cg (show z.natAbs<=3 by have:=W.hb z hz;lia) (by decide);obtain⟨b1,b2,b3,U⟩:=xo I M λx C=>by obtain⟨j,J⟩:=aU.mp C;obtain⟨t,l⟩:=W.sq.row j x J;exact⟨t,λz hz=>cg (l z hz) (by rw[g];decide)⟩
 have l1:=W.len;have l2:=W.sq.len;refine⟨?_,?_,?_,?_⟩;simp only[dW,dI,PyData.showable,PyData.showableAll,a1,b1,eK];simp only[dW,dI,PyData.intsShort,PyData.intsShortAll,a2,b2,eK];simp only[dW,dI,PyData.hasDict,PyData.hasDictAll,a3,b3,DP];simp only[dW,dI,PyData.weight,PyData.weightAll];have T:PyData.weightAll (M.map λns=>PyData.list (ns.map PyData.int))<=817*M.length:=U;lia
theorem IW {n:Nat}(W:Wz H p n hs M)(J:Wz H p' m hs' M')(g:n<=8)(j:m<=8):(qj hs M hs' M').showable=true/\(qj hs M hs' M').hasDict=false/\(qj hs M hs' M').depth<=32/\(qj hs M hs' M').shown.length<=sizeLine:=by
 obtain⟨a1,a2,a3,a4⟩:=W.show g;obtain⟨b1,I,C,b4⟩:=J.show j;obtain⟨t,U⟩:=LE hs M;obtain⟨l,T⟩:=LE hs' M';have cl:(qj hs M hs' M').canLay0=true:=by simp only[qj,PyData.canLay0,PyData.canLayAll0,t,l,eK]
 have is:(qj hs M hs' M').intsShort 31=true:=by simp only[qj,PyData.intsShort,PyData.intsShortAll,a2,I,eK]
 refine⟨by simp only[qj,PyData.showable,PyData.showableAll,a1,b1,eK],by simp only[qj,PyData.hasDict,PyData.hasDictAll,a3,C,DP],by simp only[qj,PyData.depth,PyData.depthAll];lia,?_⟩;have h:=PyData.shown_le 31 (by decide) _ (PyData.leavesShort_of_canLay0 31 _ cl is);have w:(qj hs M hs' M').weight<=16002:=by simp only[qj,PyData.weight,PyData.weightAll];lia
 have e:=sizeLine_eq;lia
theorem WR.da (W:WR H p hs M):DA K any H (.ref p) (dW hs M):=by obtain⟨j,rA,rs,h1,h2,g,R⟩:=W.ex;exact .tup trivial (dH.of h1) (.cons (Sh trivial (bW.of h2)) (.cons (.lst trivial (bW.of g) (vN R.len R.row)) .nil))
def Kp (H H':Hp):Prop:=∀b o,H b=some o->(∀ps,o≠.tbl ps)->H' b=some o
theorem Kp.of (s:Same H H'):Kp H H':=λb o e _=>s b o e
theorem Kp.trans (a:Kp H H1)(b:Kp H1 H2):Kp H H2:=λc o e n=>b c o (a c o e n) n
theorem Kp.chg {tb:LV}(e:H Pt=some (.tbl tb))(c:sT (λb=>b=Pt) H H'):Kp H H':=λb o g n=>c b o (λz=>by rw[z,e]at g;cases g;exact n _ rfl) g
theorem Kp.upd {l:Addr}{o:HO}(k:Kp H H1)(hl:H l=none):Kp H (L2.upd H1 l o):=λb u e n=>by rw[aW (aI e hl)];exact k b u e n
theorem Wz.kp {n:Nat}(W:Wz H p n hs M)(k:Kp H H'):Wz H' p n hs M:=by refine⟨?_,W.len,W.sq,W.hb⟩;obtain⟨g,rA,rs,h1,h2,j,R⟩:=W.wr.ex;exact⟨g,rA,rs,k _ _ h1 nofun,k _ _ h2 nofun,k _ _ j nofun,⟨R.len,λi r y g1 g2=>k _ _ (R.row i r y g1 g2) nofun,R.nd⟩⟩
theorem v7.grd (g:v7 H0 H a F):zC H a F:=by
 obtain⟨rs,eD,p,nD,nR,U⟩:=g;have pick:∀i,∃x,i<F.length->∀r fs,rs[i]?=some r->F[i]?=some fs->H r=some (.lst x)/\jU H x fs:=λi=>by by_cases hi:i<F.length;obtain⟨r,h1⟩:=bA (l:=rs) (i:=i) (by lia);obtain⟨fs,h2⟩:=bA (l:=F) (i:=i) hi;obtain⟨x,T⟩:=U i r fs h1 h2;refine⟨x,λ_ r' fs' J I=>?_⟩;rw[h1]at J;rw[h2]at I;cases J;cases I;exact T;exact⟨[],λz=>absurd z hi⟩
 obtain⟨g,C⟩:=Classical.axiomOfChoice pick;have t:((List.range F.length).map g).length=F.length:=by rw[aa,aA]
 refine⟨(List.range F.length).map g,⟨rs,eD,⟨p.trans t.symm,λi r x h1 h2=>?_⟩⟩,t,λi x fs h1 h2=>?_⟩;have hi:i<F.length:=by rw[<-p];exact cw h1
 rw[ao,cy hi]at h2;cases h2;obtain⟨fs,j⟩:=bA (l:=F) (i:=i) hi;exact(C i hi r fs h1 j).1;have hi:i<F.length:=cw h2;rw[ao,cy hi]at h1;cases h1;obtain⟨r,j⟩:=bA (l:=rs) (i:=i) (by lia);exact(C i hi r fs j h2).2
inductive MQ (n m:Nat)(hs hs':LH)(M M':LA)(H0 H:Hp)(p:Addr):Prop
 |al {ls:LH} {D:Addr}:fW (hs++hs') (dN n m M M') ls->(ls.take n).Perm (ls.drop n)->H p=some (.tup [.str "alike",.ref D])->v7 H0 H D (OR (ls.take n) (ls.drop n))->MQ n m hs hs' M M' H0 H p
 |un {ls:LH} {v:V} {t:Tr} {a b:Addr}:fW (hs++hs') (dN n m M M') ls->¬(ls.take n).Perm (ls.drop n)->jy (Nw H0) H v t->t.deep<=12->t.knots<=4096->(cO hs M n t).sum≠(cO hs' M' m t).sum->
   H p=some (.tup [.str "unlike",v,.ref a,.ref b])->H a=some (j8 ((cO hs M n t).sum,1))->H b=some (j8 ((cO hs' M' m t).sum,1))->MQ n m hs hs' M M' H0 H p
theorem MQ.same {n:Nat}(h:MQ n m hs hs' M M' H0 H p)(s:Same H H'):MQ n m hs hs' M M' H0 H' p:=by cases h with|al a b c d=>exact .al a b (s _ _ c) (d.mono s)|un a b c d e f g h i=>exact .un a b (c.same s) d e f (s _ _ g) (s _ _ h) (s _ _ i)
theorem Ce (hs:LH)(M:LA)(n:Nat)(t:Tr):Cf hs M n t.tm=cO hs M n t:=by unfold Cf cO;rw[Jb]
inductive As (Tb:Hp->Prop)(vs:LI)(H:Hp)(Q:VK):Prop|mk (wA g:Addr) (n m:Nat) (hs hs':LH) (M M':LA) (_:vs=[.ref wA,.ref g]) (_:Wz H wA n hs M) (_:Wz H g m hs' M') (_:n<=6) (_:m<=6) (_:Tb H) (_:∀(p:Addr) (H':Hp),Kp H H'->Tb H'->MQ n m hs hs' M M' H H' p->Q (.ref p) H'):As Tb vs H Q
def JF (Pt:Addr)(Tb:Hp->Prop):Sp:=λvs H Q _=>As Tb vs H Q
abbrev Tl:LM:=["web","other","tree","term"]
theorem CD:bv Tl ["web","other"] (aw EW):={}
theorem N0 (TT:Vq Tb Pt)(F:Fun K "held_by_trees" "held_by_trees" EW f fd)(GP:Cl P w K mg base "parting_tree" yy ["web","other"] 43 (Ek Pt Tb))(GT:Cl P w K mg base "table_of" rO ["web","other"] 5 Eg)(GM:Cl P w K mg base "term_of" qR ["tree"] 13 (uG 12))(GO:Cl P w K mg base "total_of" oz ["web","term"] 8 mC):cW P w K mg base gK 44 f fd ["web","other"] (JF Pt Tb):=by
 refine F.q CD λH vs _ I h=>?_;obtain⟨wA,oA,n,m,hs,hs',M,M',rfl,W1,W2,hn,hm,t0,q⟩:=h;have r5:=I.mono (j:=5) (by decide);have r8:=I.mono (j:=8) (by decide);have r13:=I.mono (j:=13) (by decide);refine⟨_,am (fk 2 CD.nd (bH GP I rfl (ac (pv 0) (ac (pv 1) aj))))
  (am (dX (bV yO (pv 2) jO (bO _)) (aC (bw (dm (ac hJ (ac (bH GT r5 rfl (ac (pv 0) (ac (pv 1) aj))) aj))))) cE)
  (am (fk 3 CD.nd (bH GM r13 rfl (ac (pv 2) aj)))
  (aC (bw (dm (ac hJ (ac (pv 2) (ac (bH GO r8 rfl (ac (pv 0) (ac (pv 3) aj))) (ac (bH GO r8 rfl (ac (pv 1) (ac (pv 3) aj))) aj))))))))),?_⟩
 show let ω1:TS:=_;let ω2:TS:=bN _ ω1;let ω3:TS:=_;let U:TS:=bN (gL _ ω3 _) ω2;bN _ U _ _ _;intro ω1 ω2 ω3 U;obtain⟨tb0,eP⟩:=TT.at' H t0;refine⟨_,rfl,_,rfl,wA,oA,n,m,hs,hs',M,M',rfl,W1,W2,hn,hm,t0,λls H1 c1 n1 t1 C pm=>?_,λls v t H1 c1 n1 t1 C np T G dd kn ne=>?_⟩;have k1:Kp H H1:=.chg eP c1;refine⟨_,rfl,rfl,_,rfl,iV ?_⟩;refine⟨_,rfl,_,rfl,wA,oA,n,m,hs,hs',M,M',rfl,W1.kp k1,W2.kp k1,by lia,by lia,λD l2 H2 s2 C2 g=>?_⟩;rw[C2.uniq C]at g;refine⟨k9,λp hp=>?_⟩;have J:Same H2 (L2.upd H2 p (.tup [.str "alike",.ref D])):=Same.upd hp;have s13:=s2.trans J;refine q p _ (k1.trans (.of s13)) (TT.keep _ _ t1 λb o _ e=>s13 _ _ e) (.al C pm au ?_);obtain⟨rs,g1,g2,g3,g4,g5⟩:=g.mono J;exact⟨rs,g1,g2,n1 _ g3,λr I=>⟨(g4 r I).1,n1 _ (g4 r I).2⟩,g5⟩;have k1:Kp H H1:=.chg eP c1;have nv:v≠.non:=by cases T;exact nofun
 refine⟨_,rfl,rfl,_,rfl,js nv ?_⟩;have hz:t.tm.size<=12288:=by have:=yf t;lia
 refine⟨_,rfl,_,v,t,rfl,T,dd,λu H2 s2 hu=>?_⟩;have k2:=k1.trans (.of s2);refine⟨_,rfl,_,rfl,_,rfl,wA,u,t.tm,hs,M,n,rfl,W1.kp k2,by lia,hz,hu,?_⟩;rintro z1 H3 J ⟨a,rfl,ea⟩;have k3:=k2.trans (.of J);refine⟨_,rfl,_,rfl,oA,u,t.tm,hs',M',m,rfl,W2.kp k3,by lia,hz,hu.same J,?_⟩;rintro z2 H4 s4 ⟨b,rfl,eb⟩;rw[Ce]at ea eb;refine⟨Vz,λp hp=>?_⟩;have s5:Same H4 (L2.upd H4 p (.tup [.str "unlike",v,.ref a,.ref b])):=Same.upd hp;have s45:=s4.trans s5;have l:=s2.trans (J.trans s45);exact q p _ (k1.trans (.of l)) (TT.keep _ _ t1 λb o _ e=>l _ _ e) (.un C np (T.same l) dd kn ne au (s45 _ _ ea) (s5 _ _ eb))
abbrev Tf:LM:=["web","other","paper","term"]
abbrev MJ:LM:=["web","other","paper"]
theorem JP:bv Tf MJ (aw ES):={}
inductive Aj (vs:LI)(H:Hp)(Q:VK):Prop|mk (wA l j:Addr) (n m:Nat) (hs hs':LH) (M M':LA) (_:vs=[.ref wA,.ref l,.ref j]) (_:Wz H wA n hs M) (_:Wz H l m hs' M') (_:n<=8) (_:m<=8) (_:((∃D F,H j=some (.tup [.str "alike",.ref D])/\zC H D F/\F.length<=16/\(∀r∈F,r.length<=16/\∀f∈r,IM f)/\∀b H',b=oM n hs hs' M M' F->Same H H'->Q (.bl b) H')\/(∃v a b f g,H j=some (.tup [.str "unlike",v,.ref a,.ref b])/\H a=some (j8 f)/\H b=some (j8 g)/\((f=g/\Q (.bl false) H)\/(f≠g/\∃Z t,jy Z H v t/\t.deep<=12/\t.knots<=4096/\f=((cO hs M n t).sum,1)/\g=((cO hs' M' m t).sum,1)/\∀H',Same H H'->Q (.bl true) H'))))):Aj vs H Q
def Jx:Sp:=λvs H Q _=>Aj vs H Q
theorem NU (F0:Fun K "look_trees" "look_trees" ES f fd)(GG:Cl P w K mg base "goes_through" xj MN 4 JG)(GM:Cl P w K mg base "term_of" qR ["tree"] 13 (uG 12))(GO:Cl P w K mg base "total_of" oz ["web","term"] 8 mC):cW P w K mg base gK 14 f fd MJ Jx:=by
 refine F0.o JP λcdv A outer s H vs Q E J h=>?_;obtain⟨wA,oA,p,n,m,hs,hs',M,M',rfl,W,W',hn,hm,h⟩:=h;have r4:=J.mono (j:=4) (by decide);have r8:=J.mono (j:=8) (by decide);refine⟨_,am (dX (bV gh (bf bL (pv 2) ar) hJ (bO _)) (aC (bw (bH GG r4 rfl (ac (pv 0) (ac (pv 1) (ac (bf bL (pv 2) ar) aj)))))) cE)
  (am (dX (bV (qe J.units) (bf bL (pv 2) ar) (bf bL (pv 2) ar) (bO _)) (aC (bw jf)) cE)
  (am (fk 3 JP.nd (bH GM J rfl (ac (bf bL (pv 2) ar) aj)))
  (aC (bw (nz (fH (qe J.units) (bH GO r8 rfl (ac (pv 0) (ac (pv 3) aj))) (bf bL (pv 2) ar) (bO _))
   (ny (fH (qe J.units) (bH GO r8 rfl (ac (pv 1) (ac (pv 3) aj))) (bf bL (pv 2) ar) (bO _)))))))),?_⟩
 show let ω1:TS:=_;let ω2:TS:=bN _ ω1;let ω3:TS:=_;let ω4:TS:=bN (gL _ ω3 _) ω2;let U:TS:=_;bN (gL _ U _) ω4 _ _ _;intro ω1 ω2 ω3 ω4 U;rcases h with⟨D,F,ep,g,hF,hFr,q⟩|⟨v,a,b,f0,f1,ep,e0,e1,h⟩;refine⟨_,rfl,p,_,_,.str "alike",rfl,rfl,dH.of ep,eY _ _,rfl,_,rfl,jr rfl ?_⟩;exact⟨_,rfl,_,rfl,_,rfl,p,_,_,.ref D,rfl,rfl,dH.of ep,fK _ _ _,wA,oA,D,n,m,hs,hs',M,M',F,rfl,W.wr,W'.wr,W.len,W'.len,W.sq,W'.sq,hn,hm,g,hF,hFr,λb H' e s=>q b H' e s⟩;refine⟨_,rfl,p,_,_,.str "unlike",rfl,rfl,dH.of ep,eY _ _,rfl,_,rfl,js (Pw (by decide+kernel)) ?_⟩;have at2:pK [V.str "unlike",v,.ref a,.ref b] 2=some (.ref a):=cV (j:=2) rfl;have at3:pK [V.str "unlike",v,.ref a,.ref b] 3=some (.ref b):=cV (j:=3) rfl;refine⟨_,rfl,p,_,_,.ref a,rfl,rfl,dH.of ep,at2,_,rfl,p,_,_,.ref b,rfl,rfl,dH.of ep,at3,dF f0,dF f1,v9 e0,v9 e1,⟨(fh _).1,(fh _).1,bj (fh _).2 (by decide)⟩,_,rfl,?_⟩;rw[kY];rcases h with⟨I,q⟩|⟨I,Z,t,T,dd,kn,h0,h1,q⟩;rw[bi I];exact iV q;rw[bq I];refine gu ?_;have hz:t.tm.size<=12288:=by have:=yf t;lia
 refine⟨_,rfl,p,_,_,v,rfl,rfl,dH.of ep,fK _ _ _,Z,v,t,rfl,T,dd,λu H1 s1 hu=>?_⟩;refine⟨_,rfl,_,rfl,wA,u,t.tm,hs,M,n,rfl,W.same s1,hn,hz,hu,?_⟩;rintro zv H2 s2 ⟨tp,rfl,htp⟩;rw[Ce,<-h0]at htp;have l:=s1.trans s2;refine⟨_,rfl,p,_,_,.ref a,rfl,rfl,dH.of (l _ _ ep),at2,dF _,dF f0,v9 htp,v9 (l _ _ e0),⟨(fh _).1,(fh _).1,bj (fh _).2 (by decide)⟩,_,rfl,?_⟩;rw[kY,bi rfl];refine iV ?_;refine⟨_,rfl,_,rfl,oA,u,t.tm,hs',M',m,rfl,W'.same l,hm,hz,hu.same s2,?_⟩;rintro zv H3 s3 ⟨tp2,rfl,htp2⟩;rw[Ce,<-h1]at htp2;have C:=l.trans s3;refine⟨_,rfl,p,_,_,.ref b,rfl,rfl,dH.of (C _ _ ep),at3,dF _,dF f1,v9 htp2,v9 (C _ _ e1),⟨(fh _).1,(fh _).1,bj (fh _).2 (by decide)⟩,?_⟩;rw[kY,bi rfl];exact q H3 C
theorem RE {n:Nat}(t:n<=16){a:Nat->Int}:∀r∈oj n a b,∀f∈r,UB f/\IM f:=λr g f j=>by have h2:=((vH (a:=a) (b:=b) t).2 r g).2 f j;refine⟨?_,h2.2⟩;obtain⟨u,l,rfl⟩:=ky.mp g;obtain⟨v,_,rfl⟩:=aV.mp j;have p:=ju (n:=n) (a:=a) l;have b:=h2.1.2.2.mono (m:=8000) (by decide);revert b;unfold nE;split;exactλb=>⟨by show(0:Int)<=1;decide,⟨p,Int.one_gcd⟩,b⟩;exactλb=>⟨by decide,⟨by decide,by decide⟩,b⟩
theorem Wz.alk {n:Nat}(W:Wz H p n hs M)(g:Wz H' p' n hs' M')(C:fW (hs++hs') (dN n n M M') ls)(pm:(ls.take n).Perm (ls.drop n)):Qe n hs hs' M M' ls:=MG W.len g.len W.sq g.sq C pm
theorem Wz.ln {n:Nat}(W:Wz H p n hs M)(g:Wz H' p' m hs' M')(C:fW (hs++hs') (dN n m M M') ls):ls.length=n+m:=by rw[<-C.len,ah,W.len,g.len]
theorem RF (f g:Int×Int):PyData.eqv (.list [dF f,dF g]) (.list [dF f,dF g])=true:=by simp only[PyData.eqv,PyData.eqvAll];rw[kY,kY,bi rfl,bi rfl];rfl
theorem Df (f g:Int×Int):(PyData.list [dF f,dF g]).canLay0=true/\(PyData.list [dF f,dF g]).depth<=64:=by obtain⟨a,b⟩:=fh f;obtain⟨c,d⟩:=fh g;exact⟨by simp only[PyData.canLay0,PyData.canLayAll0,a,c,eK],by simp only[PyData.depth,PyData.depthAll];lia⟩
inductive wE (vs:LI)(H:Hp)(Q:VK):Prop|mk (wA j g:Addr) (n m:Nat) (hs hs':LH) (M M':LA) (H0:Hp) (_:vs=[.ref wA,.ref j,.ref g]) (_:Wz H wA n hs M) (_:Wz H j m hs' M') (_:n<=6) (_:m<=6) (_:jz n (ent M)) (_:jz m (ent M')) (_:MQ n m hs hs' M M' H0 H g) (_:∀H',Same H H'->Q (.bl true) H'):wE vs H Q
def Ej:Sp:=λvs H Q _=>wE vs H Q
abbrev QZ:LM:=["_law_web_here","_law_other","_law_paper","_law_totals"]
abbrev Dw:LM:=["_law_web_here","_law_other","_law_paper"]
theorem EJ:bv QZ Dw (aw yx):={}
theorem KG (B:oT mg)(F:Fun K "_law_right" "_law_right" yx f fd)(GG:Cl P w K mg base "_law_goes" j9 Vl 3 Et)(GR:Cl P w K mg base "_law_row" CF BW 13 (Cq 12)):cW P w K mg base gK 14 f fd Dw Ej:=by
 refine F.o EJ λcdv A outer s H vs Q E hr h=>?_;obtain⟨wA,oA,p,n,m,hs,hs',M,M',H0,rfl,W,U,hn,hm,y1,y2,pp,q⟩:=h;have r3:=hr.mono (j:=3) (by decide);refine⟨_,am (dX (PW.pt (kT (l5 (jK (bE jh (by rfl) B.isi boot_isinstance (ac (pv 2) (ac (ph (v:=.ty "tuple") rfl B.tuple vS rfl) aj))))) (jJ (bV AO (bE bQ (by rfl) B.len bu (ac (pv 2) aj)) ar (bO _))))) (aC (bw jf)) cE)
  (am (dX (bV gh (bf bL (pv 2) ar) hJ (bO _)) (aC (bw (nz (fH gh (bE bQ (by rfl) B.len bu (ac (pv 2) aj)) ar (bO _)) (ny (bH GG r3 rfl (ac (pv 0) (ac (pv 1) (ac (bf bL (pv 2) ar) aj)))))))) cE)
  (am (dX (PW.pt (kT (bV jF (bf bL (pv 2) ar) hJ (bO _)) (jJ (bV jF (bE bQ (by rfl) B.len bu (ac (pv 2) aj)) ar (bO _))))) (aC (bw jf)) cE)
  (am (fk 3 EJ.nd (dC (ac (dm (ac (bE (jv rfl) (by rfl) B.sum jx (ac (bH GR hr rfl (ac (pv 0) (ac (bf bL (pv 2) ar) aj))) aj)) (ac ar aj)))
   (ac (dm (ac (bE (jv rfl) (by rfl) B.sum jx (ac (bH GR hr rfl (ac (pv 1) (ac (bf bL (pv 2) ar) aj))) aj)) (ac ar aj))) aj))))
  (aC (bw (nz (fH (qe hr.units) (dC (ac (bf bL (pv 2) ar) (ac (bf bL (pv 2) ar) aj))) (pv 3) (bO _))
   (ny (fH (p9 hr.units) (bf bL (pv 2) ar) (bf bL (pv 2) ar) (bO _))))))))),?_⟩
 show let ω1:TS:=_;let ω2:TS:=bN _ ω1;let ω3:TS:=_;let ω4:TS:=bN (gL _ ω3 _) ω2;let ω5:TS:=_;let ω6:TS:=bN (gL _ ω5 _) ω4;let ω7:TS:=_;bN (gL _ ω7 _) ω6 _ _ _;intro ω1 ω2 ω3 ω4 ω5 ω6 ω7;cases pp with
 | @al ls D C pm ep g=>obtain rfl:=yG (W.ln U C) pm;have A:=W.alk U C pm;rw[A.take]at g;refine⟨_,rfl,_,_,_,_,rfl,.tup ep,L0,_,rfl,gu ?_⟩;refine⟨_,rfl,p,_,rfl,.inr (dH.of ep),_,_,rfl,rfl,_,rfl,js (by show¬(2:Int)<2;decide) ?_⟩;refine⟨_,rfl,p,_,_,.str "alike",rfl,rfl,dH.of ep,eY _ _,rfl,_,rfl,jr rfl ?_⟩;refine⟨_,rfl,p,_,rfl,.inr (dH.of ep),rfl,_,rfl,jr rfl ?_⟩;exact⟨_,rfl,_,rfl,_,rfl,p,_,_,.ref D,rfl,rfl,dH.of ep,fK _ _ _,wA,oA,D,m,hs,hs',M,M',_,rfl,W.wr,U.wr,W.len,W.sq,U.sq,by lia,g.grd,Ol U.len y1 y2 A.co.ev A.as (Do (by lia)),RE (by lia),q⟩
 | @un ls v t a b C np T dd kn ne ep ea eb=>refine⟨_,rfl,_,_,_,_,rfl,.tup ep,L0,_,rfl,gu ?_⟩;refine⟨_,rfl,p,_,rfl,.inr (dH.of ep),_,_,rfl,rfl,_,rfl,js (by show¬(4:Int)<2;decide) ?_⟩;refine⟨_,rfl,p,_,_,.str "unlike",rfl,rfl,dH.of ep,eY _ _,rfl,_,rfl,js (Pw (by decide+kernel)) ?_⟩;refine⟨_,rfl,p,_,_,.str "unlike",rfl,rfl,dH.of ep,eY _ _,rfl,_,rfl,iP rfl ?_⟩;refine⟨_,rfl,p,_,rfl,.inr (dH.of ep),rfl,_,rfl,iP rfl ?_⟩;have at2:pK [V.str "unlike",v,.ref a,.ref b] 2=some (.ref a):=cV (j:=2) rfl;have at3:pK [V.str "unlike",v,.ref a,.ref b] 3=some (.ref b):=cV (j:=3) rfl;refine⟨_,rfl,_,rfl,p,_,_,v,rfl,rfl,dH.of ep,fK _ _ _,_,wA,v,t,n,hs,M,rfl,W,by lia,T,dd,kn,λD1 H1 s1 _ e1=>?_⟩;refine⟨D1,_,rfl,bW.of e1,k9,λc1 hc1=>?_⟩;have s2:Same H1 (L2.upd H1 c1 (.tup [.int (cO hs M n t).sum,.int 1])):=Same.upd hc1;have ec1:L2.upd H1 c1 (.tup [.int (cO hs M n t).sum,.int 1]) c1=some (j8 ((cO hs M n t).sum,1)):=au;generalize L2.upd H1 c1 (.tup [.int (cO hs M n t).sum,.int 1])=H2 at s2 ec1 ⊢;have I:=s1.trans s2;refine⟨_,rfl,_,rfl,p,_,_,v,rfl,rfl,dH.of (I _ _ ep),fK _ _ _,_,oA,v,t,m,hs',M',rfl,U.same I,by lia,T.same I,dd,kn,λD3 H3 s3 _ e3=>?_⟩;refine⟨D3,_,rfl,bW.of e3,k9,λc2 hc2=>?_⟩;have s4:Same H3 (L2.upd H3 c2 (.tup [.int (cO hs' M' m t).sum,.int 1])):=Same.upd hc2;have ec2:L2.upd H3 c2 (.tup [.int (cO hs' M' m t).sum,.int 1]) c2=some (j8 ((cO hs' M' m t).sum,1)):=au;generalize L2.upd H3 c2 (.tup [.int (cO hs' M' m t).sum,.int 1])=H4 at s4 ec2 ⊢;refine⟨k9,λc3 hc3=>?_⟩;obtain⟨H5,qw,s5,ec3⟩:=nw (.lst [.ref c1,.ref c2]) hc3;rw[qw];clear qw;have J:=I.trans (s3.trans (s4.trans s5));refine⟨_,rfl,p,_,_,.ref a,rfl,rfl,dH.of (J _ _ ep),at2,_,rfl,p,_,_,.ref b,rfl,rfl,dH.of (J _ _ ep),at3,k9,λc4 hc4=>?_⟩;obtain⟨H6,qw,s6,ec4⟩:=nw (.lst [.ref a,.ref b]) hc4;rw[qw];clear qw;have l:=J.trans s6;have s36:=s3.trans (s4.trans (s5.trans s6));refine⟨_,rfl,.list [dF _,dF _],.list [dF _,dF _],.lst trivial (bW.of ec4) (.cons (v9 (l _ _ ea)) (.cons (v9 (l _ _ eb)) .nil)),.lst trivial (bW.of (s6 _ _ ec3)) (.cons (v9 (s36 _ _ ec1)) (.cons (v9 ((s5.trans s6) _ _ ec2)) .nil)),⟨(Df _ _).1,(Df _ _).1,(Df _ _).2⟩,_,rfl,?_⟩;rw[RF];refine iV ?_;refine⟨_,rfl,p,_,_,.ref a,rfl,rfl,dH.of (l _ _ ep),at2,_,rfl,p,_,_,.ref b,rfl,rfl,dH.of (l _ _ ep),at3,dF _,dF _,v9 (l _ _ ea),v9 (l _ _ eb),⟨(fh _).1,(fh _).1,bj (fh _).2 (by decide)⟩,?_⟩;rw[kY,bq λz=>ne (congrArg Prod.fst z)];exact q H6 l
theorem Sz (h:bW K H a xs)(k:Kp H H'):bW K H' a xs:=by rcases h with(h|⟨o,h⟩)|h;exact .inl (.inl (k _ _ h nofun));exact .inl (.inr ⟨o,k _ _ h nofun⟩);exact .inr h
inductive Qa (Hb H:Hp)(p:Addr):Bool->Prop
 |al {D:Addr} {ys:LI}:H p=some (.tup [.str "alike",.ref D])->H D=some (.lst ys)->Hb D=none->Qa Hb H p true
 |un {q a b l:Addr} {g:V} {ys:LI}:H p=some (.tup [.str "unlike",.ref q,.ref a,.ref b])->H q=some (.tup [g,.ref l])->H l=some (.lst ys)->Hb l=none->Qa Hb H p false
theorem Qa.kp {c:Bool}(h:Qa Hb H p c)(k:Kp H H'):Qa Hb H' p c:=by cases h with|al a b c=>exact .al (k _ _ a nofun) (k _ _ b nofun) c|un a b c d=>exact .un (k _ _ a nofun) (k _ _ b nofun) (k _ _ c nofun) d
def zN (c:Bool):V:=.str (if c=true then "alike" else "unlike")
theorem Qa.word {c:Bool}(h:Qa Hb H p c):∃xs,H p=some (.tup (zN c::xs)):=by cases h with|al a b c=>exact⟨_,a⟩|un a b c d=>exact⟨_,a⟩
theorem MQ.ppr {n:Nat}(h:MQ n m hs hs' M M' H0 H p)(C:fW (hs++hs') (dN n m M M') ls):∃c:Bool,(c=true↔(ls.take n).Perm (ls.drop n))/\Qa H0 H p c:=by
 cases h with
 |al j pm e g=>obtain⟨rs,g1,g2,g3,_⟩:=g;exact⟨true,⟨λ_=>by rw[C.uniq j];exact pm,λ_=>rfl⟩,.al e g1 g3⟩
 | @un _ v t _ _ j np T _ _ _ e _ _=>obtain⟨wi,bs⟩:=t;obtain⟨q,l,ys,rfl,J,I,hp,hl,hb⟩:=T.at';exact⟨false,⟨λz=>(by cases z),λz=>absurd (by rw[<-C.uniq j];exact z) np⟩,.un e hp hl I⟩
theorem MQ.coarse {n:Nat}(h:MQ n m hs hs' M M' H0 H p):∃ls,fW (hs++hs') (dN n m M M') ls:=by cases h with|al C=>exact⟨_,C⟩|un C=>exact⟨_,C⟩
theorem Jc {l:Addr}(t:FZ Pt H)(e:H l=some (.lst ys))(zs:LI):FZ Pt (L2.upd H l (.lst zs)):=by obtain⟨tt,j⟩:=(uz Pt).at' H t;refine(uz Pt).keep H _ t λb o hb g=>?_;rw[aW];exact g;intro z;rw[z,e]at g;cases g;rcases hb with hb|⟨p,hb⟩;rw[<-hb,z,e]at j;cases j;cases hb
theorem Jd (t:FZ Pt H)(s:Same H H'):FZ Pt H':=(uz Pt).keep H H' t λb o _ e=>s _ _ e
theorem JM {n:Nat}{ms:LH}(p:n<=16)(h1:hs.length=n)(h2:hs'.length=m)(S:iY n M)(t:iY m M')(l:jz n (ent M))(j:jz m (ent M'))(A:Qe n hs hs M M ls)(C:fW (hs++hs') (dN n m M M') ms)(np:¬(ms.take n).Perm (ms.drop n)):oM n hs hs' M M' (oj n (aF ls) (bF n ls))=false:=by
 refine Bool.eq_false_iff.mpr λg=>?_;have e:m=n:=by have g':=g;unfold oM at g';rw[dg,cR]at g';rw[<-h2];exact g'.1
 subst e;exact np (Gu p h1 h2 S t l j A C g)
inductive Er (K:LO)(Pt:Addr)(vs:LI)(H:Hp)(Q:VK):Prop|mk (a:Addr) (ns:LH) (_:vs=[.ref a]) (_:bW K H a (ns.map V.int)) (_:ns.length<=63) (_:FZ Pt H) (_:∀H',Q (.bl true) H'):Er K Pt vs H Q
def Es (K:LO)(Pt:Addr):Sp:=λvs H Q _=>Er K Pt vs H Q
abbrev U6:LM:=["_law_script","_law_web_here","_law_other","_law_copy","_law_paper","_law_way","_law_tree","_law_totals","_law_wrong","_law_word"]
theorem pH:bv U6 ["_law_script"] (aw yA):={}
theorem QR (B:oT mg)(bS:mg "str"=none)(F:Fun K "law" "law" yA f fd)(GT:Cl P w K mg base "_law_two" Nj ["_law_script","_law_most"] 3 (Pm K))(GC:Cl P w K mg base "_law_cell_at" pd ["_law_script","_law_k"] 1 (yp K))(GH:Cl P w K mg base "held_by_trees" EW ["web","other"] 44 (JF Pt (FZ Pt)))(GR:Cl P w K mg base "_law_right" yx Dw 14 Ej)(GL:Cl P w K mg base "look_trees" ES MJ 14 Jx)(GW:Cl P w K mg base "_law_row" CF BW 13 (Cq 12)):
  cW P w K mg base gK 45 f fd ["_law_script"] (Es K Pt):=by
 refine F.o pH λcdv A outer s H vs Q E hr h=>?_;obtain⟨a,ns,rfl,hS,hlen,tb,k⟩:=h;have r1:=hr.mono (j:=1) (by decide);have r3:=hr.mono (j:=3) (by decide);have r13:=hr.mono (j:=13) (by decide);have r14:=hr.mono (j:=14) (by decide);refine⟨_,am (jM (bH GT r3 rfl (ac (pv 0) (ac ar aj))) (oG rfl (gc (l9 1 pH.nd) (gc (l9 2 pH.nd) lN))))
  (am (fk 3 pH.nd (kJ (xS hr.gd hr.units) (by rfl) bS xT (ac (dC (ac (pv 1) (ac (pv 2) aj))) aj)))
  (am (fk 4 pH.nd (bH GH hr rfl (ac (pv 1) (ac (pv 2) aj))))
  (iX (dX (PW.pt (kT (l5 (jK (bH GR r14 rfl (ac (pv 1) (ac (pv 2) (ac (pv 4) aj)))))) (jJ (bV so (bH GL r14 rfl (ac (pv 1) (ac (pv 2) (ac (pv 4) aj)))) jf (bO _))))) (aC (bw jf)) cE)
  (am (fk 5 pH.nd (bR gR (bR nB (bH GC r1 rfl (ac (pv 0) (ac ar aj))) ar) ar))
  (iX (dX (PW.pt (kT (PW.pt (pW (bV (QJ hr.units) (pv 5) (dC (ac ar (ac ar aj))) rfl) (pe (bV jF (bf bL (pv 4) ar) hJ (bO _)))))
    (jJ (PW.pt (pW (bV jF (bE bQ (by rfl) B.len bu (ac (bf bL (pv 1) ar) aj)) (bE bQ (by rfl) B.len bu (ac (bf bL (pv 2) ar) aj)) (bO _)) (pe (bV jF (bf bL (pv 4) ar) hJ (bO _)))))))) (aC (bw jf)) cE)
  (iX (dX (bV gh (bf bL (pv 4) ar) hJ (bO _))
   (aC (eQ PassesOwn.never rfl (cK (dC (ac (dm (ac jO (ac (dC aj) aj))) (ac (dm (ac jO (ac (dC (ac (dm (ac jO (ac (dC aj) aj))) aj)) aj)))
     (ac (dm (ac ar (ac (dC (ac (dm (ac ar (ac (dC aj) aj))) (ac (dm (ac jO (ac (dC aj) aj))) aj))) aj))) aj))))) (l9 6 pH.nd)
    (am (fk 7 pH.nd (dC (ac (dm (ac (bE (jv rfl) (by rfl) B.sum jx (ac (bH GW r13 rfl (ac (pv 1) (ac (pv 6) aj))) aj)) (ac ar aj)))
     (ac (dm (ac (bE (jv rfl) (by rfl) B.sum jx (ac (bH GW r13 rfl (ac (pv 2) (ac (pv 6) aj))) aj)) (ac ar aj))) aj))))
    (am (fk 8 pH.nd (dm (ac hJ (ac (pv 6) (ac (bf cD (pv 7) ar) (ac (bf cD (pv 7) ar) aj))))))
    (aC (dX (PW.pt (kT (bV (p9 hr.units) (bf cD (pv 7) ar) (bf cD (pv 7) ar) (bO _)) (jJ (bV so (bH GL r14 rfl (ac (pv 1) (ac (pv 2) (ac (pv 8) aj)))) jf (bO _))))) (aC (bw jf)) cE))))))
   (aC (dX (bV so (bH GL r14 rfl (ac (pv 1) (ac (pv 2) (ac (bH GH hr rfl (ac (pv 1) (ac (pv 1) aj))) aj)))) jf (bO _)) (aC (bw jf)) cE)))
  (am (fk 9 pH.nd (bf bL (pv 4) ar))
  (am (dX (bV jF (bf bL (bH GH hr rfl (ac (pv 2) (ac (pv 1) aj))) ar) (pv 9) (bO _)) (aC (bw jf)) cE)
  (iX (dX (bV gh (pv 9) hJ (bO _)) (aC (g0 (vg bX PySem.F.slot_list_clear PySem.F.type_list_clear AY (bf bL (pv 4) ar))))
   (aC (g0 (vg bX PySem.F.slot_list_clear PySem.F.type_list_clear AY (bf bL (bf bL (pv 4) ar) ar)))))
  (aC (bw (nz (bH GR r14 rfl (ac (pv 1) (ac (pv 2) (ac (bH GH hr rfl (ac (pv 1) (ac (pv 2) aj))) aj)))) (ny (fH gh (kJ (xS hr.gd hr.units) (by rfl) bS xT (ac (dC (ac (pv 1) (ac (pv 2) aj))) aj)) (pv 3) (bO _))))))))))))))),?_⟩
 show let ω1:TS:=_;let ω2:TS:=_;let ω3:TS:=_;let ω4:TS:=rG (gL _ ω2 ω3) ω1;let ω5:TS:=_;let ω6:TS:=bN (gL _ ω5 _) ω4;let ω7:TS:=bN _ ω6;let ω8:TS:=_;let ω9:TS:=(gL _ ω8 _);let ω10:TS:=bN _ ω9;let ω11:TS:=bN _ ω10;let ω12:TS:=(i0 _ _ ω11);let ω13:TS:=_;let ω14:TS:=(gL _ ω13 _);let ω15:TS:=rG (gL _ ω12 ω14) ω7;let ω16:TS:=_;let ω17:TS:=rG (gL _ ω16 _) ω15;let ω18:TS:=bN _ ω17;let ω19:TS:=_;let ω20:TS:=rG (gL _ ω19 _) ω18;let ω21:TS:=bN _ ω20;let ω22:TS:=bN _ ω21;bN _ ω22 _ _ _;intro ω1 ω2 ω3 ω4 ω5 ω6 ω7 ω8 ω9 ω10 ω11 ω12 ω13 ω14 ω15 ω16 ω17 ω18 ω19 ω20 ω21 ω22;refine⟨_,rfl,a,ns,6,rfl,hS,by decide,λp w1 w2 n m hs hs' M M' H1 s1 ep I U hn hm hal y1 y2=>?_⟩;refine⟨p,_,rfl,dH.of ep,rfl,_,_,rfl,_,_,rfl,rfl,?_⟩;have tb1:FZ Pt H1:=(uz Pt).keep H H1 tb λb o _ e=>s1 _ _ e;have sh:=IW I U (by lia) (by lia);have daT:∀{Hz:Hp} {Lz:Addr},Kp H1 Hz->Hz Lz=some (.lst [.ref w1,.ref w2])->L2.DA K any Hz (.ref Lz) (qj hs M hs' M'):=λsz e=>.lst trivial (bW.of e) (.cons (I.kp sz).wr.da (.cons (U.kp sz).wr.da .nil));refine⟨_,rfl,_,rfl,k9,λLz hLz=>?_⟩;have s2:Same H1 (L2.upd H1 Lz (.lst [.ref w1,.ref w2])):=Same.upd hLz;refine⟨Lz,_,rfl,daT (.of s2) au,sh,?_⟩;generalize L2.upd H1 Lz (.lst [.ref w1,.ref w2])=H2 at s2 ⊢;generalize htx:V.str (qj hs M hs' M').shown=txt;have tb2:FZ Pt H2:=(uz Pt).keep H1 H2 tb1 λb o _ e=>s2 _ _ e;have S2:bW K H2 a (ns.map V.int):=Same.sq (s1.trans s2) hS;refine⟨_,rfl,_,rfl,w1,w2,n,m,hs,hs',M,M',rfl,I.same s2,U.same s2,hn,hm,tb2,λpA H3 k3 tb3 pap=>?_⟩;have k13:Kp H1 H3:=(Kp.of s2).trans k3;obtain⟨ls,C⟩:=pap.coarse;obtain⟨c,hc,pp⟩:=pap.ppr C;refine⟨λσ H4=>σ=[some (.ref a),some (.ref w1),some (.ref w2),some txt,some (.ref pA),none,none,none,none,none]/\Same H3 H4,?_,?_⟩;refine⟨_,rfl,_,rfl,_,rfl,w1,w2,pA,n,m,hs,hs',M,M',H2,rfl,I.kp k13,U.kp k13,hn,hm,y1,y2,pap,λH4 s4=>⟨_,rfl,gu ?_⟩⟩;have k14:=k13.trans (.of s4);refine⟨_,rfl,_,rfl,_,rfl,w1,w2,pA,n,m,hs,hs',M,M',rfl,I.kp k14,U.kp k14,by lia,by lia,?_⟩;have pap4:=pap.same s4;cases pap4 with
 | @al ls D C pm ep g=>obtain rfl:=yG (I.ln U C) pm;have A:=I.alk U C pm;rw[A.take]at g;have er:=vH (a:=aF ls) (b:=bF m ls) (n:=m) (by lia);refine .inl ⟨D,_,ep,g.grd,by rw[er.1];lia,λr hr=>⟨by rw[(er.2 r hr).1];lia,λf hf=>((er.2 r hr).2 f hf).2⟩,λb H5 e5 J=>⟨_,_,rfl,rfl,_,rfl,?_⟩⟩;rw[e5,A.goes (by lia) I.len U.len I.sq U.sq y1 y2];exact iP rfl ⟨rfl,s4.trans J⟩
 | @un ls v t a b C np T dd kn ne ep ea eb=>exact .inr ⟨v,a,b,_,_,ep,ea,eb,.inr ⟨λz=>ne (congrArg Prod.fst z),_,t,T,dd,kn,rfl,rfl,λH5 J=>⟨_,_,rfl,rfl,_,rfl,iP rfl ⟨rfl,s4.trans J⟩⟩⟩⟩
 rintro σ4 H4 ⟨rfl,s4⟩;have k14:=k13.trans (.of s4);have tb4:FZ Pt H4:=(uz Pt).keep H3 H4 tb3 λb o _ e=>s4 _ _ e;have pp4:=pp.kp (.of s4);obtain⟨px,ew⟩:=pp4.word;refine⟨_,rfl,a,ns,0,rfl,Sz S2 (k3.trans (.of s4)),by decide,λc0 hc0=>?_⟩;refine⟨_,_,rfl,rfl,⟨by decide,by decide⟩,_,_,rfl,rfl,(by show(0:Int)<5;decide),?_⟩;rw[<-hc0]at hal;have halP:(c0/14%5=1\/c0/14%5=4)->c=true:=λz=>hc.mpr (Du I.len U.len I.sq U.sq (hal z) C);have hln:c=true->m=n:=λz=>yG (I.ln U C) (hc.mp z);dsimp only;generalize c0/14%5=way at halP ⊢;clear hal hc0;refine⟨λσ H5=>σ=[some (.ref a),some (.ref w1),some (.ref w2),some txt,some (.ref pA),some (.int way),none,none,none,none]/\Same H4 H5,?_,?_⟩;obtain⟨hA,rA,rs,u1,u2,_⟩:=(I.kp k14).wr.ex;obtain⟨hA',rA',rs',v1,v2,_⟩:=(U.kp k14).wr.ex;have l1:=I.len;have l2:=U.len;refine⟨_,rfl,k9,λx hx=>?_⟩;obtain⟨H5,q5,J,e5⟩:=nw (.lst [.int 1,.int 4]) hx;rw[q5];refine⟨x,_,[.int 1,.int 4],.int way,rfl,bW.of e5,.cons (.int _) (.cons (.int _) .nil),.int _,⟨rfl,rfl,bp _⟩,_,rfl,?_⟩;have hb:([.int 1,.int 4]:LX).any (λe=>PyData.eqv e (.int way))=true->c=true:=λz=>halP (by simp only[m8,List.any_nil,PyData.eqv,Bool.or_false,ur,gH,beq_iff_eq]at z;lia);generalize([.int 1,.int 4]:LX).any (λe=>PyData.eqv e (.int way))=bb at hb;cases c with
 |true=>have em:=hln rfl;cases bb with|true=>refine iV ⟨_,rfl,pA,_,_,.str "alike",rfl,rfl,dH.of (J _ _ ew),eY _ _,rfl,_,rfl,iP rfl ?_⟩;exact⟨_,rfl,w1,_,_,_,rfl,rfl,dH.of (J _ _ u1),eY _ _,hA,_,rfl,.inl (bW.of (J _ _ u2)),_,rfl,w2,_,_,_,rfl,rfl,dH.of (J _ _ v1),eY _ _,hA',_,rfl,.inl (bW.of (J _ _ v2)),rfl,_,rfl,iP (by rw[aa,aa,l1,l2,em]) (gu ⟨rfl,J⟩)⟩|false=>refine gu ?_;exact⟨_,rfl,w1,_,_,_,rfl,rfl,dH.of (J _ _ u1),eY _ _,hA,_,rfl,.inl (bW.of (J _ _ u2)),_,rfl,w2,_,_,_,rfl,rfl,dH.of (J _ _ v1),eY _ _,hA',_,rfl,.inl (bW.of (J _ _ v2)),rfl,_,rfl,iP (by rw[aa,aa,l1,l2,em]) (gu ⟨rfl,J⟩)⟩
 |false=>cases bb with|true=>cases hb rfl|false=>refine gu ⟨_,rfl,w1,_,_,_,rfl,rfl,dH.of (J _ _ u1),eY _ _,hA,_,rfl,.inl (bW.of (J _ _ u2)),_,rfl,w2,_,_,_,rfl,rfl,dH.of (J _ _ v1),eY _ _,hA',_,rfl,.inl (bW.of (J _ _ v2)),rfl,_,rfl,?_⟩;by_cases z:V.int (((hs.map V.int).length:Nat):Int)=V.int (((hs'.map V.int).length:Nat):Int);exact iP z (gu ⟨rfl,J⟩);exact tF z ⟨_,rfl,pA,_,_,.str "unlike",rfl,rfl,dH.of (J _ _ ew),eY _ _,rfl,_,rfl,iP rfl ⟨rfl,J⟩⟩
 rintro σ5 H5 ⟨rfl,J⟩;have k15:=k14.trans (.of J);have tb5:=Jd tb4 J;have ew5:=J _ _ ew;refine⟨λσ H7=>∃o6 o7 o8,σ=[some (.ref a),some (.ref w1),some (.ref w2),some txt,some (.ref pA),some (.int way),o6,o7,o8,none]/\Kp H5 H7/\FZ Pt H7,?_,?_⟩;refine⟨_,rfl,pA,_,_,zN c,rfl,rfl,dH.of ew5,eY _ _,rfl,_,rfl,?_⟩;cases c with
 |true=>
  refine jr rfl ?_;have pm:=hc.mp rfl;obtain rfl:=hln rfl;have A:=I.alk U C pm;refine⟨bp _,λx1 h1=>?_⟩;obtain⟨G1,q1,t1,e1⟩:=nw (.lst []) h1;rw[q1];refine⟨k9,λx2 h2=>?_⟩;obtain⟨G2,q2,t2,e2⟩:=nw (.tup [.non,.ref x1]) h2;rw[q2];refine⟨bp _,λx3 h3=>?_⟩;obtain⟨G3,q3,t3,e3⟩:=nw (.lst []) h3;rw[q3];refine⟨k9,λx4 h4=>?_⟩;obtain⟨G4,q4,t4,e4⟩:=nw (.tup [.non,.ref x3]) h4;rw[q4];refine⟨F4,λx5 h5=>?_⟩;obtain⟨G5,q5,t5,e5⟩:=nw (.lst [.ref x4]) h5;rw[q5];refine⟨k9,λx6 h6=>?_⟩;obtain⟨G6,q6,t6,e6⟩:=nw (.tup [.non,.ref x5]) h6;rw[q6];refine⟨bp _,λx7 h7=>?_⟩;obtain⟨G7,q7,t7,e7⟩:=nw (.lst []) h7;rw[q7];refine⟨k9,λx8 h8=>?_⟩;obtain⟨G8,q8,t8,e8⟩:=nw (.tup [.int 1,.ref x7]) h8;rw[q8];refine⟨bp _,λx9 h9=>?_⟩;obtain⟨G9,q9,t9,e9⟩:=nw (.lst []) h9;rw[q9];refine⟨k9,λxa ha=>?_⟩;obtain⟨Ga,qa,ta,ea⟩:=nw (.tup [.non,.ref x9]) ha;rw[qa];refine⟨k9,λxb hb=>?_⟩;obtain⟨Gb,qb,tb,eb⟩:=nw (.lst [.ref x8,.ref xa]) hb;rw[qb];refine⟨k9,λxc hc=>?_⟩;obtain⟨Gc,qc,tc,ec⟩:=nw (.tup [.int 0,.ref xb]) hc;rw[qc];refine⟨VA,λxd hd=>?_⟩;obtain⟨Gd,qd,td,ed⟩:=nw (.lst [.ref x2,.ref x6,.ref xc]) hd;rw[qd];have bd:=(tb.trans tc).trans td;have ad:=ta.trans bd;have d9:=t9.trans ad;have d8:=t8.trans d9;have d7:=t7.trans d8;have d6:=t6.trans d7;have d5:=t5.trans d6;have d4:=t4.trans d5;have d3:=t3.trans d4;have d2:=t2.trans d3;have d1:=t1.trans d2;have T0:∀{p l:Addr} (wi:Option Int),Gd p=some (.tup [jX wi,.ref l])->Gd l=some (.lst [])->jy (λ_=>True) Gd (.ref p) (.nd wi []):=λwi a b=>.nd trivial trivial a b .nil;have trs:∀(i:Nat) (x:V),[V.ref x2,.ref x6,.ref xc][i]?=some x->∃t,jy (λ_=>True) Gd x t/\t.deep<=12/\t.knots<=4096:=by
   intro i x e;match i,e with
   |0,e=>cases e;exact⟨_,T0 none (d3 _ _ e2) (d2 _ _ e1),by decide,by decide⟩
   |1,e=>cases e;exact⟨.nd none _,.nd trivial trivial (d7 _ _ e6) (d6 _ _ e5) (.cons (T0 none (d5 _ _ e4) (d4 _ _ e3)) .nil),by decide,by decide⟩
   |2,e=>cases e;exact⟨.nd (some 0) _,.nd trivial trivial (td _ _ ec) ((tc.trans td) _ _ eb) (.cons (T0 (some 1) (d9 _ _ e8) (d8 _ _ e7)) (.cons (T0 none (bd _ _ ea) (ad _ _ e9)) .nil)),by decide,by decide⟩
  refine⟨xd,rfl,⟨_,bW.of ed⟩,gi (xs:=[.ref x2,.ref x6,.ref xc]) (λi σ H'=>∃o6 o7 o8,σ=[some (.ref a),some (.ref w1),some (.ref w2),some txt,some (.ref pA),some (.int way),o6,o7,o8,none]/\Same Gd H') ⟨none,none,none,rfl,Same.refl _⟩ (λi σ H' _ ⟨_,_,_,_,s'⟩=>bW.of (s' _ _ ed)) ?_ ?_⟩;rintro i x σ H6 hx ⟨o6,o7,o8,rfl,s6⟩;obtain⟨t,T,dd,kn⟩:=trs i x hx;have k16:=k15.trans (.of (d1.trans s6));have es:=I9 A.co.ev A.as t;refine⟨_,rfl,_,rfl,_,w1,x,t,_,hs,M,rfl,I.kp k16,by lia,T.same s6,dd,kn,λD1 H7 s7 _ f1=>?_⟩;refine⟨D1,_,rfl,bW.of f1,k9,λc1 g1=>?_⟩;obtain⟨H8,q8,s8,f2⟩:=nw (.tup [.int (cO hs M _ t).sum,.int 1]) g1;rw[q8];have s68:=s7.trans s8;have k18:=k16.trans (.of s68);refine⟨_,rfl,_,rfl,_,w2,x,t,_,hs',M',rfl,U.kp k18,by lia,T.same (s6.trans s68),dd,kn,λD2 H9 s9 _ f3=>?_⟩;refine⟨D2,_,rfl,bW.of f3,k9,λc2 g2=>?_⟩;obtain⟨Ha,q9,sa,f4⟩:=nw (.tup [.int (cO hs' M' _ t).sum,.int 1]) g2;rw[q9];refine⟨k9,λc3 g3=>?_⟩;obtain⟨Hb,qb',sb,f5⟩:=nw (.lst [.ref c1,.ref c2]) g3;rw[qb'];refine⟨_,rfl,_,rfl,c3,_,_,.ref c1,rfl,rfl,bW.of f5,eY _ _,_,rfl,c3,_,_,.ref c2,rfl,rfl,bW.of f5,fK _ _ _,Vz,λc4 g4=>?_⟩;obtain⟨Hc,qc',sc,f6⟩:=nw (.tup [.str "unlike",x,.ref c1,.ref c2]) g4;rw[qc'];have f5':=sc _ _ f5;have f4':Hc c2=some (j8 ((cO hs' M' _ t).sum,1)):=(sb.trans sc) _ _ f4;have f2':Hc c1=some (j8 ((cO hs M _ t).sum,1)):=(s9.trans (sa.trans (sb.trans sc))) _ _ f2;have s6c:=s68.trans (s9.trans (sa.trans (sb.trans sc)));have k1c:=k16.trans (.of s6c);refine⟨_,rfl,c3,_,_,.ref c1,rfl,rfl,bW.of f5',eY _ _,_,rfl,c3,_,_,.ref c2,rfl,rfl,bW.of f5',fK _ _ _,dF _,dF _,v9 f2',v9 f4',⟨(fh _).1,(fh _).1,bj (fh _).2 (by decide)⟩,_,rfl,?_⟩;rw[kY,bi (by rw[es])];refine gu ?_;exact⟨_,rfl,_,rfl,_,rfl,w1,w2,c4,_,_,hs,hs',M,M',rfl,I.kp k1c,U.kp k1c,by lia,by lia,.inr ⟨x,c1,c2,_,_,f6,f2',f4',.inl ⟨by rw[es],⟨_,_,rfl,rfl,_,rfl,iP rfl ⟨_,_,_,rfl,s6.trans s6c⟩⟩⟩⟩⟩;rintro σ H6 ⟨o6,o7,o8,rfl,s6⟩;have s56:=d1.trans s6;exact⟨_,_,_,rfl,.of s56,Jd tb5 s56⟩
 |false=>
  refine js (Pw (by decide+kernel)) ?_;have np:¬(ls.take n).Perm (ls.drop n):=λz=>by cases hc.mpr z
  refine⟨_,rfl,_,rfl,_,rfl,_,rfl,w1,w1,n,n,hs,hs,M,M,rfl,I.kp k15,I.kp k15,hn,hn,tb5,λp6 H6 k6 tb6 pap6=>?_⟩;have k16:=k15.trans k6;cases pap6 with|@al l6 D C6 pm6 e6 g6=>have A:=I.alk I C6 pm6;rw[A.take]at g6;have er:=vH (a:=aF l6) (b:=bF n l6) (n:=n) (by lia);refine⟨w1,w2,p6,n,m,hs,hs',M,M',rfl,I.kp k16,U.kp k16,by lia,by lia,.inl ⟨D,_,e6,g6.grd,by rw[er.1];lia,λr hr=>⟨by rw[(er.2 r hr).1];lia,λf hf=>((er.2 r hr).2 f hf).2⟩,λb H7 e7 s7=>⟨_,_,rfl,rfl,_,rfl,?_⟩⟩⟩;rw[e7,JM (by lia) I.len U.len I.sq U.sq y1 y2 A C np];exact iP rfl ⟨_,_,_,rfl,k6.trans (.of s7),Jd tb6 s7⟩|un C6 np6=>exact absurd (Gs I.len I.sq C6) np6
 rintro σ7 H7 ⟨o6,o7,o8,rfl,k7,tb7⟩;have k17:=k15.trans k7;have pp7:=(pp4.kp (.of J)).kp k7;have ew7:=k7 _ _ ew5 nofun;refine⟨_,rfl,pA,_,_,zN c,rfl,rfl,dH.of ew7,eY _ _,?_⟩;refine⟨_,rfl,_,rfl,w2,w1,m,n,hs',hs,M',M,rfl,U.kp k17,I.kp k17,hm,hn,tb7,λp8 H8 k8 tb8 pap8=>?_⟩;obtain⟨l8,C8⟩:=pap8.coarse;obtain⟨c8,hc8,pp8⟩:=pap8.ppr C8;have ec:c8=c:=je.mpr (hc8.trans (Iff.trans ⟨DZ U.len I.len U.sq I.sq C8 C,DZ I.len U.len I.sq U.sq C C8⟩ hc.symm));subst ec;obtain⟨x8,ew8⟩:=pp8.word;refine⟨p8,_,_,zN c8,rfl,rfl,dH.of ew8,eY _ _,_,rfl,rfl,_,rfl,iP rfl ?_⟩;have k18:=k17.trans k8;have pp9:=pp7.kp k8;refine⟨λσ Hx=>σ=[some (.ref a),some (.ref w1),some (.ref w2),some txt,some (.ref pA),some (.int way),o6,o7,o8,some (zN c8)]/\Kp H1 Hx/\FZ Pt Hx,?_,?_⟩;refine⟨_,rfl,rfl,_,rfl,?_⟩;cases pp9 with|@al D ys e1 e2 e3=>refine jr rfl ?_;exact⟨_,rfl,pA,_,_,.ref D,rfl,rfl,dH.of e1,fK _ _ _,.inl ⟨rfl,_,bW.of e2⟩,D,ys,rfl,rfl,e2,⟨rfl,k18.upd (s2.free e3),Jc tb8 e2 _⟩⟩|@un q' a' b' l wv ys e1 e2 e3 e4=>refine js (Pw (by decide+kernel)) ?_;exact⟨_,rfl,pA,_,_,.ref q',rfl,rfl,dH.of e1,fK _ _ _,q',_,_,.ref l,rfl,rfl,dH.of e2,fK _ _ _,.inl ⟨rfl,_,bW.of e3⟩,l,ys,rfl,rfl,e3,⟨rfl,k18.upd (s2.free e4),Jc tb8 e3 _⟩⟩
 rintro σ9 H9 ⟨rfl,k19,tb9⟩;refine⟨_,rfl,_,rfl,_,rfl,_,rfl,w1,w2,n,m,hs,hs',M,M',rfl,I.kp k19,U.kp k19,hn,hm,tb9,λp10 H10 k10 tb10 pap10=>?_⟩;have k1x:=k19.trans k10;refine⟨w1,w2,p10,n,m,hs,hs',M,M',H9,rfl,I.kp k1x,U.kp k1x,hn,hm,y1,y2,pap10,λH11 s11=>⟨_,rfl,iV ?_⟩⟩;have k11:=k1x.trans (.of s11);refine⟨_,rfl,_,rfl,k9,λLy hLy=>?_⟩;refine⟨Ly,_,rfl,daT (k11.trans (.of (Same.upd hLy))) au,sh,_,rfl,by rw[<-htx];rfl,?_⟩;rw[htx,bi rfl];exact k _
end
section
theorem RQ {w:World}{K:LO}{mb:LQ}{x:Str}{sp:Sp}{vs:LJ}(KX:K.In s₁.heap)(p:s₁.heap.Ns mainGlobals mg)(hb:s₁.heap.Ns builtinsNs mb)(hbb:∀x:Str,x≠"__name__"->mb x=bootBuiltins x)(hlim:s₁.heap.NoLimit)(l:s₁.heap.NoSeer)(hbm:Qd mg s₁.heap)(hg:s₁.gens=#[])(C:s₁.heap.get? a=some {cls:=.type "list",data:=.seq vs.toArray})(hi:IntsAre vs ns)(hl:ns.length<=sizeLine)(hr:ji k callerA)(I:s₁.heap.get? Pt=some (PySem.W.tabObj #[]))(hcc:PySem.W.codeHdIn K cc Pt=true)(hPK:K.lookup Pt=none)(F:∀base:Heap,K.In base->base.Ns mainGlobals mg->base.NoSeer->Qd mg base->cW P w K mg base gK k fa fd [x] sp)(hbind:∀(s:Shared) (u:Value),BindsTo s fd ⟨[u],[]⟩ [(x,u)])(hsp:∀H:Hp,bW K H a (ns.map V.int)->H Pt=some (.tbl #[])->sp [.ref a] H (λv _=>v=.bl true) λ_ _ _=>False):
  codeAny (model P w) callerA (.call (.ref fa) ⟨[.ref a],[]⟩) (λr s'=>r=.ok (.ret (.bool true))/\OldK s₁.heap s'.heap/\s'.os=s₁.os/\AllBare s'.gens) s₁:=by
 have rv:=oU hi;have lenV:=hi.length;have aP:a≠Pt:=λz=>by rw[z,I]at C;cases C
 have core:∀H:Hp,H Pt=some (.tbl #[])->(∀b u,H b=some u->b=Pt\/(b=a/\∃o xs,u=.frz o (.lst xs)))->bW K H a (ns.map V.int)->pL P w H s₁.heap->(H a≠none->K.lookup a=none)->
   codeAny (model P w) callerA (.call (.ref fa) ⟨[.ref a],[]⟩) (λr s'=>r=.ok (.ret (.bool true))/\OldK s₁.heap s'.heap/\s'.os=s₁.os/\AllBare s'.gens) s₁:=by
  intro H eP hO hS hok hK;have dt:∀{b:Addr} {o:Obj},s₁.heap.get? b=some o->(∀xs n,o.data≠.seq xs n)->(∀xs,o.data≠.fields xs)->H b=none:=λ{b o} e n1 n2=>by cases q:H b with|none=>rfl|some u=>rcases hO b u q with z|⟨z,_⟩;rw[z,I]at e;cases e;exact(n2 _ rfl).elim;rw[z,C]at e;cases e;exact(n1 _ _ rfl).elim
  have g:∀{b:Addr} {m:LQ},s₁.heap.Ns b m->(wj s₁.heap H).Ns b m:=λ{b m} ⟨o,es,ep,e,d,r⟩=>⟨o,es,ep,vC e (dt e (λ_ _ z=>by rw[d]at z;cases z) λ_ z=>by rw[d]at z;cases z),d,r⟩;have T:K.In (wj s₁.heap H):=λb o e=>vC (KX b o e) (by
   cases q:H b with
   |none=>rfl
   |some u=>
    rcases hO b u q with z|⟨z,_⟩;rw[z]at e;have e':K.lookup Pt=some o:=e;rw[hPK]at e';cases e';rw[z]at e;have e':K.lookup a=some o:=e;rw[hK (by rw[<-z,q];exact nofun)]at e';cases e')
  have U:Qd mg (wj s₁.heap H):=let⟨bm,ob,m1,m2,m3,m4,m5,m6⟩:=hbm;⟨bm,ob,m1,m2,vC m3 (dt m3 (λ_ _ z=>by rw[m6]at z;cases z) λ_ z=>by rw[m6]at z;cases z),m4,m5,m6⟩;have hSr:(wj s₁.heap H).NoSeer:=⟨let⟨j,a,b⟩:=l.statics;⟨j,g a,b⟩,let⟨j,a,b⟩:=l.mods;⟨j,g a,b⟩,let⟨j,a,b⟩:=l.imp;⟨j,g a,b⟩,let⟨bm,ob,m1,m2,m3,m4,m5,m6⟩:=U;⟨mg,bm,ob,g p,m1,m3,m4,m5⟩⟩;have hM:Mod K mg (wj s₁.heap H):=⟨T,g p,⟨mb,g hb,hbb⟩,let⟨j,h1,h2⟩:=hlim;⟨j,g h1,h2⟩⟩;have e0:DN P w K mg (wj s₁.heap H) callerA [] s₁ H:=⟨rfl,hM,λb o e=>N8 e,DH (HY _ _),trivial,λb hb=>absurd (show b∈([]:LK)from hb) (by simp),hok,.of_eq hg⟩;refine codeAny_mono ((F _ T (g p) hSr U).run callerA [] s₁ H ⟨[.ref a],[]⟩ [.ref a] [.ref a] _ _ hr e0 (hbind s₁ (.ref a)) (.cons rfl .nil) (hsp H hS eP)) λr s' h=>?_;cases r with
  |error e=>exact False.elim h
  |ok fl=>
   cases fl with
   |next=>exact False.elim h
   |brk=>exact False.elim h
   |cont=>exact False.elim h
   |ret u=>
    obtain⟨v,H',os,bare,un,hok',r',q⟩:=h;have q':v=.bl true:=q;subst q';obtain rfl:u=Value.bool true:=r';have all:∀b o,s₁.heap.get? b=some o->asItWas s₁.heap s'.heap b o:=λb o e=>by cases q:H b with|none=>exact .inl (un.keep b o e q (by intro z;exact absurd (show b∈([]:LK)from z) (by simp)) (by simp))|some u=>rcases hO b u q with rfl|⟨rfl,ob,xs,rfl⟩;obtain⟨more,z⟩:=un.tbls b _ eP;have z2:s'.heap.get? b=some {cls:=.none,data:=.fields (#[]++more)}:=hok' b _ z;rw[I]at e;cases e;exact .inr (.inl ⟨((PySem.W.codeHd_of_K KX hcc).tab I).isCodeTable,rfl,#[],more,rfl,z2⟩);have z2:=un.frzs b ob _ q;obtain⟨e1,_⟩:=hok b _ q;obtain⟨e2,_⟩:=hok' b _ z2;rw[e]at e1;cases e1;exact .inl e2
    exact⟨rfl,⟨all,λb o e=>un.there b o e (by simp)⟩,os,bare⟩
 cases hk:K.lookup a with
 |some o=>have e:=KX a o hk;rw[C]at e;cases e;refine core (λb=>if b=Pt then some (.tbl #[])else none) (if_pos rfl) (λb u z=>?_) (.inr ⟨_,vs.toArray,_,hk,rfl,rfl,rfl,by rw[aO,lenV];exact hl,by simpa using rv⟩) (λb u z=>?_) λz=>absurd (if_neg aP) z;by_cases hb:b=Pt;exact .inl hb;have J:=(if_neg hb).symm.trans z;cases J;by_cases hb:b=Pt;have J:=(if_pos hb).symm.trans z;cases J;subst hb;exact I;have J:=(if_neg hb).symm.trans z;cases J
 |none=>
  have rd:∀b u,(if b=Pt then some (.tbl #[])else if b=a then some (.frz {cls:=.type "list",data:=.seq vs.toArray} (.lst (ns.map V.int)))else none:Option HO)=some u->(b=Pt/\u=.tbl #[])\/(b=a/\u=.frz {cls:=.type "list",data:=.seq vs.toArray} (.lst (ns.map V.int))):=λb u z=>by by_cases hb:b=Pt;rw[if_pos hb]at z;cases z;exact .inl ⟨hb,rfl⟩;rw[if_neg hb]at z;by_cases t:b=a;rw[if_pos t]at z;cases z;exact .inr ⟨t,rfl⟩;rw[if_neg t]at z;cases z
  refine core (λb=>if b=Pt then some (.tbl #[])else if b=a then some (.frz {cls:=.type "list",data:=.seq vs.toArray} (.lst (ns.map V.int)))else none) (if_pos rfl) (λb u z=>?_) (.inl (.inr ⟨{cls:=.type "list",data:=.seq vs.toArray},(if_neg aP).trans (if_pos rfl)⟩)) (λb u z=>?_) λ_=>hk;rcases rd b u z with⟨h1,_⟩|⟨h1,h2⟩;exact .inl h1;exact .inr ⟨h1,_,_,h2⟩;rcases rd b u z with⟨rfl,rfl⟩|⟨rfl,rfl⟩;exact I;exact⟨C,by rw[aa];exact hl,vs,_,rv,C⟩
theorem Qf {n:Nat}{q:Program}{d:DefRec}{K:Params->LO}{sp:World->Sp}{x:Str}(hn:l.most=some n)(p:n<=sizeLine)(C:d.params.defaults=[])(hr:ji k callerA)(hq:importsNone q=true)(hY:∀(w:World) (h:Heap),YP w h->(K w.params).In h)(hT:∀(w:World) (h:Heap),YP w h->∀P∈[Pt],h.get? P=some (PySem.W.tabObj #[]))(F:∀(w:World) (mg:LQ) (fa:Addr) (h:Heap),(K w.params).In h->h.Ns mainGlobals mg->mg d.name=some (.ref fa)->
   ∃(fd:FuncData) (cc:Addr),PySem.W.codeHdIn (K w.params) cc Pt=true/\(K w.params).lookup Pt=none/\(∀(s:Shared) (u:Value),BindsTo s fd ⟨[u],[]⟩ [(x,u)])/\
    ∀base:Heap,(K w.params).In base->base.Ns mainGlobals mg->base.NoSeer->Qd mg base->cW l.prog w (K w.params) mg base gK k fa fd [x] (sp w))(j:∀(w:World) (H:Hp) (a:Addr) (ns:LH),ns.length<=n->bW (K w.params) H a (ns.map V.int)->H Pt=some (.tbl #[])->sp w [.ref a] H (λv _=>v=.bl true) λ_ _ _=>False):
  PySem.W.WalkO q loose XP YP l.row.toRowW d [] (λf vs=>PySem.call f vs):=by refine Att.attach_call hn C λw s₀ s₁ mg mb fa o pm cd doc a vs ns G Y ho hd hcd t hobj hints hlen hg=>?_;have U:=hY w _ Y;obtain⟨fd,cc,I,J,hb,hF⟩:=F w mg fa _ U G.T.g t;exact RQ U G.T.g G.T.b G.T.builtins G.T.nolimit (G.T.seer hq) G.T.bmain hg hobj hints (bj hlen p) hr (hT w _ Y Pt (aX.mpr rfl)) I J hF hb λH hS eP=>j w H a ns hlen hS eP
end
structure At (K:LO)(x:Str)(st:Stmt)(f:Addr)(fd:FuncData):Prop where
 fn:Fun K x x st f fd
 ns:PySem.W.nsIn K mainGlobals x=some (some (.ref f))
theorem at_mk {K:LO}{x:Str}(a:PySem.W.nsIn K mainGlobals x=some (some (.ref f)))(l:K.lookup f=some ⟨oc,od,.func (PySem.W.fnOf x x (jW st) (gO st) (aw st) .none kV doc pm an cdv ct),osl⟩)(c:PySem.W.codeIn K cdv x=true)(k:PySem.W.keepIn K (.ref f)=true):∃f fd,At K x st f fd:=⟨f,_,yZ l c k,a⟩
theorem Uv {K:LO}{j:ClassData}{b:Bool}(h0:(Value.ref CN==Value.ref C)=false)(h1:PySem.W.clsIn K C=some j)(h2:PySem.W.typeIn K (.ref C)=some (.type "type"))(g:PySem.W.subIn K (.ref CN) (.ref C)=some b):PySem.W.kitOne K (.ref CN) (.ref C)=some b:=by unfold PySem.W.kitOne PySem.W.kitCls;rw[if_neg (by rw[h0];decide)];show(if((PySem.W.clsIn K C).isSome&&PySem.W.typeIn K (.ref C)==some (.type "type"))=true then PySem.W.subIn K (.ref CN) (.ref C)else none)=some b;rw[h1,h2,g];rfl
theorem Vc {K:LO}{T:String}{b:Bool}(h0:(Value.ref CN==Value.type T)=false)(h1:PySem.W.kitMeta T=true)(g:PySem.W.subIn K (.ref CN) (.type T)=some b):PySem.W.kitOne K (.ref CN) (.type T)=some b:=by unfold PySem.W.kitOne PySem.W.kitCls;rw[if_neg (by rw[h0];decide)];show(if PySem.W.kitMeta T=true then PySem.W.subIn K (.ref CN) (.type T)else none)=some b;rw[if_pos h1,g]
theorem cM {K:LO}(X:K.In h)(G:h.Ns mainGlobals mg){x:Str}(ps:LM)(T:At K x st f fd)(b:∀(kV doc pm:Value) (an:LS) (cdv ct:Value) (us:LJ),us.length=ps.length->bindArgs (PySem.W.fnOf x x (jW st) (gO st) (aw st) .none kV doc pm an cdv ct) ⟨us,[]⟩=pure (ps.zip us):=by intro _ _ _ _ _ _ us hl;rcases us with _|⟨_,_|⟨_,_|⟨_,_|⟨_,_|⟨_,_|_⟩⟩⟩⟩⟩<;>first|rfl|cases hl):Dn K mg x st ps f fd:=⟨T.fn,PySem.W.mg_of X G T.ns,T.fn.binds b⟩
abbrev AE (K:LO)(x:Str)(st:Stmt):Prop:=∃f fd,At K x st f fd
abbrev NN (K:LO)(x:Str):Prop:=PySem.W.nsIn K mainGlobals x=some none
theorem all_mk {w:World}{K:LO}(X:K.In h)(G:h.Ns mainGlobals mg)(hfa:mg "law"=some (.ref fa))(A0:AE K "column_of" GV)(A1:AE K "columns_of" uZ)(A2:AE K "sum_of_products" GJ)(A3:AE K "sums_with_each" sZ)(A4:AE K "product_of_grids" xf)(A5:AE K "in_one_list" uY)(A6:AE K "in_square" xi)(A7:AE K "is_square" xh)(A8:AE K "first_place_not_nought" pV)(A9:AE K "side_by_side" qS)(A10:AE K "numbered" mG)(A11:AE K "sums_to_lots" EQ)(A12:AE K "split_up" rP)(A13:AE K "coarsest_parting" oZ)(A14:AE K "coarsest_together" mF)(A15:AE K "part_alike" yB)(A16:AE K "leaf_sprouts" rS)(A17:AE K "with_bough" rW)(A18:AE K "rest_behind" uW)(A19:AE K "keep_free_ones" EV)(A20:AE K "first_unlike" ub)(A21:AE K "copied" oY)(A22:AE K "parting_tree" yy)(A23:AE K "greatest_divisor" SH)(A24:AE K "fraction_of" SI)(A25:AE K "common_bottom" ug)(A26:AE K "top_over" qQ)(A27:AE K "inner_terms" uX)(A28:AE K "terms_innermost_first" uc)(A29:AE K "shared_by_all" Nm)(A30:AE K "lowered" qT)(A31:AE K "one_by_one_product" mH)(A32:AE K "tops_of_leaf" xg)(A33:AE K "tops_from_one" qV)(A34:AE K "value_from_two" qU)(A35:AE K "value_by_kind" uf)(A36:AE K "value_of" ER)(A37:AE K "total_of_value" Nk)(A38:AE K "total_of_term" Nl)(A39:AE K "total_of" oz)(A40:AE K "come_to" xk)(A41:AE K "are_shared_out" oX)(A42:AE K "keeps_hue" kF)(A43:AE K "keep_hues" kH)(A44:AE K "goes_through" xj)(A45:AE K "shares_of_lot" rQ)(A46:AE K "table_of" rO)(A47:AE K "term_of" qR)(A48:AE K "held_by_trees" EW)(A49:AE K "look_trees" ES)(A50:AE K "_law_cell_at" pd)(A51:AE K "_law_draws" rV)(A52:AE K "_law_square" ud)(A53:AE K "_law_web" w6)(A54:AE K "_law_order" yz)(A55:AE K "_law_lift" ET)(A56:AE K "_law_renamed" oB)(A57:AE K "_law_two" Nj)(A58:AE K "_law_lowest" JU)(A59:AE K "_law_sum" EU)(A60:AE K "_law_share" ue)(A61:AE K "_law_goes" j9)(A62:AE K "_law_row" CF)(A63:AE K "_law_right" yx){CR:Addr}{ocI kVI docI pmI cdvI ctI:Value}{odI anI:LS}{ocG kVG docG pmG ctG:Value}{odG anG:LS}(aR:PySem.W.nsIn K mainGlobals "Sprout"=some (some (.ref CR)))(cpg:PySem.W.plainGet K CR Str.empty=true)(chd:PySem.W.hasDictIn K CR=true)(cpo:PySem.W.plainOver K CR=true)(csa:PySem.W.findIn K (.ref CR) "__setattr__"=some (some (.builtin "object.__setattr__")))(ctr:PySem.W.findIn K (.ref CR) "tree"=some none)(ckn:PySem.W.findIn K (.ref CR) "knots"=some none)(cdp:PySem.W.findIn K (.ref CR) "depth"=some none)(crw:PySem.W.findIn K (.ref CR) "row"=some none)(crs:PySem.W.findIn K (.ref CR) "rest"=some none)(cmk:PySem.W.makesIn K CR=true)(ckp:PySem.W.keepIn K (.ref CR)=true)(mI:PySem.W.findIn K (.ref CR) "__init__"=some (some (.ref fI)))(nI:PySem.W.isFn K (.ref fI)=true)(lI:K.lookup fI=some ⟨ocI,odI,.func (PySem.W.fnOf "__init__" "Sprout.__init__" (jW rT) (gO rT) (aw rT) .none kVI docI pmI anI cdvI ctI),oslI⟩)(cI:PySem.W.codeIn K cdvI "Sprout.__init__"=true)(kI:PySem.W.keepIn K (.ref fI)=true)(aG:PySem.W.nsIn K mainGlobals "grown_sprouts"=some (some (.ref fG)))(lG:K.lookup fG=some ⟨ocG,odG,.func (PySem.W.fnOf "grown_sprouts" "grown_sprouts" (jW ni) (gO ni) (aw ni) .none kVG docG pmG anG (.ref cc) ctG),oslG⟩)(cG:PySem.W.codeIn K (.ref cc) "grown_sprouts"=true)(kG:PySem.W.keepIn K (.ref fG)=true)(hcc:PySem.W.codeHdIn K cc Pt=true)(hPK:K.lookup Pt=none)(htr:l.prog.given.tree=none)(aTn:PySem.W.nsIn K mainGlobals "INNER_TERMS"=some (some (.ref aT)))(tbl:PyProof.Rows.KTD.tabLook (PyProof.Rows.KTD.datLooks λb=>K.lookup b) (λb=>K.lookup b) aT (Ci tH)=true)(aL:PySem.W.nsIn K mainGlobals "law"=some (some (.ref fL)))(lL:K.lookup fL=some ⟨oc,od,.func (PySem.W.fnOf "law" "law" (jW yA) (gO yA) (aw yA) .none kV doc pm an cdv ct),osl⟩)(cL:PySem.W.codeIn K cdv "law"=true)(kL:PySem.W.keepIn K (.ref fL)=true)(z_len:NN K "len")(z_range:NN K "range")(z_int:NN K "int")(z_sorted:NN K "sorted")(z_enumerate:NN K "enumerate")(z_sum:NN K "sum")(z_zip:NN K "zip")(z_list:NN K "list")(z_isinstance:NN K "isinstance")(z_bool:NN K "bool")(z_max:NN K "max")(z_str:NN K "str")(z_abs:NN K "abs")(z_ValueError:NN K "ValueError")(z_tuple:NN K "tuple")(z_set:NN K "set")(z_all:NN K "all"):
  ∃(fd:FuncData) (cc:Addr),PySem.W.codeHdIn K cc Pt=true/\K.lookup Pt=none/\(∀(s:Shared) (v:Value),BindsTo s fd ⟨[v],[]⟩ [("_law_script",v)])/\∀base:Heap,K.In base->base.Ns mainGlobals mg->base.NoSeer->Qd mg base->cW l.prog w K mg base gK 45 fa fd ["_law_script"] (Es K Pt):=by
 have e:=hfa.symm.trans (PySem.W.mg_of X G aL);cases e;obtain⟨f0,_,T0⟩:=A0;have D0:=cM X G ["rows","place"] T0;obtain⟨f1,_,T1⟩:=A1;have D1:=cM X G ["rows"] T1;obtain⟨f2,_,T2⟩:=A2;have D2:=cM X G ["numbers","others"] T2;obtain⟨f3,_,T3⟩:=A3;have D3:=cM X G ["numbers","rows"] T3;obtain⟨f4,_,T4⟩:=A4;have D4:=cM X G ["rows","others"] T4;obtain⟨f5,_,T5⟩:=A5;have D5:=cM X G ["rows"] T5;obtain⟨f6,_,T6⟩:=A6;have D6:=cM X G ["things","size"] T6;obtain⟨f7,_,T7⟩:=A7;have D7:=cM X G ["rows","size"] T7;obtain⟨f8,_,T8⟩:=A8;have D8:=cM X G ["row"] T8;obtain⟨f9,_,T9⟩:=A9;have D9:=cM X G ["web","other"] T9;obtain⟨f10,_,T10⟩:=A10;have D10:=cM X G ["marks"] T10;obtain⟨f11,_,T11⟩:=A11;have D11:=cM X G ["weights","lots"] T11;obtain⟨f12,_,T12⟩:=A12;have D12:=cM X G ["web","lots"] T12;obtain⟨f13,_,T13⟩:=A13;have D13:=cM X G ["web"] T13;obtain⟨f14,_,T14⟩:=A14;have D14:=cM X G ["web","other"] T14;obtain⟨f15,_,T15⟩:=A15;have D15:=cM X G ["web","other"] T15;obtain⟨f16,_,T16⟩:=A16;have D16:=cM X G ["hues"] T16;obtain⟨f17,_,T17⟩:=A17;have D17:=cM X G ["sprout","bough","weights"] T17;obtain⟨f18,_,T18⟩:=A18;have D18:=cM X G ["row","kept"] T18;obtain⟨f19,_,T19⟩:=A19;have D19:=cM X G ["kept","sprouts"] T19;obtain⟨f20,_,T20⟩:=A20;have D20:=cM X G ["sprouts","ahead"] T20;obtain⟨f21,_,T21⟩:=A21;have D21:=cM X G ["tree"] T21;obtain⟨f22,_,T22⟩:=A22;have D22:=cM X G ["web","other"] T22;obtain⟨f23,_,T23⟩:=A23;have D23:=cM X G ["number","other"] T23;obtain⟨f24,_,T24⟩:=A24;have D24:=cM X G ["top","bottom"] T24;obtain⟨f25,_,T25⟩:=A25;have D25:=cM X G ["fractions"] T25;obtain⟨f26,_,T26⟩:=A26;have D26:=cM X G ["f","bottom"] T26;obtain⟨f27,_,T27⟩:=A27;have D27:=cM X G ["term"] T27;obtain⟨f28,_,T28⟩:=A28;have D28:=cM X G ["term"] T28;obtain⟨f29,_,T29⟩:=A29;have D29:=cM X G ["divisor","tops"] T29;obtain⟨f30,_,T30⟩:=A30;have D30:=cM X G ["tops","bottom"] T30;obtain⟨f31,_,T31⟩:=A31;have D31:=cM X G ["value","other"] T31;obtain⟨f32,_,T32⟩:=A32;have D32:=cM X G ["web","term"] T32;obtain⟨f33,_,T33⟩:=A33;have D33:=cM X G ["web","kind","tops"] T33;obtain⟨f34,_,T34⟩:=A34;have D34:=cM X G ["web","kind","value","other"] T34;obtain⟨f35,_,T35⟩:=A35;have D35:=cM X G ["web","term","inner_values"] T35;obtain⟨f36,_,T36⟩:=A36;have D36:=cM X G ["web","term"] T36;obtain⟨f37,_,T37⟩:=A37;have D37:=cM X G ["value"] T37;obtain⟨f38,_,T38⟩:=A38;have D38:=cM X G ["web","term"] T38;obtain⟨f39,_,T39⟩:=A39;have D39:=cM X G ["web","term"] T39;obtain⟨f40,_,T40⟩:=A40;have D40:=cM X G ["rows","whole"] T40;obtain⟨f41,_,T41⟩:=A41;have D41:=cM X G ["shares","whole"] T41;obtain⟨f42,_,T42⟩:=A42;have D42:=cM X G ["hue","hues_there","shares"] T42;obtain⟨f43,_,T43⟩:=A43;have D43:=cM X G ["hues","hues_there","shares"] T43;obtain⟨f44,_,T44⟩:=A44;have D44:=cM X G ["web","other","table"] T44;obtain⟨f45,_,T45⟩:=A45;have D45:=cM X G ["lot","lots","lots_there"] T45;obtain⟨f46,_,T46⟩:=A46;have D46:=cM X G ["web","other"] T46;obtain⟨f47,_,T47⟩:=A47;have D47:=cM X G ["tree"] T47;obtain⟨f48,_,T48⟩:=A48;have D48:=cM X G ["web","other"] T48;obtain⟨f49,_,T49⟩:=A49;have D49:=cM X G ["web","other","paper"] T49;obtain⟨f50,_,T50⟩:=A50;have t:=cM X G ["_law_script","_law_k"] T50;obtain⟨f51,_,T51⟩:=A51;have p:=cM X G ["_law_cell","_law_many","_law_base","_law_free"] T51;obtain⟨f52,_,T52⟩:=A52;have D52:=cM X G ["_law_many","_law_draws_here","_law_way"] T52;obtain⟨f53,_,T53⟩:=A53;have D53:=cM X G ["_law_script","_law_at","_law_many","_law_free"] T53;obtain⟨f54,_,T54⟩:=A54;have D54:=cM X G ["_law_cell","_law_many","_law_free"] T54;obtain⟨f55,_,T55⟩:=A55;have D55:=cM X G ["_law_web_here","_law_cell","_law_free"] T55;obtain⟨f56,_,T56⟩:=A56;have D56:=cM X G ["_law_web_here","_law_order_here"] T56;obtain⟨f57,_,T57⟩:=A57;have D57:=cM X G ["_law_script","_law_most"] T57;obtain⟨f58,_,T58⟩:=A58;have U:=cM X G ["_law_top","_law_bottom"] T58;obtain⟨f59,_,T59⟩:=A59;have D59:=cM X G ["_law_terms"] T59;obtain⟨f60,_,T60⟩:=A60;have D60:=cM X G ["_law_found"] T60;obtain⟨f61,_,T61⟩:=A61;have D61:=cM X G ["_law_web_here","_law_other","_law_table"] T61;obtain⟨f62,_,T62⟩:=A62;have T:=cM X G ["_law_web_here","_law_tree"] T62;obtain⟨f63,_,T63⟩:=A63;have D63:=cM X G ["_law_web_here","_law_other","_law_paper"] T63;have FL:=yZ (st:=yA) lL cL kL;have j:tT mg:=⟨aK X G z_len,aK X G z_range,aK X G z_int,aK X G z_sorted,aK X G z_enumerate,aK X G z_sum,aK X G z_zip,aK X G z_list,aK X G z_isinstance,aK X G z_bool,aK X G z_max⟩;have g:oT mg:=⟨aK X G z_abs,aK X G z_len,aK X G z_sum,aK X G z_zip,aK X G z_range,aK X G z_enumerate,aK X G z_isinstance,aK X G z_ValueError,aK X G z_int,aK X G z_bool,aK X G z_list,aK X G z_tuple⟩;have BP:IG mg:=⟨aK X G z_len,aK X G z_zip,aK X G z_list,aK X G z_tuple⟩;have I:zE mg:=⟨aK X G z_len,aK X G z_sum,aK X G z_zip,aK X G z_enumerate,aK X G z_max,aK X G z_sorted,aK X G z_set⟩;have C:zD K CR:=⟨⟨cpg,chd,cpo,csa⟩,ctr,ckn,cdp,crw,crs⟩;have MK:Mk K CR fI:=⟨cmk,mI,nI,ckp⟩;have hC:=PySem.W.mg_of X G aR;have FI:=yZ (st:=rT) (qual:="Sprout.__init__") lI cI kI;have bI:=FI.binds (ps:=oR) λ_ _ _ _ _ _ us hl=>match us,hl with|[_,_,_,_,_],_=>rfl
 have FG:=yZ (st:=ni) lG cG kG;have DG:Dn K mg "grown_sprouts" ni ["kept","knots","weights"] fG _:=⟨FG,PySem.W.mg_of X G aG,FG.binds λ_ _ _ _ _ _ us hl=>match us,hl with|[_,_,_],_=>rfl⟩;have BG:IH mg:=⟨aK X G z_len,aK X G z_sum,aK X G z_zip,aK X G z_range,aK X G z_all⟩;have gT:=PySem.W.mg_of X G aTn;have TB:RY K aT tH:=⟨tbl⟩;refine⟨PySem.W.fnOf "law" "law" (jW yA) (gO yA) (aw yA) .none kV doc pm an cdv ct,cc,hcc,hPK,λs v=>.of_eq rfl,λbase _ _ hN BM=>?_⟩;have GGd:=SY (P:=l.prog) (w:=w) (base:=base) g D23.fn;have GFr:=SZ g D24.fn (cl D23 GGd);have GBt:=Hq D25.fn (cl D23 GGd);have GTp:=CS (P:=l.prog) (w:=w) (base:=base) (mg:=mg) D26.fn;have GCl:=QT (P:=l.prog) (w:=w) (base:=base) (mg:=mg) D0.fn;have GCs:=N5 g D1.fn (cl D0 GCl);have GDo:=QS (P:=l.prog) (w:=w) (base:=base) g D2.fn;have J:=KU D3.fn (cl D2 GDo);have GPg:=NO D4.fn (cl D1 GCs) (cl D3 J);have GIo:=KQ (P:=l.prog) (w:=w) (base:=base) (mg:=mg) D5.fn;have GSq:=NZ (P:=l.prog) (w:=w) (base:=base) g D6.fn;have GIs:=NY (P:=l.prog) (w:=w) (base:=base) BG D7.fn;have GFi:=KS (P:=l.prog) (w:=w) (base:=base) I D8.fn;have GSi:=NL (P:=l.prog) (w:=w) (base:=base) j D9.fn;have GNM:=NQ (P:=l.prog) (w:=w) (base:=base) BP D10.fn;have GSu:=NK (P:=l.prog) (w:=w) (base:=base) BP D11.fn;have GSl:=KC BP D12.fn (cl D10 GNM) (cl D11 GSu);have GCo:=AU BP D13.fn (cl D12 GSl);have GTo:=AR j D14.fn (cl D13 GCo) (cl D9 GSi);have GAl:=KZ j D15.fn (cl D14 GTo);have GI:=KP (P:=l.prog) (w:=w) (base:=base) (mg:=mg) C FI;have GLe:=KN I C D16.fn hC MK bI GI;have GBo:=KY I C D17.fn (cl D3 J) hC MK bI GI;have GGr:=KR BM I C FG rfl hcc (cl D17 GBo);have GRe:=NM I C hN htr D18.fn (cl D8 GFi);have GKe:=NX I C D19.fn (cl D18 GRe) (cl D8 GFi);have GUn:=Hi (P:=l.prog) (w:=w) (base:=base) I C D20.fn;have GCp:=Hn (P:=l.prog) (w:=w) (base:=base) D21 13;have GPt:=KH (uz Pt) I C D22.fn (cl D15 GAl) (cl D9 GSi) (cl D16 GLe) (cl D20 GUn) (cl D19 GKe) (cl DG GGr) (cl D21 GCp);have GIn:=KO (P:=l.prog) (w:=w) (base:=base) g gT TB D27.fn;have GTf:=Hj D28.fn (cl D27 GIn);have GAa:=QU (P:=l.prog) (w:=w) (base:=base) (mg:=mg) D29.fn;have GLw:=CT D30.fn (cl D29 GAa);have GBh:=N7 g D31.fn (cl D30 GLw);have GLf:=NW (P:=l.prog) (w:=w) (base:=base) g D32.fn;have GF1:=CV D33.fn (cl D3 J);have GF2:=CU D34.fn (cl D31 GBh);have GBk:=Ho g D35.fn (cl D32 GLf) (cl D33 GF1) (cl D34 GF2);have GOv:=NP g D36.fn (cl D28 GTf) (cl D27 GIn) (cl D35 GBk);have GTv:=QM g D37.fn (cl D24 GFr);have GTt:=QN D38.fn (cl D36 GOv) (cl D37 GTv);have GTl:=CQ D39.fn (cl D38 GTt);have GCm:=N4 (P:=l.prog) (w:=w) (base:=base) BG D40.fn;have GSh:=Hm D41.fn (cl D5 GIo) (cl D40 GCm) (cl D1 GCs);have GKh:=AS (P:=l.prog) (w:=w) (base:=base) BG D42.fn;have GKs:=AT BG D43.fn (cl D42 GKh);have GGo:=N3 BG D44.fn (cl D7 GIs) (cl D5 GIo) (cl D25 GBt) (cl D26 GTp) (cl D6 GSq) (cl D41 GSh) (cl D43 GKs) (cl D4 GPg);have GLS:=KJ D45.fn (cl D24 GFr);have GTa:=KB D46.fn (cl D14 GTo) (cl D45 GLS);have GTm:=Hk (P:=l.prog) (w:=w) (base:=base) (mg:=mg) D47 12;have GHe:=N0 (uz Pt) D48.fn (cl D22 GPt) (cl D46 GTa) (cl D47 GTm) (cl D39 GTl);have GLk:=NU D49.fn (cl D44 GGo) (cl D47 GTm) (cl D39 GTl);have GC:=N6 (P:=l.prog) (w:=w) (base:=base) j t.fn;have GD:=KW (P:=l.prog) (w:=w) (base:=base) j p.fn;have GQ:=Hl (P:=l.prog) (w:=w) (base:=base) j D52.fn;have GW:=NJ j D53.fn (cl t GC) (cl p GD) (cl D52 GQ);have GO:=KI j D54.fn (cl p GD);have GL:=NV j D55.fn (cl p GD);have GR:=NT (P:=l.prog) (w:=w) (base:=base) (mg:=mg) D56.fn;have GT:=QL j D57.fn (cl t GC) (cl D53 GW) (cl D54 GO) (cl D55 GL) (cl D56 GR);have GLo:=QP (P:=l.prog) (w:=w) (base:=base) g U.fn;have GLm:=NR D59.fn (cl U GLo);have GLh:=KF g D60.fn (cl U GLo);have GLg:=KK g D61.fn (cl D59 GLm) (cl D60 GLh);have GRw:=NS (P:=l.prog) (w:=w) (base:=base) j T 12;have GRi:=KG g D63.fn (cl D61 GLg) (cl T GRw);exact QR g (aK X G z_str) FL (cl D57 GT) (cl t GC) (cl D48 GHe) (cl D63 GRi) (cl D49 GLk) (cl T GRw)
theorem walk {q:Program}{d:DefRec}{K:Params->LO}(p:l.most=some 63)(g:d.params.defaults=[])(j:importsNone q=true)(t:∀(w:World) (h:Heap),YP w h->(K w.params).In h)(C:∀(w:World) (h:Heap),YP w h->∀P∈[Pt],h.get? P=some (PySem.W.tabObj #[]))(F:∀(w:World) (mg:LQ) (fa:Addr) (h:Heap),(K w.params).In h->h.Ns mainGlobals mg->mg d.name=some (.ref fa)->
   ∃(fd:FuncData) (cc:Addr),PySem.W.codeHdIn (K w.params) cc Pt=true/\(K w.params).lookup Pt=none/\(∀(s:Shared) (u:Value),BindsTo s fd ⟨[u],[]⟩ [("_law_script",u)])/\∀base:Heap,(K w.params).In base->base.Ns mainGlobals mg->base.NoSeer->Qd mg base->cW l.prog w (K w.params) mg base gK 45 fa fd ["_law_script"] (Es (K w.params) Pt)):
  PySem.W.WalkO q loose XP YP l.row.toRowW d [] (λf vs=>PySem.call f vs):=
 Qf (n:=63) (k:=45) (x:="_law_script") (sp:=λw=>Es (K w.params) Pt) p (by decide) g ⟨rfl,by decide,by decide,rfl⟩ j t C F (λ_ _ a ns hl I J=>⟨a,ns,rfl,I,hl,.inl J,λ_=>rfl⟩)
end My
open PySem PySem.W PyProof.Rows
namespace PySem.W.Fast
def tw1665161853839019850:=()
def tw12147276885552888642:=()
def tw1466580912183009767:=()
def tw6608154791353766423:=()
def tw14102376141616586271:=()
def tw11129688836755042789:=()
def tw13207685331076620373:=()
def tw17112739277218539123:=()
def tw10027385818493999156:=()
def tw1230692123528315341:=()
def tw6605022895987202947:=()
def tw13090327656716108995:=()
def tw10374316517086784610:=()
def tw16952030012047176235:=()
def tw114479322364651916:=()
def tw17757792581712547812:=()
def tw971327973842310801:=()
def tw17646018243624250193:=()
def tw18251255673394496536:=()
def tw12872856725402254488:=()
def tw3175897776764011776:=()
def tw10367491544202161270:=()
def tw12273932961841818594:=()
def tw4723532710472446902:=()
def tw5208057760916911795:=()
def tw11007300050691109490:=()
def tw8304973118953971769:=()
def tw12724505580070876187:=()
def tw6118074097982321395:=()
def tw8090251138916978832:=()
def tw1460396393029981162:=()
def tw11813005605516856171:=()
def tw13165396332939381577:=()
def tw18035888514121036879:=()
def tw13629204159515188735:=()
def tw17145230259368699264:=()
def tw9138476735349031445:=()
def tw13744107335090926752:=()
def tw1846078717167178327:=()
def tw6766428671910617815:=()
def tw15402624061550265439:=()
def tw5571705329711670225:=()
def tw2598938857617181360:=()
def tw14820116997491610469:=()
def tw16606461120457555431:=()
def tw6389190621942220513:=()
def tw15339493209677975049:=()
def tw9406465244185018675:=()
def tw16773358153043799403:=()
def tw13411699011693046487:=()
def tw8680442342327974281:=()
def tw5211301321233010932:=()
def tw14802393618444344389:=()
def tw368654852635520198:=()
def tw1900580951271115375:=()
def tw12790469539001678976:=()
def tw10086072466480743411:=()
def tw10554865113417939607:=()
def tw10928095273074595200:=()
def tw7206076163836481378:=()
def tw14993409848436824014:=()
def tw12181124514916598443:=()
def tw6913171042412585605:=()
def tw14635359624975380787:=()
def tw12311348080117468235:=()
def tw16822097956669020841:=()
def tw11339354476405056864:=()
def tw7929441870269452069:=()
def tw14881039738621003295:=()
def tw12487907382766524618:=()
def tw12547361647686219499:=()
def tw1053000689454573041:=()
def tw2174069063717377118:=()
def tw5794496729608117063:=()
def tw9827130514639723575:=()
def tw17078613902069621356:=()
def tw8135351527092444176:=()
def tw54155186709668299:=()
def tw15228079222486921015:=()
def tw5521566119398241134:=()
def tw7901259874718924871:=()
def tw267710148350881566:=()
def tw12797017176901087587:=()
def tw8264390994493107574:=()
def tw127828734583604056:=()
def tw14855581334882109878:=()
def tw14037110085865245420:=()
def tw13655450465052621590:=()
def tw3332978958041499920:=()
def tw17818926537649728655:=()
def tw2853506388763358926:=()
def tw5491359635490172332:=()
def tw6458988807473412500:=()
def tw16885106041867633877:=()
def tw10223670202227054293:=()
def tw11572926088589043680:=()
def tw6569125336568508504:=()
def tw11927263395879483565:=()
def tw3380114126072956771:=()
def tw5174589171515375486:=()
def tw5265842455093660947:=()
def tw13629666076875497449:=()
def tw5340429595907980129:=()
def tw15620672028099031378:=()
def tw15641392518768164780:=()
def tw973864104875488983:=()
def tw4861980280835056348:=()
def tw14947798158915070963:=()
def tw21351770869225078:=()
def tw1892599006529783361:=()
def tw7298599934180977574:=()
def tw12340440577537884774:=()
def tw637914128757123980:=()
def tw14120330119098299121:=()
def tw17745431035201642015:=()
def tw10330815980838716834:=()
def tw12214959515716577527:=()
def tw9945148028329145525:=()
def tw15008513755560689564:=()
def tw14045207233162848850:=()
def tw16611950117506531047:=()
def tw13359464166575685570:=()
def tw10560698419936153707:=()
def tw17546618099659773832:=()
def tw17110433829995211065:=()
def tw15686390233563225791:=()
def tw6635879334590867566:=()
def tw14130876068589935437:=()
def tw15803770335161283504:=()
def tw3913357074525138761:=()
def tw13744400669150547633:=()
def tw10815221822323168319:=()
def tw10523330468986541070:=()
def tw11304384759604994133:=()
def tw15929509375430823218:=()
def tw13529928915951545616:=()
def tw9298969704524765310:=()
def tw11992238586764852254:=()
def tw7065461202692577243:=()
def tw5850673781199855942:=()
def tw4150004496513346271:=()
def tw17286644149806350444:=()
def tw14413950852652897615:=()
def tw13724079143055851093:=()
def tw17101582979543509113:=()
def tw3757677714571272221:=()
def tw534975731235873604:=()
def tw7551476339111084954:=()
def tw10883461139901797288:=()
def tw12139983329077429978:=()
def tw987504853315154143:=()
def tw3581877660557016420:=()
def tw666991384801529845:=()
def tw17415769956563489367:=()
def tw1511789696062711172:=()
def tw12645229121441319878:=()
def tw9074637574614454881:=()
def tw18051372466395887638:=()
def tw5804551576451430188:=()
def tw5758814181248227361:=()
def tw16188646499797817180:=()
def tw10844108565785244852:=()
def tw6146390658379325306:=()
def tw4327164776276497242:=()
def tw942189978383762606:=()
def tw9168827408478187822:=()
def tw5180250274895381893:=()
def tw8290306464775078645:=()
def tw13982829496064567934:=()
def tw8906066323556643326:=()
def tw2253418882076807722:=()
def tw3780212088449395712:=()
def tw747007382651117200:=()
def tw14416162865752460079:=()
def tw2815908282773325438:=()
def tw14009220414500829798:=()
def tw14599226597816732834:=()
def tw16608355477348073536:=()
def tw13930469050638123395:=()
def tw17151356398987612816:=()
def tw9011584091214479882:=()
def tw7482973161645805571:=()
def tw7490048486772636328:=()
def tw12696706817219952940:=()
def tw9183433539200665149:=()
def tw4959896030860182647:=()
def tw8713497619604512932:=()
def tw2002488070219951894:=()
def tw17975499180392774148:=()
def tw2240753562787213794:=()
def tw3076725846412034379:=()
def tw15711082410729731749:=()
def tw1925637068832969429:=()
def tw5618945289755024134:=()
def tw7952280139348018491:=()
def tw5683612819811711551:=()
def tw4509641240856470655:=()
def tw13611977294666843567:=()
def tw9737049893007662144:=()
def tw12718052811868674209:=()
def tw14112375261186875381:=()
def tw12040010405208367220:=()
def tw14327747362673988989:=()
def tw8294909891216767486:=()
def tw6723310190744330099:=()
def tw13005367910529580033:=()
def tw18027559934071235194:=()
def tw17850858486328984973:=()
def tw15460020849034443889:=()
def tw5965143293834520654:=()
def tw18200149027231486641:=()
def tw4834479769513446258:=()
def tw378564898826803410:=()
def tw14630092392011606891:=()
def tw16682465418819279959:=()
def tw1681410419207909815:=()
def tw17386040213816593013:=()
def tw17572971767564880065:=()
def tw15635131074078504927:=()
def tw16397504682309118077:=()
def tw10473032824226790018:=()
def tw13421528354058164681:=()
def tw1410273141537414324:=()
def tw17457320864224509749:=()
def tw4349936097055862082:=()
def tw12839067957916302081:=()
def tw13961964147823700343:=()
def tw11721156889862901207:=()
def tw6767958680173117700:=()
def tw13644378565811595464:=()
def tw14065672482315136999:=()
def tw8959760693856718445:=()
def tw1499885457300039770:=()
def tw17778423579124310614:=()
def tw4624987996150211567:=()
def tw7972507631099888046:=()
def tw1389709614674770594:=()
def tw16774503921779894524:=()
def tw6687081332072222440:=()
def tw1194796339282934301:=()
def tw4546300759191553570:=()
def tw7334365826618857477:=()
def tw8345770434364761714:=()
def tw12223081408192055602:=()
def tw15028729541026114083:=()
def tw8471536831654394288:=()
def tw3206860532873251496:=()
def tw4609044885928063439:=()
def tw7481536501501752155:=()
def tw5541152226337523906:=()
def tw10714906567078332157:=()
def tw3423843292452725361:=()
def tw14650427271661527982:=()
def tw6294879219491273804:=()
def tw18153971953080245759:=()
def tw1705379985949893401:=()
def tw13955660752067597389:=()
def tw6455797429257225980:=()
def tw1877876167769385621:=()
def tw16796822302922777975:=()
def tw5344815245573303505:=()
def tw15150521659464958156:=()
def tw10967984519586807159:=()
def tw16903193019815843121:=()
def tw16087372313148581297:=()
def tw2152974298164429508:=()
def tw13069185919893594092:=()
def tw15096471476034061407:=()
def tw17572263715898422958:=()
def tw7986454276098874054:=()
def tw15920384263455674938:=()
def tw15633968282002040568:=()
def tw14820691090991997066:=()
def tw6769543283063255025:=()
def tw9131742823018048167:=()
def tw13795596409459900204:=()
def tw3069551751509478082:=()
def tw11588640711413448184:=()
def tw3001140413142225487:=()
def tw8492011415320854905:=()
def tw8231554572934764002:=()
def tw6551770277818252775:=()
def tw16955296758048036449:=()
def tw4779001454031277276:=()
def tw17313776135596476806:=()
def tw14861670146181972797:=()
def tw9320092358547279735:=()
def tw10877611357267460418:=()
def tw18212654436288377565:=()
def tw8871416006829487160:=()
def tw15123301559266788546:=()
def tw2653476076644525800:=()
def tw5101716934817383460:=()
def tw13352593599436773370:=()
def tw3203914997574038056:=()
def tw720375201001627459:=()
def tw5073787584272459001:=()
def tw6160088001502571051:=()
def tw2234964111874021233:=()
def tw11048047389596993430:=()
def tw2683573221661354369:=()
def tw17903359853957692855:=()
def tw1473527846163851480:=()
def tw15772793363723078661:=()
def tw12243259571407589015:=()
def tw16926180541544547534:=()
def tw11518835746467906112:=()
def tw14603947722389237352:=()
def tw7633134285214093824:=()
def tw42991657678840380:=()
def tw5766532139601913398:=()
def tw3671007374119597562:=()
def tw15167223953895714908:=()
def tw17285471348068505267:=()
def tw16056902526469399511:=()
def tw2831801740662457509:=()
def tw4942917520255506910:=()
def tw7118757631831924734:=()
def tw16868440519312554982:=()
def tw17446319493522823110:=()
def tw1023000821469682378:=()
def tw10852964258256976619:=()
def tw6772112878240031380:=()
def tw8194600580087185371:=()
def tw12730028779696137351:=()
def tw4890704937612381059:=()
def tw8572874695255202537:=()
def tw7541177337879360182:=()
def tw4840302710075743202:=()
def tw899673313056638210:=()
def tw9033343479290183647:=()
def tw12870362060137937424:=()
def tw17947486197572850304:=()
def tw3177413903573552531:=()
def tw13169593786635441658:=()
def tw63710659551714514:=()
def tw15721422043637983748:=()
def tw4992789519086231197:=()
def tw9537556767584874416:=()
end PySem.W.Fast
set_option maxRecDepth 100000 in
set_option maxHeartbeats 0 in
theorem PySem.Challenge.cw_evenkin_k51_whole_held_by_trees_holds : PySem.Challenge.rw_evenkin_k51_whole_held_by_trees.Holds := by
  w_on; o_law; k_head; (case hw => w_witness2)
  k_fill
  refine My.walk (l := PySem.Challenge.rw_evenkin_k51_whole_held_by_trees) rfl rfl (by decide +kernel) (fun w h Y => PySem.W.km_in_of Y) (fun w h Y => PySem.W.km_tabs_of Y) ?F
  case F =>
    intro w mg fa h KX G hmg
    refine' My.all_mk KX G hmg ?_ ?_ ?_ ?_ ?_ ?_ ?_ ?_ ?_ ?_ ?_ ?_ ?_ ?_ ?_ ?_ ?_ ?_ ?_ ?_ ?_ ?_ ?_ ?_ ?_ ?_ ?_ ?_ ?_ ?_ ?_ ?_ ?_ ?_ ?_ ?_ ?_ ?_ ?_ ?_ ?_ ?_ ?_ ?_ ?_ ?_ ?_ ?_ ?_ ?_ ?_ ?_ ?_ ?_ ?_ ?_ ?_ ?_ ?_ ?_ ?_ ?_ ?_ ?_ ?aR ?cpg ?chd ?cpo ?csa ?ctr ?ckn ?cdp ?crw ?crs ?cmk ?ckp ?mI ?nI ?lI ?cI ?kI ?aG ?lG ?cG ?kG ?hcc ?hPK ?htr ?aTn ?tbl ?_ ?_ ?_ ?_ ?_ ?_ ?_ ?_ ?_ ?_ ?_ ?_ ?_ ?_ ?_ ?_ ?_ ?_ ?_ ?_ ?_
    all_goals try refine' My.at_mk ?_ ?_ ?_ ?_
    (case aTn => k_is)
    (case tbl => first | decide +kernel | rfl | with_unfolding_all rfl)
    all_goals try first | k_is | (unfold My.NN; k_is) | kernel_rfl | rfl
