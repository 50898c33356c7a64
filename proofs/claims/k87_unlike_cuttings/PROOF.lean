import PyProof.Rows.All
import Wide.All
import OpenK.AllK
import Wide.FinOn
import Lean
import PyProof.EqAt
import PyProof.EqKinds
import PyProof.TupleCall
import KE.KIsAll
import KE.RegKIsAll
import PyProof.ExcArgsOwn
import PyProof.InstStoreFacts
import PyProof.Rows.MinMaxN
import PyProof.Rows.CallKwBuiltin
import KE.KMinKey
import KE.KDictOf
import PyProof.AttrMissSeq
import PyProof.Rows.TupDisplay
import PyProof.Draws
import PyProof.SetKind
import PyProof.IsRules
import PyProof.SetNew
import PyProof.Rows.SetFrom
import KE.KSortAsk
import KE.KDictSum
import PySem.Challenge.RW_friezeyard_k87_unlike_cuttings
set_option compiler.extract_closed false
noncomputable section
open PySem.W (Frag Looks codeIn hideAll hideAll_get hideAll_none keepIn kia_one kitAny kitOne mg_none_of mg_of mroIn nsIn of_hideAll)
def bI:=@Bool.and_eq_true
def gc:=@Array.length_toList
def io:=@List.getD_eq_getElem?_getD
def oQ:=@List.length_map
def tB:=@List.mem_cons
def IR:=@List.mem_cons_of_mem
def KB:=@List.all_eq_true
def KF:=@Array.getElem?_eq_getElem
def KM:=@Nat.le_trans
def LL:=@List.size_toArray
def NG:=@List.getElem?_eq_getElem
def NH:=@Nat.lt_of_lt_of_le
def NI:=@Nat.ne_of_lt
def NJ:=@PySem.wpAny_loadPart'
def NL:=@List.map_cons
def NM:=@List.length_cons
def NN:=@List.mem_cons_self
def NO:=@decide_eq_false
def NP:=@decide_eq_true_eq
def NQ:=@decide_eq_false_iff_not
def NR:=@List.mem_iff_getElem
def NS:=@List.getElem?_map
def NT:=@List.length_take
def NU:=@List.mem_append_right
def NV:=@Option.map_some
def NW:=@List.getElem?_eq_some_iff
def NX:=@Array.getD_eq_getD_getElem?
def NY:=@Array.getElem?_eq_some_iff
def NZ:=@PySem.wpAny_holding
def OA:=@List.length_drop
def OC:=@Array.getElem?_toList
def OD:=@Bool.false_eq_true
def OE:=@List.mem_range
def OF:=@List.mem_append
def OG:=@PySem.wpAny_mono
def OH:=@Classical.byContradiction
def OI:=@Nat.zero_le
def OJ:=@List.getElem?_set_ne
def OK:=@PySem.Heap.get?_update_other
def OL:=@PySem.wpAny_bind
def OM:=@List.zip_cons_cons
def ON:=@Array.toList_append
def OO:=@List.mem_map
def OP:=@PySem.Heap.get?_update_ne
def OQ:=@PySem.F.called_set
def OR:=@List.mem_of_getElem?
def OS:=@PyProof.Rows.boot_isinstance
def OT:=@Option.map_eq_some_iff
def OU:=@List.take_of_length_le
def OV:=@List.getElem?_eq_none
def OW:=@Bool.and_self
def OX:=@PySem.PassesOwn.leaving
def OY:=@beq_iff_eq
def OZ:=@PySem.Heap.get?_update_self
def PB:=@Nat.lt_irrefl
def PC:=@PySem.wpAny_callSpecial?_slot
def PD:=@PySem.F.plain_min_loop
def PF:=@Nat.zero_add
def PH:=@List.getElem?_set_self
def PJ:=@List.getElem?_append_right
def PK:=@Array.toList_setIfInBounds
def PL:=@List.filterMap_cons
def PM:=@PyProof.Rows.wpS_forRange
def PN:=@Ne.symm
def PP:=@List.getElem?_zip_eq_some
def PQ:=@List.getElem?_append_left
def PR:=@List.extract_eq_take_drop
def PU:=@List.drop_eq_getElem_cons
def PV:=@List.mem_singleton
def PX:=@List.mem_filterMap
def PY:=@if_false
def PZ:=@congrArg
def QD:=@PySem.wpAny_pure
def QF:=@PySem.wpAny_call_entry
def QJ:=@List.append_assoc
def QK:=@Bool.not_eq_true'
def QL:=@List.length_zip
def QM:=@PySem.mem_of_lookup
def QN:=@if_true
def QP:=@PyProof.Rows.callWith_type1
def QQ:=@Nat.le_of_lt
def QR:=@List.map_nil
def QU:=@List.map_map
def QV:=@PySem.wpAny_truthy_bool
def QX:=@PySem.wpAny_setState_of
def QZ:=@PySem.wpAny_newObj_type
def RA:=@List.not_mem_nil
def RB:=@PySem.F.slot_dict_keyiterator_next
def RC:=@Array.perm_iff_toList_perm
def RF:=@List.take_append_drop
def RG:=@PySem.wpAny_askSetting
def RH:=@List.map_append
def RI:=@List.foldl_cons
def RJ:=@List.pairwise_append
def RK:=@List.mem_append_left
def RL:=@List.getElem_take
def RM:=@List.getElem_drop
def RN:=@Array.toList_extract
def RO:=@PySem.F.type_list_append
def RP:=@PySem.F.slot_list_append
def RQ:=@PySem.codeAny_builtin
def RT:=@PySem.wpAny_loadPart_at
def RU:=@PySem.F.plainAttrs_list
def RV:=@PySem.Around.under_plainId
def RW:=@List.pairwise_cons
def RX:=@PySem.Heap.SameBut.update
def RY:=@List.find?_cons
def RZ:=@List.append_nil
def SA:=@List.perm_append_comm
def SD:=@List.length_range
def SE:=@PySem.wpAny_passesOwn
def SF:=@List.mem_of_mem_take
def SG:=@List.lookup_cons
def SH:=@List.pairwise_iff_getElem
def SI:=@Option.isSome_iff_exists
def SJ:=@PySem.Heap.get?_none_of_le
def SL:=@PySem.F.slot_tuple_iterator_next
def SM:=@Array.mem_def
def SN:=@List.forIn_cons
def SO:=@Int.emod_nonneg
def SQ:=@Int.emod_lt_of_pos
def SS:=@decide_true
def SU:=@PySem.Calls.call_function_entry
def SV:=@decide_false
def SW:=@PySem.SetTable.toList_insertAt
def SX:=@Nat.zero_max
def SY:=@Nat.lt_or_ge
def SZ:=@Array.toList_push
def TB:=@Array.getElem?_eq_none
def TC:=@PySem.wpAny_execs_nil
def TD:=@PyProof.Rows.slot_tuple_getitem
def TF:=@List.mem_iff_getElem?
def TH:=@Option.getD_some
def TJ:=@List.cons_append
def TM:=@PySem.wpAny_seqItems
def TN:=@Array.toList_reverse
def TQ:=@List.nodup_cons
def TR:=@List.length_nil
def TU:=@Bool.eq_iff_iff
def TV:=@PySem.F.typeOf_object_class
def TW:=@Nat.add_zero
def TX:=@PySem.Heap.size_update
def TY:=@PySem.wpAny_newList
def TZ:=@PySem.wpAny_attempt
def UA:=@PySem.plainId_quiet
def UB:=@PySem.sizeLine_eq
def UC:=@PySem.F.excBase_ValueError
def UD:=@Array.forIn_toList
def UE:=@PyProof.Rows.wpS_mono
def UF:=@Nat.lt_succ_of_lt
def UG:=@Nat.le_succ
def UH:=@List.pairwise_map
def UI:=@List.ext_getElem?
def UJ:=@PySem.codeAny_mono
def UK:=@Array.getElem?_replicate
set_option Elab.async false
set_option linter.all false
set_option maxRecDepth 100000
def ψ:=@if_neg
def ξ:=@if_pos
def ζ:=@Nat.le_refl
def η:=@Bool.false_ne_true
def θ:=@List.length_append
namespace L2
open PySem PySem.Spec PyProof.Rows
def χ:=@OL
def δ:=@wpS_bind
def ω:=@QD
def π:=@wpS_pure
def Ψ:=@Heap.get?_push_of_some
def Φ:=@Heap.lt_size
def Ξ:=@Heap.get?_push_size
abbrev Key:=Sum Int Str
noncomputable def W6:Key->Value->Bool
 | .inl k,v=>Value.isInt k v
 | .inr x,v=>Value.isStrOf x v
noncomputable def y45(w:World):Key->Int
 | .inl k=>hashInt k
 | .inr x=>hashStr w x
theorem P1:∀{k:Key}{v:Value},W6 k v=true->(∃i t,k=Sum.inl i/\v=Value.int i t)\/(∃x t,k=Sum.inr x/\v=Value.str x t)
 | .inl i,v,h=>by obtain⟨t,e⟩:=Value.isInt_shape (k:=i) (v:=v) h;exact .inl ⟨i,t,rfl,e⟩
 | .inr x,v,h=>by obtain⟨t,e⟩:=Value.isStrOf_shape (x:=x) (v:=v) h;exact .inr ⟨x,t,rfl,e⟩
theorem yW(i:Int)(t:Tok):W6 (.inl i) (.int i t)=true:=by simp[W6,Value.isInt]
theorem yV(x:Str)(t:Tok):W6 (.inr x) (.str x t)=true:=by simp[W6,Value.isStrOf]
theorem qE(a b:Int):decide ((Sum.inl a:Key)=Sum.inl b)=(a==b):=by
 by_cases e:a=b
 . subst e;simp
 . have h:¬(Sum.inl a:Key)=Sum.inl b:=fun q=>e (Sum.inl.inj q)
   rw[NO h];exact(beq_eq_false_iff_ne.mpr e).symm
theorem qC(a b:Str):decide ((Sum.inr a:Key)=Sum.inr b)=decide (a=b):=by
 by_cases e:a=b
 . subst e;simp
 . have h:¬(Sum.inr a:Key)=Sum.inr b:=fun q=>e (Sum.inr.inj q)
   rw[NO h,NO e]
theorem qB(a:Int)(b:Str):decide ((Sum.inl a:Key)=Sum.inr b)=false:=NO (fun q=>nomatch q)
theorem qA(a:Str)(b:Int):decide ((Sum.inr a:Key)=Sum.inl b)=false:=NO (fun q=>nomatch q)
def J9(prog:Program)(w:World):PySem.KeyKind prog w Key where
 is:=W6
 hash:=y45 w
 inj:=fun v a b ha hb=>by
  rcases P1 ha with⟨i,t,rfl,rfl⟩ |⟨x,t,rfl,rfl⟩
  . rcases P1 hb with⟨j,u,rfl,e⟩ |⟨y,u,rfl,e⟩
    . injection e with e1 _;rw[e1]
    . exact nomatch e
  . rcases P1 hb with⟨j,u,rfl,e⟩ |⟨y,u,rfl,e⟩
    . exact nomatch e
    . injection e with e1 _;rw[e1]
 byValue:=fun k v h=>by rcases P1 h with⟨i,t,rfl,rfl⟩ |⟨x,t,rfl,rfl⟩<;>rfl
 pyHash:=fun hv h=>by
  rcases P1 hv with⟨i,t,rfl,rfl⟩ |⟨x,t,rfl,rfl⟩
  . exact wpAny_pyHash_int h
  . exact wpAny_pyHash_str h
 eqBool:=fun hu hv h=>by
  rcases P1 hu with⟨i,t,rfl,rfl⟩ |⟨x,t,rfl,rfl⟩
  . rcases P1 hv with⟨j,u,rfl,rfl⟩ |⟨y,u,rfl,rfl⟩
    . rw[qE]at h;exact wpAny_eqBool_int h
    . rw[qB]at h;exact SeqAt.EqAt.int_str i t y u _ _ _ _ h
  . rcases P1 hv with⟨j,u,rfl,rfl⟩ |⟨y,u,rfl,rfl⟩
    . rw[qA]at h;exact SeqAt.EqAt.str_int x t j u _ _ _ _ h
    . rw[qC]at h;exact wpAny_eqBool_str h
 «strs»:=fun k x t v h=>by
  rcases P1 h with⟨i,u,rfl,e⟩ |⟨y,u,rfl,e⟩
  . exact nomatch e
  . injection e with e1 _;subst e1;cases v<;>rfl
theorem zK(prog:Program)(w:World)(i:Int)(t:Tok):(J9 prog w).is (.inl i) (.int i t)=true:=yW i t
theorem zJ(prog:Program)(w:World)(x:Str)(t:Tok):(J9 prog w).is (.inr x) (.str x t)=true:=yV x t
inductive V where
 |non |bl (b:Bool) |int (i:Int) |str (x:Str) |byt (b:Array UInt8) |flt (b:UInt64) |ref (a:Addr) |ty (n:String)
 deriving DecidableEq
def RelV:V->Value->Prop
 | .non,u=>u=Value.none
 | .bl b,u=>u=Value.bool b
 | .int i,u=>∃t,u=Value.int i t
 | .str x,u=>∃t,u=Value.str x t
 | .byt b,u=>∃t,u=Value.bytes b t
 | .flt b,u=>∃t,u=Value.float b t
 | .ref a,u=>u=Value.ref a
 | .ty n,u=>u=Value.type n
abbrev Vals:List V->List Value->Prop:=Paired RelV
theorem Vals.length(r:Vals xs us):xs.length=us.length:=Paired.length r
theorem Vals.get:∀{xs:List V}{us:List Value}{i:Nat}{x:V},Vals xs us->xs[i]?=some x->∃u,us[i]?=some u/\RelV x u
 |_,_,_,_,.nil,e=>by simp at e
 |_,_,0,_,.cons r _,e=>by simp at e;subst e;exact⟨_,rfl,r⟩
 |_,_,i+1,x,.cons _ t,e=>by obtain⟨u,h1,h2⟩:=Vals.get (i:=i) (x:=x) t (by simpa using e);exact⟨u,by simpa using h1,h2⟩
theorem Vals.set(r:RelV x u):∀{xs:List V}{us:List Value}(i:Nat),Vals xs us->Vals (xs.set i x) (us.set i u)
 |_,_,_,.nil=>.nil
 |_,_,0,.cons _ t=>.cons r t
 |_,_,i+1,.cons q t=>.cons q (Vals.set r i t)
theorem Vals.append:∀{xs ys:List V}{us ws:List Value},Vals xs us->Vals ys ws->Vals (xs++ys) (us++ws)
 |_,_,_,_,.nil,s=>s
 |_,_,_,_,.cons r t,s=>.cons r (Vals.append t s)
theorem Vals.take:∀{xs:List V}{us:List Value}(n:Nat),Vals xs us->Vals (xs.take n) (us.take n)
 |_,_,0,_=>.nil
 |_,_,_+1,.nil=>.nil
 |_,_,n+1,.cons r t=>.cons r (Vals.take n t)
theorem Vals.drop:∀{xs:List V}{us:List Value}(n:Nat),Vals xs us->Vals (xs.drop n) (us.drop n)
 |_,_,0,r=>r
 |_,_,_+1,.nil=>.nil
 |_,_,n+1,.cons _ t=>Vals.drop n t
def RelO:Option V->Option Value->Prop
 |some v,some u=>RelV v u
 |none,none=>True
 |_,_=>False
def KV{κ:Type}:List (κ×V)->List (κ×Value)->Prop:=Paired fun (p:κ×V)(q:κ×Value)=>p.1=q.1/\RelV p.2 q.2
noncomputable def kV:Key->V
 | .inl i=>.int i
 | .inr x=>.str x
def IsTp(h:Heap)(a:Addr)(its:Array Value):Prop:=∃o,h.get? a=some o/\o.cls=.type "tuple"/\(∃n,o.data=.seq its n)/\o.dict=none
theorem IsTp.tup(p:IsTp h a its):IsTup h a its:=by obtain⟨o,e,c,d,_⟩:=p;exact⟨o,e,c,d⟩
theorem IsTp.lt(p:IsTp h a its):a<h.objs.size:=by obtain⟨o,e,_⟩:=p;exact Φ e
theorem IsTp.mk'(e:h.get? a=some { cls:=.type "tuple",data:=.seq its n,slots:=sl }):IsTp h a its:=⟨_,e,rfl,⟨n,rfl⟩,rfl⟩
inductive HO where
 /-- a list -/
 |lst (xs:List V)
 /-- a tuple (never changes) -/
 |tup (xs:List V)
 /-- a dict whose keys are ints and texts;one whose keys are tuples of ints and texts (the empty one is both) -/
 |dK (kvs:List (Key×V)) |dT (kvs:List (List Key×V))
 /-- a set of ints: its members,its size -/
 |set (S:Int->Bool) (n:Nat)
 /-- an instance of the class at C,its dict at dx,its attributes -/
 |ins (C dx:Addr) (fs:List (Str×V))
 /-- the dict of the instance at x -/
 |own (x:Addr)
 /-- the dict of an exception -/
 |xd (fs:List (Str×V))
 /-- a bound method,f of x -/
 |met (f x:Addr)
 /-- a range object lo,lo+1,.. below hi -/
 |rng (lo hi:Int)
 /-- a thing that is known to the object (the script;a dict while a loop walks it): read,never written while it is so -/
 |frz (o:Obj) (u:HO)
 /-- a code object's table -/
 |tbl (ps:Array Value)
 /-- the table of a def that makes lambdas,all of the qualname q -/
 |ctb (q:Str)
 /-- any other thing,by what is true of its one object (a def of one's own: SetO a S n:=HO.ext fun h=>..) -/
 |ext (φ:Heap->Prop)
abbrev Hp:=Addr->Option HO
noncomputable def upd(H:Hp)(a:Addr)(o:HO):Hp:=fun b=>if b=a then some o else H b
theorem t9:upd H a o a=some o:=by unfold upd;rw[ξ rfl]
theorem i6(h:b≠a):upd H a o b=H b:=by unfold upd;rw[ψ h]
theorem z5{H:Hp}{a b:Addr}{o:HO}(h:H a=some o)(h':H b=none):a≠b:=by intro e;subst e;rw[h]at h';cases h'
section
variable (P:Program)(w:World)
def ObjOk(H:Hp)(h:Heap)(a:Addr):HO->Prop
 | .lst xs=>xs.length<=sizeLine/\∃(its:List Value)(n:Nat),Vals xs its/\h.get? a=some { cls:=.type "list",data:=.seq its.toArray n }
 | .tup xs=>xs.length<=sizeLine/\∃its:List Value,Vals xs its/\IsTp h a its.toArray
 | .dK kvs=>kvs.length<=sizeLine/\(a==sysModules)=false/\∃vs,KV kvs vs/\h.DictOf (J9 P w) a vs
 | .dT kvs=>kvs.length<=sizeLine/\(a==sysModules)=false/\∃xs:List (List Key×Addr×Value),
  Paired (fun (p:List Key×V)(q:List Key×Addr×Value)=>p.1=q.1/\H q.2.1=some (.tup (p.1.map kV))/\RelV p.2 q.2.2) kvs xs /\
  ∃o es ep,h.get? a=some o/\o.ExactDict/\o.data=.dict es ep/\es.toList=xs.map (entryOfKey (tupleKind (J9 P w)))/\(xs.map (·.1)).Nodup
 | .set S n=>h.SetOf (intKind P w) a S n
 | .ins C dx fs=>H dx=some (.own a)/\fs.length<=1000/\dx≠a/\h.get? a=some (PySem.W.instObj C dx) /\
  ∃mA,h.Ns1 dx mA/\(∀f,RelO (fs.lookup f) (mA f))/\PySem.Within mA (fs.map (·.1))
 | .own _=>∃o,h.get? a=some o
 | .xd fs=>∃mA,h.Ns1 a mA/\∀f,RelO (fs.lookup f) (mA f)
 | .rng lo hi=>∃t u v,h.get? a=some { cls:=.type "range",data:=.fields #[.int lo t,.int hi u,.int 1 v] }
 | .frz o u=>h.get? a=some o/\ObjOk H h a u
 | .tbl ps=>h.get? a=some { cls:=.none,data:=.fields ps }
 | .ctb q=>∃ps:Array Value,h.get? a=some { cls:=.none,data:=.fields ps }/\TriplesOk ps.toList/\∀(pos:Pos)(v:Value),codeAmong pos ps.toList=some v->∃c,v=.ref c/\H c=some (.own a)/\h.CodeRec (.ref c) q
 | .met f x=>h.get? a=some (PySem.W.methodObj (.ref f) (.ref x))
 | .ext φ=>φ h/\(∃o,h.get? a=some o)/\∀h1 h2:Heap,φ h1->(∀o,h1.get? a=some o->h2.get? a=some o)->φ h2
def HOk(H:Hp)(h:Heap):Prop:=∀a o,H a=some o->ObjOk P w H h a o
end
section
variable {P:Program}{w:World}{H H':Hp}{h h':Heap}{a:Addr}{o:HO}
theorem ObjOk.lt(x:ObjOk P w H h a o):a<h.objs.size:=by
 cases o with
 |lst xs=>obtain⟨_,_,_,_,e⟩:=x;exact Φ e
 |tup xs=>obtain⟨_,_,_,p⟩:=x;exact p.lt
 |dK kvs=>obtain⟨_,_,_,_,o,_,_,e,_⟩:=x;exact Φ e
 |dT kvs=>obtain⟨_,_,_,_,o,_,_,e,_⟩:=x;exact Φ e
 |set S n=>obtain⟨o,_,_,_,e,_⟩:=x;exact Φ e
 |ins C dx fs=>obtain⟨_,_,_,e,_⟩:=x;exact Φ e
 |own y=>obtain⟨_,e⟩:=x;exact Φ e
 |xd fs=>obtain⟨_,⟨_,_,_,e,_⟩,_⟩:=x;exact Φ e
 |rng lo hi=>obtain⟨_,_,_,e⟩:=x;exact Φ e
 |frz ob u=>obtain⟨e,_⟩:=x;exact Φ e
 |tbl ps=>exact Φ (show h.get? a=some _ from x)
 |ctb q=>obtain⟨_,e,_⟩:=x;exact Φ e
 |met f y=>exact Φ (show h.get? a=some _ from x)
 |ext φ=>obtain⟨_,⟨_,e⟩,_⟩:=x;exact Φ e
theorem Paired.mapP:∀{lr:List α}{lu:List β},Paired F lr lu->(∀a b,F a b->G a b)->Paired G lr lu
 |_,_,.nil,_=>.nil
 |_,_,.cons r t,f=>.cons (f _ _ r) (Paired.mapP t f)
theorem ObjOk.stay(x:ObjOk P w H h a o)(k:∀b u,(b=a\/H b=some (.own a))->h.get? b=some u->h'.get? b=some u)
  (ho:∀b,H b=some (.own a)->H' b=some (.own a)) (ht:∀b xs,H b=some (.tup xs)->H' b=some (.tup xs)):ObjOk P w H' h' a o:=by
 induction o with
 |lst xs=>obtain⟨z,its,n,r,e⟩:=x;exact⟨z,its,n,r,k _ _ (.inl rfl) e⟩
 |tup xs=>obtain⟨z,its,r,ob,e,c⟩:=x;exact⟨z,its,r,ob,k _ _ (.inl rfl) e,c⟩
 |dK kvs=>obtain⟨z,y,vs,r,ob,es,ep,e,c⟩:=x;exact⟨z,y,vs,r,ob,es,ep,k _ _ (.inl rfl) e,c⟩
 |dT kvs=>
  obtain⟨z,y,xs,r,ob,es,ep,e,c⟩:=x
  exact⟨z,y,xs,Paired.mapP r fun p q z=>⟨z.1,ht _ _ z.2.1,z.2.2⟩,ob,es,ep,k _ _ (.inl rfl) e,c⟩
 |set S n=>obtain⟨ob,es,ep,t,e,c⟩:=x;exact⟨ob,es,ep,t,k _ _ (.inl rfl) e,c⟩
 |ins C dx fs=>
  obtain⟨d,z,ne,e,mA,⟨od,es,ep,e2,c⟩,r⟩:=x
  exact⟨ho _ d,z,ne,k _ _ (.inl rfl) e,mA,⟨od,es,ep,k _ _ (.inr d) e2,c⟩,r⟩
 |own y=>obtain⟨ob,e⟩:=x;exact⟨ob,k _ _ (.inl rfl) e⟩
 |xd fs=>obtain⟨mA,⟨od,es,ep,e,c⟩,r⟩:=x;exact⟨mA,⟨od,es,ep,k _ _ (.inl rfl) e,c⟩,r⟩
 |rng lo hi=>obtain⟨t,u,v,e⟩:=x;exact⟨t,u,v,k _ _ (.inl rfl) e⟩
 |frz ob u ih=>obtain⟨e,q⟩:=x;exact⟨k _ _ (.inl rfl) e,ih q⟩
 |tbl ps=>
  have e:h.get? a=some { cls:=.none,data:=.fields ps }:=x
  show h'.get? a=some { cls:=.none,data:=.fields ps }
  exact k a _ (.inl rfl) e
 |ctb q=>
  obtain⟨ps,e,t,c⟩:=x
  refine⟨ps,k _ _ (.inl rfl) e,t,fun pos v hb=>?_⟩
  obtain⟨b,rfl,z,c2,oc,vs,tq,e1,e2,e3⟩:=c pos v hb
  cases e1
  exact⟨b,rfl,ho _ z,b,oc,vs,tq,rfl,k _ _ (.inr z) e2,e3⟩
 |met f y=>
  have e:h.get? a=some (PySem.W.methodObj (.ref f) (.ref y)):=x
  show h'.get? a=some (PySem.W.methodObj (.ref f) (.ref y))
  exact k a _ (.inl rfl) e
 |ext φ=>obtain⟨p,⟨o,e⟩,st⟩:=x;exact⟨st _ _ p fun o q=>k _ _ (.inl rfl) q,⟨o,k _ _ (.inl rfl) e⟩,st⟩
theorem HOk.lt(x:HOk P w H h)(e:H a=some o):a<h.objs.size:=(x a o e).lt
theorem HOk.fresh(x:HOk P w H h)(e:h.objs.size<=a):H a=none:=by
 cases q:H a with
 |none=>rfl
 |some u=>exact absurd (NH (x.lt q) e) (PB _)
theorem HOk.kept(x:HOk P w H h)(k:∀b u,h.get? b=some u->h'.get? b=some u):HOk P w H h':=fun a o e=>
 (x a o e).stay (fun b u _ q=>k b u q) (fun _ q=>q) fun _ _ q=>q
theorem HOk.laid(x:HOk P w H h)(k:∀b u,h.get? b=some u->h'.get? b=some u)(hp:h.objs.size<=a)(new:ObjOk P w (upd H a o) h' a o):HOk P w (upd H a o) h':=fun b u e=>by
 have hn:=x.fresh hp;by_cases hb:b=a
 . subst hb;rw[t9]at e;cases e;exact new
 . rw[i6 hb]at e;exact(x b u e).stay (fun c v _ q=>k c v q) (fun c q=>by rw[i6 (z5 q hn)];exact q) fun c xs q=>by rw[i6 (z5 q hn)];exact q
end
def Rd(H:Hp)(a:Addr)(u:HO):Prop:=H a=some u\/∃o,H a=some (.frz o u)
theorem Rd.of(h:H a=some u):Rd H a u:=.inl h
theorem Rd.ok(r:Rd H a u)(x:HOk P w H h):ObjOk P w H h a u:=by
 rcases r with r |⟨o,r⟩
 . exact x a u r
 . obtain⟨_,q⟩:=x a _ r;exact q
def Mut:Option HO->Prop
 |some (.lst _)=>True
 |some (.dK _)=>True
 |some (.dT _)=>True
 |some (.set _ _)=>True
 |some (.ins _ _ _)=>True
 |some (.ext _)=>True
 |_=>False
section
variable {P:Program}{w:World}{H:Hp}{h h':Heap}{x e:Addr}{o':HO}
theorem HOk.write(ok:HOk P w H h)(mu:Mut (H x))(he:e=x\/H e=some (.own x))(k:∀b u,b≠e->h.get? b=some u->h'.get? b=some u)(fK:∃u,h'.get? e=some u)
  (new:ObjOk P w (upd H x o') h' x o'):HOk P w (upd H x o') h':=fun b u q=>by
 have lv:∀c y,H c=some (.own y)->c≠x:=fun c y r z=>by subst z;rw[r]at mu;exact mu
 have oR:∀c xs,H c=some (.tup xs)->c≠x:=fun c xs r z=>by subst z;rw[r]at mu;exact mu
 by_cases hb:b=x
 . subst hb;rw[t9]at q;cases q;exact new
 . rw[i6 hb]at q;by_cases fj:b=e
   . have q':H b=some (.own x):=by
      rcases he with z |z
      . exact absurd (fj.trans z) hb
      . rw[fj];exact z
     rw[q]at q';cases q'
     obtain⟨v,hv⟩:=fK
     exact⟨v,by rw[fj];exact hv⟩
   . refine(ok b u q).stay (fun c v hc r=>k c v ?_ r) (fun c r=>by rw[i6 (lv c b r)];exact r) fun c xs r=>by rw[i6 (oR c xs r)];exact r
     rcases hc with rfl |hc
     . exact fj
     . rintro rfl;rcases he with z |z
       . exact lv c b hc z
       . rw[hc]at z;cases z;exact hb rfl
end
structure Un(fs ex:List Addr)(H H':Hp)(h h':Heap):Prop where
 keep:∀b o,h.get? b=some o->H b=none->b∉fs->b∉ex->h'.get? b=some o
 slot:∀b o,h.get? b=some o->H b=none->b∈fs->b∉ex->∃sl,h'.get? b=some { o with slots:=sl }
 free:∀b o,h.get? b=some o->H b=none->b∉ex->H' b=none
 there:∀b o,h.get? b=some o->b∉ex->∃o',h'.get? b=some o'
 tups:∀b xs,H b=some (.tup xs)->H' b=some (.tup xs)
 frzs:∀b o u,H b=some (.frz o u)->H' b=some (.frz o u)
 tbls:∀b ps,H b=some (.tbl ps)->∃more,H' b=some (.tbl (ps++more))
section
variable {fs ex:List Addr}{H H1 H2:Hp}{h h1 h2 h':Heap}{a x e:Addr}{o:HO}
theorem Un.any(u:Un fs ex H H1 h h1)(q:h.get? b=some ob)(n:H b=none)(hx:b∉ex):∃sl,h1.get? b=some { ob with slots:=sl }:=by
 by_cases hb:b∈fs
 . exact u.slot b ob q n hb hx
 . exact⟨ob.slots,u.keep b ob q n hb hx⟩
theorem Un.trans(a:Un fs ex H H1 h h1)(b:Un fs ex H1 H2 h1 h2):Un fs ex H H2 h h2 where
 keep:=fun c ob q n hc hx=>b.keep c ob (a.keep c ob q n hc hx) (a.free c ob q n hx) hc hx
 slot:=fun c ob q n hc hx=>by obtain⟨sl,e1⟩:=a.slot c ob q n hc hx;obtain⟨mR,e2⟩:=b.slot c _ e1 (a.free c ob q n hx) hc hx;exact⟨mR,e2⟩
 free:=fun c ob q n hx=>by obtain⟨o',e1⟩:=a.there c ob q hx;exact b.free c o' e1 (a.free c ob q n hx) hx
 there:=fun c ob q hx=>by obtain⟨o',e1⟩:=a.there c ob q hx;exact b.there c o' e1 hx
 tups:=fun c xs q=>b.tups c xs (a.tups c xs q)
 frzs:=fun c ob xs q=>b.frzs c ob xs (a.frzs c ob xs q)
 tbls:=fun c ps q=>by obtain⟨m1,e1⟩:=a.tbls c ps q;obtain⟨m2,e2⟩:=b.tbls c _ e1;exact⟨m1++m2,by rw[e2,Array.append_assoc]⟩
theorem Un.kept(k:∀b u,h.get? b=some u->h'.get? b=some u):Un fs ex H H h h':=
 ⟨fun b ob q _ _ _=>k b ob q,fun b ob q _ _ _=>⟨ob.slots,k b ob q⟩,fun _ _ _ n _=>n,fun b ob q _=>⟨ob,k b ob q⟩,fun _ _ q=>q,fun _ _ _ q=>q,fun _ ps q=>⟨#[],by rw[q];simp⟩⟩
theorem Un.refl:Un fs ex H H h h:=Un.kept fun _ _ q=>q
theorem Un.laid(k:∀b u,h.get? b=some u->h'.get? b=some u)(hp:h.objs.size<=a)(hn:H a=none):Un fs ex H (upd H a o) h h' where
 keep:=fun b u q _ _ _=>k b u q
 slot:=fun b u q _ _ _=>⟨u.slots,k b u q⟩
 free:=fun b u q n _=>by rw[i6 (NI (NH (Φ q) hp))];exact n
 there:=fun b u q _=>⟨u,k b u q⟩
 tups:=fun b xs q=>by rw[i6 (z5 q hn)];exact q
 frzs:=fun b u xs q=>by rw[i6 (z5 q hn)];exact q
 tbls:=fun b ps q=>⟨#[],by rw[i6 (z5 q hn),q];simp⟩
theorem Un.write(mu:Mut (H x))(he:e=x\/H e=some (.own x))(k:∀b u,b≠e->h.get? b=some u->h'.get? b=some u)(fK:∃u,h'.get? e=some u):Un fs ex H (upd H x o) h h':=by
 have hx:∀b,H b=none->b≠x:=fun b n z=>by subst z;rw[n]at mu;exact mu
 have hb:∀b,H b=none->b≠e:=fun b n z=>by
  subst z;rcases he with r |r
  . exact hx b n r
  . rw[n]at r;cases r
 have hm:∀b u,H b=some u->¬Mut (some u)->b≠x:=fun b u q nm z=>by subst z;rw[q]at mu;exact nm mu
 refine⟨fun b u q n _ _=>k b u (hb b n) q,fun b u q n _ _=>⟨u.slots,k b u (hb b n) q⟩,fun b u q n _=>by rw[i6 (hx b n)];exact n,fun b u q _=>?_,
  fun b xs q=>by rw[i6 (hm b _ q fun z=>z)];exact q,fun b u xs q=>by rw[i6 (hm b _ q fun z=>z)];exact q,fun b ps q=>⟨#[],by rw[i6 (hm b _ q fun z=>z),q];simp⟩⟩
 by_cases fj:b=e
 . subst fj;exact fK
 . exact⟨u,k b u fj q⟩
end
noncomputable def trk(h:Heap)(H:Hp):List Addr:=(List.range h.objs.size).filter fun a=>(H a).isSome
def N5(h:Heap)(H:Hp):Heap:=hideAll h (trk h H)
theorem yU(h:Heap)(H:Hp):(N5 h H).objs.size=h.objs.size:=PySem.W.hideAll_size _ _
theorem yf(e:h.get? b=some o)(n:H b=none):(N5 h H).get? b=some o:=
 hideAll_get _ e fun hm=>by have q:(H b).isSome=true:=(List.mem_filter.mp hm).2;rw[n]at q;simp at q
theorem wB(e:(N5 h H).get? b=some o):h.get? b=some o/\H b=none:=by
 have e':h.get? b=some o:=of_hideAll (trk h H) e;refine⟨e',?_⟩;cases q:H b with
 |none=>rfl
 |some x=>
  have hm:b∈trk h H:=List.mem_filter.mpr ⟨OE.mpr (Φ e'),by simp[q]⟩
  have z:(N5 h H).get? b=none:=hideAll_none (trk h H) hm
  rw[z]at e;cases e
noncomputable def Cj(g h:Heap)(L:Addr):List (Addr×Obj):=(List.range h.objs.size).filterMap fun a=>if a=L\/(g.get? a).isSome=true then none else(h.get? a).map fun o=>(a,o)
theorem zI(h1:a≠L)(h2:g.get? a=none)(h3:h.get? a=some o):(a,o)∈Cj g h L:=
 PX.mpr ⟨a,OE.mpr (Φ h3),by simp[h1,h2,h3]⟩
theorem z80(hp:p∈Cj g h L):p.1≠L/\g.get? p.1=none/\h.get? p.1=some p.2:=by
 obtain⟨b,_,e⟩:=PX.mp hp;split at e
 . cases e
 . rename_i hn;cases q:h.get? b with
   |none=>rw[q]at e;simp at e
   |some u=>
    rw[q]at e
    simp only[NV,Option.some.injEq]at e
    subst e
    refine⟨fun z=>hn (.inl z),?_,q⟩
    show g.get? b=none
    cases r:g.get? b with
    |none=>rfl
    |some v=>exact(hn (.inr (by simp[r]))).elim
def rest(g h:Heap)(L d:Addr):List (Addr×Obj):=(Cj g h L).filter fun p=>decide (p.1≠d)
theorem T4:News g L h (Cj g h L):=fun p hp=>let ⟨a,b,c⟩:=z80 hp;⟨c,a,b⟩
structure Mod(K:Frag)(mg:Str->Option Value)(base:Heap):Prop where
 kin:K.In base
 glob:base.Ns mainGlobals mg
 blt:∃mb,base.Ns builtinsNs mb/\∀x:Str,x≠"__name__"->mb x=bootBuiltins x
 nolimit:base.NoLimit
structure Cx where
 prog:Program
 w:World
 K:Frag
 mg:Str->Option Value
 base:Heap
 A:Around
 N:List Str
 s₀:Shared
 H₀:Hp
 env:Env
 outer:List Env
 stack:List Env
 ex:List Addr
 fn:Str->Bool
 calm:Bool
 pn:List (Addr×Obj)
 xe:Value->Shared->Prop
noncomputable def frs(l:List Env):List Addr:=l.filterMap (·.frame)
abbrev Cx.fs(X:Cx):List Addr:=frs X.outer
def Vis(sc:Scope)(x:Str):Prop:=sc.names.lookup x=some .local\/sc.names.lookup x=some .cell\/sc.names.lookup x=some .free
def Loc(sc:Scope)(x:Str):Prop:=sc.names.lookup x=some .local\/sc.names.lookup x=some .cell
def y46(env:Env)(h:Heap)(m:Str->Option Value)(x:Str)(u:Value):Prop:=
 (env.kindOf x=some .local/\m x=some u)\/((env.kindOf x=some .cell\/env.kindOf x=some .free)/\∃c,env.cells.lookup x=some c/\h.IsCell c (some u))
structure Cx.Ok(X:Cx):Prop where
 mod:Mod X.K X.mg X.base
 kind:X.env.scope.kind=.function
 glob:X.env.globals=mainGlobals
 blt:X.env.builtins=builtinsNs
 above:X.s₀.heap.objs.size<=X.env.locals
 inj:∀x y c,X.env.cells.lookup x=some c->X.env.cells.lookup y=some c->x=y
 has:∀x,(X.env.kindOf x=some .cell\/X.env.kindOf x=some .free)->∃c,X.env.cells.lookup x=some c
 cab:∀x c,X.fn x=true->X.env.cells.lookup x=some c->X.s₀.heap.objs.size<=c
 hd:X.calm=true->X.A.handled=none
 frames:X.A.frames=some X.stack
 stk:X.stack=X.outer\/(X.stack=X.env::X.outer/\X.env.frame=some X.env.locals)
 exf:∀b∈X.ex,b≠X.env.locals/\∀x c,X.env.cells.lookup x=some c->c≠b
 bs:∀b o,X.base.get? b=some o->X.s₀.heap.get? b=some o/\X.H₀ b=none
 bsz:X.base.objs.size<=X.s₀.heap.objs.size
 noex:∀b o,X.base.get? b=some o->b∉X.ex
 exfs:∀b∈X.ex,b∉X.fs
 funs:X.s₀.heap.FunFrames X.base X.outer
 frf:∀b∈X.fs,X.H₀ b=none
structure Inv(X:Cx)(pins:List (Addr×Obj))(U:List (Option V))(H:Hp)(s:Shared):Prop where
 ok:X.Ok
 os:s.os=X.s₀.os
 bare:AllBare s.gens
 base:Un X.fs X.ex X.H₀ H X.s₀.heap s.heap
 loc:∃m,s.heap.Ns X.env.locals m/\∀(i:Nat)(x:Str)(v:V),X.N[i]?=some x->U[i]?=some (some v)->Vis X.env.scope x->∃u,RelV v u/\y46 X.env s.heap m x u
 cell:∀x c,X.env.cells.lookup x=some c->∃v,s.heap.IsCell c v
 free:H X.env.locals=none
 freeC:∀x c,X.env.cells.lookup x=some c->H c=none
 pin:∀p∈X.pn++pins,s.heap.get? p.1=some p.2/\H p.1=none/\p.1≠X.env.locals/\p.1∉X.fs/\∀v,p.2.data≠.cell v
 hok:HOk X.prog X.w H s.heap
 len:U.length=X.N.length
section
variable {X:Cx}{pins:List (Addr×Obj)}{U:List (Option V)}{H H':Hp}{s:Shared}{h':Heap}
theorem Cx.Ok.nofr(ok:X.Ok)(e:X.base.get? b=some o):b∉X.fs:=fun hb=>by have:=(ok.funs.mem hb).1;rw[e]at this;cases this
theorem Inv.bs(I:Inv X pins U H s):∀b o,X.base.get? b=some o->s.heap.get? b=some o/\H b=none:=fun b o e=>
 ⟨I.base.keep b o (I.ok.bs b o e).1 (I.ok.bs b o e).2 (I.ok.nofr e) (I.ok.noex b o e),I.base.free b o (I.ok.bs b o e).1 (I.ok.bs b o e).2 (I.ok.noex b o e)⟩
theorem Inv.bk(I:Inv X pins U H s):∀b o,X.base.get? b=some o->s.heap.get? b=some o:=fun b o e=>(I.bs b o e).1
theorem Inv.mod(I:Inv X pins U H s):Mod X.K X.mg X.base:=I.ok.mod
theorem Inv.kIn(I:Inv X pins U H s):X.K.In s.heap:=I.ok.mod.kin.keeps I.bk
theorem Inv.lt(I:Inv X pins U H s):X.env.locals<s.heap.objs.size:=let ⟨_,hn,_⟩:=I.loc;hn.lt
theorem Inv.sz(I:Inv X pins U H s):X.s₀.heap.objs.size<=s.heap.objs.size:=KM I.ok.above (QQ I.lt)
theorem Inv.nofs(I:Inv X pins U H s)(h:s.heap.objs.size<=a):a∉X.fs:=fun hb=>by obtain⟨_,o,ho,_⟩:=I.ok.funs.mem hb;exact absurd (NH (Φ ho) (KM I.sz h)) (PB _)
theorem Inv.cne(I:Inv X pins U H s):∀x c,X.env.cells.lookup x=some c->c≠X.env.locals:=fun x c e z=>by obtain⟨v,o,ho,hd⟩:=I.cell x c e;obtain⟨m,⟨o',es,ep,aS,bW,_⟩,_⟩:=I.loc;rw[z,aS]at ho;cases ho;rw[bW]at hd;cases hd
theorem Inv.funs(I:Inv X pins U H s):s.heap.FunFrames X.base X.outer:=by
 have all:∀(l:List Env),(∀b∈frs l,b∈X.fs)->X.s₀.heap.FunFrames X.base l->s.heap.FunFrames X.base l:=by
  intro l;induction l with
  |nil=>intro _ _;trivial
  |cons env r ih=>
   intro hs hl
   obtain⟨hk,⟨L,o,hf,hn,ho,hd⟩,hr⟩:=hl
   have hL:L∈X.fs:=hs L (by unfold frs;rw[PL,hf];exact NN)
   obtain⟨sl,e⟩:=I.base.slot L o ho (I.ok.frf L hL) hL fun z=>I.ok.exfs L z hL
   exact⟨hk,⟨L,_,hf,hn,e,hd⟩,ih (fun b hb=>hs b (by unfold frs;rw[PL,hf];exact IR _ hb)) hr⟩
 exact all X.outer (fun _ hb=>hb) I.ok.funs
theorem Inv.stack(I:Inv X pins U H s):s.heap.FunFrames X.base X.stack:=by
 rcases I.ok.stk with e |⟨e,hf⟩
 . rw[e];exact I.funs
 . rw[e];obtain⟨m,hn,_⟩:=I.loc;refine .cons (by rw[I.ok.kind];decide) hf hn ?_ I.funs;exact SJ (KM I.ok.bsz I.ok.above)
theorem Inv.stkSub(I:Inv X pins U H s):∀b∈frs X.stack,b∈X.env.locals::X.fs:=fun b hb=>by
 rcases I.ok.stk with e |⟨e,hf⟩
 . rw[e]at hb;exact IR _ hb
 . rw[e]at hb;unfold frs at hb;rw[PL,hf]at hb;exact hb
theorem Inv.stkFree(I:Inv X pins U H s):∀b∈frs X.stack,H b=none:=fun b hb=>by
 rcases tB.mp (I.stkSub b hb) with e |hb
 . rw[e];exact I.free
 . obtain⟨_,o,ho,_⟩:=I.ok.funs.mem hb;exact I.base.free b o ho (I.ok.frf b hb) fun z=>I.ok.exfs b z hb
theorem Inv.step{g':Array GenState}{t':Nat}{d':Drawn}{ch:List Addr}(I:Inv X pins U H s)
  (cK:∀b∈ch,(b∈X.ex\/X.s₀.heap.objs.size<=b)/\b≠X.env.locals/\(∀x c,X.env.cells.lookup x=some c->c≠b)/\∀p∈X.pn++pins,p.1≠b)
  (keep:∀b o,b≠X.env.locals->b∉X.fs->b∉ch->s.heap.get? b=some o->H b=none->h'.get? b=some o)
  (slot:∀b o,b≠X.env.locals->b∈X.fs->b∉ch->s.heap.get? b=some o->H b=none->∃sl,h'.get? b=some { o with slots:=sl }) (free:∀b o,b∉ch->s.heap.get? b=some o->H b=none->H' b=none)
  (there:∀b o,b∉ch->s.heap.get? b=some o->∃o',h'.get? b=some o')
  (tups:∀b xs,H b=some (.tup xs)->H' b=some (.tup xs)) (frzs:∀b o u,H b=some (.frz o u)->H' b=some (.frz o u)) (tbls:∀b ps,H b=some (.tbl ps)->∃more,H' b=some (.tbl (ps++more)))
  (ns:∀m,s.heap.Ns X.env.locals m->h'.Ns X.env.locals m) (hok:HOk X.prog X.w H' h') (hg:AllBare g') :
  Inv X pins U H' { s with heap:=h',gens:=g',drawn:=d',toks:=t' }:=by
 have eP:∀b o,X.s₀.heap.get? b=some o->b≠X.env.locals:=fun b o e=>NI (NH (Φ e) I.ok.above)
 have iq:∀b o,X.s₀.heap.get? b=some o->b∉X.ex->b∉ch:=fun b o e hx hb=>by
  rcases (cK b hb).1 with z |z
  . exact hx z
  . exact absurd (NH (Φ e) z) (PB _)
 have fX:∀x c,X.env.cells.lookup x=some c->∀v,s.heap.IsCell c v->h'.IsCell c v:=fun x c e v ⟨o,ho,hd⟩=>by
  have gu:c∉ch:=fun z=>(cK c z).2.2.1 x c e rfl
  by_cases hc:c∈X.fs
  . obtain⟨sl,q⟩:=slot c o (I.cne x c e) hc gu ho (I.freeC x c e);exact⟨_,q,hd⟩
  . exact⟨o,keep c o (I.cne x c e) hc gu ho (I.freeC x c e),hd⟩
 refine⟨I.ok,I.os,hg,⟨fun b o e n hb hx=>?_,fun b o e n hb hx=>?_,fun b o e n hx=>?_,fun b o e hx=>?_,fun b xs e=>tups b xs (I.base.tups b xs e),fun b o xs e=>frzs b o xs (I.base.frzs b o xs e),fun b ps e=>?_⟩,?_,fun x c e=>?_,?_,fun x c e=>?_,fun p hp=>?_,hok,I.len⟩
 . exact keep b o (eP b o e) hb (iq b o e hx) (I.base.keep b o e n hb hx) (I.base.free b o e n hx)
 . obtain⟨sl,e1⟩:=I.base.slot b o e n hb hx;obtain⟨mR,e2⟩:=slot b _ (eP b o e) hb (iq b o e hx) e1 (I.base.free b o e n hx);exact⟨mR,e2⟩
 . obtain⟨o',e1⟩:=I.base.there b o e hx;exact free b o' (iq b o e hx) e1 (I.base.free b o e n hx)
 . obtain⟨o',e1⟩:=I.base.there b o e hx;exact there b o' (iq b o e hx) e1
 . obtain⟨m1,e1⟩:=I.base.tbls b ps e;obtain⟨m2,e2⟩:=tbls b _ e1;exact⟨m1++m2,by rw[e2,Array.append_assoc]⟩
 . obtain⟨m,hn,hl⟩:=I.loc;refine⟨m,ns m hn,fun i x v e1 e2 e3=>?_⟩;obtain⟨u,r,l⟩:=hl i x v e1 e2 e3;refine⟨u,r,?_⟩;rcases l with l |⟨k,c,e,z⟩
   . exact .inl l
   . exact .inr ⟨k,c,e,fX x c e _ z⟩
 . obtain⟨v,z⟩:=I.cell x c e;exact⟨v,fX x c e v z⟩
 . obtain⟨m,⟨o,_,_,ho,_⟩,_⟩:=I.loc;exact free _ o (fun z=>(cK _ z).2.1 rfl) ho I.free
 . obtain⟨v,o,ho,hd⟩:=I.cell x c e;exact free c o (fun z=>(cK c z).2.2.1 x c e rfl) ho (I.freeC x c e)
 . obtain⟨e,n,ne,nf,d⟩:=I.pin p hp;have gu:p.1∉ch:=fun z=>(cK p.1 z).2.2.2 p hp rfl
   exact⟨keep p.1 p.2 ne nf gu e n,free p.1 p.2 gu e n,ne,nf,d⟩
theorem Inv.un(I:Inv X pins U H s)(u:Un X.fs [] H H' s.heap h')(hok:HOk X.prog X.w H' h'):Inv X pins U H' { s with heap:=h',toks:=t' }:=by obtain⟨m,⟨o,es,ep,ho,r⟩,_⟩:=id I.loc;obtain⟨sl,hL⟩:=u.any ho I.free (by simp);exact I.step (g':=s.gens) (d':=s.drawn) (ch:=[]) (fun _ z=>nomatch z) (fun b o _ hb _ e n=>u.keep b o e n hb (by simp)) (fun b o _ hb _ e n=>u.slot b o e n hb (by simp)) (fun b o _ e n=>u.free b o e n (by simp)) (fun b o _ e=>u.there b o e (by simp)) u.tups u.frzs u.tbls (fun m' hm=>by obtain⟨o',gw,gx,aS,r'⟩:=hm;rw[ho]at aS;cases aS;exact⟨_,gw,gx,hL,r'⟩) hok I.bare
theorem Inv.call(I:Inv X pins U H s)(u:Un (frs X.stack) ch H H' s.heap h')(hok:HOk X.prog X.w H' h')(hg:AllBare g')
  (cK:∀b∈ch,(b∈X.ex\/X.s₀.heap.objs.size<=b)/\b≠X.env.locals/\(∀x c,X.env.cells.lookup x=some c->c≠b)/\∀p∈X.pn++pins,p.1≠b) :
  Inv X pins U H' { s with heap:=h',gens:=g',drawn:=d',toks:=t' }:=by
 obtain⟨m,⟨o,es,ep,ho,r⟩,_⟩:=id I.loc
 obtain⟨sl,hL⟩:=u.any ho I.free fun z=>(cK _ z).2.1 rfl
 exact I.step (ch:=ch) cK (fun b o hL hb hc e n=>u.keep b o e n (fun z=>(tB.mp (I.stkSub b z)).elim hL hb) hc) (fun b o _ _ hc e n=>u.any e n hc) (fun b o hc e n=>u.free b o e n hc) (fun b o hc e=>u.there b o e hc) u.tups u.frzs u.tbls (fun m' hm=>by obtain⟨o',gw,gx,aS,r'⟩:=hm;rw[ho]at aS;cases aS;exact⟨_,gw,gx,hL,r'⟩) hok hg
theorem Inv.turned(I:Inv X pins U H s)(k:∀b o,b≠it->s.heap.get? b=some o->h'.get? b=some o)(hn:H it=none)(hL:it≠X.env.locals)
  (h1:it∈X.ex\/X.s₀.heap.objs.size<=it) (h2:∀x c,X.env.cells.lookup x=some c->c≠it) (h3:∀p∈X.pn++pins,p.1≠it):Inv X pins U H { s with heap:=h',toks:=t' }:=by
 have uR:∀b u,H b=some u->b≠it:=fun b u e z=>by rw[z,hn]at e;cases e
 refine I.step (g':=s.gens) (d':=s.drawn) (ch:=[it]) (fun b hb=>?_) (fun b o _ _ hc e _=>k b o (fun z=>hc (by simp[z])) e) (fun b o _ _ hc e _=>⟨o.slots,k b o (fun z=>hc (by simp[z])) e⟩) (fun _ _ _ _ n=>n)
  (fun b o hc e=>⟨o,k b o (fun z=>hc (by simp[z])) e⟩) (fun _ _ e=>e) (fun _ _ _ e=>e) (fun b ps e=>⟨#[],by rw[e];simp⟩) (fun m hm=>?_) (fun b u e=>?_) I.bare
 . have e:b=it:=by simpa using hb
   subst e;exact⟨h1,hL,h2,h3⟩
 . obtain⟨o,es,ep,ho,r⟩:=hm;exact⟨o,es,ep,k _ o (PN hL) ho,r⟩
 . refine(I.hok b u e).stay (fun c v hc q=>k c v ?_ q) (fun _ q=>q) fun _ _ q=>q
   rcases hc with z |z
   . rw[z];exact uR b u e
   . exact uR c _ z
theorem Inv.tok(I:Inv X pins U H s)(t:Nat):Inv X pins U H { s with toks:=t }:=I.un (h':=s.heap) (t':=t) Un.refl I.hok
theorem Inv.kept(I:Inv X pins U H s)(k:∀b u,s.heap.get? b=some u->h'.get? b=some u):Inv X pins U H { s with heap:=h',toks:=t' }:=I.un (Un.kept k) (I.hok.kept k)
theorem Inv.laid(I:Inv X pins U H s)(k:∀b u,s.heap.get? b=some u->h'.get? b=some u)(hp:s.heap.objs.size<=a)(new:ObjOk X.prog X.w (upd H a o) h' a o) :
 Inv X pins U (upd H a o) { s with heap:=h',toks:=t' }:=I.un (Un.laid k hp (I.hok.fresh hp)) (I.hok.laid k hp new)
theorem Inv.write(I:Inv X pins U H s)(mu:Mut (H x))(he:e=x\/H e=some (.own x))(k:∀b u,b≠e->s.heap.get? b=some u->h'.get? b=some u)(fK:∃u,h'.get? e=some u)
 (new:ObjOk X.prog X.w (upd H x o) h' x o):Inv X pins U (upd H x o) { s with heap:=h',toks:=t' }:=I.un (Un.write mu he k fK) (I.hok.write mu he k fK new)
theorem Inv.pins_of(I:Inv X pins U H s)(h:∀p∈mG,s.heap.get? p.1=some p.2/\H p.1=none/\p.1≠X.env.locals/\p.1∉X.fs/\∀v,p.2.data≠.cell v):Inv X mG U H s:=
 ⟨I.ok,I.os,I.bare,I.base,I.loc,I.cell,I.free,I.freeC,fun p hp=>(OF.mp hp).elim (fun z=>I.pin p (RK _ z)) (h p),I.hok,I.len⟩
theorem Lk{N:List Str}(hN:N.Nodup){i j:Nat}{x:Str}(a:N[i]?=some x)(b:N[j]?=some x):i=j:=by obtain⟨h1,e1⟩:=NW.mp a;obtain⟨h2,e2⟩:=NW.mp b;exact(List.getElem_inj hN).mp (e1.trans e2.symm)
theorem Vt(I:Inv X pins U H s)(hN:X.N.Nodup)(hi:X.N[i]?=some x)(hx:Loc X.env.scope x)(r:RelV v u)
  (h:∀s',Inv X pins (U.set i (some v)) H s'->(∃a,Heap.SameBut a s.heap s'.heap/\(a=X.env.locals\/X.env.cells.lookup x=some a))->Q () s') (hf:X.fn x=true\/X.env.scope.names.lookup x=some .local):wpAny M A (storeName X.env x u) Q E s:=by
 obtain⟨m,hn,hl⟩:=id I.loc
 have eI:(X.env.scope.kind==.class||(X.env.scope.kind==.module&&X.env.locals != X.env.globals))=false:=by rw[I.ok.kind];rfl
 have lw:i<U.length:=by rw[I.len];exact(NW.mp hi).1
 have cne:=I.cne
 have eE:∀{a:Addr}{h':Heap},(∃o,s.heap.get? a=some o/\H a=none)->Heap.SameBut a s.heap h'->HOk X.prog X.w H h':=fun {a h'} ha hs b ob e=>by
  obtain⟨_,_,fY⟩:=ha;refine(I.hok b ob e).stay (fun c w' hc q=>(hs.2 c ?_).trans q) (fun _ q=>q) fun _ _ q=>q
  rintro rfl;rcases hc with rfl |hc
  . rw[fY]at e;cases e
  . rw[fY]at hc;cases hc
 rcases hx with hk |hk
 . refine wpAny_storeName_local hk hn (fun h' mS hs=>?_) eI;obtain⟨oL,_,_,gy,_⟩:=id hn;refine h _ ⟨I.ok,I.os,I.bare,⟨fun b o e n hb hx=>?_,fun b o e n hb hx=>?_,I.base.free,fun b o e hx=>?_,I.base.tups,I.base.frzs,I.base.tbls⟩,⟨_,mS,fun j y v' e1 e2 e3=>?_⟩,fun y c e=>?_,I.free,I.freeC,fun p hp=>?_,eE ⟨oL,gy,I.free⟩ hs,by simpa using I.len⟩ ⟨_,hs,.inl rfl⟩
   . exact(hs.2 b (NI (NH (Φ e) I.ok.above))).trans (I.base.keep b o e n hb hx)
   . obtain⟨sl,e1⟩:=I.base.slot b o e n hb hx;exact⟨sl,(hs.2 b (NI (NH (Φ e) I.ok.above))).trans e1⟩
   . obtain⟨o',e1⟩:=I.base.there b o e hx;exact⟨o',(hs.2 b (NI (NH (Φ e) I.ok.above))).trans e1⟩
   . by_cases hj:j=i
     . subst hj;rw[hi]at e1;cases e1;rw[PH lw]at e2;cases e2;exact⟨u,r,.inl ⟨hk,by simp⟩⟩
     . rw[OJ (PN hj)]at e2;obtain⟨u',r',q⟩:=hl j y v' e1 e2 e3;refine⟨u',r',?_⟩;rcases q with⟨k,e⟩ |⟨k,c,e,z⟩
       . refine .inl ⟨k,?_⟩;have:y≠x:=fun e=>hj (Lk hN e1 (e ▸ hi))
         simp[this,e]
       . exact .inr ⟨k,c,e,z.sameBut hs (cne y c e)⟩
   . obtain⟨w',z⟩:=I.cell y c e;exact⟨w',z.sameBut hs (cne y c e)⟩
   . obtain⟨e,n,ne,nf,d⟩:=I.pin p hp;exact⟨(hs.2 p.1 ne).trans e,n,ne,nf,d⟩
 . have gA:X.fn x=true:=by
    rcases hf with z |z
    . exact z
    . rw[z]at hk;cases hk
   obtain⟨c,hc⟩:=I.ok.has x (.inl hk)
   obtain⟨w',z⟩:=I.cell x c hc
   refine wpAny_storeName_cell I.ok.kind hk hc z (fun h' aT hs=>?_)
   obtain⟨oc,fL,oS⟩:=id z
   refine h { s with heap:=h' } ⟨I.ok,I.os,I.bare,⟨fun b o e n hb hx=>?_,fun b o e n hb hx=>?_,I.base.free,fun b o e hx=>?_,I.base.tups,I.base.frzs,I.base.tbls⟩,⟨m,hn.sameBut hs (PN (cne x c hc)),fun j y v' e1 e2 e3=>?_⟩,fun y c' e=>?_,I.free,I.freeC,fun p hp=>?_,eE ⟨oc,fL,I.freeC x c hc⟩ hs,by simpa using I.len⟩ ⟨c,hs,.inr hc⟩
   . exact(hs.2 b (NI (NH (Φ e) (I.ok.cab x c gA hc)))).trans (I.base.keep b o e n hb hx)
   . obtain⟨sl,e1⟩:=I.base.slot b o e n hb hx;exact⟨sl,(hs.2 b (NI (NH (Φ e) (I.ok.cab x c gA hc)))).trans e1⟩
   . obtain⟨o',e1⟩:=I.base.there b o e hx;exact⟨o',(hs.2 b (NI (NH (Φ e) (I.ok.cab x c gA hc)))).trans e1⟩
   . by_cases hj:j=i
     . subst hj;rw[hi]at e1;cases e1;rw[PH lw]at e2;cases e2;exact⟨u,r,.inr ⟨.inl hk,c,hc,aT⟩⟩
     . rw[OJ (PN hj)]at e2;obtain⟨u',r',q⟩:=hl j y v' e1 e2 e3;refine⟨u',r',?_⟩;rcases q with q |⟨k,c',e,z'⟩
       . exact .inl q
       . refine .inr ⟨k,c',e,z'.sameBut hs ?_⟩;rintro rfl;exact hj (Lk hN e1 (I.ok.inj _ _ _ e hc ▸ hi))
   . by_cases dD:c'=c
     . subst dD;exact⟨_,aT⟩
     . obtain⟨w2,z2⟩:=I.cell y c' e;exact⟨w2,z2.sameBut hs dD⟩
   . obtain⟨e,n,ne,nf,d⟩:=I.pin p hp;refine⟨(hs.2 p.1 ?_).trans e,n,ne,nf,d⟩;intro q;rw[q,fL]at e;have q':oc=p.2:=Option.some.inj e;exact d w' (by rw[<-q'];exact oS)
theorem Fc(I:Inv X pins U H s)(hN:X.N.Nodup)(hi:X.N[i]?=some x)(hx:Loc X.env.scope x)(r:RelV v u)
  (h:∀s',Inv X pins (U.set i (some v)) H s'->Q () s') (hf:X.fn x=true\/X.env.scope.names.lookup x=some .local):wpAny M A (storeName X.env x u) Q E s:=
 Vt I hN hi hx r (fun s' I' _=>h s' I') hf
theorem Inv.call'(I:Inv X pins U H s)(ho:s'.os=s.os)(u:Un (frs X.stack) ch H H' s.heap s'.heap)(hok:HOk X.prog X.w H' s'.heap)(hg:AllBare s'.gens)
  (cK:∀b∈ch,(b∈X.ex\/X.s₀.heap.objs.size<=b)/\b≠X.env.locals/\(∀x c,X.env.cells.lookup x=some c->c≠b)/\∀p∈X.pn++pins,p.1≠b):Inv X pins U H' s':=by
 obtain⟨h',g',d',t',o'⟩:=s'
 have e:o'=s.os:=ho
 subst e
 exact I.call (g':=g') (t':=t') (d':=d') u hok hg cK
end
abbrev XK:=Value->Option Addr->Hp->Prop
abbrev St:=List (Option V)
abbrev VK:=V->Hp->Prop
abbrev TE:=St->Hp->VK->Prop
abbrev TT:=St->Hp->(Bool->Hp->Prop)->Prop
abbrev TA:=St->Hp->(List V->Hp->Prop)->Prop
structure Ends where
 nx:St->Hp->Prop
 rt:VK
 bk:St->Hp->Prop:=fun _ _=>False
 ct:St->Hp->Prop:=fun _ _=>False
abbrev TS:=Ends->St->Hp->Prop
def EP(X:Cx)(pins:List (Addr×Obj))(U:St)(Q:VK)(u:Value)(s':Shared):Prop:=∃v H',Inv X pins U H' s'/\RelV v u/\Q v H'
def TP(X:Cx)(pins:List (Addr×Obj))(U:St)(Q:Bool->Hp->Prop)(b:Bool)(s':Shared):Prop:=∃H',Inv X pins U H' s'/\Q b H'
def AP(X:Cx)(pins:List (Addr×Obj))(U:St)(Q:List V->Hp->Prop)(us:List Value)(s':Shared):Prop:=∃vs H',Inv X pins U H' s'/\Vals vs us/\Q vs H'
def SP(X:Cx)(pins:List (Addr×Obj))(D:Ends)(f:Flow)(s':Shared):Prop:=
 match f with
 | .next=>∃af H',Inv X pins af H' s'/\D.nx af H'
 | .brk=>∃af H',Inv X pins af H' s'/\D.bk af H'
 | .cont=>∃af H',Inv X pins af H' s'/\D.ct af H'
 | .ret u=>∃v af H',Inv X pins af H' s'/\RelV v u/\D.rt v H'
def PE(X:Cx)(e:Expr)(t:TE):Prop:=
 ∀(pins:List (Addr×Obj))(s:Shared)(U:St)(H:Hp)(Q:VK),Inv X pins U H s->t U H Q->wpAny (model X.prog X.w) X.A (eval e X.env) (EP X pins U Q) X.xe s
def PT(X:Cx)(e:Expr)(t:TT):Prop:=
 ∀(pins:List (Addr×Obj))(s:Shared)(U:St)(H:Hp)(Q:Bool->Hp->Prop),Inv X pins U H s->t U H Q->wpAny (model X.prog X.w) X.A (isTrue e X.env (eval e X.env)) (TP X pins U Q) X.xe s
def PW(X:Cx)(e:Expr)(t:TT):Prop:=
 ∀(whole:Sem Value)(pins:List (Addr×Obj))(s:Shared)(U:St)(H:Hp)(Q:Bool->Hp->Prop),Inv X pins U H s->t U H Q->wpAny (model X.prog X.w) X.A (isTrue e X.env whole) (TP X pins U Q) X.xe s
theorem PW.pt(h:PW X e t):PT X e t:=h _
def PA(X:Cx)(es:List Expr)(t:TA):Prop:=
 ∀(pos:Pos)(pins:List (Addr×Obj))(s:Shared)(U:St)(H:Hp)(Q:List V->Hp->Prop),Inv X pins U H s->t U H Q->wpAny (model X.prog X.w) X.A (spliced (backTo pos (starEach es X.env))) (AP X pins U Q) X.xe s
def PS(X:Cx)(st:Stmt)(t:TS):Prop:=
 ∀(pins:List (Addr×Obj))(s:Shared)(U:St)(H:Hp)(D:Ends),Inv X pins U H s->t D U H->wpAny (model X.prog X.w) X.A (exec st X.env) (SP X pins D) X.xe s
def PSs(X:Cx)(st:List Stmt)(t:TS):Prop:=
 ∀(pins:List (Addr×Obj))(s:Shared)(U:St)(H:Hp)(D:Ends),Inv X pins U H s->t D U H->wpAny (model X.prog X.w) X.A (execs st X.env) (SP X pins D) X.xe s
theorem thn(h:wpAny M A t Q E s)(hQ:∀a s,Q a s->Q' a s):wpAny M A t Q' E s:=OG h hQ fun _ _ x=>x
section
variable {X:Cx}
theorem bin{a b:Expr}{ta tb:TE}(ha:PE X a ta)(hb:PE X b tb){pins:List (Addr×Obj)}{s:Shared}{U:St}{H:Hp}{R:V->V->Hp->Prop}(I:Inv X pins U H s)(h:ta U H fun x H1=>tb U H1 fun y H2=>R x y H2)
  {α:Type} {Q:α->Shared->Prop} {f:Value->Value->Sem α}
  (hf:∀v u s2 x y H2,Inv X pins U H2 s2->RelV x v->RelV y u->R x y H2->wpAny (model X.prog X.w) X.A (f v u) Q X.xe s2) :
  wpAny (model X.prog X.w) X.A (eval a X.env) (fun v ae=>wpAny (model X.prog X.w) X.A (eval b X.env) (fun u bQ=>wpAny (model X.prog X.w) X.A (f v u) Q X.xe bQ) X.xe ae) X.xe s:=by
 refine thn (ha pins s U H _ I h) fun v s1 ⟨x,H1,I1,r1,q1⟩=>?_
 refine thn (hb pins s1 U H1 _ I1 q1) fun u s2 ⟨y,H2,I2,r2,q2⟩=>?_
 exact hf v u s2 x y H2 I2 r1 r2 q2
noncomputable def Gf(i:Nat):TE:=fun U H Q=>∃v,U[i]?=some (some v)/\Q v H
noncomputable def tC(v:V):TE:=fun _ H Q=>Q v H
theorem Jr(hN:X.N[i]?=some x)(hv:Vis X.env.scope x)(hd:(x==("__debug__":Str))=false:=by decide)(br:(x==("__classdict__":Str))=false:=by decide):PE X (.Name x pos) (Gf i):=by
 intro pins s U H Q I h;obtain⟨v,e,h⟩:=h;obtain⟨m,hn,hl⟩:=I.loc;obtain⟨u,r,l⟩:=hl i x v hN e hv;have fin:EP X pins U Q u s:=⟨v,H,I,r,h⟩;rcases l with⟨hk,hm⟩ |⟨hk,c,hc,dU⟩
 . exact wpAny_Name (wpAny_loadName_local I.ok.kind hk hn hm fin) hd
 . rcases hk with hk |hk
   . exact wpAny_Name (wpAny_loadName_cell I.ok.kind hk hc dU fin) hd
   . exact wpAny_Name (wpAny_loadName_free I.ok.kind hk hc dU fin br) hd
theorem pe_int:PE X (.Constant (.int i) j pos) (tC (.int i)):=fun _ _ _ H _ I h=>wpAny_Constant_int ⟨.int i,H,I.tok _,⟨_,rfl⟩,h⟩
theorem pe_bl:PE X (.Constant (.bool b) j pos) (tC (.bl b)):=fun _ _ _ H _ I h=>Constant_bool ⟨.bl b,H,I,rfl,h⟩
theorem pe_non:PE X (.Constant .none j pos) (tC .non):=fun _ _ _ H _ I h=>Constant_none ⟨.non,H,I,rfl,h⟩
theorem pe_str:PE X (.Constant (.str x) j pos) (tC (.str x)):=fun _ _ _ H _ I h=>Calls.Constant_str ⟨.str x,H,I.tok _,⟨_,rfl⟩,h⟩
def Gl(X:Cx)(x:Str):Prop:=X.env.kindOf x=some .globalImplicit
theorem Ci(I:Inv X pins U H s)(hg:Gl X x)(hm:X.mg x=some u)(h:Q u s)
  (hd:(x==("__debug__":Str))=false:=by decide):wpAny (model X.prog X.w) X.A (eval (.Name x pos) X.env) Q E s:=
 Calls.Name_function_global I.ok.kind hg (Calls.loadGlobal_global (by rw[I.ok.glob];exact I.mod.glob.keeps I.bk) hm h) hd
theorem S9(I:Inv X pins U H s)(hg:Gl X x)(hm:X.mg x=none)(hv:bootBuiltins x=some u)(h:Q u s)
  (hn:x≠"__name__":=by decide) (hd:(x==("__debug__":Str))=false:=by decide):wpAny (model X.prog X.w) X.A (eval (.Name x pos) X.env) Q E s:=by
 obtain⟨mb,h1,h2⟩:=I.mod.blt
 exact Calls.Name_function_global I.ok.kind hg (Calls.loadGlobal_builtin (by rw[I.ok.glob];exact I.mod.glob.keeps I.bk) hm (by rw[I.ok.blt];exact h1.keeps I.bk) ((h2 x hn).trans hv) h) hd
theorem y9(hg:Gl X x)(hm:X.mg x=some u)(r:RelV v u)(hd:(x==("__debug__":Str))=false:=by decide):PE X (.Name x pos) (tC v):=
 fun _ _ _ H _ I h=>Ci I hg hm ⟨v,H,I,r,h⟩ hd
theorem O5(hg:Gl X x)(hm:X.mg x=none)(hv:bootBuiltins x=some u)(r:RelV v u)(hn:x≠"__name__":=by decide)(hd:(x==("__debug__":Str))=false:=by decide):PE X (.Name x pos) (tC v):=
 fun _ _ _ H _ I h=>S9 I hg hm hv ⟨v,H,I,r,h⟩ hn hd
variable {a b:Expr}{ta tb:TE}{pos:Pos}
variable {tA uS:TT}{rest:List Expr}
noncomputable def tOr(t u:TT):TT:=fun U H Q=>t U H fun c H1=>if c=true then Q true H1 else u U H1 Q
noncomputable def Yv(t:TT):TT:=fun U H Q=>t U H fun c H1=>Q (!c) H1
theorem qz(ha:PT X a tA):PW X (.BoolOp .Or [a] pos) tA:=by
 intro wh pins s U H Q I h;refine isTrue_or (thn (ha pins s U H Q I h) fun c s1 e=>?_);cases c with
 |false=>exact isTrue_or_nil e
 |true=>exact e
theorem Zr(ha:PT X a tA)(hb:PW X (.BoolOp .Or (b::rest) pos) uS):PW X (.BoolOp .Or (a::b::rest) pos) (tOr tA uS):=by
 intro wh pins s U H Q I h;refine isTrue_or (thn (ha pins s U H _ I h) fun c s1 ⟨H1,I1,q1⟩=>?_);cases c with
 |true=>exact⟨H1,I1,q1⟩
 |false=>exact hb wh pins s1 U H1 Q I1 q1
theorem qy(ha:PT X a tA):PT X (.UnaryOp .Not a pos) (Yv tA):=by intro pins s U H Q I h;exact isTrue_not (ha pins s U H (fun c H1=>Q (!c) H1) I h)
theorem qx(h:PE X a t):PE X (.BoolOp op [a] pos) t:=fun pins s U H Q I hw=>BoolOp_one (h pins s U H Q I hw)
noncomputable def tIf(t:TT)(ta tb:TE):TE:=fun U H Q=>t U H fun c H1=>if c=true then ta U H1 Q else tb U H1 Q
theorem ye(hc:PT X c tA)(ha:PE X a ta)(hb:PE X b tb):PE X (.IfExp c a b pos) (tIf tA ta tb):=by
 intro pins s U H Q I h;refine wpAny_IfExp (thn (hc pins s U H _ I h) fun d s1 ⟨H1,I1,q1⟩=>?_);cases d with
 |true=>exact ha pins s1 U H1 Q I1 q1
 |false=>exact hb pins s1 U H1 Q I1 q1
end
def SqL(K:Frag)(H:Hp)(a:Addr)(xs:List V):Prop:=
 Rd H a (.lst xs) \/
  ∃(o:Obj)(its:Array Value)(n:Nat),K.lookup a=some o/\o.cls=.type "list"/\o.dict=none/\o.data=.seq its n/\its.size<=sizeLine/\Vals xs its.toList
def SqT(K:Frag)(H:Hp)(a:Addr)(xs:List V):Prop:=
 Rd H a (.tup xs) \/
  ∃(o:Obj)(its:Array Value)(n:Nat),K.lookup a=some o/\o.cls=.type "tuple"/\o.data=.seq its n/\its.size<=sizeLine/\Vals xs its.toList
noncomputable def Yu:Value->Option V
 | .none=>some .non
 | .bool b=>some (.bl b)
 | .int i _=>some (.int i)
 | .str x _=>some (.str x)
 | .bytes b _=>some (.byt b)
 | .float b _=>some (.flt b)
 | .ref a=>some (.ref a)
 | .type n=>some (.ty n)
 |_=>none
theorem RelV.abs(r:RelV x u):Yu u=some x:=by
 cases x with
 |non=>cases r;rfl
 |bl _=>cases r;rfl
 |int _=>obtain⟨t,rfl⟩:=r;rfl
 |str _=>obtain⟨t,rfl⟩:=r;rfl
 |byt _=>obtain⟨t,rfl⟩:=r;rfl
 |flt _=>obtain⟨t,rfl⟩:=r;rfl
 |ref _=>cases r;rfl
 |ty _=>cases r;rfl
theorem RelV.inj(r:RelV x u)(q:RelV y u):x=y:=Option.some.inj (r.abs.symm.trans q.abs)
theorem Vals.inj:∀{xs ys:List V}{us:List Value},Vals xs us->Vals ys us->xs=ys
 |_,_,_,.nil,.nil=>rfl
 |_,_,_,.cons r t,.cons r' t'=>by rw[r.inj r',Vals.inj t t']
section
variable {X:Cx}{pins:List (Addr×Obj)}{U:St}{H:Hp}{s:Shared}{a:Addr}{xs ys:List V}
theorem SqL.of{K:Frag}(h:H a=some (.lst xs)):SqL K H a xs:=.inl (.inl h)
theorem SqT.of{K:Frag}(h:H a=some (.tup xs)):SqT K H a xs:=.inl (.inl h)
theorem Inv.list(I:Inv X pins U H s)(h:SqL X.K H a xs):∃its:List Value,Vals xs its/\PlainL s.heap a its.toArray/\xs.length<=sizeLine:=by
 rcases h with h |⟨o,its,n,hk,hc,hd,hs,hz,r⟩
 . obtain⟨z,its,n,r,e⟩:=h.ok I.hok;exact⟨its,r,⟨_,n,e,rfl,rfl,rfl⟩,z⟩
 . refine⟨its.toList,r,⟨o,n,I.kIn a o hk,hc,hd,by simpa using hs⟩,?_⟩;have e:=r.length;simp only[gc]at e
   lia
theorem Inv.tuple(I:Inv X pins U H s)(h:SqT X.K H a xs):∃its:List Value,Vals xs its/\IsTup s.heap a its.toArray/\xs.length<=sizeLine:=by
 rcases h with h |⟨o,its,n,hk,hc,hs,hz,r⟩
 . obtain⟨z,its,r,p⟩:=h.ok I.hok;exact⟨its,r,p.tup,z⟩
 . refine⟨its.toList,r,⟨o,I.kIn a o hk,hc,n,by simpa using hs⟩,?_⟩;have e:=r.length;simp only[gc]at e
   lia
theorem Inv.list_inj(I:Inv X pins U H s)(h:SqL X.K H a xs)(h':SqL X.K H a ys):xs=ys:=by
 obtain⟨its,r,⟨o,n,e,_,_,d⟩,_⟩:=I.list h;obtain⟨its',r',⟨o',n',e',_,_,d'⟩,_⟩:=I.list h';rw[e]at e';cases e';rw[d]at d';injection d' with d1 _;have:its=its':=by simpa using PZ Array.toList d1
 subst this;exact r.inj r'
theorem Inv.tuple_inj(I:Inv X pins U H s)(h:SqT X.K H a xs)(h':SqT X.K H a ys):xs=ys:=by
 obtain⟨its,r,⟨o,e,_,n,d⟩,_⟩:=I.tuple h;obtain⟨its',r',⟨o',e',_,n',d'⟩,_⟩:=I.tuple h';rw[e]at e';cases e';rw[d]at d';injection d' with d1 _;have:its=its':=by simpa using PZ Array.toList d1
 subst this;exact r.inj r'
end
abbrev Cx.wish(X:Cx)(E:Value->Shared->Prop):Cx:={ X with xe:=E }
abbrev Cx.nox(X:Cx):Cx:=X.wish fun _ _=>False
theorem Cx.Ok.wish{X:Cx}(ok:X.Ok)(E:Value->Shared->Prop):(X.wish E).Ok:=
 ⟨ok.mod,ok.kind,ok.glob,ok.blt,ok.above,ok.inj,ok.has,ok.cab,ok.hd,ok.frames,ok.stk,ok.exf,ok.bs,ok.bsz,ok.noex,ok.exfs,ok.funs,ok.frf⟩
theorem Cx.Ok.unwish{X:Cx}{E:Value->Shared->Prop}(ok:(X.wish E).Ok):X.Ok:=
 ⟨ok.mod,ok.kind,ok.glob,ok.blt,ok.above,ok.inj,ok.has,ok.cab,ok.hd,ok.frames,ok.stk,ok.exf,ok.bs,ok.bsz,ok.noex,ok.exfs,ok.funs,ok.frf⟩
section
variable {X:Cx}{pins:List (Addr×Obj)}{U:St}{H:Hp}{s:Shared}{E:Value->Shared->Prop}
theorem Inv.wish(I:Inv X pins U H s)(E:Value->Shared->Prop):Inv (X.wish E) pins U H s:=⟨I.ok.wish E,I.os,I.bare,I.base,I.loc,I.cell,I.free,I.freeC,I.pin,I.hok,I.len⟩
theorem Inv.unwish(I:Inv (X.wish E) pins U H s):Inv X pins U H s:=⟨I.ok.unwish,I.os,I.bare,I.base,I.loc,I.cell,I.free,I.freeC,I.pin,I.hok,I.len⟩
theorem SP.unwish(h:SP (X.wish E) pins D f s'):SP X pins D f s':=by
 cases f with
 |next=>obtain⟨af,H',I,q⟩:=h;exact⟨af,H',I.unwish,q⟩
 |brk=>obtain⟨af,H',I,q⟩:=h;exact⟨af,H',I.unwish,q⟩
 |cont=>obtain⟨af,H',I,q⟩:=h;exact⟨af,H',I.unwish,q⟩
 |ret u=>obtain⟨v,af,H',I,r,q⟩:=h;exact⟨v,af,H',I.unwish,r,q⟩
theorem PE.nox(h:PE X.nox e t):PE X e t:=fun pins s U H Q I hw=>
 OG (h pins s U H Q (I.wish _) hw) (fun _ _ ⟨v,H',I',r,q⟩=>⟨v,H',I'.unwish,r,q⟩) fun _ _ z=>False.elim z
theorem PT.nox(h:PT X.nox e t):PT X e t:=fun pins s U H Q I hw=>
 OG (h pins s U H Q (I.wish _) hw) (fun _ _ ⟨H',I',q⟩=>⟨H',I'.unwish,q⟩) fun _ _ z=>False.elim z
theorem PSs.nox{st:List Stmt}{t:TS}(h:PSs X.nox st t):PSs X st t:=fun pins s U H D I hw=>
 OG (h pins s U H D (I.wish _) hw) (fun _ _ q=>q.unwish) fun _ _ z=>False.elim z
end
section
variable {X:Cx}{st:Stmt}{rest:List Stmt}{t u:TS}{e:Expr}{te:TE}{pos:Pos}
noncomputable def Pb:TS:=fun D U H=>D.nx U H
noncomputable def Yt(t u:TS):TS:=fun D U H=>t { D with nx:=u D } U H
theorem pss_nil:PSs X [] Pb:=fun _ _ U H _ I h=>TC ⟨U,H,I,h⟩
theorem yd(h1:PS X st t)(h2:PSs X rest u):PSs X (st::rest) (Yt t u):=by
 intro pins s U H D I h;refine wpAny_execs_cons (thn (h1 pins s U H { D with nx:=u D } I h) fun f s1 q=>?_);cases f with
 |next=>
  obtain⟨af,H',I',q⟩:=q
  exact h2 pins s1 af H' D I' q
 |ret v=>exact q
 |brk=>exact q
 |cont=>exact q
theorem wA(h1:PS X st t):PSs X [st] t:=by
 intro pins s U H D I h;refine wpAny_execs_cons (thn (h1 pins s U H D I h) fun f s1 q=>?_);cases f with
 |next=>exact TC q
 |ret v=>exact q
 |brk=>exact q
 |cont=>exact q
theorem Inv.quiet(I:Inv X pins U H s):interactive X.env=false:=by simp[interactive,I.ok.kind]
noncomputable def Dt(te:TE):TS:=fun D U H=>te U H fun _ H1=>D.nx U H1
theorem Tk(he:PE X e te)(hs:swapsWith e none pos.line X.env=pure false:=by rfl):PS X (.Expr e pos) (Dt te):=by intro pins s U H D I h;exact wpAny_Expr_any (thn (he pins s U H _ I h) fun v s1 ⟨x,H1,I1,r1,q1⟩=>⟨U,H1,I1,q1⟩) I.quiet hs
noncomputable def Ge(te:TE):TS:=fun D U H=>te U H D.rt
theorem Qz(he:PE X e te):PS X (.Return (some e) pos) (Ge te):=by intro pins s U H D I h;exact wpAny_Return_some (thn (he pins s U H _ I h) fun v s1 ⟨x,H1,I1,r1,q1⟩=>⟨x,U,H1,I1,r1,q1⟩)
noncomputable def Ys(c:TT)(t u:TS):TS:=fun D U H=>c U H fun b H1=>if b=true then t D U H1 else u D U H1
theorem Zq(hc:PT X c tc)(ha:PSs X a t)(hb:PSs X b u):PS X (.If c a b pos) (Ys tc t u):=by
 intro pins s U H D I h;refine wpAny_If (thn (hc pins s U H _ I h) fun d s1 ⟨H1,I1,q1⟩=>?_);cases d with
 |true=>exact ha pins s1 U H1 D I1 q1
 |false=>exact hb pins s1 U H1 D I1 q1
end
abbrev TG:=V->St->Hp->(St->Hp->Prop)->Prop
abbrev TGs:=List V->St->Hp->(St->Hp->Prop)->Prop
def PG(X:Cx)(target:Expr)(t:TG):Prop:=
 ∀(pins:List (Addr×Obj))(s:Shared)(U:St)(H:Hp)(v:V)(u:Value)(Q:St->Hp->Prop),Inv X pins U H s->RelV v u->t v U H Q ->
  wpAny (model X.prog X.w) X.A (assign target X.env u) (fun _ s'=>∃af H',Inv X pins af H' s'/\Q af H') X.xe s
def PGs(X:Cx)(ts:List Expr)(t:TGs):Prop:=
 ∀(pins:List (Addr×Obj))(s:Shared)(U:St)(H:Hp)(vs:List V)(us:List Value)(Q:St->Hp->Prop),Inv X pins U H s->Vals vs us->t vs U H Q ->
  wpAny (model X.prog X.w) X.A (assignInOrder ((assignEach ts X.env).map (·.2)) us) (fun _ s'=>∃af H',Inv X pins af H' s'/\Q af H') X.xe s
abbrev Bb:=V->V->V->Hp->(Hp->Prop)->Prop
def Yr(X:Cx)(t:Bb):Prop:=
 ∀(pins:List (Addr×Obj))(s:Shared)(U:St)(H:Hp)(o i v:V)(ov iv u:Value)(Q:Hp->Prop),Inv X pins U H s->RelV o ov->RelV i iv->RelV v u->t o i v H Q ->
  wpAny (model X.prog X.w) X.A (setItem ov iv u) (fun _ s'=>∃H',Inv X pins U H' s'/\Q H') X.xe s
abbrev TIp:=V->V->Hp->VK->Prop
def PIp(X:Cx)(op:Operator)(t:TIp):Prop:=
 ∀(pins:List (Addr×Obj))(s:Shared)(U:St)(H:Hp)(x y:V)(v u:Value)(Q:VK),Inv X pins U H s->RelV x v->RelV y u->t x y H Q ->
  wpAny (model X.prog X.w) X.A (inplaceOp op v u) (EP X pins U Q) X.xe s
section
variable {X:Cx}{pos:Pos}
noncomputable def D2(i:Nat):TG:=fun v U H Q=>Q (U.set i (some v)) H
theorem Kv(hN:X.N.Nodup)(hi:X.N[i]?=some x)(hx:Loc X.env.scope x)(hf:X.fn x=true\/X.env.scope.names.lookup x=some .local):PG X (.Name x pos) (D2 i):=by intro pins s U H v u Q I r h;exact wpAny_assign_Name (Fc I hN hi hx r (fun s' I'=>⟨_,H,I',h⟩) hf)
noncomputable def Gc:TGs:=fun vs U H Q=>vs=[]/\Q U H
noncomputable def Bn(t:TG)(u:TGs):TGs:=fun vs U H Q=>∃v r,vs=v::r/\t v U H fun af H'=>u r af H' Q
theorem pgs_nil:PGs X [] Gc:=by intro pins s U H vs us Q I r h;obtain⟨e,h⟩:=h;subst e;cases r;exact assignInOrder_nil ⟨U,H,I,h⟩
theorem Lj(h1:PG X e t)(h2:PGs X es u)
  (hs:(assignEach (e::es) X.env).map (·.2)=assign e X.env::(assignEach es X.env).map (·.2):=by rfl):PGs X (e::es) (Bn t u):=by
 intro pins s U H vs us Q I r h
 obtain⟨v,vr,e1,h⟩:=h
 subst e1
 cases r with
 |cons r rr=>
  rw[hs]
  refine assignInOrder_cons (thn (h1 pins s U H _ _ _ I r h) fun _ s1 ⟨fM,H1,I1,q1⟩=>?_)
  exact h2 pins s1 fM H1 _ _ Q I1 rr q1
noncomputable def Gb(K:Frag)(n:Nat)(t:TGs):TG:=fun v U H Q=>∃a xs,v=.ref a/\SqT K H a xs/\xs.length=n/\t xs U H Q
theorem Qy(hc:X.calm=true)(h:PGs X es t)
  (hn:(assignEach es X.env).length=n:=by rfl) (aL:(assignEach es X.env).findIdx? (·.1)=none:=by rfl):PG X (.Tuple es k pos) (Gb X.K n t):=by
 intro pins s U H v u Q I r hw
 obtain⟨a,xs,e1,hq,hl,hw⟩:=hw
 subst e1
 cases r
 obtain⟨its,rv,ht,hz⟩:=I.tuple hq
 refine assign_Tuple_tuple (I.ok.hd hc) ht (by simp[hn,<-hl,rv.length]) aL fun h' hx=>?_
 have I1:Inv X pins U H { s with heap:=h' }:=I.kept (t':=s.toks) fun b o e=>hx b o (NI (Φ e)) e
 exact h pins _ U H xs _ Q I1 (by simpa using rv) hw
noncomputable def Ga(to ti:TE)(t:Bb):TG:=fun v U H Q=>to U H fun o H1=>ti U H1 fun i H2=>t o i v H2 fun H3=>Q U H3
theorem qw(ho:PE X o to)(hi:PE X i ti)(hs:Yr X t)
  (ha:∀v,assign (.Subscript o i pos) X.env v=(do
   let ov <-holding [v] (eval o X.env)
   let iv <-holding [v,ov] (eval i X.env)
   standAt pos
   holding [v,ov,iv] (setItem ov iv v)
   release [v,ov,iv] []):=by intro _;rfl):PG X (.Subscript o i pos) (Ga to ti t):=by
 intro pins s U H v u Q I r h
 rw[ha]
 refine χ (NZ (thn (ho pins s U H _ I h) fun ov s1 ⟨x,H1,I1,r1,q1⟩=>?_))
 refine χ (NZ (thn (hi pins s1 U H1 _ I1 q1) fun iv s2 ⟨y,H2,I2,r2,q2⟩=>?_))
 refine χ (wpAny_standAt (χ (NZ (thn (hs pins s2 U H2 x y v ov iv u _ I2 r1 r2 r q2) fun _ s3 ⟨H3,I3,q3⟩=>?_))))
 exact wpAny_release ⟨U,H3,I3,q3⟩
noncomputable def N4(te:TE)(g:TG):TS:=fun D U H=>te U H fun x H1=>g x U H1 D.nx
theorem qu(he:PE X e te)(hg:PG X tg g)(hs:swapsWithSole [tg] e pos.line X.env=pure false:=by rfl)(hw:swappedStores [tg] e X.env=pure none:=by rfl)
  (h1:(assignEach [tg] X.env).map (·.2)=[assign tg X.env]:=by rfl):PS X (.Assign [tg] e pos) (N4 te g):=by
 intro pins s U H D I h
 refine wpAny_Assign_stores (thn (he pins s U H _ I h) fun v s1 ⟨x,H1,I1,r1,q1⟩=>?_) hs hw
 rw[h1]
 exact thn (hg pins s1 U H1 x v _ I1 r1 q1) fun _ s2 q=>q
theorem qt(hN:X.N.Nodup)(hi:X.N[i]?=some x)(hx:Loc X.env.scope x)(he:PE X e te)(hs:swapsWith e (some (.Name x cH)) pos.line X.env=pure false:=by rfl)(hf:X.fn x=true\/X.env.scope.names.lookup x=some .local) :
  PS X (.Assign [.Name x cH] e pos) (N4 te (D2 i)):=by
 intro pins s U H D I h
 refine wpAny_Assign_Name (thn (he pins s U H _ I h) fun v s1 ⟨y,H1,I1,r1,q1⟩=>?_) hs
 exact Fc I1 hN hi hx r1 (fun s2 I2=>⟨_,H1,I2,q1⟩) hf
noncomputable def Yq(i:Nat)(te:TE)(ti:TIp):TS:=fun D U H=>∃x,U[i]?=some (some x)/\te U H fun y H1=>ti x y H1 fun z H2=>D.nx (U.set i (some z)) H2
theorem qr(hN:X.N.Nodup)(hi:X.N[i]?=some x)(hx:Loc X.env.scope x)(he:PE X e te)(ho:PIp X op ti)(hf:X.fn x=true\/X.env.scope.names.lookup x=some .local:=by first |exact .inl rfl |exact .inr rfl |assumption) :
  PS X (.AugAssign (.Name x cH) op e pos) (Yq i te ti):=by
 intro pins s U H D I h
 obtain⟨v,e1,h⟩:=h
 obtain⟨m,hn,hl⟩:=I.loc
 have vis:Vis X.env.scope x:=by rcases hx with k |k;exact .inl k;exact .inr (.inl k)
 obtain⟨u,r,l⟩:=hl i x v hi e1 vis
 refine wpAny_AugAssign_Name ?_
 have go:wpAny (model X.prog X.w) X.A (eval e X.env) (fun w bQ=>wpAny (model X.prog X.w) X.A (inplaceOp op u w) (fun r ax=>wpAny (model X.prog X.w) X.A (storeName X.env x r) (fun _=>SP X pins D .next) X.xe ax) X.xe bQ) X.xe s:=by
  refine thn (he pins s U H _ I h) fun w s1 ⟨y,H1,I1,r1,q1⟩=>?_
  refine thn (ho pins s1 U H1 v y u w _ I1 r r1 q1) fun z s2 ⟨zv,H2,I2,r2,q2⟩=>?_
  exact Fc I2 hN hi hx r2 (fun s3 I3=>⟨_,H2,I3,q2⟩) hf
 rcases l with⟨hk,hm⟩ |⟨hk,c,hc,dU⟩
 . exact wpAny_loadName_local I.ok.kind hk hn hm go
 . rcases hk with hk |hk
   . exact wpAny_loadName_cell I.ok.kind hk hc dU go
   . rcases hx with k |k
     . have:X.env.scope.names.lookup x=some .free:=hk;rw[k]at this;cases this
     . have:X.env.scope.names.lookup x=some .free:=hk;rw[k]at this;cases this
noncomputable def ipI(f:Int->Int->Int):TIp:=fun x y H Q=>∃i j,x=.int i/\y=.int j/\Q (.int (f i j)) H
theorem qq:PIp X .Add (ipI fun i j=>i+j):=by intro pins s U H x y v u Q I r1 r2 h;obtain⟨i,j,e1,e2,q⟩:=h;subst e1;subst e2;obtain⟨t,rfl⟩:=r1;obtain⟨t',rfl⟩:=r2;exact iadd_int ⟨.int _,H,I.tok _,⟨_,rfl⟩,q⟩
theorem qp:PIp X .Sub (ipI fun i j=>i - j):=by intro pins s U H x y v u Q I r1 r2 h;obtain⟨i,j,e1,e2,q⟩:=h;subst e1;subst e2;obtain⟨t,rfl⟩:=r1;obtain⟨t',rfl⟩:=r2;exact isub_int ⟨.int _,H,I.tok _,⟨_,rfl⟩,q⟩
end
section
variable {X:Cx}{pos:Pos}
noncomputable def Qx(c:TT)(tb:TS):TS:=fun D U H=>∃W:Nat->St->Hp->Prop,(∃m,W m U H)/\∀m U H,W m U H ->
 c U H fun b H1=>if b=true then ∃N:St->Hp->Prop,(∀af H',N af H'->∃m',m'<m/\W m' af H')/\tb { D with nx:=N,ct:=N,bk:=D.nx } U H1 else D.nx U H1
theorem yc(hp:PassesOwn (model X.prog X.w) X.A X.env X.xe)(hc:PT X c tc)(hb:PSs X body tb):PS X (.While c body [] pos) (Qx tc tb):=by
 intro pins s U H D I h;obtain⟨W,⟨m0,w0⟩,turn⟩:=h;refine wpAny_While (codeAny_whileLoop (fun n s'=>∃af H',Inv X pins af H' s'/\W n af H') ?_ m0 ⟨U,H,I,w0⟩);rintro n s1 ⟨fM,H1,I1,w1⟩;refine SE hp (thn (hc pins s1 fM H1 _ I1 (turn n fM H1 w1)) fun b s2 ⟨H2,I2,q2⟩=>?_);cases b with
 |true=>
  obtain⟨N,hN,q2⟩:=q2
  rw[ξ rfl]
  refine SE hp (thn (hb pins s2 fM H2 _ I2 q2) fun f s3 q3=>?_)
  cases f with
  |next=>
   obtain⟨de,H3,I3,n3⟩:=q3
   obtain⟨m',hm,w3⟩:=hN de H3 n3
   exact⟨m',hm,de,H3,I3,w3⟩
  |cont=>
   obtain⟨de,H3,I3,n3⟩:=q3
   obtain⟨m',hm,w3⟩:=hN de H3 n3
   exact⟨m',hm,de,H3,I3,w3⟩
  |brk=>exact q3
  |ret v=>exact q3
 |false=>
  rw[ψ η]
  exact TC ⟨fM,H2,I2,q2⟩
end
structure It where
 go:Nat->Hp->Prop
 yld:Nat->Hp->V->Hp->Prop
 stop:Nat->Hp->Prop
def B0(X:Cx)(pins:List (Addr×Obj))(H:Hp)(b:Addr):Prop:=
 H b=none/\b≠X.env.locals/\b∉X.fs/\(b∈X.ex\/X.s₀.heap.objs.size<=b)/\(∀x c,X.env.cells.lookup x=some c->c≠b)/\∀p∈X.pn++pins,p.1≠b
theorem Inv.fpOk(I:Inv X pins U H s)(hb:s.heap.objs.size<=b)(hn:H' b=none):B0 X pins H' b:=by
 refine⟨hn,Nat.ne_of_gt (NH I.lt hb),I.nofs hb,.inr (KM I.sz hb),fun x c e z=>?_,fun p hp z=>?_⟩
 . obtain⟨v,q⟩:=I.cell x c e;exact absurd (NH q.lt (by rw[z];exact hb)) (PB _)
 . exact absurd (NH (Φ (I.pin p hp).1) (by rw[z];exact hb)) (PB _)
structure Turn(P:Program)(w:World)(K:Frag)(tg:Expr)(J:It)(fp:List Addr)(it:Addr)(tn:Nat->Heap->Prop):Prop where
 mem:it∈fp
 obj:∀i h,tn i h->∀b∈fp,∃o,h.get? b=some o/\∀v,o.data≠.cell v
 keep:∀i h h',tn i h->(∀b∈fp,∀o,h.get? b=some o->h'.get? b=some o)->tn i h'
 item:∀(X:Cx),X.prog=P->X.w=w->X.K=K->X.calm=true->∀(i:Nat)(pins:List (Addr×Obj))(s:Shared)(U:St)(H:Hp)(E:Value->Shared->Prop),Inv X pins U H s->(∀b∈fp,B0 X pins H b)->tn i s.heap->J.go i H ->
  wpAny (model P w) X.A (pyNext (.ref it)) (fun r s1=>∃u,r=some u /\
   wpAny (model P w) X.A (letOwnedTupleGo tg (.ref it) u) (fun _ s2=>∃x H',Inv X pins U H' s2/\RelV x u/\J.yld i H x H'/\tn (i+1) s2.heap/\∀b∈fp,H' b=none) E s1) E s
 done:∀(X:Cx),X.prog=P->X.w=w->X.K=K->X.calm=true->∀(i:Nat)(pins:List (Addr×Obj))(s:Shared)(U:St)(H:Hp)(E:Value->Shared->Prop),Inv X pins U H s->(∀b∈fp,B0 X pins H b)->tn i s.heap->J.stop i H ->
  wpAny (model P w) X.A (pyNext (.ref it)) (fun r s1=>r=none/\Inv X pins U H s1) E s
 self:∀(A:Around)(i:Nat)(s:Shared)(Q:Value->Shared->Prop)(E:Value->Shared->Prop),tn i s.heap->Q (.ref it) s->wpAny (model P w) A (pyIter (.ref it)) Q E s
abbrev TI:=St->Hp->(It->Hp->Prop)->Prop
def PIE(X:Cx)(pins:List (Addr×Obj))(U:St)(tg:Expr)(R:It->Hp->Prop)(fN:Value)(s2:Shared):Prop:=
 ∃(it:Addr)(fp:List Addr)(tn:Nat->Heap->Prop)(J:It)(H':Hp),fN=.ref it/\Inv X pins U H' s2/\Turn X.prog X.w X.K tg J fp it tn/\tn 0 s2.heap/\(∀b∈fp,B0 X pins H' b)/\R J H'
def PI(X:Cx)(tg iter:Expr)(wi:TI):Prop:=
 ∀(pins:List (Addr×Obj))(s:Shared)(U:St)(H:Hp)(R:It->Hp->Prop),Inv X pins U H s->wi U H R ->
  wpAny (model X.prog X.w) X.A (eval iter X.env) (fun v s1=>wpAny (model X.prog X.w) X.A (pyIter v) (PIE X pins U tg R) X.xe s1) X.xe s
theorem Hl(ho:s.heap.get? it=some o)(hc:o.cls=.type n)(hd:o.data=.fields vs)
  (hn:["enumerate","zip","dict_itemiterator","dict_reverseitemiterator","odict_iterator","itertools.zip_longest","itertools.pairwise"].contains n=false) (hQ:Q () s):wpAny M A (letOwnedTupleGo tg (.ref it) u) Q E s:=by
 unfold letOwnedTupleGo
 cases tg<;>first
  |exact ω hQ
  | (cases u<;>first
   |exact ω hQ
   | (refine χ (wpAny_load ho ?_)
      rw[hc,hd]
      show wpAny M A (if(["enumerate","zip","dict_itemiterator","dict_reverseitemiterator","odict_iterator","itertools.zip_longest","itertools.pairwise"].contains n&&vs[0]?==some (rawInt _))=true then _ else _) Q E s
      rw[ψ (by intro h;rw[hn,Bool.false_and]at h;cases h)]
      exact ω hQ))
noncomputable def Itl(K:Frag)(a:Addr):It:=
 ⟨fun i H=>∃xs x,SqL K H a xs/\xs[i]?=some x,fun i H x H'=>H'=H/\∀xs,SqL K H a xs->xs[i]?=some x,fun i H=>∃xs,SqL K H a xs/\xs.length<=i⟩
noncomputable def Itt(K:Frag)(a:Addr):It:=
 ⟨fun i H=>∃xs x,SqT K H a xs/\xs[i]?=some x,fun i H x H'=>H'=H/\∀xs,SqT K H a xs->xs[i]?=some x,fun i H=>∃xs,SqT K H a xs/\xs.length<=i⟩
noncomputable def Itr(lo:Int)(n:Nat):It:=⟨fun i _=>i<n,fun i H x H'=>H'=H/\x=.int (lo+i),fun i _=>n<=i⟩
theorem yT{P:Program}{w:World}{K:Frag}{tg:Expr}(a it:Addr):Turn P w K tg (Itl K a) [it] it (fun i h=>h.IsListIter it a i) where
 mem:=by simp
 obj:=fun i h st b hb=>by
  have e:b=it:=by simpa using hb
  subst e;obtain⟨o,e,c,d⟩:=st;exact⟨o,e,fun v z=>by rw[d]at z;cases z⟩
 keep:=fun i h h' st k=>st.at fun o e=>k it (by simp) o e
 item:=by
  intro X hP hw hK hc i pins s U H E I hf st hg;subst hP hw hK;obtain⟨xs,x,hq,hx⟩:=hg;obtain⟨its,rv,p,hz⟩:=I.list hq;obtain⟨u,hu,ru⟩:=rv.get hx;obtain⟨f0,f1,f2,f3,f4,f5⟩:=hf it (by simp);refine wpAny_pyNext_list_item st p.isList (x:=u) (by simpa using hu) fun h' st' sb=>?_
  have I1:Inv X pins U H { s with heap:=h' }:=I.turned (t':=s.toks) (fun b o hb e=>(sb.2 b hb).trans e) f0 f1 f3 f4 f5;obtain⟨o,e,c,d⟩:=id st';exact⟨u,rfl,Hl (s:={ s with heap:=h' }) e c d (by decide) ⟨x,H,I1,ru,⟨rfl,fun ys hy=>by rw[I.list_inj hy hq];exact hx⟩,st',fun b hb=>(hf b hb).1⟩⟩
 done:=by intro X hP hw hK hc i pins s U H E I hf st hg;subst hP hw hK;obtain⟨xs,hq,hx⟩:=hg;obtain⟨its,rv,p,hz⟩:=I.list hq;obtain⟨f0,f1,f2,f3,f4,f5⟩:=hf it (by simp);have hl:=rv.length;exact wpAny_pyNext_list_end (I.ok.hd hc) st p.isList (by simp;lia) fun h' eb=>⟨rfl,I.turned (t':=s.toks) (fun b o hb e=>eb b o hb e) f0 f1 f3 f4 f5⟩
 self:=fun _ _ _ _ _ st h=>wpAny_pyIter_listiter st h
theorem zq{P:Program}{w:World}{K:Frag}{tg:Expr}(a it:Addr):Turn P w K tg (Itt K a) [it] it (fun i h=>h.IsTupleIter it a i) where
 mem:=by simp
 obj:=fun i h st b hb=>by
  have e:b=it:=by simpa using hb
  subst e;obtain⟨o,e,c,d⟩:=st;exact⟨o,e,fun v z=>by rw[d]at z;cases z⟩
 keep:=fun i h h' st k=>st.at fun o e=>k it (by simp) o e
 item:=by
  intro X hP hw hK hc i pins s U H E I hf st hg;subst hP hw hK;obtain⟨xs,x,hq,hx⟩:=hg;obtain⟨its,rv,p,hz⟩:=I.tuple hq;obtain⟨u,hu,ru⟩:=rv.get hx;obtain⟨f0,f1,f2,f3,f4,f5⟩:=hf it (by simp);refine wpAny_pyNext_tuple_item st (show s.heap.IsTuple a its.toArray from p) (x:=u) (by simpa using hu) fun h' st' sb=>?_
  have I1:Inv X pins U H { s with heap:=h' }:=I.turned (t':=s.toks) (fun b o hb e=>(sb.2 b hb).trans e) f0 f1 f3 f4 f5;obtain⟨o,e,c,d⟩:=id st';exact⟨u,rfl,Hl (s:={ s with heap:=h' }) e c d (by decide) ⟨x,H,I1,ru,⟨rfl,fun ys hy=>by rw[I.tuple_inj hy hq];exact hx⟩,st',fun b hb=>(hf b hb).1⟩⟩
 done:=by intro X hP hw hK hc i pins s U H E I hf st hg;subst hP hw hK;obtain⟨xs,hq,hx⟩:=hg;obtain⟨its,rv,p,hz⟩:=I.tuple hq;obtain⟨f0,f1,f2,f3,f4,f5⟩:=hf it (by simp);have hl:=rv.length;exact wpAny_pyNext_tuple_end (I.ok.hd hc) st (show s.heap.IsTuple a its.toArray from p) (by simp;lia) fun h' eb=>⟨rfl,I.turned (t':=s.toks) (fun b o hb e=>eb b o hb e) f0 f1 f3 f4 f5⟩
 self:=fun _ _ _ _ _ st h=>wpAny_pyIter_tupleiter st h
theorem zp{P:Program}{w:World}{K:Frag}{tg:Expr}(it:Addr)(lo:Int)(n:Nat):Turn P w K tg (Itr lo n) [it] it (fun i h=>IsRangeIter h it (lo+(i:Nat) * 1) ((n:Int) - (i:Nat)) 1) where
 mem:=by simp
 obj:=fun i h st b hb=>by
  have e:b=it:=by simpa using hb
  subst e;exact⟨_,st,fun v z=>by have z':Data.fields _=Data.cell v:=z;cases z'⟩
 keep:=fun i h h' st k=>k it (by simp) _ st
 item:=by
  intro X hP hw hK hc i pins s U H E I hf st hg;subst hP hw hK;obtain⟨f0,f1,f2,f3,f4,f5⟩:=hf it (by simp);have W:=Walks.range (prog:=X.prog) (w:=X.w) (I.ok.hd hc) it lo 1 n;refine W.item i s _ _ hg st fun v h' tk hv st' kk=>?_
  obtain⟨t,rfl⟩:=hv;have I1:Inv X pins U H { s with heap:=h',toks:=tk }:=I.turned (fun b o hb e=>kk b o (by simpa using hb) e) f0 f1 f3 f4 f5;refine⟨_,rfl,Hl (s:={ s with heap:=h',toks:=tk }) (n:="range_iterator") st' rfl rfl (by decide) ⟨.int (lo+i),H,I1,⟨t,?_⟩,⟨rfl,rfl⟩,st',fun b hb=>(hf b hb).1⟩⟩;rw[Int.mul_one]
 done:=by intro X hP hw hK hc i pins s U H E I hf st hg;subst hP hw hK;obtain⟨f0,f1,f2,f3,f4,f5⟩:=hf it (by simp);exact wpAny_pyNext_range_end (I.ok.hd hc) st (by have:n<=i:=hg;lia) fun h' eb=>⟨rfl,I.turned (t':=s.toks) (fun b o hb e=>eb b o hb e) f0 f1 f3 f4 f5⟩
 self:=fun _ _ _ _ _ st h=>wpAny_pyIter_rangeiter st h
section
variable {X:Cx}{tg:Expr}
theorem Uo{pins:List (Addr×Obj)}{U:St}{H:Hp}{s:Shared}{R:It->Hp->Prop}{E:Value->Shared->Prop}{lo hi:Int}{t u v:Tok}{tk:Nat}(I:Inv X pins U H s)(h1:-(2 ^ 62)<=lo)(h2:lo<2 ^ 62)(h3:-(2 ^ 62)<=hi)(h4:hi<2 ^ 62)
  (q:R (Itr lo (hi - lo).toNat) H):wpAny (model X.prog X.w) X.A (pyIter (.ref s.heap.objs.size)) (PIE X pins U tg R) E { s with heap:=s.heap.push { cls:=.type "range",data:=.fields #[.int lo t,.int hi u,.int 1 v] },toks:=tk }:=by
 refine wpAny_pyIter_range (IsRange.new ..) (small_one h1 h2 h3 h4) ?_
 have I1:Inv X pins U H { s with heap:=s.heap.push { cls:=.type "range",data:=.fields #[.int lo t,.int hi u,.int 1 v] },toks:=tk }:=I.kept fun b o e=>Ψ _ e
 refine⟨(s.heap.push { cls:=.type "range",data:=.fields #[.int lo t,.int hi u,.int 1 v] }).objs.size,[(s.heap.push { cls:=.type "range",data:=.fields #[.int lo t,.int hi u,.int 1 v] }).objs.size],_,_,H,rfl,
  I1.kept (t':=tk) fun b o e=>Ψ _ e,zp _ lo (hi - lo).toNat,?_,fun b hb=>?_,q⟩
 . have e1:lo+((0:Nat):Int) * 1=lo:=by simp
   have e2:(((hi - lo).toNat:Nat):Int) - ((0:Nat):Int)=Builtin.Range.rangeSize lo hi 1:=by rw[rangeSize_one];split<;>lia
   show IsRangeIter _ _ (lo+((0:Nat):Int) * 1) ((((hi - lo).toNat:Nat):Int) - ((0:Nat):Int)) 1;rw[e1,e2];exact Ξ _ rfl
 . have e:b=(s.heap.push { cls:=.type "range",data:=.fields #[.int lo t,.int hi u,.int 1 v] }).objs.size:=by simpa using hb
   subst e;exact I1.fpOk (ζ _) (I1.hok.fresh (ζ _))
noncomputable def y47(wi:TI)(g:TG)(tb:TS):TS:=fun D U H=>wi U H fun J H1=>∃W:Nat->Nat->St->Hp->Prop,(∃m,W 0 m U H1)/\∀i m U H,W i m U H ->
 (J.stop i H/\D.nx U H)\/(J.go i H/\∃N:St->Hp->Prop,(∀af H',N af H'->∃m',m'<m/\W (i+1) m' af H')/\∀x H',J.yld i H x H'->g x U H' fun bz H2=>tb { D with nx:=N,ct:=N,bk:=D.nx } bz H2)
noncomputable def Bu(fp:List Addr)(h:Heap):List (Addr×Obj):=fp.filterMap fun b=>(h.get? b).map fun o=>(b,o)
theorem Fm(hb:b∈fp)(e:h.get? b=some o):(b,o)∈Bu fp h:=PX.mpr ⟨b,hb,by rw[e];rfl⟩
theorem yS(hp:p∈Bu fp h):p.1∈fp/\h.get? p.1=some p.2:=by
 obtain⟨b,hb,e⟩:=PX.mp hp;cases q:h.get? b with
 |none=>rw[q]at e;cases e
 |some o=>
  rw[q]at e
  have e':(b,o)=p:=Option.some.inj e
  subst e'
  exact⟨hb,q⟩
theorem Inv.pinned(I:Inv X pins U H s)(hf:∀b∈fp,B0 X pins H b)(ho:∀b∈fp,∃o,s.heap.get? b=some o/\∀v,o.data≠.cell v):Inv X (pins++Bu fp s.heap) U H s:=
 I.pins_of fun p hp=>(OF.mp hp).elim (fun z=>I.pin p (NU _ z)) fun z=>by obtain⟨hb,e⟩:=yS z;obtain⟨f0,f1,f2,_⟩:=hf p.1 hb;obtain⟨o,e',d⟩:=ho p.1 hb;rw[e]at e';cases e';exact⟨e,f0,f1,f2,d⟩
theorem Inv.unpinned(I:Inv X (pins++pl) U H s):Inv X pins U H s:=I.pins_of fun p hp=>I.pin p (NU _ (RK _ hp))
theorem qo(hp:PassesOwn (model X.prog X.w) X.A X.env X.xe)(hc:X.calm=true)(hi:PI X tg iter wi)(hg:PG X tg g)(hb:PSs X body tb)
  (hs:∀x,foldedSetIterable iter X.env x=pure x:=by intro _;rfl):PS X (.For tg iter body [] pos) (y47 wi g tb):=by
 intro pins s U H D I h
 refine wpAny_For (thn (hi pins s U H _ I h) fun v s1 h1=>thn h1 fun fN s2 h2=>?_) hs
 obtain⟨it,fp,tn,J,H2,e,I2,T,aG,f2,W,⟨m0,w0⟩,turn⟩:=h2
 subst e
 have cX:∀{H':Hp},(∀b∈fp,H' b=none)->∀b∈fp,B0 X pins H' b:=fun hn b hb=>⟨hn b hb,(f2 b hb).2⟩
 refine codeAny_forLoop_any (fun n s'=>∃i af H',Inv X pins af H' s'/\tn i s'.heap/\(∀b∈fp,H' b=none)/\W i n af H') ?_ m0 ⟨0,U,H2,I2,aG,fun b hb=>(f2 b hb).1,w0⟩
 rintro n s3 ⟨i,de,H3,I3,dE,uT,w3⟩
 rcases turn i n de H3 w3 with⟨stop,qn⟩ |⟨go,N,hN,step⟩
 . refine SE hp (thn (T.done X rfl rfl rfl hc i pins s3 de H3 X.xe I3 (cX uT) dE stop) fun r s4 ⟨hr,I4⟩=>?_);subst hr;exact TC ⟨de,H3,I4,qn⟩
 . refine SE hp (thn (T.item X rfl rfl rfl hc i pins s3 de H3 X.xe I3 (cX uT) dE go) fun r s4 ⟨u,hr,h4⟩=>?_);subst hr;refine SE hp (thn h4 fun _ s5 ⟨x,H5,I5,r5,y5,fP,ir⟩=>?_);have DF:=I5.pinned (cX ir) (T.obj _ _ fP);refine SE hp (thn (hg _ s5 de H5 x u _ DF r5 (step x H5 y5)) fun _ s6 ⟨DG,H6,I6,q6⟩=>?_);refine SE hp (thn (hb _ s6 DG H6 _ I6 q6) fun f s7 q7=>?_);have again:∀{df:St}{H7:Hp},Inv X (pins++Bu fp s5.heap) df H7 s7->N df H7->∃m,m<n/\∃i af H',Inv X pins af H' s7/\tn i s7.heap/\(∀b∈fp,H' b=none)/\W i m af H':=fun {df H7} I7 n7=>by obtain⟨m',hm,w7⟩:=hN df H7 n7;refine⟨m',hm,i+1,df,H7,I7.unpinned,T.keep _ _ _ fP fun b hb o e=>(I7.pin (b,o) (NU _ (NU _ (Fm hb e)))).1,fun b hb=>?_,w7⟩;obtain⟨o,e,d⟩:=T.obj _ _ fP b hb;exact(I7.pin (b,o) (NU _ (NU _ (Fm hb e)))).2.1
   cases f with
   |next=>obtain⟨df,H7,I7,n7⟩:=q7;exact again I7 n7
   |cont=>obtain⟨df,H7,I7,n7⟩:=q7;exact again I7 n7
   |brk=>obtain⟨df,H7,I7,q7⟩:=q7;exact⟨df,H7,I7.unpinned,q7⟩
   |ret v=>obtain⟨x7,df,H7,I7,r7,q7⟩:=q7;exact⟨x7,df,H7,I7.unpinned,r7,q7⟩
end
abbrev R2:=V->V->Hp->VK->Prop
def OpR(X:Cx)(f:Value->Value->Sem Value)(r:R2):Prop:=
 ∀(pins:List (Addr×Obj))(s:Shared)(U:St)(H:Hp)(x y:V)(v u:Value)(Q:VK),Inv X pins U H s->RelV x v->RelV y u->r x y H Q ->
  wpAny (model X.prog X.w) X.A (f v u) (EP X pins U Q) X.xe s
def UnR(X:Cx)(f:Value->Sem Value)(r:V->Hp->VK->Prop):Prop:=
 ∀(pins:List (Addr×Obj))(s:Shared)(U:St)(H:Hp)(x:V)(v:Value)(Q:VK),Inv X pins U H s->RelV x v->r x H Q ->
  wpAny (model X.prog X.w) X.A (f v) (EP X pins U Q) X.xe s
def CallR(X:Cx)(f:Value)(r:List V->Hp->VK->Prop):Prop:=
 ∀(pins:List (Addr×Obj))(s:Shared)(U:St)(H:Hp)(xs:List V)(us:List Value)(Q:VK),Inv X pins U H s->Vals xs us->r xs H Q ->
  wpAny (model X.prog X.w) X.A (call f us) (EP X pins U Q) X.xe s
def y48(X:Cx)(r:V->Hp->(Bool->Hp->Prop)->Prop):Prop:=
 ∀(pins:List (Addr×Obj))(s:Shared)(U:St)(H:Hp)(x:V)(v:Value)(Q:Bool->Hp->Prop),Inv X pins U H s->RelV x v->r x H Q ->
  wpAny (model X.prog X.w) X.A (truthy v) (TP X pins U Q) X.xe s
noncomputable def tOp(r:R2)(ta tb:TE):TE:=fun U H Q=>ta U H fun x H1=>tb U H1 fun y H2=>r x y H2 Q
noncomputable def tUn(r:V->Hp->VK->Prop)(ta:TE):TE:=fun U H Q=>ta U H fun x H1=>r x H1 Q
noncomputable def rI(C:Int->Int->Prop)(g:Int->Int->V):R2:=fun x y H Q=>∃i j,x=.int i/\y=.int j/\C i j/\Q (g i j) H
noncomputable def rI0(g:Int->Int->V):R2:=fun x y H Q=>∃i j,x=.int i/\y=.int j/\Q (g i j) H
def rU(g:Int->V):V->Hp->VK->Prop:=fun x H Q=>∃i,x=.int i/\Q (g i) H
section
variable {X:Cx}{a b:Expr}{ta tb:TE}{pos:Pos}
theorem Fz(ha:PE X a ta)(hb:PE X b tb){pins:List (Addr×Obj)}{s:Shared}{U:St}{H:Hp}{R:V->V->Hp->Prop}(I:Inv X pins U H s)
  (h:ta U H fun x H1=>tb U H1 fun y H2=>R x y H2) {Q:Value->Shared->Prop} {f:Value->Value->Sem Value}
  (hf:∀v u s2 x y H2,Inv X pins U H2 s2->RelV x v->RelV y u->R x y H2->wpAny (model X.prog X.w) X.A (f v u) Q X.xe s2) :
  wpAny (model X.prog X.w) X.A (eval a X.env) (fun v ae=>wpAny (model X.prog X.w) X.A (eval b X.env) (fun u bQ=>wpAny (model X.prog X.w) X.A (f v u) Q X.xe bQ) X.xe ae) X.xe s:=by
 refine thn (ha pins s U H _ I h) fun v s1 ⟨x,H1,I1,r1,q1⟩=>?_
 refine thn (hb pins s1 U H1 _ I1 q1) fun u s2 ⟨y,H2,I2,r2,q2⟩=>?_
 exact hf v u s2 x y H2 I2 r1 r2 q2
theorem Zp(ho:OpR X (binaryOp op) r)(ha:PE X a ta)(hb:PE X b tb):PE X (.BinOp a op b pos) (tOp r ta tb):=by intro pins s U H Q I h;exact wpAny_BinOp (Fz ha hb I h fun v u s2 x y H2 I2 rx ry q=>ho pins s2 U H2 x y v u Q I2 rx ry q)
theorem Zo(ho:UnR X (unaryOp op) r)(ha:PE X a ta):PE X (.UnaryOp op a pos) (tUn r ta):=by intro pins s U H Q I h;exact UnaryOp_ (thn (ha pins s U H _ I h) fun v s1 ⟨x,H1,I1,r1,q1⟩=>ho pins s1 U H1 x v Q I1 r1 q1)
theorem opI{f:Value->Value->Sem Value}{C:Int->Int->Prop}{g:Int->Int->Int}
  (rule:∀(i j:Int)(t u:Tok)(s:Shared)(Q:Value->Shared->Prop)(E:Value->Shared->Prop),C i j->Q (.int (g i j) s.toks) { s with toks:=s.toks+1 }->wpAny (model X.prog X.w) X.A (f (.int i t) (.int j u)) Q E s) :
  OpR X f (rI C fun i j=>.int (g i j)):=by
 intro pins s U H x y v u Q I rx ry h
 obtain⟨i,j,rfl,rfl,hc,q⟩:=h
 obtain⟨t,rfl⟩:=rx
 obtain⟨t',rfl⟩:=ry
 exact rule i j t t' s _ _ hc ⟨.int (g i j),H,I.tok _,⟨_,rfl⟩,q⟩
theorem Yp{f:Value->Value->Sem Value}{g:Int->Int->Int}
  (rule:∀(i j:Int)(t u:Tok)(s:Shared)(Q:Value->Shared->Prop)(E:Value->Shared->Prop),Q (.int (g i j) s.toks) { s with toks:=s.toks+1 }->wpAny (model X.prog X.w) X.A (f (.int i t) (.int j u)) Q E s) :
  OpR X f (rI0 fun i j=>.int (g i j)):=by
 intro pins s U H x y v u Q I rx ry h
 obtain⟨i,j,rfl,rfl,q⟩:=h
 obtain⟨t,rfl⟩:=rx
 obtain⟨t',rfl⟩:=ry
 exact rule i j t t' s _ _ ⟨.int (g i j),H,I.tok _,⟨_,rfl⟩,q⟩
theorem Dj{f:Value->Value->Sem Value}{g:Int->Int->Bool}
  (rule:∀(i j:Int)(t u:Tok)(s:Shared)(Q:Value->Shared->Prop)(E:Value->Shared->Prop),Q (.bool (g i j)) s->wpAny (model X.prog X.w) X.A (f (.int i t) (.int j u)) Q E s) :
  OpR X f (rI0 fun i j=>.bl (g i j)):=by
 intro pins s U H x y v u Q I rx ry h
 obtain⟨i,j,rfl,rfl,q⟩:=h
 obtain⟨t,rfl⟩:=rx
 obtain⟨t',rfl⟩:=ry
 exact rule i j t t' s _ _ ⟨.bl (g i j),H,I,rfl,q⟩
def R5(i j:Int):Prop:=0<j/\j<1073741824
def V2(i j:Int):Prop:=0<=j/\j<=1000000/\i.natAbs<2 ^ 64
def CMul(i j:Int):Prop:=(-(2 ^ 64)<i/\i<2 ^ 64)\/(-(2 ^ 64)<j/\j<2 ^ 64)
theorem CMul.ok(h:CMul i j):IntMulOk i j:=by
 rcases h with⟨h1,h2⟩ |⟨h1,h2⟩
 . exact .of_left (intBits_le_64 h1 h2)
 . exact .of_right (intBits_le_64 h1 h2)
theorem op_add:OpR X (binaryOp .Add) (rI0 fun i j=>.int (i+j)):=Yp fun _ _ _ _ _ _ _ q=>add_int q
theorem op_sub:OpR X (binaryOp .Sub) (rI0 fun i j=>.int (i - j)):=Yp fun _ _ _ _ _ _ _ q=>sub_int q
theorem op_mul:OpR X (binaryOp .Mult) (rI CMul fun i j=>.int (i * j)):=opI fun _ _ _ _ _ _ _ hc q=>mul_int q hc.ok
theorem op_fdiv:OpR X (binaryOp .FloorDiv) (rI R5 fun i j=>.int (i / j)):=opI fun i j _ _ _ _ _ hc q=>by have h1:(0:Int)<j:=hc.1;have h2:j<1073741824:=hc.2;exact floordiv_int (by omega) (by rw[Int.fdiv_eq_ediv_of_nonneg i (by omega)];exact q) (.inl (PyProof.noPylong_small (by omega)))
theorem op_mod:OpR X (binaryOp .Mod) (rI (fun _ j=>0<j) fun i j=>.int (i % j)):=opI fun i j _ _ _ _ _ hc q=>by have h1:(0:Int)<j:=hc;exact mod_int' (by lia) (by rw[Int.fmod_eq_emod_of_nonneg i (by lia)];exact q)
theorem op_pow:OpR X (binaryOp .Pow) (rI V2 fun i j=>.int (i ^ j.toNat)):=opI fun _ _ _ _ _ _ _ hc q=>pow_int_small hc.1 hc.2.1 hc.2.2 q
theorem unI{f:Value->Sem Value}{g:Int->Int}
  (rule:∀(i:Int)(t:Tok)(s:Shared)(Q:Value->Shared->Prop)(E:Value->Shared->Prop),Q (.int (g i) s.toks) { s with toks:=s.toks+1 }->wpAny (model X.prog X.w) X.A (f (.int i t)) Q E s) :
  UnR X f (rU fun i=>.int (g i)):=by
 intro pins s U H x v Q I rx h
 obtain⟨i,rfl,q⟩:=h
 obtain⟨t,rfl⟩:=rx
 exact rule i t s _ _ ⟨.int (g i),H,I.tok _,⟨_,rfl⟩,q⟩
theorem un_neg:UnR X (unaryOp .USub) (rU fun i=>.int (-i)):=unI fun _ _ _ _ _ q=>neg_int q
end
section
variable {X:Cx}{a b:Expr}{ta tb:TE}{pos:Pos}
theorem op_lt:OpR X (compareOp .Lt) (rI0 fun i j=>.bl (decide (i<j))):=Dj fun _ _ _ _ _ _ _ q=>lt_int q
theorem op_le:OpR X (compareOp .LtE) (rI0 fun i j=>.bl (decide (i<=j))):=Dj fun _ _ _ _ _ _ _ q=>le_int q
theorem op_gt:OpR X (compareOp .Gt) (rI0 fun i j=>.bl (decide (j<i))):=Dj fun _ _ _ _ _ _ _ q=>gt_int q
theorem op_ge:OpR X (compareOp .GtE) (rI0 fun i j=>.bl (decide (j<=i))):=Dj fun _ _ _ _ _ _ _ q=>ge_int q
theorem OpR.or(h:OpR X f r)(h':OpR X f r'):OpR X f (fun x y H Q=>r x y H Q\/r' x y H Q):=by
 intro pins s U H x y v u Q I rx ry q;rcases q with q |q
 . exact h pins s U H x y v u Q I rx ry q
 . exact h' pins s U H x y v u Q I rx ry q
theorem o8(b:Expr)(h:op≠.In:=by decide)(h2:op≠.NotIn:=by decide):behindInMarks op b=false:=by
 have e1:(op==CmpOp.In)=false:=by cases op<;>first |rfl |exact absurd rfl h
 have e2:(op==CmpOp.NotIn)=false:=by cases op<;>first |rfl |exact absurd rfl h2
 cases b<;>simp[behindInMarks,e1,e2]
theorem wz(ho:OpR X (compareOp op) r)(ha:PE X a ta)(hb:PE X b tb)(hm:behindInMarks op b=false):PE X (.Compare a [op] [b] pos) (tOp r ta tb):=by intro pins s U H Q I h;exact wpAny_Compare1 (Fz ha hb I h fun v u s2 x y H2 I2 rx ry q=>ho pins s2 U H2 x y v u Q I2 rx ry q) hm
def Yo(K:Frag)(x:V)(H:Hp)(k:Bool):Prop:=
 match x with
 | .non=>k=false
 | .bl b=>k=b
 | .int i=>k=(i != 0)
 | .str y=>y.length<=sizeLine/\k=((y.length:Int) != 0)
 | .byt y=>y.size<=sizeLine/\k=((y.size:Int) != 0)
 | .ref p=>(∃xs,SqL K H p xs/\k=!xs.isEmpty)\/(∃xs,SqT K H p xs/\k=!xs.isEmpty)\/∃kvs,H p=some (.dK kvs)/\k=!kvs.isEmpty
 |_=>False
theorem zo(r:KV kvs vs):(!vs.isEmpty)=!kvs.isEmpty:=by cases r<;>rfl
theorem Wh(r:Vals xs its):(!its.toArray.isEmpty)=!xs.isEmpty:=by cases r<;>simp
theorem X5:(sizeLine:Nat)<2 ^ 63:=by rw[UB];decide
theorem Qw:y48 X (fun x H Q=>∃k,Yo X.K x H k/\Q k H):=by
 intro pins s U H x v Q I rx h;obtain⟨k,e,q⟩:=h;have hl:=X5;have hs:sizeLine=16777216:=UB;cases x with
 |non=>
  cases rx
  have e':k=false:=e
  subst e'
  exact truthy_none ⟨H,I,q⟩
 |bl b=>
  cases rx
  have e':k=b:=e
  subst e'
  exact QV ⟨H,I,q⟩
 |int i=>
  obtain⟨t,rfl⟩:=rx
  have e':k=(i != 0):=e
  subst e'
  exact PySem.P.truthy_int ⟨H,I,q⟩
 |str y=>
  obtain⟨t,rfl⟩:=rx
  obtain⟨hy,e'⟩:y.length<=sizeLine/\k=((y.length:Int) != 0):=e
  subst e'
  exact PySem.P.truthy_str (by lia) ⟨H,I.tok _,q⟩
 |byt y=>
  obtain⟨t,rfl⟩:=rx
  obtain⟨hy,e'⟩:y.size<=sizeLine/\k=((y.size:Int) != 0):=e
  subst e'
  exact PySem.W.truthy_bytes (by lia) ⟨H,I.tok _,q⟩
 |ref p=>
  cases rx
  have e':(∃xs,SqL X.K H p xs/\k=!xs.isEmpty)\/(∃xs,SqT X.K H p xs/\k=!xs.isEmpty)\/∃kvs,H p=some (.dK kvs)/\k=!kvs.isEmpty:=e
  rcases e' with⟨xs,hx,e'⟩ |⟨xs,hx,e'⟩ |⟨kvs,hx,e'⟩
  . subst e';obtain⟨its,r,pl,hz⟩:=I.list hx;have ah:=r.length;exact wpAny_truthy_list pl.isList (by simp only[LL];lia) ⟨H,I.tok _,by rw[Wh r];exact q⟩
  . subst e';obtain⟨its,r,pl,hz⟩:=I.tuple hx;have ah:=r.length;exact truthy_tuple pl (by simp only[LL];lia) ⟨H,I.tok _,by rw[Wh r];exact q⟩
  . subst e';obtain⟨hz,hS,vs,r,m⟩:kvs.length<=sizeLine/\(p==sysModules)=false/\∃vs,KV kvs vs/\s.heap.DictOf (J9 X.prog X.w) p vs:=I.hok p _ hx;have ah:kvs.length=vs.length:=Paired.length r;exact wpAny_truthy_dict hS m (by lia) ⟨H,I.tok _,by rw[zo r];exact q⟩
 |_=>exact(show False from e).elim
theorem w8(r:Vals [x] us):∃u,us=[u]/\RelV x u:=by
 cases r with
 |cons r1 r2=>cases r2;exact⟨_,rfl,r1⟩
theorem Pa(r:Vals [x,y] us):∃u w',us=[u,w']/\RelV x u/\RelV y w':=by
 cases r with
 |cons r1 r2=>
  cases r2 with
  |cons r3 r4=>cases r4;exact⟨_,_,rfl,r1,r3⟩
theorem call_int1:CallR X (.type "int") (fun xs H Q=>(∃i,xs=[.int i]/\Q (.int i) H)\/∃k,xs=[.bl k]/\Q (.int (if k then 1 else 0)) H):=by
 intro pins s U H xs us Q I r h;rcases h with⟨i,rfl,q⟩ |⟨k,rfl,q⟩
 . obtain⟨u,rfl,t,rfl⟩:=w8 r;exact call_int_int ⟨.int i,H,I,⟨_,rfl⟩,q⟩
 . obtain⟨u,rfl,r1⟩:=w8 r;cases r1;exact call_int_bool ⟨.int (if k then 1 else 0),H,I.tok _,⟨_,rfl⟩,q⟩
end
structure ObjM(h:Heap)(x dx C:Addr)(mA:Str->Option Value):Prop where
 obj:h.get? x=some (PySem.W.instObj C dx)
 ns:h.Ns1 dx mA
 ne:dx≠x
theorem yR{h:Heap}{dx:Addr}{mA:Str->Option Value}(n:h.Ns1 dx mA):∃od,h.get? dx=some od/\∀name,PySem.W.lookIn name od=some (mA name):=by
 obtain⟨o,es,ep,ho,hd,hk,_,hm⟩:=n;refine⟨o,ho,fun name=>?_⟩;have e:=hm name;unfold nsFind findBy at e;rw[<-Array.find?_toList]at e;unfold PySem.W.lookIn;rw[hd];dsimp only;split
 . rename_i y q;rw[q]at e;exact PZ some e
 . rename_i q;rw[q]at e;have a:es.toList.any (·.refKey)=false:=by rw[List.any_eq_false];intro y hy;obtain⟨z,t,oU⟩:=hk y (Array.mem_toList_iff.mp hy);simp[DictEntry.refKey,oU]
   have a':¬es.toList.any (·.refKey)=true:=by rw[a];exact η
   rw[ψ a'];exact PZ some e
theorem ObjM.look(I:ObjM h x dx C mA):∃od,PySem.W.InstAt h x (PySem.W.instObj C dx) C (some od)/\∀name,PySem.W.lookIn name od=some (mA name):=
 let ⟨od,ho,hl⟩:=yR I.ns
 ⟨od,⟨I.obj,rfl,rfl,ho⟩,hl⟩
theorem RelO.some_of(r:RelO (some v) o):∃u,o=some u/\RelV v u:=by
 cases o with
 |none=>exact(show False from r).elim
 |some u=>exact⟨u,rfl,r⟩
section
variable {P:Program}{w:World}{H:Hp}{h:Heap}{a C dx:Addr}{fs:List (Str×V)}
theorem wx(hok:HOk P w H h)(e:H a=some (.ins C dx fs)):∃mA,ObjM h a dx C mA/\(∀f,RelO (fs.lookup f) (mA f))/\PySem.Within mA (fs.map (·.1))/\fs.length<=1000/\H dx=some (.own a):=by obtain⟨d,z,ne,ob,mA,n,r,q⟩:=(show ObjOk P w H h a (.ins C dx fs) from hok a _ e);exact⟨mA,⟨ob,n,ne⟩,r,q,z,d⟩
end
structure Cls(K:Frag)(C:Addr):Prop where
 pg:PySem.W.plainGet K C Str.empty=true
 hd:PySem.W.hasDictIn K C=true
 po:PySem.W.plainOver K C=true
 sa:PySem.W.findIn K (.ref C) "__setattr__"=some (some (.builtin "object.__setattr__"))
theorem Cls.get{K:Frag}{C:Addr}(c:Cls K C)(f:Str):PySem.W.plainGet K C f=true:=c.pg
section
variable {X:Cx}{pins:List (Addr×Obj)}{U:St}{H:Hp}{s:Shared}{A:Around}{E:Value->Shared->Prop}{Q:Value->Shared->Prop}{c:Value}{b:Bool}
inductive TyOf (K:Frag) (H:Hp):V->Value->Prop where
 |non:TyOf K H .non (.type "NoneType")
 |bl (x:Bool):TyOf K H (.bl x) (.type "bool")
 |int (i:Int):TyOf K H (.int i) (.type "int")
 |str (x:Str):TyOf K H (.str x) (.type "str")
 |flt (x:UInt64):TyOf K H (.flt x) (.type "float")
 |lst {a:Addr} {xs:List V} (e:H a=some (.lst xs)):TyOf K H (.ref a) (.type "list")
 |frz {a:Addr} {o:Obj} {xs:List V} (e:H a=some (.frz o (.lst xs))):TyOf K H (.ref a) (.type "list")
 |tup {a:Addr} {xs:List V} (e:H a=some (.tup xs)):TyOf K H (.ref a) (.type "tuple")
 |dK {a:Addr} {kvs:List (Key×V)} (e:H a=some (.dK kvs)):TyOf K H (.ref a) (.type "dict")
 |dT {a:Addr} {kvs:List (List Key×V)} (e:H a=some (.dT kvs)):TyOf K H (.ref a) (.type "dict")
 |ins {a C dx:Addr} {fs:List (Str×V)} (e:H a=some (.ins C dx fs)) (cl:Cls K C) (ha:PySem.W.findIn K (.ref C) "__class__"=some (some (.builtin "object.__class__")))
  (hn:PySem.W.specialIn K (.builtin "object.__class__") "__get__"=some (some (.builtin "getset_descriptor.__get__"))) (htk:PySem.W.takesIn K (.builtin "object.__class__")=some true)
  (hm:mroIn K C (.type "object")=some true):TyOf K H (.ref a) (.ref C)
theorem O7(I:Inv X pins U H s)(rx:RelV x u)(ty:TyOf X.K H x t)(e:kitOne X.K t c=some b)(h:∀tk,Q (.bool b) { s with toks:=tk }) :
  wpAny (model X.prog X.w) A (call (.builtin "isinstance") [u,c]) Q E s:=by
 cases ty with
 |non=>cases (show u=Value.none from rx);exact kia_one PySem.W.kitx_none I.kIn True.intro e (fun z=>nomatch z) h
 |bl y=>cases (show u=Value.bool y from rx);exact kia_one PySem.W.kitx_bool I.kIn True.intro e (fun z=>nomatch z) h
 |int i=>obtain⟨t,q⟩:=(show ∃t,u=Value.int i t from rx);cases q;exact kia_one PySem.W.kitx_int I.kIn True.intro e (fun z=>nomatch z) h
 |str y=>obtain⟨t,q⟩:=(show ∃t,u=Value.str y t from rx);cases q;exact kia_one PySem.W.kitx_str I.kIn True.intro e (fun z=>nomatch z) h
 |flt y=>obtain⟨t,q⟩:=(show ∃t,u=Value.float y t from rx);cases q;exact kia_one PySem.W.kitx_float I.kIn True.intro e (fun z=>nomatch z) h
 | @lst a xs ea=>
  cases (show u=Value.ref a from rx)
  obtain⟨_,_,n,_,h1⟩:=(show ObjOk X.prog X.w H s.heap a (.lst xs) from I.hok a _ ea)
  exact kia_one PySem.W.kitx_list I.kIn ⟨_,h1,rfl⟩ e (fun z=>nomatch z) h
 | @frz a ob xs ea=>
  cases (show u=Value.ref a from rx)
  obtain⟨_,_,_,n,_,h1⟩:=(show ObjOk X.prog X.w H s.heap a (.frz ob (.lst xs)) from I.hok a _ ea)
  exact kia_one PySem.W.kitx_list I.kIn ⟨_,h1,rfl⟩ e (fun z=>nomatch z) h
 | @tup a xs ea=>
  cases (show u=Value.ref a from rx)
  obtain⟨_,_,_,p⟩:=(show ObjOk X.prog X.w H s.heap a (.tup xs) from I.hok a _ ea)
  obtain⟨o,h1,h2,_⟩:=p
  exact kia_one PySem.W.kitx_tuple I.kIn ⟨o,h1,h2⟩ e (fun z=>nomatch z) h
 | @dK a kvs ea=>
  cases (show u=Value.ref a from rx)
  obtain⟨_,_,vs,_,p⟩:=(show ObjOk X.prog X.w H s.heap a (.dK kvs) from I.hok a _ ea)
  obtain⟨o,es,ep,h1,h2,_⟩:=p
  exact kia_one PySem.W.kitx_dict I.kIn ⟨o,h1,h2.1⟩ e (fun z=>nomatch z) h
 | @dT a kvs ea=>
  cases (show u=Value.ref a from rx)
  obtain⟨_,_,xs,_,o,es,ep,h1,h2,_⟩:=(show ObjOk X.prog X.w H s.heap a (.dT kvs) from I.hok a _ ea)
  exact kia_one PySem.W.kitx_dict I.kIn ⟨o,h1,h2.1⟩ e (fun z=>nomatch z) h
 | @ins a C dx fs ea cl ha hn htk hm=>
  cases (show u=Value.ref a from rx)
  obtain⟨mA,O,_⟩:=wx I.hok ea
  obtain⟨od,J,_⟩:=O.look
  exact kia_one (PySem.W.kitx_own (cl.get _) cl.hd ha hn htk hm) I.kIn J e (fun z=>nomatch z) h
end
structure Room(k:Nat)(A:Around):Prop where
 hd:A.handled=none
 dp:A.depth+3 * k+5<recursionLimit
 un:A.units+16 * k+200<cLine
theorem Room.mono(r:Room k A)(h:j<=k):Room j A:=⟨r.hd,by have:=r.dp;lia,by have:=r.un;lia⟩
theorem Room.deeper(r:Room (k+1) A)(env:Env):Room k (A.deeper env):=
 ⟨r.hd,by have:=r.dp;show A.depth+1+3 * k+5<_;lia,by have:=r.un;show A.units+3+16 * k+200<_;lia⟩
theorem Room.depth(r:Room k A):A.depth<recursionLimit:=by have:=r.dp;omega
theorem Room.units(r:Room k A):A.units+64<cLine:=by have:=r.un;lia
noncomputable def Ba:TA:=fun _ H Q=>Q [] H
noncomputable def Q2(ta:TE)(tr:TA):TA:=fun U H Q=>ta U H fun x H1=>tr U H1 fun xs H2=>Q (x::xs) H2
section
variable {X:Cx}{e:Expr}{es:List Expr}{te:TE}{t:TA}{pos:Pos}
theorem pa_nil:PA X [] Ba:=fun _ _ _ _ H Q I h=>Calls.spliced_nil ⟨[],H,I,.nil,h⟩
theorem O4(ha:PE X e te)(hr:PA X es t)(hs:starEach (e::es) X.env=(false,eval e X.env)::starEach es X.env:=by rfl):PA X (e::es) (Q2 te t):=by intro pos pins s U H Q I h;rw[hs];show wpAny _ _ (spliced ((false,eval e X.env)::backTo pos (starEach es X.env))) _ _ s;refine Calls.spliced_cons (thn (ha pins s U H _ I h) fun u s1 ⟨x,H1,I1,r1,q1⟩=>?_);exact thn (hr pos pins s1 U H1 _ I1 q1) fun us s2 ⟨xs,H2,I2,r2,q2⟩=>⟨x::xs,H2,I2,.cons r1 r2,q2⟩
def Fy(t:TA):TE:=fun U H Q=>t U H fun xs H1=>xs.length<=sizeLine/\∀p,H1 p=none->Q (.ref p) (upd H1 p (.tup xs))
def Yn(t:TA):TE:=fun U H Q=>t U H fun xs H1=>xs.length<=sizeLine/\∀p,H1 p=none->Q (.ref p) (upd H1 p (.lst xs))
theorem Qv(h:PA X es t):PE X (.Tuple es x1 pos) (Fy t):=by intro pins s U H Q I hq;refine wpAny_Tuple_spliced (thn (h pos pins s U H _ I hq) fun us s1 ⟨xs,H1,I1,r,z,q⟩=>⟨by rw[<-r.length];exact z,?_⟩);have hf:H1 s1.heap.objs.size=none:=I1.hok.fresh (ζ _);refine⟨.ref s1.heap.objs.size,upd H1 s1.heap.objs.size (.tup xs),I1.laid (t':=s1.toks) (fun b u e=>Ψ _ e) (ζ _) ?_,rfl,q _ hf⟩;exact⟨z,us,r,.mk' (Ξ _ rfl)⟩
theorem qm(h:PA X es t):PE X (.List es pos) (Yn t):=by intro pins s U H Q I hq;refine wpAny_List_spliced (thn (h pos pins s U H _ I hq) fun us s1 ⟨xs,H1,I1,r,z,q⟩=>⟨by rw[<-r.length];exact z,?_⟩);have hf:H1 s1.heap.objs.size=none:=I1.hok.fresh (ζ _);refine⟨.ref s1.heap.objs.size,upd H1 s1.heap.objs.size (.lst xs),I1.laid (t':=s1.toks) (fun b u e=>Ψ _ e) (ζ _) ?_,rfl,q _ hf⟩;exact⟨z,us,0,r,Ξ _ rfl⟩
end
abbrev Sp:=List V->Hp->VK->XK->Prop
abbrev CXT:=List Env->Hp->Shared->XK->Value->Shared->Prop
structure Env0(P:Program)(w:World)(K:Frag)(mg:Str->Option Value)(base:Heap)(A:Around)(outer:List Env)(s:Shared)(H:Hp):Prop where
 frames:A.frames=some outer
 mod:Mod K mg base
 bs:∀b o,base.get? b=some o->s.heap.get? b=some o/\H b=none
 bsz:base.objs.size<=s.heap.objs.size
 funs:s.heap.FunFrames base outer
 frf:∀b∈frs outer,H b=none
 hok:HOk P w H s.heap
 bare:AllBare s.gens
def CE(outer:List Env)(P:Program)(w:World)(H:Hp)(s:Shared)(Q:VK)(u:Value)(s':Shared):Prop:=
 ∃v H',s'.os=s.os/\AllBare s'.gens/\Un (frs outer) [] H H' s.heap s'.heap/\HOk P w H' s'.heap/\RelV v u/\Q v H'
def CR(CX:CXT)(outer:List Env)(P:Program)(w:World)(H:Hp)(s:Shared)(Q:VK)(E:XK)(r:Result)(s':Shared):Prop:=
 match r with
 | .ok (.ret u)=>CE outer P w H s Q u s'
 | .ok _=>False
 | .error e=>CX outer H s E e s'
structure FnOk(P:Program)(w:World)(K:Frag)(mg:Str->Option Value)(base:Heap)(CX:CXT)(k:Nat)(f:Addr)(fd:FuncData)(ps:List Str)(sp:Sp):Prop where
 len:∀vs H Q E,sp vs H Q E->vs.length=ps.length
 run:∀(A:Around)(outer:List Env)(s:Shared)(H:Hp)(args:Args)(us:List Value)(vs:List V)(Q:VK)(E:XK),Room k A->Env0 P w K mg base A outer s H->BindsTo s fd args (ps.zip us)->Vals vs us->sp vs H Q E ->
  codeAny (model P w) A (.call (.ref f) args) (CR CX outer P w H s Q E) s
theorem FnOk.imp{P:Program}{w:World}{K:Frag}{mg:Str->Option Value}{base:Heap}{CX:CXT}{k:Nat}{f:Addr}{fd:FuncData}{ps:List Str}{sp uU:Sp}(F:FnOk P w K mg base CX k f fd ps sp)
  (h:∀vs H Q E,uU vs H Q E->sp vs H Q E):FnOk P w K mg base CX k f fd ps uU:=
 ⟨fun vs H Q E q=>F.len vs H Q E (h _ _ _ _ q),fun A outer s H args us vs Q E hr he hb hv hs=>F.run A outer s H args us vs Q E hr he hb hv (h _ _ _ _ hs)⟩
section
variable {X:Cx}{pins:List (Addr×Obj)}{U:St}{H:Hp}{s s':Shared}
theorem Inv.env0(I:Inv X pins U H s):Env0 X.prog X.w X.K X.mg X.base X.A X.stack s H:=
 ⟨I.ok.frames,I.ok.mod,I.bs,KM I.ok.bsz I.sz,I.stack,I.stkFree,I.hok,I.bare⟩
theorem Inv.after(I:Inv X pins U H s)(h:CE X.stack X.prog X.w H s Q u s'):EP X pins U Q u s':=by obtain⟨v,H',os,bare,un,hok,r,q⟩:=h;obtain⟨hh,g,d,t,DH⟩:=s';obtain rfl:DH=s.os:=os;exact⟨v,H',I.call (h':=hh) (g':=g) (d':=d) (t':=t) (ch:=[]) un hok bare (fun b z=>absurd z (by simp)),r,q⟩
end
noncomputable def Oz(sp:Sp)(eQ:List V)(E:XK)(t:TA):TE:=fun U H Q=>t U H fun vs H1=>sp (vs++eQ) H1 Q E
def Binds(K:Frag)(fd:FuncData)(ps:List Str)(ds:List Value):Prop:=
 ∀(s:Shared)(us:List Value),K.In s.heap->(us++ds).length=ps.length->BindsTo s fd ⟨us,[]⟩ (ps.zip (us++ds))
theorem Binds.all{K:Frag}{fd:FuncData}{ps:List Str}(h:∀us:List Value,us.length=ps.length->bindArgs fd ⟨us,[]⟩=pure (ps.zip us)):Binds K fd ps []:=fun s us _ hl=>by rw[RZ]at hl⊢;exact .of_eq (h us hl)
def Eb(CX:CXT)(X:Cx)(E:XK):Prop:=∀(pins:List (Addr×Obj))(U:St)(H:Hp)(s:Shared)(e:Value)(s':Shared),Inv X pins U H s->CX X.stack H s E e s'->X.xe e s'
section
variable {X:Cx}{CX:CXT}{k:Nat}{f:Addr}{fd:FuncData}{ps:List Str}{sp:Sp}{eQ:List V}{ds:List Value}{E:XK}{x:Str}{p pos:Pos}{e:Expr}{es:List Expr}{t:TA}
theorem ql(F:FnOk X.prog X.w X.K X.mg X.base CX k f fd ps sp)(hr:Room k X.A)(hb:Binds X.K fd ps ds)(hd:Vals eQ ds)(hx:Eb CX X E)
  (I:Inv X pins U H s) (r:Vals vs us) (h:sp (vs++eQ) H Q E):wpAny (model X.prog X.w) X.A (call (.ref f) us) (EP X pins U Q) X.xe s:=by
 have r2:Vals (vs++eQ) (us++ds):=r.append hd
 have hl:(us++ds).length=ps.length:=by rw[<-r2.length];exact F.len _ _ _ _ h
 refine wpAny_call (UJ (F.run X.A X.stack s H ⟨us,[]⟩ (us++ds) (vs++eQ) Q E hr I.env0 (hb s us I.kIn hl) r2 h) fun r s' hq=>?_)
 cases r with
 |error e=>exact hx pins U H s e s' I hq
 |ok fl=>
  cases fl with
  |ret u=>exact I.after hq
  |next=>exact False.elim hq
  |brk=>exact False.elim hq
  |cont=>exact False.elim hq
theorem ww(F:FnOk X.prog X.w X.K X.mg X.base CX k f fd ps sp)(hr:Room k X.A)(hg:Gl X x)(hm:X.mg x=some (.ref f))(hk:keepIn X.K (.ref f)=true)(hb:Binds X.K fd ps ds)(hd:Vals eQ ds)(hx:Eb CX X E)
  (ha:PA X (e::es) t) (aF:(x==("__debug__":Str))=false:=by decide) (he:starEach (e::es) X.env=(false,eval e X.env)::starEach es X.env:=by rfl) (hpl:(backTo pos (starEach es X.env)).any (·.1)=false:=by rfl) :
  PE X (.Call (.Name x p) (e::es) [] pos) (Oz sp eQ E t):=by
 intro pins s U H Q I h
 refine wpAny_Call_Name_kw (Ci I hg hm ?_ aF)
 refine PySem.W.callWith_K (h₀:=X.base) I.ok.mod.kin hk (thn (ha pos pins s U H _ I h) fun us s1 ⟨vs,H1,I1,r,q⟩=>⟨I1.kIn,?_⟩) he hpl
 exact ql F hr hb hd hx I1 r q
end
structure FnScope(N P:List Str)(sc:Scope):Prop where
 kind:sc.kind=.function
 co:sc.isCoroutine=false
 gen:sc.isGenerator=false
 nd:N.Nodup
 pre:N.take P.length=P
 par:∀x∈P,sc.names.lookup x=some .local\/sc.names.lookup x=some .cell
 nofree:∀y∈sc.names,y.2≠.free
theorem Vs{kindOf:Str->Option NameKind}{x:Str}:∀{binds:List (Str×Value)}{m:Str->Option Value},(∀v,(x,v)∉binds)->bindL kindOf binds m x=m x
 | [],_,_=>rfl
 | (n,v)::r,m,h=>by
  unfold bindL;rw[Vs fun w hw=>h w (IR _ hw)];split
  . have:x≠n:=by rintro rfl;exact h v NN
    simp[this]
  . rfl
theorem Vr{kindOf:Str->Option NameKind}{x:Str}:∀{binds:List (Str×Value)}{m:Str->Option Value},(∀v,(x,v)∉binds)->bindC kindOf binds m x=m x
 | [],_,_=>rfl
 | (n,v)::r,m,h=>by
  unfold bindC;rw[Vr fun w hw=>h w (IR _ hw)];split
  . rfl
  . have:x≠n:=by rintro rfl;exact h v NN
    simp[this]
theorem Vq{kindOf:Str->Option NameKind}{x:Str}{v:Value}:∀{P:List Str}{vs:List Value}{i:Nat}{m:Str->Option Value},P.Nodup->P[i]?=some x->vs[i]?=some v->kindOf x=some .local ->
  bindL kindOf (P.zip vs) m x=some v
 | [],_,_,_,_,h,_,_=>by simp at h
 |_::_,[],_,_,_,_,h,_=>by simp at h
 |p::P,w::vs,0,m,nd,h1,h2,hk=>by simp at h1 h2;subst h1;subst h2;show bindL kindOf ((p,w)::P.zip vs) m p=_;unfold bindL;rw[Vs fun v hv=>(TQ.mp nd).1 (List.of_mem_zip hv).1,ξ hk];simp
 |p::P,w::vs,i+1,m,nd,h1,h2,hk=>by show bindL kindOf ((p,w)::P.zip vs) m x=_;unfold bindL;exact Vq (i:=i) (TQ.mp nd).2 (by simpa using h1) (by simpa using h2) hk
theorem Vp{kindOf:Str->Option NameKind}{x:Str}{v:Value}:∀{P:List Str}{vs:List Value}{i:Nat}{m:Str->Option Value},P.Nodup->P[i]?=some x->vs[i]?=some v->kindOf x≠some .local ->
  bindC kindOf (P.zip vs) m x=some v
 | [],_,_,_,_,h,_,_=>by simp at h
 |_::_,[],_,_,_,_,h,_=>by simp at h
 |p::P,w::vs,0,m,nd,h1,h2,hk=>by simp at h1 h2;subst h1;subst h2;show bindC kindOf ((p,w)::P.zip vs) m p=_;unfold bindC;rw[Vr fun v hv=>(TQ.mp nd).1 (List.of_mem_zip hv).1,ψ hk];simp
 |p::P,w::vs,i+1,m,nd,h1,h2,hk=>by show bindC kindOf ((p,w)::P.zip vs) m x=_;unfold bindC;exact Vp (i:=i) (TQ.mp nd).2 (by simpa using h1) (by simpa using h2) hk
noncomputable def D1(N:List Str)(vs:List V):St:=vs.map some++List.replicate (N.length - vs.length) none
noncomputable def J0(CX:CXT)(P:Program)(w:World)(K:Frag)(mg:Str->Option Value)(base:Heap)(N:List Str)(qual:Str)(scope:Scope)(f:Addr)(cd:Value)(A:Around)(outer:List Env)(s:Shared)(H:Hp)(E:XK):Cx where
 prog:=P
 w:=w
 K:=K
 mg:=mg
 base:=base
 A:=A.deeper (envOfC qual scope s.heap.objs.size f cd)
 N:=N
 s₀:=s
 H₀:=H
 env:=envOfC qual scope s.heap.objs.size f cd
 outer:=outer
 stack:=envOfC qual scope s.heap.objs.size f cd::outer
 ex:=[]
 calm:=true
 fn:=fun _=>true
 pn:=[]
 xe:=fun e s'=>wpAny (model P w) (A.deeper (envOfC qual scope s.heap.objs.size f cd)) (leaving (envOfC qual scope s.heap.objs.size f cd) e) (fun _ fo=>CX outer H s E e fo) (fun e' fo=>CX outer H s E e' fo) s'
theorem Um{sc:Scope}{n:Nat}{x:Str}(h:sc.names.lookup x=some .cell):∃c,(cellsFrom n sc.names []).lookup x=some c:=by have q:=PySem.W.cellsFrom_some sc.names n [] (.inl h);exact SI.mp q
theorem yQ{CX:CXT}{P:Program}{w:World}{K:Frag}{mg:Str->Option Value}{base:Heap}{N ps:List Str}{qual:Str}{scope:Scope}{f:Addr}{cd:Value}{A:Around}{outer:List Env}{s s1:Shared}{H:Hp}{E:XK}{us:List Value}{vs:List V}
  (S:FnScope N ps scope) (hd:A.handled=none) (e0:Env0 P w K mg base A outer s H) (hl:vs.length=ps.length) (r:Vals vs us)
  (x:InCallC s s.heap.objs.size (bindL (envOfC qual scope s.heap.objs.size f cd).kindOf (ps.zip us) fun _=>none) (cellsFrom (s.heap.objs.size+1) scope.names []) (bindC (envOfC qual scope s.heap.objs.size f cd).kindOf (ps.zip us) fun _=>none) s1) :
  Inv (J0 CX P w K mg base N qual scope f cd A outer s H E) [] (D1 N vs) H s1:=by
 have hpl:ps.length<=N.length:=by have:=PZ List.length S.pre;rw[NT]at this;lia
 obtain⟨h1,tk,rfl,hk⟩:=x.done
 have gB:∀b:Addr,b∉(J0 CX P w K mg base N qual scope f cd A outer s H E).ex:=fun b z=>absurd (show b∈([]:List Addr) from z) (by simp)
 refine⟨⟨e0.mod,S.kind,rfl,rfl,ζ _,fun y z c h1 h2=>?_,fun y hy=>?_,fun y c _ h=>?_,fun _=>hd,Around.frames_deeper e0.frames,.inr ⟨rfl,rfl⟩,fun b z=>absurd z (gB b),e0.bs,e0.bsz,fun b _ _=>gB b,fun b z=>absurd z (gB b),e0.funs,e0.frf⟩,
  rfl,e0.bare,Un.kept hk,⟨_,x.toInCall.ns,fun i y v h1 h2 h3=>?_⟩,fun y c h=>⟨_,x.cell y c h⟩,e0.hok.fresh (ζ _),fun y c h=>?_,fun p hp=>absurd (show p∈([]:List (Addr×Obj)) from hp) (by simp),e0.hok.kept hk,?_⟩
 . exact name_of_addr x.apart (QM h1) (QM h2)
 . have hy:scope.names.lookup y=some .cell\/scope.names.lookup y=some .free:=hy;rcases hy with hy |hy
   . exact Um hy
   . exact absurd rfl (S.nofree _ (QM hy))
 . exact QQ (x.above y c (QM h))
 . have hi:i<vs.length:=by
    unfold D1 at h2
    by_cases hi:i<vs.length
    . exact hi
    . rw[PJ (by simpa using hi)]at h2;rw[List.getElem?_replicate]at h2;split at h2<;>cases h2
   have ha:vs[i]?=some v:=by
    unfold D1 at h2;rw[PQ (by simpa using hi),NS]at h2;cases e:vs[i]? with
    |none=>rw[e]at h2;cases h2
    |some a=>rw[e]at h2;cases h2;rfl
   obtain⟨u,hu,rv⟩:=r.get ha
   have hp:ps[i]?=some y:=by rw[<-S.pre,List.getElem?_take_of_lt (by lia)];exact h1
   have uV:ps.Nodup:=by rw[<-S.pre];exact S.nd.sublist (List.take_sublist _ _)
   refine⟨u,rv,?_⟩
   rcases S.par y (OR hp) with k |k
   . exact .inl ⟨k,Vq uV hp hu k⟩
   . obtain⟨c,e⟩:=Um (n:=s.heap.objs.size+1) k;refine .inr ⟨.inl k,c,e,?_⟩;have q:=x.cell y c e;rw[Vp uV hp hu (by show scope.names.lookup y≠_;rw[k];decide)]at q;exact q
 . exact e0.hok.fresh (QQ (x.above y c (QM h)))
 . unfold D1;show _=N.length;rw[θ,oQ,List.length_replicate]
   lia
theorem Hk{CX:CXT}{P:Program}{w:World}{K:Frag}{mg:Str->Option Value}{base:Heap}{k:Nat}{f:Addr}{name qual:Str}{params:Arguments}{body:List Stmt}{scope:Scope}{dV kV doc pm cdv ct oc:Value}{an od:Option Addr}
  {osl:Array (Option Value)} {N ps:List Str} {sp:Sp} (lk:K.lookup f=some ⟨oc,od,.func (PySem.W.fnOf name qual params body scope dV kV doc pm an cdv ct),osl⟩) (br:codeIn K cdv qual=true) (S:FnScope N ps scope)
  (len:∀vs H Q E,sp vs H Q E->vs.length=ps.length)
  (bj:∀(A:Around)(outer:List Env)(s:Shared)(H:Hp)(vs:List V)(Q:VK)(E:XK),Room k (A.deeper (envOfC qual scope s.heap.objs.size f cdv))->sp vs H Q E ->
   ∃t,PSs (J0 CX P w K mg base N qual scope f cdv A outer s H E) body t/\t { nx:=fun _ H'=>Q .non H',rt:=Q } (D1 N vs) H) :
  FnOk P w K mg base CX (k+1) f (PySem.W.fnOf name qual params body scope dV kV doc pm an cdv ct) ps sp:=by
 refine⟨len,fun A outer s H args us vs Q E hr e0 hb r cL=>?_⟩
 have hl:=len _ _ _ _ cL
 have KX:K.In s.heap:=e0.mod.kin.keeps fun b o e=>(e0.bs b o e).1
 have DI:s.heap.NoLimit:=e0.mod.nolimit.keeps fun b o e=>(e0.bs b o e).1
 have bP:∀y∈ps.zip us,scope.names.lookup y.1=some .local\/(scope.names.lookup y.1=some .cell/\((cellsFrom (s.heap.objs.size+1) scope.names []).lookup y.1).isSome=true):=fun⟨n,v⟩ hy=>by
  rcases S.par n (List.of_mem_zip hy).1 with q |q
  . exact .inl q
  . exact .inr ⟨q,PySem.W.cellsFrom_some _ _ _ (.inl q)⟩
 refine codeAny_call_function hr.depth (KX _ _ lk) rfl S.co S.gen rfl (PySem.W.codeRec_of KX br) (hb _ _ _ _ ?_)
 refine wpAny_newFunctionEnv_cells S.kind bP fun env he s1 x=>?_
 subst he
 refine⟨DI.keeps x.toInCall.keep,codeAny_func ?_⟩
 obtain⟨t,ht,hq⟩:=bj A outer s H vs Q E (hr.deeper _) cL
 have I:Inv (J0 CX P w K mg base N qual scope f cdv A outer s H E) [] (D1 N vs) H s1:=yQ S hr.hd e0 hl r x
 refine OG (ht [] s1 (D1 N vs) H _ I hq) (fun fl s' hs=>?_) fun e s' hs=>hs
 have fin:∀{af:St}{H':Hp}{v:V}{u:Value},Inv (J0 CX P w K mg base N qual scope f cdv A outer s H E) [] af H' s'->RelV v u->Q v H'->CE outer P w H s Q u s':=
  fun {af H' v u} J rv q=>⟨v,H',J.os,J.bare,J.base,J.hok,rv,q⟩
 cases fl with
 |ret u=>
  obtain⟨v,af,H',J,rv,q⟩:=hs
  exact fin J rv q
 |next=>
  obtain⟨af,H',J,q⟩:=hs
  exact fin (v:=V.non) (u:=Value.none) J rfl q
 |brk=>
  obtain⟨_,_,_,q⟩:=hs
  exact False.elim q
 |cont=>
  obtain⟨_,_,_,q⟩:=hs
  exact False.elim q
section
variable {X:Cx}{x:Str}{p pos:Pos}{e:Expr}{es:List Expr}{t:TA}{id T:String}{r:List V->Hp->VK->Prop}
noncomputable def tCB(r:List V->Hp->VK->Prop)(t:TA):TE:=fun U H Q=>t U H fun vs H1=>r vs H1 Q
theorem Cm(hc:CallR X (.builtin id) r)(hg:Gl X x)(hm:X.mg x=none)(hv:bootBuiltins x=some (.builtin id))(ha:PA X (e::es) t)(hn:x≠"__name__":=by decide)(aF:(x==("__debug__":Str))=false:=by decide)
  (he:starEach (e::es) X.env=(false,eval e X.env)::starEach es X.env:=by rfl) (hpl:(backTo pos (starEach es X.env)).any (·.1)=false:=by rfl):PE X (.Call (.Name x p) (e::es) [] pos) (tCB r t):=by
 intro pins s U H Q I h
 refine wpAny_Call_Name_kw (S9 I hg hm hv ?_ hn aF)
 exact PyProof.Rows.callWith_builtin1 (thn (ha pos pins s U H _ I h) fun us s1 ⟨vs,H1,I1,r1,q1⟩=>hc pins s1 U H1 vs us Q I1 r1 q1) he hpl
theorem Vo(hc:CallR X (.type T) r)(hg:Gl X x)(hm:X.mg x=none)(hv:bootBuiltins x=some (.type T))(ha:PA X (e::es) t)(hn:x≠"__name__":=by decide)(aF:(x==("__debug__":Str))=false:=by decide)
  (he:starEach (e::es) X.env=(false,eval e X.env)::starEach es X.env:=by rfl) (hpl:(backTo pos (starEach es X.env)).any (·.1)=false:=by rfl):PE X (.Call (.Name x p) (e::es) [] pos) (tCB r t):=by
 intro pins s U H Q I h
 refine wpAny_Call_Name_kw (S9 I hg hm hv ?_ hn aF)
 exact QP (thn (ha pos pins s U H _ I h) fun us s1 ⟨vs,H1,I1,r1,q1⟩=>hc pins s1 U H1 vs us Q I1 r1 q1) he hpl
end
end L2
namespace HT
open PySem PyProof.Rows
theorem yb(A:Around)(s:Shared)(a:Int)(t:Tok)(c:Int)(u:Tok):∃e,SeqAt.EqAt A s (.int a t) (.int c u) e/\(e=true↔a=c):=
 ⟨(a==c),SeqAt.EqAt.int_int a t c u,by simp⟩
theorem rcLt_int(A:Around)(s:Shared)(a:Int)(t:Tok)(c:Int)(u:Tok)(prog:Program)(w:World)(E:Value->Shared->Prop)(Q:Value->Shared->Prop)(h:Q (.bool (decide (a<c))) s) :
  wpAny (model prog w) A (richCompare .Lt (.int a t) (.int c u)) Q E s:=
 (PyProof.Rows.lt_int h:wpAny (model prog w) A (compareOp .Lt (.int a t) (.int c u)) Q E s)
section
open PySem.SeqAt
open PySem.AutoSeq1 (wpAny_loadPart')
open PySem.MeetsSeq PySem.MeetsSeq2 PySem.MeetsSeq3
end
section
variable {prog:Program}{w:World}{A:Around}{E:Value->Shared->Prop}{s:Shared}
def sIx(n d:Nat):Option Int->Nat
 |none=>d
 |some v=>if v<0 then(v+(n:Int)).toNat else min v.toNat n
theorem qk(n d:Nat)(hd:d<=n)(o:Option Int):sIx n d o<=n:=by
 cases o with
 |none=>exact hd
 |some v=>
  show(if v<0 then(v+(n:Int)).toNat else min v.toNat n)<=n
  by_cases hv:v<0
  . rw[ξ hv];lia
  . rw[ψ hv];exact Nat.min_le_right _ _
theorem Tj(v:Int)(n d:Nat):(if v<0 then max (v+(n:Int)) 0 else min v (n:Int))=((sIx n d (some v):Nat):Int):=by
 show(if v<0 then max (v+(n:Int)) 0 else min v (n:Int))=(((if v<0 then(v+(n:Int)).toNat else min v.toNat n):Nat):Int);by_cases hv:v<0
 . simp only[ξ hv];lia
 . simp only[ψ hv];lia
theorem zn(lo hi:Option Int)(n:Nat):Builtin.Slice.sliceAdjust lo hi 1 (n:Int)=(((sIx n 0 lo:Nat):Int),((sIx n n hi:Nat):Int)):=by
 have h1:¬((1:Int)<0):=by omega
 unfold Builtin.Slice.sliceAdjust;simp only[h1,PY];refine Prod.ext ?_ ?_
 . cases lo with
   |none=>rfl
   |some v=>exact Tj v n 0
 . cases hi with
   |none=>rfl
   |some v=>exact Tj v n n
theorem zm(i j:Nat):Builtin.Slice.slicePlaces (i:Int) (j:Int) 1=j - i:=by
 unfold Builtin.Slice.slicePlaces;have h1:(1:Int) > 0:=by lia
 simp only[h1,QN,Int.ediv_one];split<;>lia
theorem Wg(p:IsPart v o)(h:Q o s):wpAny (model prog w) A (Builtin.Slice.slicePartIndex v) Q E s:=by
 cases p with
 |none=>exact slicePart_none h
 |int i t=>exact slicePart_int h
theorem z65{sl:Addr}{vl vu:Value}{lo hi:Option Int}{n:Nat}{Q:Int×Int×Nat->Shared->Prop}(hs:s.heap.IsSliceOf sl vl vu .none)(pl:IsPart vl lo)(pu:IsPart vu hi)
  (h:Q (((sIx n 0 lo:Nat):Int),1,sIx n n hi - sIx n 0 lo) s):wpAny (model prog w) A (Builtin.Slice.sliceApplied (.ref sl) (pure (n:Int))) Q E s:=by
 obtain⟨os,dg,gC,iu⟩:=id hs
 unfold Builtin.Slice.sliceApplied Builtin.Slice.sliceFields
 refine OL (OL (wpAny_field dg iu (x:=vl) rfl (OL (wpAny_field dg iu (x:=vu) rfl (OL (wpAny_field dg iu (x:=.none) rfl (QD ?_)))))))
 refine OL (slicePart_none ?_)
 show wpAny _ _ (if((1:Int)==0)=true then _ else _) _ _ s
 rw[ψ (by decide)]
 refine OL (Wg pl (OL (Wg pu (OL (QD ?_)))))
 show wpAny _ _ (match Builtin.Slice.sliceAdjust lo hi 1 (n:Int) with | (lo,hi)=>pure (lo,(1:Int),Builtin.Slice.slicePlaces lo hi 1)) _ _ s
 rw[zn lo hi n]
 show wpAny _ _ (pure (((sIx n 0 lo:Nat):Int),(1:Int),Builtin.Slice.slicePlaces ((sIx n 0 lo:Nat):Int) ((sIx n n hi:Nat):Int) 1)) _ _ s
 rw[zm]
 exact QD h
theorem ya(xs:Array Value)(i k:Nat):((List.range k).filterMap fun (m:Nat)=>xs[((i:Int)+(m:Int) * 1).toNat]?).toArray=((xs.toList.drop i).take k).toArray:=by
 have e:(fun (m:Nat)=>xs[((i:Int)+(m:Int) * 1).toNat]?)=fun m=>xs[i+m]?:=by
  funext m;have:((i:Int)+(m:Int) * 1).toNat=i+m:=by lia
  rw[this]
 rw[e];have:=pick_run xs i k;rw[List.filterMap_map]at this;have e2:((fun x=>xs[x]?)∘fun x=>i+x)=fun m=>xs[i+m]?:=rfl
 rw[e2]at this;rw[this]
theorem getItem_tuple_cut{t sl:Addr}{items:Array Value}{vl vu:Value}{lo hi:Option Int}{Q:Value->Shared->Prop}(ht:IsTup s.heap t items)(hs:s.heap.IsSliceOf sl vl vu .none)(pl:IsPart vl lo)(pu:IsPart vu hi)
  (hw:¬(sIx items.size 0 lo=0/\sIx items.size items.size hi=items.size))
  (h:Q (.ref s.heap.objs.size) { s with heap:=s.heap.push { cls:=.type "tuple",data:=.seq ((items.toList.drop (sIx items.size 0 lo)).take (sIx items.size items.size hi - sIx items.size 0 lo)).toArray } })
  (hsz:items.size<=sizeLine):wpAny (model prog w) A (getItem (.ref t) (.ref sl)) Q E s:=by
 have dW:sizeOk (.seq ((items.toList.drop (sIx items.size 0 lo)).take (sIx items.size items.size hi - sIx items.size 0 lo)).toArray):=by show((items.toList.drop (sIx items.size 0 lo)).take (sIx items.size items.size hi - sIx items.size 0 lo)).toArray.size<=sizeLine;rw[LL,NT,OA,gc];omega
 have hj:sIx items.size items.size hi<=items.size:=qk _ _ (ζ _) hi
 obtain⟨os,dg,gC,iu⟩:=id hs
 have DJ:s.TypeIs (.ref sl) "slice":=⟨os,dg,gC⟩
 unfold getItem
 try with_reducible refine NZ ?_
 first |refine OL (QD ?_) |skip
 refine OL (wpAny_sequenceKey ht.typeIs (by decide) ?_)
 refine OL (PC (name:=Str.ofString "__getitem__") ht.typeIs TD
  (QF TD ht.typeIs entry_tuple_getitem ?_ (args_tuple_getitem _ _)))
 show wpAny _ _ (Builtin.Tuple.tupleItemsOf (.ref t) >>= _) _ _ s
 refine OL (tupleItemsOf_ ht ?_)
 refine OL (wpAny_typeOf DJ ?_)
 rw[ξ (by decide)]
 refine OL (z65 hs pl pu ?_)
 have gE:¬((((sIx items.size 0 lo:Nat):Int)==0&&(1:Int)==1&&(sIx items.size items.size hi - sIx items.size 0 lo)==items.size)=true):=by intro q;rw[bI,bI]at q;have q1:((sIx items.size 0 lo:Nat):Int)=0:=eq_of_beq q.1.1;have q2:sIx items.size items.size hi - sIx items.size 0 lo=items.size:=eq_of_beq q.2;exact hw ⟨by omega,by omega⟩
 show wpAny _ _ (if(((sIx items.size 0 lo:Nat):Int)==0&&(1:Int)==1&&(sIx items.size items.size hi - sIx items.size 0 lo)==items.size)=true then _ else _) _ _ s
 rw[ψ gE,ya]
 first
  |exact OL (m:=Builtin.Tuple.tupleExact _) (QZ (QD ⟨_,rfl,QD h⟩) dW)
  |exact OL (m:=Builtin.Tuple.tupleExact _) (QZ (OL (QD (QD ⟨_,rfl,QD h⟩))) dW)
  |exact OL (OL (m:=Builtin.Tuple.tupleExact _) (QZ (QD (QD ⟨_,rfl,QD h⟩)) dW))
  |exact OL (OL (m:=Builtin.Tuple.tupleExact _) (QZ (QD ⟨_,rfl,QD h⟩) dW))
end
end HT
namespace L2
open PySem PySem.Spec PyProof.Rows
abbrev TO:=St->Hp->(Option Int->Hp->Prop)->Prop
def PO(X:Cx)(e:Option Expr)(t:TO):Prop:=
 ∀(pins:List (Addr×Obj))(s:Shared)(U:St)(H:Hp)(Q:Option Int->Hp->Prop),Inv X pins U H s->t U H Q ->
  wpAny (model X.prog X.w) X.A (evalPart e X.env) (fun u s'=>∃o H',Inv X pins U H' s'/\IsPart u o/\Q o H') X.xe s
noncomputable def wv:TO:=fun _ H Q=>Q none H
noncomputable def Zn(t:TE):TO:=fun U H Q=>t U H fun x H1=>∃i,x=.int i/\Q (some i) H1
theorem Co:∀{us:List Value},Vals (ns.map V.int) us->IntsAre us ns:=by
 induction ns with
 |nil=>intro us r;rw[QR]at r;cases r;exact .nil
 |cons n ns ih=>
  intro us r
  rw[NL]at r
  cases r with
  |cons r1 r2=>
   obtain⟨t,e⟩:=r1
   subst e
   exact .cons n t (ih r2)
section
variable {X:Cx}{e:Expr}{te:TE}{lo hi:Option Expr}{tl th:TO}{pos p2:Pos}
theorem po_none:PO X none wv:=by intro pins s U H Q I h;rw[evalPart_none];exact ω ⟨none,H,I,.none,h⟩
theorem wu(h:PE X e te):PO X (some e) (Zn te):=by
 intro pins s U H Q I hw;rw[evalPart_some];refine thn (h pins s U H _ I hw) fun u s1 ⟨x,H1,I1,r1,q1⟩=>?_
 obtain⟨i,rfl,q⟩:=q1;obtain⟨t,rfl⟩:=r1;exact⟨some i,H1,I1,.int i t,q⟩
def SlR(X:Cx)(r:V->Option Int->Option Int->Hp->VK->Prop):Prop:=
 ∀(pins:List (Addr×Obj))(s:Shared)(U:St)(H:Hp)(x:V)(v vl vu:Value)(lo hi:Option Int)(sl:Addr)(Q:VK),Inv X pins U H s->RelV x v->s.heap.IsSliceOf sl vl vu .none->IsPart vl lo->IsPart vu hi->r x lo hi H Q ->
  ∃T id,typeLookup (.type T) "__getitem__"=pure (some (.builtin id))/\s.TypeIs v T/\wpAny (model X.prog X.w) X.A (getItem v (.ref sl)) (EP X pins U Q) X.xe s
noncomputable def tSl(r:V->Option Int->Option Int->Hp->VK->Prop)(te:TE)(tl th:TO):TE:=fun U H Q=>te U H fun x H1=>tl U H1 fun l H2=>th U H2 fun u H3=>r x l u H3 Q
theorem xZ(hr:SlR X r)(he:PE X e te)(hl:PO X lo tl)(hu:PO X hi th):PE X (.Subscript e (.Slice lo hi none p2) pos) (tSl r te tl th):=by
 intro pins s U H Q I h;refine Subscript_ (thn (he pins s U H _ I h) fun v s1 ⟨x,H1,I1,r1,q1⟩=>?_);refine wpAny_Slice (thn (hl pins s1 U H1 _ I1 q1) fun vl s2 ⟨l,H2,I2,pl,q2⟩=>thn (hu pins s2 U H2 _ I2 q2) fun vu s3 ⟨u,H3,I3,pu,q3⟩=>?_);rw[evalPart_none];refine ω ?_;have I4:Inv X pins U H3 { s3 with heap:=s3.heap.push { cls:=.type "slice",data:=.fields #[vl,vu,.none] } }:=I3.kept (t':=s3.toks) fun b ob q=>Ψ _ q
 obtain⟨T,id,hT,ht,hg⟩:=hr pins { s3 with heap:=s3.heap.push { cls:=.type "slice",data:=.fields #[vl,vu,.none] } } U H3 x v vl vu l u s3.heap.objs.size Q I4 r1 (Heap.IsSliceOf.new ..) pl pu q3;show wpAny (model X.prog X.w) X.A (subscriptTail e (.Slice lo hi none p2) v (.ref s3.heap.objs.size)) (EP X pins U Q) X.xe { s3 with heap:=s3.heap.push { cls:=.type "slice",data:=.fields #[vl,vu,.none] } };exact tail_any (ops:=[.ref s3.heap.objs.size,v]) ht hT hg (by with_unfolding_all rfl)
noncomputable def N3(xs:List V)(lo hi:Option Int):List V:=(xs.drop (HT.sIx xs.length 0 lo)).take (HT.sIx xs.length xs.length hi - HT.sIx xs.length 0 lo)
theorem Wn(xs:List V)(lo hi:Option Int):(N3 xs lo hi).length<=xs.length:=by unfold N3;rw[NT,OA];omega
def Ym(K:Frag):V->Option Int->Option Int->Hp->VK->Prop:=fun x lo hi H Q=>∃a xs,x=.ref a/\SqT K H a xs /\
 ¬(HT.sIx xs.length 0 lo=0/\HT.sIx xs.length xs.length hi=xs.length)/\∀p,H p=none->Q (.ref p) (upd H p (.tup (N3 xs lo hi)))
theorem qi:SlR X (Ym X.K):=by
 intro pins s U H x v vl vu lo hi sl Q I rx hs pl pu h;obtain⟨a,xs,rfl,hx,hw,q⟩:=h;cases rx;obtain⟨its,r,ht,hz⟩:=I.tuple hx;have ah:its.toArray.size=xs.length:=by rw[LL];exact r.length.symm
 refine⟨"tuple",_,TD.lookup,ht.typeIs,?_⟩;refine HT.getItem_tuple_cut ht hs pl pu (by rw[ah];exact hw) ?_ (by rw[ah];exact hz);rw[ah];refine⟨.ref s.heap.objs.size,_,I.laid (t':=s.toks) (o:=.tup (N3 xs lo hi)) (fun b ob q=>Ψ _ q) (ζ _) ?_,rfl,q _ (I.hok.fresh (ζ _))⟩;exact⟨KM (Wn xs lo hi) hz,_,(r.drop (HT.sIx xs.length 0 lo)).take (HT.sIx xs.length xs.length hi - HT.sIx xs.length 0 lo),.mk' (Ξ _ rfl)⟩
end
noncomputable def ixN(n:Nat)(i:Int):Option Nat:=if 0<=i then(if i<n then some i.toNat else none) else if -(n:Int)<=i then some (i+n).toNat else none
def atI{α:Type}(xs:List α)(i:Int):Option α:=(ixN xs.length i).bind fun j=>xs[j]?
theorem wt(h:ixN n i=some j):seqIndex? i n=some j/\j<n/\-(n:Int)<=i/\i<n:=by
 unfold ixN at h;by_cases h0:0<=i
 . rw[ξ h0]at h;by_cases h1:i<n
   . rw[ξ h1]at h;have e:i.toNat=j:=Option.some.inj h;exact⟨by rw[seqIndex_of h0 h1,e],by lia,by lia,h1⟩
   . rw[ψ h1]at h;cases h
 . rw[ψ h0]at h;by_cases h1:-(n:Int)<=i
   . rw[ξ h1]at h;have e:(i+n).toNat=j:=Option.some.inj h;exact⟨by rw[seqIndex_neg (by lia) h1,e],by lia,h1,by lia⟩
   . rw[ψ h1]at h;cases h
theorem Ku(h:atI xs i=some v):∃j,seqIndex? i xs.length=some j/\xs[j]?=some v/\j<xs.length/\-(xs.length:Int)<=i/\i<xs.length:=by
 unfold atI at h;cases e:ixN xs.length i with
 |none=>rw[e]at h;cases h
 |some j=>
  rw[e]at h
  obtain⟨h1,h2,h3,h4⟩:=wt e
  exact⟨j,h1,h,h2,h3,h4⟩
theorem Ep{α:Type}{xs:List α}{j:Nat}{v:α}(h:xs[j]?=some v):atI xs (j:Int)=some v:=by
 have hj:j<xs.length:=(NW.mp h).1;have e:ixN xs.length (j:Int)=some j:=by unfold ixN;rw[ξ (by lia),ξ (by lia)];simp
 unfold atI;rw[e];exact h
def Kt(b:Expr):Prop:=∀o i,subscripted b false o i=operate [o,i] (getItem o i)
def IxR(X:Cx)(r:R2):Prop:=
 ∀(value slice:Expr)(pins:List (Addr×Obj))(s:Shared)(U:St)(H:Hp)(x y:V)(v u:Value)(Q:VK),Inv X pins U H s->RelV x v->RelV y u->r x y H Q ->
  subscripted slice false v u=operate [v,u] (getItem v u)->wpAny (model X.prog X.w) X.A (subscriptTail value slice v u) (EP X pins U Q) X.xe s
def MtR(X:Cx)(id:String)(r:V->List V->Hp->VK->Prop):Prop:=
 ∀(pins:List (Addr×Obj))(s:Shared)(U:St)(H:Hp)(x:V)(xs:List V)(v:Value)(us:List Value)(Q:VK),Inv X pins U H s->RelV x v->Vals xs us->r x xs H Q ->
  wpAny (model X.prog X.w) X.A (call (.builtin id) (v::us)) (EP X pins U Q) X.xe s
section
variable {X:Cx}{a b:Expr}{ta tb:TE}{pos:Pos}
theorem IxR.or(h:IxR X r)(h':IxR X r'):IxR X (fun x y H Q=>r x y H Q\/r' x y H Q):=by
 intro value slice pins s U H x y v u Q I rx ry q hs;rcases q with q |q
 . exact h value slice pins s U H x y v u Q I rx ry q hs
 . exact h' value slice pins s U H x y v u Q I rx ry q hs
theorem Zm(hr:IxR X r)(ha:PE X a ta)(hb:PE X b tb)(hs:Kt b):PE X (.Subscript a b pos) (tOp r ta tb):=by intro pins s U H Q I h;exact Subscript_ (Fz ha hb I h fun v u s2 x y H2 I2 rx ry q=>hr a b pins s2 U H2 x y v u Q I2 rx ry q (hs _ _))
def Yl(K:Frag):R2:=fun x y H Q=>∃p xs i v,x=.ref p/\y=.int i/\SqL K H p xs/\atI xs i=some v/\Q v H
def Yk(K:Frag):R2:=fun x y H Q=>∃p xs i v,x=.ref p/\y=.int i/\SqT K H p xs/\atI xs i=some v/\Q v H
def Yj:R2:=fun x y H Q=>∃z i c,x=.str z/\y=.int i/\z.length<=sizeLine/\atI z.cps.toList i=some c/\Q (.str ⟨#[c]⟩) H
theorem ix_list:IxR X (Yl X.K):=by
 intro value slice pins s U H x y v u Q I rx ry h hs;obtain⟨p,xs,i,z,rfl,rfl,hq,he,q⟩:=h;cases rx;obtain⟨t,rfl⟩:=ry;obtain⟨its,r,pl,hz⟩:=I.list hq;obtain⟨j,h1,h2,h3,h4,h5⟩:=Ku he;obtain⟨w,ew,dh⟩:=r.get h2;have hl:=r.length;have hn:=X5;have fin:EP X pins U Q w s:=⟨z,H,I,dh,q⟩;by_cases h0:0<=i
 . have hj:i.toNat=j:=by
    rw[seqIndex_of h0 h5]at h1
    exact Option.some.inj h1
   exact item_listR pl.isList h0 (by lia) (by rw[hj];simpa using ew) fin hs
 . have hj:(i+(its.toArray.size:Int)).toNat=j:=by
    rw[seqIndex_neg (by lia) h4]at h1
    rw[LL,<-hl]
    exact Option.some.inj h1
   exact subscriptTail_builtinR (x:=w) pl.isList.typeIs slot_list_getitem.lookup
    (wpAny_getItem_list_neg (Q:=fun r s'=>r=w/\EP X pins U Q r s') pl.isList (by lia) (by rw[LL]<;>lia) (by lia) (by rw[hj];simpa using ew) ⟨rfl,fin⟩) hs
theorem ix_tup:IxR X (Yk X.K):=by
 intro value slice pins s U H x y v u Q I rx ry h hs;obtain⟨p,xs,i,z,rfl,rfl,hq,he,q⟩:=h;cases rx;obtain⟨t,rfl⟩:=ry;obtain⟨its,r,pl,hz⟩:=I.tuple hq;obtain⟨j,h1,h2,h3,h4,h5⟩:=Ku he;obtain⟨w,ew,dh⟩:=r.get h2;have hl:=r.length;have hn:=X5;have fin:EP X pins U Q w s:=⟨z,H,I,dh,q⟩;exact subscriptTail_builtinR (x:=w) pl.typeIs slot_tuple_getitem.lookup
  (getItem_tuple (j:=j) (Q:=fun r s'=>r=w/\EP X pins U Q r s') pl (by lia) (by lia) (by rw[LL,<-hl];exact h1) (by simpa using ew) ⟨rfl,fin⟩) hs
theorem qh:IxR X Yj:=by
 intro value slice pins s U H x y v u Q I rx ry h hs;obtain⟨z,i,c,rfl,rfl,hz,he,q⟩:=h;obtain⟨t,rfl⟩:=rx;obtain⟨t',rfl⟩:=ry;obtain⟨j,h1,h2,h3,h4,h5⟩:=Ku he;have hl:z.cps.toList.length=z.length:=by simp[Str.length]
 rw[hl]at h1 h4 h5;have hn:=X5;exact tail_any (typeIs_str s z t) slot_str_getitem.lookup (getItem_str (c:=c) (by have e1:decide (i < -(2 ^ 63:Int))=false:=NO (by lia);have e2:decide (i ≥ 2 ^ 63)=false:=NO (by lia);rw[e1,e2,Bool.or_false]) (by rw[h1];simpa using h2) ⟨.str ⟨#[c]⟩,H,I.tok _,⟨_,rfl⟩,q⟩) hs
def rIx(K:Frag):R2:=fun x y H Q=>Yl K x y H Q\/Yk K x y H Q\/Yj x y H Q
theorem ix_seq:IxR X (rIx X.K):=ix_list.or (ix_tup.or qh)
theorem Inv.lst(I:Inv X pins U H s)(h:H p=some (.lst xs)) :
  ∃(its:List Value)(n:Nat),Vals xs its/\s.heap.get? p=some { cls:=.type "list",data:=.seq its.toArray n }/\xs.length<=sizeLine:=by
 obtain⟨z,its,n,r,e⟩:=I.hok p _ h
 exact⟨its,n,r,e,z⟩
theorem zZ(lo hi:Option Int)(n:Nat):(sliceBounds lo hi none n).1=((HT.sIx n 0 lo:Nat):Int)/\(sliceBounds lo hi none n).2.1=((HT.sIx n n hi:Nat):Int)/\(sliceBounds lo hi none n).2.2=1:=by
 refine⟨?_,?_,rfl⟩
 . cases lo with
   |none=>simp[sliceBounds,HT.sIx]
   |some i=>
    simp only[sliceBounds,HT.sIx,Option.getD_none,show(1:Int) > 0 by decide,QN]
    by_cases h:i<0
    . simp only[h,QN]<;>lia
    . simp only[h,PY]<;>lia
 . cases hi with
   |none=>simp[sliceBounds,HT.sIx]
   |some i=>
    simp only[sliceBounds,HT.sIx,Option.getD_none,show(1:Int) > 0 by decide,QN]
    by_cases h:i<0
    . simp only[h,QN]<;>lia
    . simp only[h,PY]<;>lia
theorem z93(its:List Value)(lo hi:Option Int):slicePick its.toArray lo hi none=((its.drop (HT.sIx its.length 0 lo)).take (HT.sIx its.length its.length hi - HT.sIx its.length 0 lo)).toArray:=by obtain⟨h1,h2,h3⟩:=zZ lo hi its.toArray.size;unfold slicePick;rw[h1,h2,h3];simp only[sliceRange_one,pick_run,LL]<;>rfl
def Yi(K:Frag):V->Option Int->Option Int->Hp->VK->Prop:=fun x lo hi H Q=>∃a xs,x=.ref a/\SqL K H a xs/\∀p,H p=none->Q (.ref p) (upd H p (.lst (N3 xs lo hi)))
theorem Ti:SlR X (Yi X.K):=by intro pins s U H x v vl vu lo hi sl Q I rx hs pl pu h;obtain⟨a,xs,rfl,hx,q⟩:=h;cases rx;obtain⟨its,r,ht,hz⟩:=I.list hx;have ah:=r.length;refine⟨"list",_,slot_list_getitem.lookup,ht.isList.typeIs,?_⟩;refine wpAny_getItem_list_slice ht.isList hs pl pu .none (by simp) ?_ (by rw[LL]<;>lia);rw[z93,<-ah];refine⟨.ref s.heap.objs.size,_,I.laid (t':=s.toks) (o:=.lst (N3 xs lo hi)) (fun b ob q=>Ψ _ q) (ζ _) ?_,rfl,q _ (I.hok.fresh (ζ _))⟩;exact⟨KM (Wn xs lo hi) hz,_,0,(r.drop (HT.sIx xs.length 0 lo)).take (HT.sIx xs.length xs.length hi - HT.sIx xs.length 0 lo),Ξ _ rfl⟩
theorem call_len_seq:CallR X (.builtin "len") (fun xs H Q=>∃p ys,xs=[.ref p]/\(SqL X.K H p ys\/SqT X.K H p ys)/\Q (.int ys.length) H):=by
 intro pins s U H xs us Q I r h;obtain⟨p,ys,rfl,hq,q⟩:=h;obtain⟨u,rfl,rx⟩:=w8 r;cases rx;have hn:=X5;rcases hq with hq |hq
 . obtain⟨its,r',pl,hz⟩:=I.list hq;have ah:=r'.length;exact Calls.call_len_list pl.isList (by simp only[LL]<;>lia) ⟨.int ys.length,H,I.tok _,⟨s.toks+1,by rw[LL,ah]⟩,q⟩
 . obtain⟨its,r',pl,hz⟩:=I.tuple hq;have ah:=r'.length;exact len_tuple pl (by simp only[LL]<;>lia) ⟨.int ys.length,H,I.tok _,⟨s.toks+1,by rw[LL,ah]⟩,q⟩
theorem zY:CallR X (.builtin "len") (fun xs H Q=>∃z,xs=[.str z]/\z.length<=sizeLine/\Q (.int z.length) H):=by intro pins s U H xs us Q I r h;obtain⟨z,rfl,hz,q⟩:=h;obtain⟨u,rfl,t,rfl⟩:=w8 r;have hn:=X5;exact len_str (by lia) ⟨.int z.length,H,I.tok _,⟨_,rfl⟩,q⟩
theorem CallR.or(h:CallR X f r)(h':CallR X f r'):CallR X f (fun xs H Q=>r xs H Q\/r' xs H Q):=by
 intro pins s U H xs us Q I rs q;rcases q with q |q
 . exact h pins s U H xs us Q I rs q
 . exact h' pins s U H xs us Q I rs q
theorem z94:CallR X (.type "tuple") (fun xs H Q=>∃p ys,xs=[.ref p]/\((SqL X.K H p ys/\∀l,H l=none->Q (.ref l) (upd H l (.tup ys)))\/(SqT X.K H p ys/\Q (.ref p) H))):=by
 intro pins s U H xs us Q I r h;obtain⟨p,ys,rfl,h⟩:=h;obtain⟨u,rfl,rx⟩:=w8 r;cases rx;rcases h with⟨hq,q⟩ |⟨hq,q⟩
 . obtain⟨its,r',pl,hz⟩:=I.list hq;have ah:=r'.length;refine call_tuple_list pl.isList (fun h' kp=>?_) (by simp only[LL]<;>lia);have I1:Inv X pins U H { s with heap:=h' }:=I.kept (t':=s.toks) kp;have I2:Inv X pins U (upd H h'.objs.size (.tup ys)) { s with heap:=h'.push { cls:=.type "tuple",data:=.seq its.toArray } }:=
    I1.laid (t':=s.toks) (fun b o e=>Ψ _ e) (ζ _) (show ObjOk X.prog X.w _ _ _ (.tup ys) from⟨hz,its,r',.mk' (Ξ _ rfl)⟩)
   exact⟨.ref h'.objs.size,_,I2,rfl,q _ (I1.hok.fresh (ζ _))⟩
 . obtain⟨its,r',pl,hz⟩:=I.tuple hq;exact call_tuple_same pl ⟨.ref p,H,I,rfl,q⟩
def tyV(K:Frag)(T:String)(x:V)(H:Hp):Prop:=match x with
 | .str _=>T="str"
 | .int _=>T="int"
 | .ref p=>(T="list"/\∃xs,SqL K H p xs)\/(T="tuple"/\∃o,K.lookup p=some o/\o.cls=.type "tuple"/\o.dict=none) \/
  (T="dict"/\((∃kvs,H p=some (.dK kvs))\/∃kvs,H p=some (.dT kvs)))\/(T="set"/\∃S n,H p=some (.set S n))
 |_=>False
theorem qf(I:Inv X pins U H s)(r:RelV x v)(ty:tyV X.K T x H) :
  s.TypeIs v T/\∀a,v=.ref a->∃ob,s.heap.get? a=some ob/\ob.dict=none:=by
 cases x with
 |str z=>
  obtain⟨t,rfl⟩:=r
  cases (show T="str" from ty)
  exact⟨typeIs_str s z t,fun _ e=>nomatch e⟩
 |int i=>
  obtain⟨t,rfl⟩:=r
  cases (show T="int" from ty)
  exact⟨typeIs_int s i t,fun _ e=>nomatch e⟩
 |ref p=>
  cases r
  rcases ty with⟨rfl,xs,hq⟩ |⟨rfl,o,hk,hc,hd⟩ |⟨rfl,hk⟩ |⟨rfl,S,n,hk⟩
  . obtain⟨its,_,pl,_⟩:=I.list hq;refine⟨pl.isList.typeIs,fun a e=>?_⟩;cases e;obtain⟨o,n,e,c,hd,_⟩:=pl;exact⟨o,e,hd⟩
  . refine⟨⟨o,I.kIn p o hk,hc⟩,fun a e=>?_⟩;cases e;exact⟨o,I.kIn _ o hk,hd⟩
  . have z:∃o,s.heap.get? p=some o/\o.ExactDict:=by
     rcases hk with⟨kvs,hk⟩ |⟨kvs,hk⟩
     . obtain⟨_,_,_,_,o,_,_,e,ex,_⟩:=I.hok p _ hk;exact⟨o,e,ex⟩
     . obtain⟨_,_,_,_,o,_,_,e,ex,_⟩:=I.hok p _ hk;exact⟨o,e,ex⟩
    obtain⟨o,e,ex⟩:=z
    refine⟨⟨o,e,ex.1⟩,fun a e2=>?_⟩
    cases e2
    exact⟨o,e,ex.2.1⟩
  . obtain⟨o,_,_,_,e,ex,_⟩:=I.hok p _ hk;refine⟨⟨o,e,ex.1⟩,fun a e2=>?_⟩;cases e2;exact⟨o,e,ex.2.1⟩
 |_=>exact False.elim ty
noncomputable def tBM(K:Frag)(T:String)(r:V->List V->Hp->VK->Prop)(to:TE)(t:TA):TE:=fun U H Q=>to U H fun x H1=>tyV K T x H1/\t U H1 fun xs H2=>r x xs H2 Q
variable {o e:Expr}{es:List Expr}{to:TE}{t:TA}{name:Str}{apos cpos:Pos}{T id:String}{r:V->List V->Hp->VK->Prop}
theorem Zl(pa:PlainAttrs T)(slot:Slot T name id)(gF:typeOf (.builtin id)=pure (.type "method_descriptor"))(hm:MtR X id r)(ho:PE X o to)(ha:PA X (e::es) t)
  (bH:attributeBase o name X.env (eval o X.env)=eval o X.env:=by rfl)
  (gj:((backTo cpos (starEach (e::es) X.env)).all (fun x=>!x.1)&&(backToKw cpos (keywordEach [] X.env)).all (fun x=>x.1.isSome)
   && decide ((e::es).length+([]:List Keyword).length+(if([]:List Keyword).isEmpty then 0 else 1)<30))=true:=by rfl)
  (fc:(apos.endLine==cpos.line)=true:=by rfl) (hs:starEach (e::es) X.env=(false,eval e X.env)::starEach es X.env:=by rfl) (dQ:(backTo cpos (starEach es X.env)).any (·.1)=false:=by rfl) :
  PE X (.Call (.Attribute o name apos) (e::es) [] cpos) (tBM X.K T r to t):=by
 intro pins s U H Q I h
 refine wpAny_Call_method_late bH gj fc rfl (thn (ho pins s U H _ I h) fun v s1 ⟨x,H1,I1,r1,ty,q1⟩=>?_)
 obtain⟨h1,h2⟩:=qf I1 r1 ty
 refine⟨T,id,pa,slot,gF,h1,h2,?_⟩
 have hA:=ha cpos pins s1 U H1 _ I1 q1
 rw[hs]at hA⊢
 refine Calls.callWith_builtin (by show(false||(backTo cpos (starEach es X.env)).any (·.1))=false;rw[dQ]<;>rfl) (Calls.evalArgs_plain ?_)
 exact thn hA fun us s2 ⟨vs,H2,I2,r2,q2⟩=>hm pins s2 U H2 x vs v us Q I2 r1 r2 q2
end
def MtM(X:Cx)(id:String)(r:V->List V->Hp->VK->Prop):Prop:=
 ∀(pins:List (Addr×Obj))(s:Shared)(U:St)(H:Hp)(x:V)(xs:List V)(v:Value)(us:List Value)(Q:VK),Inv X pins U H s->RelV x v->Vals xs us->r x xs H Q ->
  wpAny (model X.prog X.w) X.A (call (.builtin id) (v::us)) (EP X pins U Q) X.xe s
theorem Vals.one:∀{x:V}{us:List Value},Vals [x] us->∃u,us=[u]/\RelV x u
 |_,_,.cons r .nil=>⟨_,rfl,r⟩
section
variable {X:Cx}{pins:List (Addr×Obj)}{U:St}{H:Hp}{s:Shared}{l:Addr}{xs ys:List V}
theorem Inv.lset{its its':List Value}{n:Nat}{f:Array Value->Array Value}{t':Nat}(I:Inv X pins U H s)(hH:H l=some (.lst xs))
  (e:s.heap.get? l=some { cls:=.type "list",data:=.seq its.toArray n }) (hf:f its.toArray=its'.toArray) (hv:Vals ys its') (hz:ys.length<=sizeLine) :
  Inv X pins U (upd H l (.lst ys)) { s with heap:=s.heap.update l (Obj.mapSeq f),toks:=t' }:=by
 have q:=PySem.IsL.update e f
 rw[hf]at q
 refine I.write (x:=l) (e:=l) (by rw[hH];exact trivial) (.inl rfl) (fun b' u hb hu=>(OK s.heap (Obj.mapSeq f) (PN hb)).trans hu) ⟨_,q⟩ ?_
 exact⟨hz,its',_,hv,q⟩
theorem Inv.lnew(I:Inv X pins U H s)(hv:Vals ys its)(hz:ys.length<=sizeLine) :
  Inv X pins U (upd H s.heap.objs.size (.lst ys)) { s with heap:=s.heap.push { cls:=.type "list",data:=.seq its.toArray },toks:=t' }:=
 I.laid (fun _ _ q=>Ψ _ q) (ζ _) ⟨hz,its,0,hv,Ξ _ rfl⟩
theorem Inv.fresh(I:Inv X pins U H s):H s.heap.objs.size=none:=I.hok.fresh (ζ _)
theorem Inv.lstM(I:Inv X pins U H s)(hH:H l=some (.lst xs)):xs.length<=sizeLine/\∃(its:List Value)(n:Nat),Vals xs its/\xs.length=its.length/\s.heap.get? l=some { cls:=.type "list",data:=.seq its.toArray n }:=by obtain⟨z,its,n,r,e⟩:=I.hok l _ hH;exact⟨z,its,n,r,r.length,e⟩
end
section
variable {X:Cx}
def Th:V->List V->Hp->VK->Prop:=fun x vs H Q=>∃l xs y,x=.ref l/\vs=[y]/\H l=some (.lst xs)/\xs.length<sizeLine/\Q .non (upd H l (.lst (xs++[y])))
theorem Z2:MtM X "list.append" Th:=by
 intro pins s U H x vs v us Q I rx rv h;obtain⟨l,xs,y,rfl,rfl,hH,hz,q⟩:=h;cases rx;obtain⟨u,rfl,ru⟩:=rv.one;obtain⟨z,its,n,r,hl,e⟩:=I.lstM hH;refine call_meets F.slot_list_append ⟨_,e,rfl⟩ F.entry_list_append (F.args_list_append_2 _ _) (PySem.list_append l its.toArray n u (by rw[LL];lia)) ⟨e,?_⟩;refine⟨.non,_,I.lset (its':=its++[u]) hH e (by simp) (r.append (.cons ru .nil)) ?_,rfl,q⟩;rw[θ,List.length_singleton]
 lia
def Yh:R2:=fun x y H Q=>∃l b xs zs,x=.ref l/\y=.ref b/\H l=some (.lst xs)/\H b=some (.lst zs)/\xs.length+zs.length<=sizeLine/\∀p,H p=none->Q (.ref p) (upd H p (.lst (xs++zs)))
theorem X4:OpR X (binaryOp .Add) Yh:=by
 intro pins s U H x y v u Q I rx ry h;obtain⟨l,b,xs,zs,rfl,rfl,hH,hB,hz,q⟩:=h;cases rx;cases ry;obtain⟨z,its,n,r,hl,e⟩:=I.lstM hH;obtain⟨z2,aA,n2,r2,fq,e2⟩:=I.lstM hB;refine PySem.P.add_list e e2 ?_ (by rw[LL,LL];omega);have ea:its.toArray++aA.toArray=(its++aA).toArray:=by simp
 rw[ea];exact⟨.ref _,_,I.lnew (t':=s.toks) (r.append r2) (by rw[θ];omega),rfl,q _ I.fresh⟩
end
section
variable {κ:Type}[DecidableEq κ]
noncomputable def C6(kvs:List (κ×V))(k:κ):Option V:=(kvs.find? fun kv=>decide (kv.1=k)).map (·.2)
noncomputable def Oy(kvs:List (κ×V))(k:κ):List (κ×V):=kvs.filter fun kv=>decide (kv.1≠k)
theorem Ul{p:κ×V}{r:List (κ×V)}{k:κ}(e:p.1=k):C6 (p::r) k=some p.2:=by simp[C6,RY,e]
theorem Uk{p:κ×V}{r:List (κ×V)}{k:κ}(e:¬p.1=k):C6 (p::r) k=C6 r k:=by simp[C6,RY,e]
theorem RelO.isSome_eq(r:RelO o u):o.isSome=u.isSome:=by
 cases o with
 |none=>cases u with
  |none=>rfl
  |some _=>exact(show False from r).elim
 |some _=>cases u with
  |none=>exact(show False from r).elim
  |some _=>rfl
theorem RelO.getD(r:RelO o u)(rd:RelV d d'):RelV (o.getD d) (u.getD d'):=by
 cases o with
 |none=>cases u with
  |none=>exact rd
  |some _=>exact(show False from r).elim
 |some _=>cases u with
  |none=>exact(show False from r).elim
  |some _=>exact r
theorem KV.val(r:KV kvs vs)(k:κ):RelO (C6 kvs k) (valueAt vs k):=by
 unfold KV at r;induction r with
 |nil=>exact True.intro
 | @cons p q ps qs h t ih=>
  obtain⟨h1,h2⟩:=h
  by_cases e:p.1=k
  . have e':q.1=k:=h1.symm.trans e;have b:valueAt (q::qs) k=some q.2:=by simp[valueAt,RY,e']
    rw[Ul e,b];exact h2
  . have e':¬q.1=k:=fun z=>e (h1.trans z)
    have b:valueAt (q::qs) k=valueAt qs k:=by simp[valueAt,RY,e']
    rw[Uk e,b];exact ih
theorem KV.drop(r:KV kvs vs)(k:κ):KV (Oy kvs k) (without vs k):=by
 unfold KV at r⊢;unfold Oy without;induction r with
 |nil=>exact .nil
 | @cons p q ps qs h t ih=>
  obtain⟨h1,h2⟩:=h
  rw[List.filter_cons,List.filter_cons]
  by_cases e:p.1=k
  . have a:¬decide (p.1≠k)=true:=by simp[e]
    have b:¬decide (q.1≠k)=true:=by simp[h1.symm.trans e]
    rw[ψ a,ψ b];exact ih
  . have e':¬q.1=k:=fun z=>e (h1.trans z)
    have a:decide (p.1≠k)=true:=by simp[e]
    have b:decide (q.1≠k)=true:=by simp[e']
    rw[ξ a,ξ b];exact .cons ⟨h1,h2⟩ ih
theorem KV.length(r:KV kvs vs):kvs.length=vs.length:=Paired.length r
end
theorem Hj(r:RelV (kV k) u):(J9 P w).is k u=true:=by
 cases k with
 |inl i=>obtain⟨t,e⟩:=(show ∃t,u=Value.int i t from r);subst e;exact zK P w i t
 |inr x=>obtain⟨t,e⟩:=(show ∃t,u=Value.str x t from r);subst e;exact zJ P w x t
theorem Vn:∀{ks:List Key}{us:List Value},Vals (ks.map kV) us->ItemsAre (J9 P w) ks us
 | [],_,r=>by rw[QR]at r;cases r;exact .nil
 |k::ks,_,r=>by
  rw[NL]at r;cases r with
  |cons h t=>exact .cons (Hj h) (Vn t)
abbrev KT(H:Hp):List (List Key×V)->List (List Key×Addr×Value)->Prop:=Paired fun p q=>p.1=q.1/\H q.2.1=some (.tup (p.1.map kV))/\RelV p.2 q.2.2
theorem KT.val(r:KT H kvs xs)(k:List Key):RelO (C6 kvs k) ((atKey xs k).map (·.2)):=by
 induction r with
 |nil=>exact True.intro
 | @cons p q ps qs h t ih=>
  obtain⟨h1,_,h2⟩:=h
  by_cases e:p.1=k
  . have e':q.1=k:=h1.symm.trans e;have b:atKey (q::qs) k=some q.2:=by simp[atKey,RY,e']
    rw[Ul e,b];exact h2
  . have e':¬q.1=k:=fun z=>e (h1.trans z)
    have b:atKey (q::qs) k=atKey qs k:=by simp[atKey,RY,e']
    rw[Uk e,b];exact ih
section
variable {P:Program}{w:World}{H:Hp}{h:Heap}{a:Addr}
theorem Ox(ok:HOk P w H h)(e:Rd H a u):ObjOk P w H h a u:=e.ok ok
theorem Dr(ok:HOk P w H h)(e:Rd H a (.dK kvs)):kvs.length<=sizeLine/\(a==sysModules)=false/\∃vs,KV kvs vs/\h.DictOf (J9 P w) a vs:=
 show ObjOk P w H h a (.dK kvs) from Ox ok e
theorem Jq(ok:HOk P w H h)(e:H a=some (.tup (ks.map kV))):(tupleKind (J9 P w)).is h ks a:=by obtain⟨_,its,r,o,h1,h2,⟨n,h3⟩,_⟩:=(show ObjOk P w H h a (.tup (ks.map kV)) from ok a _ e);exact⟨o,its.toArray,n,h1,h2,h3,by simpa using Vn r⟩
theorem Hi(ok:HOk P w H h)(e:Rd H a (.dT kvs)):kvs.length<=sizeLine/\(a==sysModules)=false /\
  ∃xs,KT H kvs xs/\h.DictOfH (tupleKind (J9 P w)) a xs:=by
 obtain⟨z,y,xs,r,o,es,ep,h1,h2,h3,h4,h5⟩:=(show ObjOk P w H h a (.dT kvs) from Ox ok e)
 refine⟨z,y,xs,r,o,es,ep,h1,h2,h3,h4,fun x hx=>?_,h5⟩
 have all:∀{l:List (List Key×V)}{m:List (List Key×Addr×Value)},KT H l m->∀x∈m,(tupleKind (J9 P w)).is h x.1 x.2.1:=by
  intro l m q;induction q with
  |nil=>intro x hx;exact nomatch hx
  | @cons p q ps qs hq t ih=>
   intro x hx
   rcases tB.mp hx with e |hx
   . subst e;exact Jq ok (by rw[<-hq.1];exact hq.2.1)
   . exact ih x hx
 exact all r x hx
end
def DGet(H:Hp)(a:Addr)(y:V)(r:Option V):Prop:=
 (∃kvs k,Rd H a (.dK kvs)/\y=kV k/\r=C6 kvs k)\/∃kvs k b,Rd H a (.dT kvs)/\y=.ref b/\H b=some (.tup (k.map kV))/\r=C6 kvs k
theorem DGet.k{H:Hp}{a:Addr}{kvs:List (Key×V)}{k:Key}(e:H a=some (.dK kvs)):DGet H a (kV k) (C6 kvs k):=.inl ⟨kvs,k,.inl e,rfl,rfl⟩
theorem DGet.t{H:Hp}{a b:Addr}{kvs:List (List Key×V)}{k:List Key}(e:H a=some (.dT kvs))(eb:H b=some (.tup (k.map kV))):DGet H a (.ref b) (C6 kvs k):=.inr ⟨kvs,k,b,.inl e,rfl,eb,rfl⟩
section
variable {X:Cx}{pins:List (Addr×Obj)}{U:St}{H:Hp}{s:Shared}{a:Addr}{y v:V}{u:Value}{o:Option V}{A:Around}{E:Value->Shared->Prop}
theorem Inv.big(I:Inv X pins U H s):sysModules<s.heap.objs.size:=by have h:mainGlobals<s.heap.objs.size:=(I.mod.glob.keeps I.bk).lt;exact Nat.lt_trans (by decide) h
theorem yP(hu:A.units+1<cLine)(I:Inv X pins U H s)(g:DGet H a y (some v))(ry:RelV y u)(h:∀w' s',Inv X pins U H s'->RelV v w'->Q w' s') :
  wpAny (model X.prog X.w) A (getItem (.ref a) u) Q E s:=by
 rcases g with⟨kvs,k,e,ey,l⟩ |⟨kvs,k,b,e,ey,eb,l⟩
 . subst ey;obtain⟨z,hd,vs,rel,dd⟩:=Dr I.hok e;obtain⟨w',hw,dh⟩:=RelO.some_of (v:=v) (o:=valueAt vs k) (by rw[l];exact rel.val k);exact wpAny_getItem_of (Hj ry) dd.mapOf hw (h w' _ (I.tok _) dh)
 . subst ey;cases (show u=Value.ref b from ry);obtain⟨z,hd,xs,rel,dd⟩:=Hi I.hok e;obtain⟨w',hw,dh⟩:=RelO.some_of (v:=v) (o:=(atKey xs k).map (·.2)) (by rw[l];exact rel.val k);obtain⟨p,hp,fQ⟩:=OT.mp hw;refine wpAny_getItem_heap (tupleKind_room_in1 hu) (Jq I.hok eb) dd hp ?_;rw[fQ];exact h w' _ (I.tok _) dh
theorem y49(hu:A.units+1<cLine)(I:Inv X pins U H s)(g:DGet H a y o)(ry:RelV y u)(h:∀s',Inv X pins U H s'->Q (.bool o.isSome) s') :
  wpAny (model X.prog X.w) A (compareOp .In u (.ref a)) Q E s:=by
 rcases g with⟨kvs,k,e,ey,l⟩ |⟨kvs,k,b,e,ey,eb,l⟩
 . subst ey;obtain⟨z,hd,vs,rel,dd⟩:=Dr I.hok e;refine wpAny_in_of (Hj ry) hd dd.mapOf ?_;rw[<-(rel.val k).isSome_eq,<-l];exact h _ (I.tok _)
 . subst ey;cases (show u=Value.ref b from ry);obtain⟨z,hd,xs,rel,dd⟩:=Hi I.hok e;refine wpAny_in_heap (tupleKind_room_in1 hu) (Jq I.hok eb) hd dd ?_;have q:=(rel.val k).isSome_eq;rw[Option.isSome_map]at q;rw[<-q,<-l];exact h _ (I.tok _)
theorem wq(I:Inv X pins U H s)(mu:Mut (H a))(hs:Heap.SameBut a s.heap h')(he:∃q,h'.get? a=some q)(new:ObjOk X.prog X.w (upd H a ob) h' a ob) :
  Inv X pins U (upd H a ob) { s with heap:=h',toks:=t' }:=
 I.write (x:=a) (e:=a) mu (.inl rfl) (fun b q hb z=>(hs.2 b hb).trans z) he new
end
section
variable {X:Cx}{pins:List (Addr×Obj)}{U:St}{H:Hp}{s:Shared}{a:Addr}{kvs:List (Key×V)}{A:Around}{E:Value->Shared->Prop}
theorem Zk(I:Inv X pins U H s)(e:Rd H a (.dK kvs))(h:∀t s',Inv X pins U H s'->Q (.int kvs.length t) s'):wpAny (model X.prog X.w) A (call (.builtin "len") [.ref a]) Q E s:=by obtain⟨z,hd,vs,rel,dd⟩:=Dr I.hok e;refine call_len_dict hd dd (by rw[<-rel.length];rw[UB]at z;lia) ?_;rw[<-rel.length];exact h _ _ (I.tok _)
end
theorem zH(I:Inv X pins U H s)(g:DGet H a y o):s.TypeIs (.ref a) "dict":=by
 rcases g with⟨kvs,k,e,_,_⟩ |⟨kvs,k,b,e,_,_,_⟩
 . obtain⟨_,_,vs,_,dd⟩:=Dr I.hok e;exact dd.typeIs
 . obtain⟨_,_,xs,_,dd⟩:=Hi I.hok e;exact dd.typeIs
structure M1(X:Cx)(o:Expr)(m:Str)(apos:Pos)(e:Expr)(cpos:Pos):Prop where
 base:attributeBase o m X.env (eval o X.env)=eval o X.env
 few:((backTo cpos (starEach [e] X.env)).all (fun x=>!x.1)&&(backToKw cpos (keywordEach [] X.env)).all (fun x=>x.1.isSome)
  && decide (([e]:List Expr).length+([]:List Keyword).length+(if([]:List Keyword).isEmpty then 0 else 1)<30))=true
 line:(apos.endLine==cpos.line)=true
 trees:backTo cpos (starEach [e] X.env)=[(false,eval e X.env)]
structure M2(X:Cx)(o:Expr)(m:Str)(apos:Pos)(e f:Expr)(cpos:Pos):Prop where
 base:attributeBase o m X.env (eval o X.env)=eval o X.env
 few:((backTo cpos (starEach [e,f] X.env)).all (fun x=>!x.1)&&(backToKw cpos (keywordEach [] X.env)).all (fun x=>x.1.isSome)
  && decide (([e,f]:List Expr).length+([]:List Keyword).length+(if([]:List Keyword).isEmpty then 0 else 1)<30))=true
 line:(apos.endLine==cpos.line)=true
 trees:backTo cpos (starEach [e,f] X.env)=[(false,eval e X.env),(false,eval f X.env)]
end L2
namespace Att
open PySem PySem.W PySem.Calls PyProof.Rows
theorem z71:∀(ns:List Int)(vs:List Value),WellAll P h vs (ns.map WData.int)->IntsAre vs ns:=by
 intro ns;induction ns with
 |nil=>
  intro vs w
  rw[QR]at w
  cases w
  exact .nil
 |cons n ns ih=>
  intro vs w
  rw[NL]at w
  cases w with
  |cons a b=>
   cases a
   exact .cons _ _ (ih _ b)
theorem yO{l:OpenLaw}{n:Nat}(hn:l.most=some n){P:Params}{h:Heap}{args:List WData}{ag:List Value}
  (fJ:l.row.toRowW.claim.pre args=true) (mT:WellAll P h ag args) :
  ∃a vs ns,ag=[Value.ref a]/\args=[WData.list (ns.map WData.int)]/\h.get? a=some { cls:=.type "list",data:=.seq vs.toArray }/\IntsAre vs ns/\ns.length<=n:=by
 have DK:WShape.hasAll [] args [.list .int]=true:=(pre_splitW fJ).1
 have hc:l.pre.holds [] { args:=args }=true:=(pre_splitW fJ).2
 obtain⟨d,r,rfl,h1,h2⟩:=hasAllW_cons DK
 obtain rfl:=hasAllW_nil h2
 obtain⟨xs,rfl,h3⟩:=hasW_list h1
 obtain⟨ns,rfl⟩:=items_int h3
 have ah:ns.length<=n:=by
  unfold OpenLaw.pre at hc;have h4:(WTm.not (.lt (.lit (.int (n:Int))) (.len (.arg 0)))).holds [] { args:=[.list (ns.map .int)] }=true:=by have h4:=(holds_andW hc).1;rw[hn]at h4;exact h4
  have h5:=condW_of h4 (w_not (w_lt w_lit (w_len_list (w_arg rfl))));rw[oQ]at h5;refine Nat.le_of_not_lt fun q=>?_
  have q':(n:Int)<((ns.length:Nat):Int):=by omega
  first
   | (rw[decide_eq_true q']at h5;exact absurd h5 (by decide))
   | (simp at h5;omega)
 cases mT with
 |cons w1 w2=>
  cases w2
  cases w1 with
  |list ho eJ=>exact⟨_,_,ns,rfl,rfl,ho,z71 ns _ eJ,ah⟩
theorem yN(l:OpenLaw)(args:List WData):l.row.toRowW.claim.post args (.bool true) args=true:=
 postW_of (r:=l.row.toRowW) (X:=(true==true))
  (show WShape.has [] (.bool true) .bool=true by first |rfl |decide |simp[WShape.has,WShape.arms,WShape.armsAll])
  (show(WTm.eq .res (.lit (.bool true))).value [] { args:=args,res:=some (.bool true),after:=args }=some (.bool (true==true)) from w_eq_bool (w_res rfl) w_lit) rfl
theorem attach_call{l:OpenLaw}{n:Nat}{q:Program}{loose:List Str}{XP:(Str->Option Value)->Heap->Prop}{YP:World->Heap->Prop}{d:DefRec}
  (hn:l.most=some n) (gG:d.params.defaults=[])
  (call:∀(w:World)(s₀ ae:Shared)(mg mb:Str->Option Value)(fa:Addr)(o:Obj)(pm cd doc:Value)(a:Addr)(vs:List Value)(ns:List Int),
   Ground q loose [] XP w s₀ mg mb ae.heap->YP w ae.heap ->
   ae.heap.get? fa=some o->o.data=.func (docDef d.name d.params d.body d.scope pm cd doc)->ae.heap.CodeRec cd d.name->mg d.name=some (.ref fa) ->
   ae.heap.get? a=some { cls:=.type "list",data:=.seq vs.toArray }->IntsAre vs ns->ns.length<=n->ae.gens=#[] ->
   codeAny (model l.prog w) callerA (.call (.ref fa) ⟨[.ref a],[]⟩) (fun r s'=>r=.ok (.ret (.bool true))/\OldK ae.heap s'.heap/\s'.os=ae.os/\AllBare s'.gens) ae) :
  WalkO q loose XP YP l.row.toRowW d [] (fun f vs=>PySem.call f vs):=by
 intro w s₀ ae mg mb G Y fa o pm cd doc dV kV ho hd br hD cj hg args ag as fJ LG LU mT LV
 obtain rfl:dV=.none:=Dflts.none hD gG
 obtain rfl:kV=.none:=Dflts.noKw hD
 obtain⟨a,vs,ns,rfl,rfl,gk,fe,ah⟩:=yO hn fJ mT
 refine enter_call (UJ (call w s₀ ae mg mb fa o pm cd doc a vs ns G Y ho (fd_plain hd) br cj gk fe ah hg) fun r s' hq=>?_)
 obtain⟨rfl,h2,h3,h4⟩:=hq
 exact⟨.inl ⟨.bool true,.bool true,[],rfl,fun _=>rfl,.bool true,yN l _,fun _=>⟨List.Pairwise.nil,fun _ hm=>(nomatch hm)⟩⟩,h2,h3,h4⟩
section
def noObjs(h:Heap):Heap:={ h with objs:=#[] }
theorem noObjs_get(h:Heap)(b:Addr):(noObjs h).get? b=none:=by
 cases e:(noObjs h).get? b with
 |none=>rfl
 |some o=>exact absurd (Heap.lt_size e) (Nat.not_lt_zero _)
theorem fr_all(n:h.Ns L m):Fr (noObjs h) L h m:=
 ⟨n,fun b o e=>(by rw[noObjs_get]at e;cases e),OI _⟩
end
end Att
namespace L2
open PySem PySem.Spec PyProof.Rows
theorem Vm:∀{vs:List Value}{ns:List Int},IntsAre vs ns->Vals (ns.map V.int) vs
 |_,_,.nil=>.nil
 |_,_,.cons n t h=>.cons ⟨t,rfl⟩ (Vm h)
def Di(H:Hp):Prop:=∀b,H b=none\/∃o xs,H b=some (.frz o (.lst xs))
theorem xY{P:Program}{w:World}{K:Frag}{mg mb:Str->Option Value}{CX:CXT}{k:Nat}{fa a:Addr}{fd:FuncData}{x:Str}{sp:Sp}{ae:Shared}{vs:List Value}{ns:List Int}
  (KX:K.In ae.heap) (dY:ae.heap.Ns mainGlobals mg) (hb:ae.heap.Ns builtinsNs mb) (DL:∀x:Str,x≠"__name__"->mb x=bootBuiltins x) (oV:ae.heap.NoLimit) (hg:ae.gens=#[])
  (ha:ae.heap.get? a=some { cls:=.type "list",data:=.seq vs.toArray }) (hi:IntsAre vs ns) (hl:ns.length<=sizeLine) (hr:Room k callerA)
  (F:∀base:Heap,K.In base->base.Ns mainGlobals mg->FnOk P w K mg base CX k fa fd [x] sp) (mH:∀(s:Shared)(u:Value),BindsTo s fd ⟨[u],[]⟩ [(x,u)])
  (cL:∀H:Hp,Di H->SqL K H a (ns.map V.int)->sp [.ref a] H (fun v _=>v=.bl true) fun _ _ _=>False)
  (mU:∀H e s',CX [] H ae (fun _ _ _=>False) e s'->False) :
  codeAny (model P w) callerA (.call (.ref fa) ⟨[.ref a],[]⟩) (fun r s'=>r=.ok (.ret (.bool true))/\OldK ae.heap s'.heap/\s'.os=ae.os/\AllBare s'.gens) ae:=by
 have rv:=Vm hi
 have oW:=hi.length
 have lz:∀H:Hp,Di H->SqL K H a (ns.map V.int)->HOk P w H ae.heap->(∀b,H b≠none->b=a)->(H a≠none->K.lookup a=none) ->
   codeAny (model P w) callerA (.call (.ref fa) ⟨[.ref a],[]⟩) (fun r s'=>r=.ok (.ret (.bool true))/\OldK ae.heap s'.heap/\s'.os=ae.os/\AllBare s'.gens) ae:=by
  intro H hO hS hok hA hK
  have eF:∀{b:Addr}{o:Obj},ae.heap.get? b=some o->H b=none->(N5 ae.heap H).get? b=some o:=fun e n=>yf e n
  have gB:∀{b:Addr}{o:Obj}{es:Array DictEntry}{ep:Nat},ae.heap.get? b=some o->o.data=.dict es ep->H b=none:=fun {b o es ep} e d=>by
   cases q:H b with
   |none=>rfl
   |some u=>
    have e':b=a:=hA b (by rw[q];simp)
    subst e'
    rw[ha]at e;cases e
    have d':Data.seq vs.toArray _=Data.dict es ep:=d
    cases d'
  have iw:∀{b:Addr}{m:Str->Option Value},ae.heap.Ns b m->(N5 ae.heap H).Ns b m:=fun {b m} ⟨o,es,ep,e,d,r⟩=>⟨o,es,ep,eF e (gB e d),d,r⟩
  have uW:K.In (N5 ae.heap H):=fun b o e=>eF (KX b o e) (by
   cases q:H b with
   |none=>rfl
   |some u=>
    have e':b=a:=hA b (by rw[q];simp)
    subst e'
    rw[hK (by rw[q];simp)]at e;cases e)
  have hM:Mod K mg (N5 ae.heap H):=⟨uW,iw dY,⟨mb,iw hb,DL⟩,let ⟨mc,h1,h2⟩:=oV;⟨mc,iw h1,h2⟩⟩
  have e0:Env0 P w K mg (N5 ae.heap H) callerA [] ae H:=⟨rfl,hM,fun b o e=>wB e,Nat.le_of_eq (yU _ _),trivial,fun b hb=>absurd (show b∈([]:List Addr) from hb) (by simp),hok,.of_eq hg⟩
  refine UJ ((F _ uW (iw dY)).run callerA [] ae H ⟨[.ref a],[]⟩ [.ref a] [.ref a] _ _ hr e0 (mH ae (.ref a)) (.cons rfl .nil) (cL H hO hS)) fun r s' h=>?_
  cases r with
  |error e=>exact(mU H e s' h).elim
  |ok fl=>
   cases fl with
   |next=>exact False.elim h
   |brk=>exact False.elim h
   |cont=>exact False.elim h
   |ret u=>
    obtain⟨v,H',os,bare,un,oX,r',q⟩:=h
    have q':v=.bl true:=q
    subst q'
    obtain rfl:u=Value.bool true:=r'
    refine⟨rfl,OldK.of_keep fun b o e=>?_,os,bare⟩
    cases q:H b with
    |none=>exact un.keep b o e q (by intro z;exact absurd (show b∈([]:List Addr) from z) (by simp)) (by simp)
    |some u=>
     rcases hO b with z |⟨ob,xs,z⟩
     . rw[q]at z;cases z
     . have z2:=un.frzs b ob _ z;obtain⟨e1,_⟩:=hok b _ z;obtain⟨e2,_⟩:=oX b _ z2;rw[e]at e1;cases e1;exact e2
 cases hk:K.lookup a with
 |some o=>
  have e:=KX a o hk
  rw[ha]at e
  cases e
  refine lz (fun _=>none) (fun _=>.inl rfl) (.inr ⟨_,vs.toArray,_,hk,rfl,rfl,rfl,by rw[LL,oW];exact hl,by simpa using rv⟩) (fun b u z=>by have z':(none:Option HO)=some u:=z;cases z') (fun b z=>absurd rfl z) fun z=>absurd rfl z
 |none=>
  refine lz (fun b=>if b=a then some (.frz { cls:=.type "list",data:=.seq vs.toArray } (.lst (ns.map V.int))) else none) (fun b=>?_) (.inl (.inr ⟨{ cls:=.type "list",data:=.seq vs.toArray },ξ rfl⟩)) (fun b u z=>?_) (fun b z=>?_) fun _=>hk
  . by_cases hb:b=a
    . exact .inr ⟨_,_,ξ hb⟩
    . exact .inl (ψ hb)
  . by_cases hb:b=a
    . have z':=(ξ hb).symm.trans z;cases z';subst hb;exact⟨ha,by rw[oQ];exact hl,vs,_,rv,ha⟩
    . have z':=(ψ hb).symm.trans z;cases z'
  . by_cases hb:b=a
    . exact hb
    . exact absurd (ψ hb) z
theorem walk_of{l:PySem.W.OpenLaw}{n k:Nat}{q:Program}{loose:List Str}{XP:(Str->Option Value)->Heap->Prop}{YP:World->Heap->Prop}{d:DefRec}{K:Params->Frag}{CX:World->CXT}{sp:World->Sp}{x:Str}
  (hn:l.most=some n) (iy:n<=sizeLine) (gG:d.params.defaults=[]) (hr:Room k callerA)
  (hY:∀(w:World)(h:Heap),YP w h->(K w.params).In h)
  (F:∀(w:World)(mg:Str->Option Value)(fa:Addr)(h:Heap),(K w.params).In h->h.Ns mainGlobals mg->mg d.name=some (.ref fa) ->
   ∃fd:FuncData,(∀(s:Shared)(u:Value),BindsTo s fd ⟨[u],[]⟩ [(x,u)]) /\
    ∀base:Heap,(K w.params).In base->base.Ns mainGlobals mg->FnOk l.prog w (K w.params) mg base (CX w) k fa fd [x] (sp w))
  (cL:∀(w:World)(H:Hp)(a:Addr)(ns:List Int),ns.length<=n->Di H->SqL (K w.params) H a (ns.map V.int)->sp w [.ref a] H (fun v _=>v=.bl true) fun _ _ _=>False)
  (mU:∀(w:World)(H:Hp)(s:Shared)(e:Value)(s':Shared),CX w [] H s (fun _ _ _=>False) e s'->False) :
  PySem.W.WalkO q loose XP YP l.row.toRowW d [] (fun f vs=>PySem.call f vs):=by
 refine Att.attach_call hn gG fun w s₀ ae mg mb fa o pm cd doc a vs ns G Y ho hd br cj gk fe ah hg=>?_
 have KX:=hY w _ Y
 obtain⟨fd,hb,hF⟩:=F w mg fa _ KX G.T.g cj
 exact xY KX G.T.g G.T.b G.T.builtins G.T.nolimit hg gk fe (KM ah iy) hr hF hb (fun H hO hS=>cL w H a ns ah hO hS) fun H e s'=>mU w H ae e s'
noncomputable def j4(s:Stmt):Arguments:=match s with
 | .FunctionDef _ a _ _ _ _ _ _ _ _=>a
 |_=>{ posonlyargs:=[],args:=[],vararg:=none,kwonlyargs:=[],kw_defaults:=[],kwarg:=none,defaults:=[] }
noncomputable def i9(s:Stmt):List Stmt:=match s with
 | .FunctionDef _ _ b _ _ _ _ _ _ _=>b
 |_=>[]
noncomputable def g3(s:Stmt):Scope:=match s with
 | .FunctionDef _ _ _ _ _ _ sc _ _ _=>sc
 |_=>{ kind:=.function,names:=[],isGenerator:=false,isCoroutine:=false }
abbrev CX0:CXT:=fun _ _ _ _ _ _=>False
structure Fun(K:Frag)(x qual:Str)(st:Stmt)(f:Addr)(fd:FuncData):Prop where
 ex:∃(oc:Value)(od:Option Addr)(kV doc pm:Value)(an:Option Addr)(cdv ct:Value)(osl:Array (Option Value)),
  fd=PySem.W.fnOf x qual (j4 st) (i9 st) (g3 st) .none kV doc pm an cdv ct/\K.lookup f=some ⟨oc,od,.func fd,osl⟩/\codeIn K cdv qual=true
 kp:keepIn K (.ref f)=true
section
variable {P:Program}{w:World}{K:Frag}{mg:Str->Option Value}{base:Heap}
theorem Fun.ok{x qual:Str}{st:Stmt}{f:Addr}{fd:FuncData}{N ps:List Str}{k:Nat}{sp:Sp}(F:Fun K x qual st f fd)(S:FnScope N ps (g3 st))(len:∀vs H Q E,sp vs H Q E->vs.length=ps.length)
  (bj:∀(cdv:Value)(A:Around)(outer:List Env)(s:Shared)(H:Hp)(vs:List V)(Q:VK)(E:XK),Room k (A.deeper (envOfC qual (g3 st) s.heap.objs.size f cdv))->sp vs H Q E ->
   ∃t,PSs (J0 CX0 P w K mg base N qual (g3 st) f cdv A outer s H E).nox (i9 st) t/\t { nx:=fun _ H'=>Q .non H',rt:=Q } (D1 N vs) H):FnOk P w K mg base CX0 (k+1) f fd ps sp:=by
 obtain⟨oc,od,kV,doc,pm,an,cdv,ct,osl,rfl,lk,br⟩:=F.ex
 refine Hk lk br S len fun A outer s H vs Q E hr cL=>?_
 obtain⟨t,h,q⟩:=bj cdv A outer s H vs Q E hr cL
 exact⟨t,h.nox,q⟩
theorem Fun.binds{x qual:Str}{st:Stmt}{f:Addr}{fd:FuncData}{ps:List Str}(F:Fun K x qual st f fd)
  (h:∀(kV doc pm:Value)(an:Option Addr)(cdv ct:Value)(us:List Value),us.length=ps.length->bindArgs (PySem.W.fnOf x qual (j4 st) (i9 st) (g3 st) .none kV doc pm an cdv ct) ⟨us,[]⟩=pure (ps.zip us)):Binds K fd ps []:=by
 obtain⟨oc,od,kV,doc,pm,an,cdv,ct,osl,rfl,lk,br⟩:=F.ex
 exact .all (h kV doc pm an cdv ct)
theorem o7{x qual:Str}{st:Stmt}{f:Addr}{oc:Value}{od an:Option Addr}{osl:Array (Option Value)}{kV doc pm cdv ct:Value}(l:K.lookup f=some ⟨oc,od,.func (PySem.W.fnOf x qual (j4 st) (i9 st) (g3 st) .none kV doc pm an cdv ct),osl⟩)
 (c:codeIn K cdv qual=true) (k:keepIn K (.ref f)=true):Fun K x qual st f (PySem.W.fnOf x qual (j4 st) (i9 st) (g3 st) .none kV doc pm an cdv ct):=⟨⟨oc,od,kV,doc,pm,an,cdv,ct,osl,rfl,l,c⟩,k⟩
end
theorem yM(h:n<=1000):n<sizeLine:=Nat.lt_of_le_of_lt h (by decide)
section
variable {X:Cx}
theorem pv(i:Nat)(hN:X.N[i]?=some x:=by rfl)(hv:Vis X.env.scope x:=by first |exact .inl rfl |exact .inr (.inl rfl) |exact .inr (.inr rfl))(hd:(x==("__debug__":Str))=false:=by decide)
 (br:(x==("__classdict__":Str))=false:=by decide):PE X (.Name x pos) (Gf i):=Jr hN hv hd br
theorem call_lenD:CallR X (.builtin "len") (fun xs H Q=>∃a kvs,xs=[V.ref a]/\H a=some (.dK kvs)/\Q (.int kvs.length) H):=by intro pins s U H xs us Q I r h;obtain⟨a,kvs,rfl,ha,q⟩:=h;obtain⟨u,rfl,ru⟩:=w8 r;cases ru;exact Zk I (.inl ha) fun t s' I'=>⟨.int kvs.length,H,I',⟨t,rfl⟩,q⟩
end
def Same(H H':Hp):Prop:=∀b o,H b=some o->H' b=some o
theorem Same.refl(H:Hp):Same H H:=fun _ _ h=>h
theorem Same.trans(a:Same H H1)(b:Same H1 H2):Same H H2:=fun c o h=>b c o (a c o h)
theorem Same.free(e:Same H H')(h:H' l=Option.none):H l=Option.none:=by
 cases q:H l with
 |none=>rfl
 |some o=>
  rw[e l o q]at h
  cases h
theorem Same.seq{K:Frag}{H H':Hp}{a:Addr}{xs:List V}(e:Same H H')(h:SqL K H a xs):SqL K H' a xs:=by
 rcases h with (h |⟨o,h⟩) |h
 . exact .inl (.inl (e _ _ h))
 . exact .inl (.inr ⟨o,e _ _ h⟩)
 . exact .inr h
end L2
set_option maxHeartbeats 4000000
namespace L2
open PySem PySem.Spec PyProof.Rows
noncomputable def y8(cells:List (Str×Addr)):List (Str×NameKind)->List (Str×Addr)->List (Str×Addr)
 | [],acc=>acc
 | (n,k)::r,acc=>y8 cells r (if k==.free then(n,(cells.lookup n).getD 0)::acc else acc)
theorem Wu:∀{names:List (Str×NameKind)}{acc:List (Str×Addr)},
  (∀y∈names,y.2=.free->∃c,cells.lookup y.1=some c)->(∀y c,acc.lookup y=some c->cells.lookup y=some c)->(y8 cells names acc).lookup x=some c->cells.lookup x=some c
 | [],acc,_,ha,h=>ha x c h
 | (n,k)::r,acc,hf,ha,h=>by
  refine Wu (names:=r) (fun y hy=>hf y (IR _ hy)) (fun y c'=>?_) h;by_cases hk:k=.free
  . subst hk;obtain⟨c0,e0⟩:=hf (n,.free) NN rfl;intro e;have e1:(if(NameKind.free==NameKind.free)=true then(n,(cells.lookup n).getD 0)::acc else acc)=(n,(cells.lookup n).getD 0)::acc:=ξ (show(NameKind.free==NameKind.free)=true from rfl);rw[e1,SG]at e;cases gH:y==n with
    |true=>
     rw[gH]at e
     have e2:y=n:=by simpa using gH
     subst e2
     have e3:=Option.some.inj e
     have DM:cells.lookup y=some c0:=e0
     rw[DM]at e3⊢
     exact PZ some e3
    |false=>rw[gH]at e;exact ha y c' e
  . have e1:(if(k==NameKind.free)=true then(n,(cells.lookup n).getD 0)::acc else acc)=acc:=ψ (by simpa using hk);rw[e1];exact ha y c'
theorem Mf:∀{names:List (Str×NameKind)}{acc:List (Str×Addr)},
  ((∃c,acc.lookup x=some c)\/∃y∈names,y.2=.free/\y.1=x)->∃c,(y8 cells names acc).lookup x=some c
 | [],acc,h=>by
  rcases h with h |⟨y,hy,_⟩
  . exact h
  . cases hy
 | (n,k)::r,acc,h=>by
  refine Mf (names:=r) ?_;by_cases hk:k=.free
  . subst hk;have e1:(if(NameKind.free==NameKind.free)=true then(n,(cells.lookup n).getD 0)::acc else acc)=(n,(cells.lookup n).getD 0)::acc:=ξ (show(NameKind.free==NameKind.free)=true from rfl);rw[e1,SG];cases DO:x==n with
    |true=>exact .inl ⟨_,rfl⟩
    |false=>
     rcases h with h |⟨y,hy,hf,e⟩
     . exact .inl h
     . rcases tB.mp hy with z |z
       . subst z;have e':n=x:=e;subst e';simp at DO
       . exact .inr ⟨y,z,hf,e⟩
  . have e1:(if(k==NameKind.free)=true then(n,(cells.lookup n).getD 0)::acc else acc)=acc:=ψ (by simpa using hk);rw[e1];rcases h with h |⟨y,hy,hf,e⟩
    . exact .inl h
    . rcases tB.mp hy with z |z
      . subst z;exact absurd hf hk
      . exact .inr ⟨y,z,hf,e⟩
theorem Wt(hf:∀y∈scope.names,y.2=.free->∃c,env.cells.lookup y.1=some c):closureFor scope env=pure (y8 env.cells scope.names []):=by
 have go:∀(names:List (Str×NameKind))(acc:List (Str×Addr)),(∀y∈names,y.2=.free->∃c,env.cells.lookup y.1=some c) ->
   (forIn names acc fun x cs=>if(x.2==NameKind.free)=true then do let a <-cellOf env x.1;pure (ForInStep.yield ((x.1,a)::cs)) else pure (ForInStep.yield cs):Sem (List (Str×Addr)))=pure (y8 env.cells names acc):=by
  intro names
  induction names with
  |nil=>intro acc _;rfl
  |cons p r ih=>
   intro acc h
   obtain⟨n,k⟩:=p
   rw[SN]
   by_cases hk:k=.free
   . subst hk;obtain⟨c,e⟩:=h (n,.free) NN rfl;have e':env.cells.lookup n=some c:=e;have e1:cellOf env n=pure c:=by unfold cellOf;rw[e']
     have e2:y8 env.cells ((n,NameKind.free)::r) acc=y8 env.cells r ((n,c)::acc):=by show y8 env.cells r (if(NameKind.free==NameKind.free)=true then(n,(env.cells.lookup n).getD 0)::acc else acc)=_;rw[ξ (show(NameKind.free==NameKind.free)=true from rfl),e'];rfl
     rw[e2,<-ih _ fun y hy=>h y (IR _ hy)];show((if(NameKind.free==NameKind.free)=true then do let a <-cellOf env n;pure (ForInStep.yield ((n,a)::acc)) else pure (ForInStep.yield acc)) >>= _:Sem _)=_;rw[ξ (show(NameKind.free==NameKind.free)=true from rfl),e1];rfl
   . have cr:(k==NameKind.free)=false:=by simpa using hk
     have e2:y8 env.cells ((n,k)::r) acc=y8 env.cells r acc:=by show y8 env.cells r (if(k==NameKind.free)=true then _ else acc)=_;rw[ψ (by rw[cr];exact η)]
     rw[e2,<-ih _ fun y hy=>h y (IR _ hy)];show((if(k==NameKind.free)=true then do let a <-cellOf env n;pure (ForInStep.yield ((n,a)::acc)) else pure (ForInStep.yield acc)) >>= _:Sem _)=_;rw[ψ (by rw[cr];exact η)];rfl
 have:=go scope.names [] hf;unfold closureFor;simpa using this
theorem zX(I:Nat->Shared->Prop)
  (turn:∀n s,I n s->wpAny (model prog w) A (pyNext it) (fun r ae=>match r with
   |none=>R (.ok .next) ae
   |some v=>wpAny (model prog w) A (letOwnedTupleGo target it v) (fun _ fZ=>wpAny (model prog w) A (assign target env v) (fun _ bQ=>
    wpAny (model prog w) A (forIn aC true fun c r=>if r=true then do let ok <-isTrue c env (eval c env);pure (ForInStep.yield ok) else pure (ForInStep.yield r)) (fun ok ax=>
     if ok=true then wpAny (model prog w) A (eval aH env) (fun x cJ=>
      wpAny (model prog w) A (call (.builtin "list.append") [acc,x]) (fun _ lA=>∃m,m<n/\I m lA) (fun _ _=>False) cJ) (fun _ _=>False) ax
     else ∃m,m<n/\I m ax) (fun _ _=>False) bQ) (fun _ _=>False) fZ) (fun _ _=>False) ae) (fun _ _=>False) s)
  (n:Nat) (h:I n s) :
  codeAny (model prog w) A (.compLoop (.ListComp aH [⟨target,iter,aC,0⟩] scope pos) 0 it acc env) R s:=by
 refine codeAny_loop rfl I (fun n s hI=>?_) n h
 show wpAny _ A ((compTurn (.ListComp aH [⟨target,iter,aC,0⟩] scope pos) 0 it acc env).onRaise (fun x=>do noteFrame x env;theTreesLotGoes x)) _ _ s
 refine wpAny_noted ?_
 rw[compTurn_list]
 refine χ (wpAny_standAt (χ (OG (turn n s hI) (fun r ae dO=>?_) fun _ _ h'=>h'.elim)))
 cases r with
 |none=>exact ω dO
 |some v=>
  refine χ (OG dO (fun _ fZ mI=>?_) fun _ _ h'=>h'.elim)
  refine χ (OG mI (fun _ bQ oY=>χ (OG oY (fun ok ax lB=>?_) fun _ _ h'=>h'.elim)) fun _ _ h'=>h'.elim)
  cases ok with
  |false=>exact ω ⟨rfl,lB⟩
  |true=>
   exact χ (χ (OG lB (fun x cJ oZ=>χ (OG oZ (fun _ lA pc=>ω (ω ⟨rfl,pc⟩)) fun _ _ h'=>h'.elim)) fun _ _ h'=>h'.elim))
theorem Mn{env:Env}:∀{names:List (Str×NameKind)}{x:Str},
  (names.map fun (n,k)=>if(k==NameKind.free&&env.scope.kind==.function&&env.kindOf n==some .cell) then(n,NameKind.cell) else(n,k)).lookup x =
   (names.lookup x).map fun k=>if(k==NameKind.free&&env.scope.kind==.function&&env.kindOf x==some .cell) then NameKind.cell else k
 | [],_=>rfl
 | (n,k)::r,x=>by
  have ih:=@Mn env r x;show List.lookup x ((if(k==NameKind.free&&env.scope.kind==.function&&env.kindOf n==some .cell)=true then(n,NameKind.cell) else(n,k))::_)=_;cases hx:x==n with
  |true=>
   have e:x=n:=by simpa using hx
   subst e
   by_cases hc:(k==NameKind.free&&env.scope.kind==.function&&env.kindOf x==some .cell)=true
   . rw[ξ hc];simp only[SG,hx,NV,hc,QN]
   . rw[ψ hc];simp only[SG,hx,NV,hc,PY];rfl
  |false=>
   by_cases hc:(k==NameKind.free&&env.scope.kind==.function&&env.kindOf n==some .cell)=true
   . rw[ξ hc];simp only[SG,hx];exact ih
   . rw[ψ hc];simp only[SG,hx];exact ih
def n5(X:Cx)(sc:Scope)(N':List Str)(fp:List Addr)(ax:Shared)(pf:Hp):Cx:=
 { X with env:=compEnvC sc (y8 X.env.cells sc.names []) ax.heap.objs.size X.env,N:=N',s₀:=ax,H₀:=pf,outer:=X.stack,ex:=fp,fn:=fun _=>false,pn:=[],xe:=fun _ _=>False }
noncomputable def K5(ix:List Nat)(U:St):St:=ix.map fun j=>(U[j]?).getD none
structure CompOk(X:Cx)(sc:Scope)(caps:List Str)(ix:List Nat):Prop where
 calm:X.calm=true
 kind:sc.kind=.function
 ncell:∀y∈sc.names,y.2≠.cell
 free:∀y∈sc.names,y.2=.free->X.env.kindOf y.1=some .cell\/X.env.kindOf y.1=some .free
 names:∀y∈sc.names,y.2=.local->sc.names.lookup y.1=some .local
 cap:∀(j:Nat) x,caps[j]?=some x->sc.names.lookup x=some .free/\∃i,ix[j]?=some i/\X.N[i]?=some x
 len:ix.length=caps.length
noncomputable def Vl(fsc:Scope)(N:List Str)(sc:Scope)(caps:List Str)(ix:List Nat):Bool:=
 sc.kind==.function&&sc.names.all (fun y=>y.2 != .cell)&&sc.names.all (fun y=>y.2 != .free||(fsc.names.lookup y.1==some .cell||fsc.names.lookup y.1==some .free)) &&
  sc.names.all (fun y=>y.2 != .local||sc.names.lookup y.1==some .local)&&caps.all (fun x=>sc.names.lookup x==some .free)&&(ix.map fun i=>N[i]?)==caps.map some
theorem E4(hc:X.calm=true)(h:Vl X.env.scope X.N sc caps ix=true):CompOk X sc caps ix:=by
 unfold Vl at h;simp only[bI]at h;obtain⟨⟨⟨⟨⟨h1,h2⟩,h3⟩,h4⟩,h5⟩,h6⟩:=h;have e6:(ix.map fun i=>X.N[i]?)=caps.map some:=by simpa using h6
 have lC:ix.length=caps.length:=by simpa using PZ List.length e6
 refine⟨hc,by simpa using h1,fun y hy=>?_,fun y hy hf=>?_,fun y hy hl=>?_,fun j x hj=>⟨?_,?_⟩,lC⟩
 . have:=KB.mp h2 y hy;simpa using this
 . have:=KB.mp h3 y hy;rw[hf]at this;simp only[bne_self_eq_false,Bool.false_or,Bool.or_eq_true,OY]at this;exact this
 . have:=KB.mp h4 y hy;rw[hl]at this;simpa using this
 . have:=KB.mp h5 x (OR hj);simpa using this
 . have uX:j<ix.length:=by rw[lC];exact(NW.mp hj).1
   refine⟨ix[j],NG uX,?_⟩;have q:=PZ (fun l=>l[j]?) e6;simp only[NS,NG uX,hj,NV]at q;exact Option.some.inj q
section
variable {X:Cx}{sc:Scope}{tgs caps:List Str}{ix:List Nat}{pins:List (Addr×Obj)}{U:St}{H:Hp}{s:Shared}{fp:List Addr}
theorem CompOk.free_cell(C:CompOk X sc caps ix)(I:Inv X pins U H s):∀y∈sc.names,y.2=.free->∃c,X.env.cells.lookup y.1=some c:=fun y hy hf=>I.ok.has y.1 (C.free y hy hf)
theorem CompOk.sub(C:CompOk X sc caps ix)(I:Inv X pins U H s)(h:(y8 X.env.cells sc.names []).lookup x=some c):X.env.cells.lookup x=some c:=
 Wu (C.free_cell I) (fun _ _ e=>by cases e) h
theorem zl(C:CompOk X sc caps ix)(I:Inv X pins U H s)(hf:∀b∈fp,B0 X pins H b)(hl:∀b∈fp,b<s.heap.objs.size)(hn:h'.Ns s.heap.objs.size m)
  (hk:∀b o,s.heap.get? b=some o->h'.get? b=some o) :
  Inv (n5 X sc (tgs++caps) fp s H) [] (List.replicate tgs.length none++K5 ix U) H { s with heap:=h',toks:=t' }:=by
 have sub:∀{x c},(y8 X.env.cells sc.names []).lookup x=some c->X.env.cells.lookup x=some c:=fun h=>C.sub I h
 have LW:∀{x c},X.env.cells.lookup x=some c->c<s.heap.objs.size:=fun {x c} h=>by obtain⟨v,q⟩:=I.cell x c h;exact q.lt
 refine⟨⟨I.ok.mod,C.kind,I.ok.glob,I.ok.blt,ζ _,fun x y c h1 h2=>I.ok.inj x y c (sub h1) (sub h2),fun x hx=>?_,fun x c gA _=>?_,I.ok.hd,I.ok.frames,.inl rfl,fun b hb=>⟨?_,fun x c h z=>?_⟩,fun b o e=>I.bs b o e,KM I.ok.bsz I.sz,fun b o e hb=>?_,fun b hb gI=>?_,I.stack,I.stkFree⟩,
  rfl,I.bare,Un.kept hk,⟨m,hn,fun i x v e1 e2 e3=>?_⟩,fun x c h=>?_,I.hok.fresh (ζ _),fun x c h=>I.freeC x c (sub h),fun p hp=>absurd (show p∈([]:List (Addr×Obj)) from hp) (by simp),I.hok.kept hk,?_⟩
 . -- a cell or free name of the CY has a cell
   have bJ:(relabel sc X.env).names.lookup x=some .cell\/(relabel sc X.env).names.lookup x=some .free:=hx;have e:(relabel sc X.env).names.lookup x=(sc.names.lookup x).map fun k=>if(k==NameKind.free&&X.env.scope.kind==.function&&X.env.kindOf x==some .cell) then NameKind.cell else k:=Mn
   rw[e]at bJ;cases q:sc.names.lookup x with
   |none=>rw[q]at bJ;rcases bJ with z |z<;>cases z
   |some k=>
    have hm:(x,k)∈sc.names:=QM q
    have DP:k=.free:=by
     rw[q]at bJ;simp only[NV]at bJ;by_cases iz:k=.free
     . exact iz
     . have:(k==NameKind.free)=false:=by simpa using iz
       simp only[this,Bool.false_and,OD,PY]at bJ;rcases bJ with z |z
       . exact absurd (Option.some.inj z) (C.ncell _ hm)
       . exact Option.some.inj z
    subst DP
    exact Mf (.inr ⟨_,hm,rfl,rfl⟩)
 . exact absurd (show false=true from gA) η
 . exact NI (hl b hb)
 . exact(hf b hb).2.2.2.2.1 x c (sub h) z
 . obtain⟨_,_,_,hx,_⟩:=hf b hb;rcases hx with z |z
   . exact I.ok.noex b o e z
   . exact absurd (NH (Φ e) (KM I.ok.bsz z)) (PB _)
 . obtain⟨_,h1,h2,_⟩:=hf b hb;rcases tB.mp (I.stkSub b gI) with z |z
   . exact h1 z
   . exact h2 z
 . -- the oO CV CW
   have hi:tgs.length<=i:=by
    by_cases hi:i<tgs.length
    . rw[PQ (by simpa using hi),List.getElem?_replicate]at e2;split at e2<;>cases e2
    . lia
   have DQ:caps[i - tgs.length]?=some x:=by have:(tgs++caps)[i]?=some x:=e1;rw[PJ hi]at this;exact this
   rw[PJ (by simpa using hi),List.length_replicate]at e2;obtain⟨bE,j,hj,DR⟩:=C.cap _ x DQ;have DT:U[j]?=some (some v):=by
    unfold K5 at e2;rw[NS,hj]at e2;simp only[NV]at e2;have e2:=Option.some.inj e2;cases q:U[j]? with
    |none=>rw[q]at e2;cases e2
    |some o=>rw[q]at e2;exact PZ some e2
   have lD:(x,NameKind.free)∈sc.names:=QM bE;have bP:=C.free _ lD rfl;obtain⟨m0,LX,mV⟩:=I.loc;have ph:Vis X.env.scope x:=bP.elim (fun z=>.inr (.inl z)) fun z=>.inr (.inr z)
   obtain⟨u,r,look⟩:=mV j x v DR DT ph;refine⟨u,r,?_⟩;rcases look with⟨k,_⟩ |⟨_,c,hc,z⟩
   . rcases bP with q |q
     . rw[show X.env.kindOf x=some .cell from q]at k;cases k
     . rw[show X.env.kindOf x=some .free from q]at k;cases k
   . obtain⟨c',aT⟩:=Mf (cells:=X.env.cells) (names:=sc.names) (acc:=[]) (x:=x) (.inr ⟨_,lD,rfl,rfl⟩);have dD:c'=c:=by have:=sub aT;rw[hc]at this;exact(Option.some.inj this).symm
     subst dD;refine .inr ⟨?_,c',aT,?_⟩
     . have e:(relabel sc X.env).names.lookup x=(sc.names.lookup x).map fun k=>if(k==NameKind.free&&X.env.scope.kind==.function&&X.env.kindOf x==some .cell) then NameKind.cell else k:=Mn
       show(relabel sc X.env).names.lookup x=some .cell\/(relabel sc X.env).names.lookup x=some .free;rw[e,bE];simp only[NV];split
       . exact .inl rfl
       . exact .inr rfl
     . obtain⟨o,ho,hd⟩:=z;exact⟨o,hk _ o ho,hd⟩
 . obtain⟨v,o,ho,hd⟩:=I.cell x c (sub h);exact⟨v,o,hk _ o ho,hd⟩
 . show _=(tgs++caps).length;unfold K5;rw[θ,List.length_replicate,oQ,θ,C.len]
inductive PTs (X:Cx):List Expr->TT->Prop where
 |nil:PTs X [] (fun _ H Q=>Q true H)
 |one {c:Expr} {t:TT} (h:PT X c t):PTs X [c] t
theorem PTs.run(h:PTs X aC t)(I:Inv X pins U H s)(q:t U H Q) :
  wpAny (model X.prog X.w) X.A (forIn aC true fun c r=>if r=true then do let ok <-isTrue c X.env (eval c X.env);pure (ForInStep.yield ok) else pure (ForInStep.yield r)) (TP X pins U Q) X.xe s:=by
 cases h with
 |nil=>exact wpAny_tests_nil ⟨H,I,q⟩
 |one h=>exact wpAny_tests_one (h pins s U H Q I q)
def Ow(J:It)(D:Addr)(B:V->Hp->(List V->Hp->Prop)->Prop)(cs:St)(tt:TT)(te:TE)(Q:VK)(H1:Hp):Prop:=
 ∃W:Nat->Nat->List V->Hp->Prop,(∃m,W 0 m [] (upd H1 D (.lst [])))/\∀i m ys H,W i m ys H ->
  H D=some (.lst ys)/\((J.stop i H/\Q (.ref D) H)\/(J.go i H/\∀x H',J.yld i H x H'->B x H' fun ag H2=>tt (ag.map some++cs) H2 fun b H3=>
   if b=true then te (ag.map some++cs) H3 fun y H4=>H4 D=some (.lst ys)/\ys.length<sizeLine/\∃m',m'<m/\W (i+1) m' (ys++[y]) (upd H4 D (.lst (ys++[y])))
   else ∃m',m'<m/\W (i+1) m' ys H3))
def Q1(wi:TI)(B:V->Hp->(List V->Hp->Prop)->Prop)(ix:List Nat)(tt:TT)(te:TE):TE:=fun U H Q=>wi U H fun J H1=>∀D,H1 D=none->Ow J D B (K5 ix U) tt te Q H1
variable {aH tg iter:Expr}{aC:List Expr}{pos:Pos}{g:TG}{B:V->Hp->(List V->Hp->Prop)->Prop}{tt:TT}{te:TE}
theorem Wf(C:CompOk X sc caps ix)(hg:∀fp s H,PG (n5 X sc (tgs++caps) fp s H) tg g)
  (hB:∀(x:V)(bA cs:St)(H:Hp)(Q:St->Hp->Prop),bA.length=tgs.length->B x H (fun ag H2=>Q (ag.map some++cs) H2)->g x (bA++cs) H fun bz H2=>(∃ag:List V,ag.length=tgs.length/\bz=ag.map some++cs)/\Q bz H2)
  (ht:∀fp s H,PTs (n5 X sc (tgs++caps) fp s H) aC tt) (he:∀fp s H,PE (n5 X sc (tgs++caps) fp s H) aH te)
  {J:It} {it:Addr} {tn:Nat->Heap->Prop} {Q:VK} {E:Value->Shared->Prop} (I2:Inv X pins U H s) (T:Turn X.prog X.w X.K tg J fp it tn) (st:tn 0 s.heap) (hf:∀b∈fp,B0 X pins H b)
  (hw:∀D,H D=none->Ow J D B (K5 ix U) tt te Q H) {RR:Value->Addr->Result->Shared->Prop}
  (DU:∀D Cc H' s' m,s'.heap.Ns Cc m->Inv X pins U H' s'->B0 X pins H' Cc->Q (.ref D) H'->RR (.ref D) Cc (.ok .next) s') :
  wpAny (model X.prog X.w) X.A (newList []) (fun acc ax=>wpAny (model X.prog X.w) X.A (newFunctionEnv sc X.env.globals (y8 X.env.cells sc.names []) [] X.env.qual none .none (some X.env)) (fun lE cJ=>
   codeAny (model X.prog X.w) X.A (.compStart (.ListComp aH [⟨tg,iter,aC,0⟩] sc pos) 0 (.ref it) acc { lE with scope:=relabel sc X.env }) (RR acc lE.locals) cJ) E ax) E s:=by
 refine QZ (wpAny_newFunctionEnv C.ncell (by intro y hy;simp at hy) (fun dO fF fG=>?_) C.kind)
 have I3:Inv X pins U (upd H s.heap.objs.size (.lst [])) { s with heap:=s.heap.push { cls:=.type "list",dict:=none,data:=.seq ([]:List Value).toArray } }:=I2.lnew (t':=s.toks) (its:=[]) .nil (OI _)
 have DV:H s.heap.objs.size=none:=I2.fresh
 have uY:∀b∈fp,b<s.heap.objs.size:=fun b hb=>by obtain⟨o,e,_⟩:=T.obj _ _ st b hb;exact Φ e
 have DW:∀b∈fp,b≠s.heap.objs.size:=fun b hb=>NI (uY b hb)
 have uZ:∀b∈fp,B0 X pins (upd H s.heap.objs.size (.lst [])) b:=fun b hb=>⟨by rw[i6 (DW b hb)];exact(hf b hb).1,(hf b hb).2⟩
 generalize DX:({ s with heap:=s.heap.push { cls:=.type "list",dict:=none,data:=.seq ([]:List Value).toArray } }:Shared)=ax at I3 fF fG⊢
 have lF:ax.heap=s.heap.push { cls:=.type "list",dict:=none,data:=.seq ([]:List Value).toArray }:=by rw[<-DX]
 have dE:tn 0 ax.heap:=T.keep _ _ _ st fun b _ o e=>by rw[lF];exact Ψ _ e
 have iA:∀b∈fp,b<ax.heap.objs.size:=fun b hb=>by rw[lF,Heap.size_push];exact UF (uY b hb)
 generalize LY:s.heap.objs.size=D at *
 have AA:∀b o,ax.heap.get? b=some o->dO.get? b=some o:=fun b o e=>fG.extBut b o (NI (Φ e)) (Ψ _ e)
 have I4:=zl (tgs:=tgs) (t':=ax.toks+([]:List (Str×Value)).length) C I3 uZ iA fF AA
 have cA:tn 0 dO:=T.keep _ _ _ dE fun b _ o e=>AA b o e
 have DY:∀b∈fp,(upd H D (.lst [])) b=none:=fun b hb=>(uZ b hb).1
 generalize cB:n5 X sc (tgs++caps) fp ax (upd H D (.lst []))=Xc at I4
 have bx:Xc.prog=X.prog:=by rw[<-cB];rfl
 have dF:Xc.w=X.w:=by rw[<-cB];rfl
 have AB:Xc.K=X.K:=by rw[<-cB];rfl
 have cy:Xc.calm=true:=by rw[<-cB];exact C.calm
 have hA:Xc.A=X.A:=by rw[<-cB];rfl
 have eK:Xc.env=compEnvC sc (y8 X.env.cells sc.names []) ax.heap.objs.size X.env:=by rw[<-cB];rfl
 have iB:Xc.xe=fun _ _=>False:=by rw[<-cB];rfl
 have AC:=hg fp ax (upd H D (.lst []))
 have AD:=ht fp ax (upd H D (.lst []))
 have dG:=he fp ax (upd H D (.lst []))
 rw[cB]at AC AD dG
 obtain⟨W,⟨m0,w0⟩,turn⟩:=hw D DV
 have cX:∀{H':Hp},(∀b∈fp,H' b=none)->∀b∈fp,B0 Xc [] H' b:=fun {H'} hn b hb=>by
  refine⟨hn b hb,?_,?_,.inl ?_,fun x c e z=>?_,fun p hp=>?_⟩
  . rw[eK];exact NI (iA b hb)
  . rw[<-cB];intro z;obtain⟨_,h1,h2,_⟩:=hf b hb;rcases tB.mp (I3.stkSub b z) with q |q
    . exact h1 q
    . exact h2 q
  . rw[<-cB];exact hb
  . rw[eK]at e;exact(hf b hb).2.2.2.2.1 x c (C.sub I2 e) z
  . rw[<-cB]at hp;exact absurd (show p∈([]:List (Addr×Obj)) from hp) (by simp)
 have loop:∀cJ:Shared,cJ={ ax with heap:=dO,toks:=ax.toks+([]:List (Str×Value)).length } ->
   codeAny (model X.prog X.w) X.A (.compLoop (.ListComp aH [⟨tg,iter,aC,0⟩] sc pos) 0 (.ref it) (.ref D) (compEnvC sc (y8 X.env.cells sc.names []) ax.heap.objs.size X.env)) (RR (.ref D) ax.heap.objs.size) cJ:=by
  intro cJ AE
  rw[<-bx,<-dF,<-hA,<-eK]
  refine zX (fun n s'=>∃(i:Nat)(ys:List V)(bA:St)(H':Hp),bA.length=tgs.length/\Inv Xc [] (bA++K5 ix U) H' s'/\tn i s'.heap/\(∀b∈fp,H' b=none)/\W i n ys H') ?_ m0
   ⟨0,[],List.replicate tgs.length none,upd H D (.lst []),by simp,by rw[AE];exact I4,by rw[AE];exact cA,DY,w0⟩
  rintro n s5 ⟨i,ys,bA,H5,DZ,I5,fP,ir,w5⟩
  obtain⟨LZ,mJ⟩:=turn i n ys H5 w5
  rcases mJ with⟨stop,q⟩ |⟨go,step⟩
  . rw[bx,dF];refine thn (T.done Xc bx dF AB cy i [] s5 _ H5 _ I5 (cX ir) fP stop) fun r s6 ⟨hr,I6⟩=>?_
    subst hr;obtain⟨m6,AF,_⟩:=I6.loc;rw[eK]at AF;have D':∀b∈fp,(b∈X.ex\/X.s₀.heap.objs.size<=b)/\b≠X.env.locals/\(∀x c,X.env.cells.lookup x=some c->c≠b)/\∀p∈X.pn++pins,p.1≠b:=fun b hb=>⟨(hf b hb).2.2.2.1,(hf b hb).2.1,(hf b hb).2.2.2.2.1,(hf b hb).2.2.2.2.2⟩
    have dg:s6.os=ax.os:=by have:=I6.os;rw[<-cB]at this;exact this
    have un6:Un (frs X.stack) fp (upd H D (.lst [])) H5 ax.heap s6.heap:=by have:=I6.base;rw[<-cB]at this;exact this
    have pk:HOk X.prog X.w H5 s6.heap:=by have:=I6.hok;rw[bx,dF]at this;exact this
    have I7:Inv X pins U H5 s6:=I3.call' dg un6 pk I6.bare D';refine DU D _ H5 s6 m6 AF I7 ?_ q;have EA:H5 ax.heap.objs.size=none:=by have:=I6.free;rw[eK]at this;exact this
    exact I3.fpOk (ζ _) EA
  . rw[bx,dF];refine thn (T.item Xc bx dF AB cy i [] s5 _ H5 _ I5 (cX ir) fP go) fun r s6 ⟨u,hr,h6⟩=>?_
    subst hr;refine thn h6 fun _ s7 ⟨x,H7,I7,r7,y7,mW,EB⟩=>?_
    have EC:=I7.pinned (cX EB) (T.obj _ _ mW);have aL:=AC _ s7 _ H7 x u _ EC r7 (hB x bA (K5 ix U) H7 (fun bz H2=>tt bz H2 fun b H3=>if b=true then te bz H3 fun y H4=>H4 D=some (.lst ys)/\ys.length<sizeLine/\∃m',m'<n/\W (i+1) m' (ys++[y]) (upd H4 D (.lst (ys++[y]))) else ∃m',m'<n/\W (i+1) m' ys H3) DZ (step x H7 y7));rw[bx,dF,iB]at aL;refine thn aL fun _ s8 ⟨ED,H8,I8,⟨ag,AG,pq⟩,q8⟩=>?_
    have again:∀{H9:Hp}{s9:Shared},Inv Xc ([]++Bu fp s7.heap) ED H9 s9->tn (i+1) s9.heap/\∀b∈fp,H9 b=none:=fun {H9 s9} I9=>
     ⟨T.keep _ _ _ mW fun b hb o e=>(I9.pin (b,o) (NU _ (NU _ (Fm hb e)))).1,fun b hb=>by obtain⟨o,e,d⟩:=T.obj _ _ mW b hb;exact(I9.pin (b,o) (NU _ (NU _ (Fm hb e)))).2.1⟩
    subst pq;have AH:=AD.run I8 q8;rw[bx,dF,iB]at AH;refine thn AH fun ok s9 ⟨H9,I9,q9⟩=>?_
    cases ok with
    |false=>
     rw[ψ η]at q9⊢
     obtain⟨m',hm,w9⟩:=q9
     obtain⟨a1,a2⟩:=again I9
     exact⟨m',hm,i+1,ys,ag.map some,H9,by simpa using AG,I9.unpinned,a1,a2,w9⟩
    |true=>
     rw[ξ rfl]at q9⊢
     have AI:=dG _ s9 _ H9 _ I9 q9
     rw[bx,dF,iB]at AI
     refine thn AI fun uy EE ⟨y,AJ,EF,EG,pr,pA,m',hm,EH⟩=>?_
     have AK:=Z2 (X:=Xc) _ EE _ AJ (.ref D) [y] (.ref D) [uy] (fun v AL=>v=.non/\AL=upd AJ D (.lst (ys++[y]))) EF rfl (.cons EG .nil) ⟨D,ys,y,rfl,rfl,pr,pA,rfl,rfl⟩
     rw[bx,dF,iB]at AK
     refine thn AK fun _ MB ⟨v,AL,AM,_,_,EI⟩=>?_
     subst EI
     obtain⟨a1,a2⟩:=again AM
     exact⟨m',hm,i+1,ys++[y],ag.map some,_,by simpa using AG,AM.unpinned,a1,a2,EH⟩
 refine codeAny_compStart_list (loop _ rfl) (T.self X.A 0 _ _ _ cA (loop _ rfl))
theorem Tf(C:CompOk X sc caps ix)(hi:PI X tg iter wi)(hg:∀fp s H,PG (n5 X sc (tgs++caps) fp s H) tg g)
  (hB:∀(x:V)(bA cs:St)(H:Hp)(Q:St->Hp->Prop),bA.length=tgs.length->B x H (fun ag H2=>Q (ag.map some++cs) H2)->g x (bA++cs) H fun bz H2=>(∃ag:List V,ag.length=tgs.length/\bz=ag.map some++cs)/\Q bz H2)
  (ht:∀fp s H,PTs (n5 X sc (tgs++caps) fp s H) aC tt) (he:∀fp s H,PE (n5 X sc (tgs++caps) fp s H) aH te)
  (hs:∀x,foldedSetIterable iter X.env x=pure x:=by intro _;rfl):PE X (.ListComp aH [⟨tg,iter,aC,0⟩] sc pos) (Q1 wi B ix tt te):=by
 intro pins s U H Q I h
 rw[eval_ListComp]
 refine wpAny_comprehension_free (use:=none) rfl hs (Wt (C.free_cell I)) C.kind C.names (thn (hi pins s U H _ I h) fun v s1 h1=>thn h1 fun fN s2 h2=>?_)
 obtain⟨it,fp,tn,J,H2,e,I2,T,aG,f2,hw⟩:=h2
 subst e
 refine Wf (RR:=fun acc Cc=>compPost (model X.prog X.w) X.A X.xe none (EP X pins U Q) acc Cc) C hg hB ht he I2 T aG f2 hw ?_
 intro D Cc H' s' m hn I' cC q
 refine⟨m,hn,fun h' sb=>⟨.ref D,H',?_,rfl,q⟩⟩
 exact I'.turned (t':=s'.toks) (fun b o hb e=>sb.extBut b o hb e) cC.1 cC.2.1 cC.2.2.2.1 cC.2.2.2.2.1 cC.2.2.2.2.2
theorem Te(hN:X.N.Nodup)(hk:X.N[k]?=some x)(hx:X.env.scope.names.lookup x=some .local)(C:CompOk X sc caps ix)(hi:PI X tg iter wi)(hg:∀fp s H,PG (n5 X sc (tgs++caps) fp s H) tg g)
  (hB:∀(x:V)(bA cs:St)(H:Hp)(Q:St->Hp->Prop),bA.length=tgs.length->B x H (fun ag H2=>Q (ag.map some++cs) H2)->g x (bA++cs) H fun bz H2=>(∃ag:List V,ag.length=tgs.length/\bz=ag.map some++cs)/\Q bz H2)
  (ht:∀fp s H,PTs (n5 X sc (tgs++caps) fp s H) aC tt) (he:∀fp s H,PE (n5 X sc (tgs++caps) fp s H) aH te)
  (dj:swapsWith (.ListComp aH [⟨tg,iter,aC,0⟩] sc pos) (some (.Name x px)) bC.line X.env=pure true:=by rfl)
  (hs:∀x,foldedSetIterable iter X.env x=pure x:=by intro _;rfl):PS X (.Assign [.Name x px] (.ListComp aH [⟨tg,iter,aC,0⟩] sc pos) bC) (N4 (Q1 wi B ix tt te) (D2 k)):=by
 intro pins s U H D0 I h
 rw[exec_Assign_Name_used _ _ _ _ dj]
 refine χ (wpAny_standAt (χ ?_))
 show wpAny _ X.A (do let _ <-comprehension (.ListComp aH [⟨tg,iter,aC,0⟩] sc pos) sc X.env _ (newList []) false (eval iter X.env) (some (assign (.Name x px) X.env))) _ _ s
 refine χ (OG (wpAny_comprehension_free (use:=some (assign (.Name x px) X.env)) (Q:=fun _ s'=>SP X pins D0 .next s') rfl hs (Wt (C.free_cell I)) C.kind C.names
  (thn (hi pins s U H _ I h) fun v s1 h1=>thn h1 fun fN s2 h2=>?_)) (fun _ s' hq=>ω (ω hq)) fun _ _ e=>e)
 obtain⟨it,fp,tn,J,H2,e,I2,T,aG,f2,hw⟩:=h2
 subst e
 refine Wf (RR:=fun acc Cc=>compPost (model X.prog X.w) X.A X.xe (some (assign (.Name x px) X.env)) (fun _ s'=>SP X pins D0 .next s') acc Cc) C hg hB ht he I2 T aG f2 hw ?_
 intro D Cc H' s' m hn I' cC q
 show wpAny _ X.A (assign (.Name x px) X.env (.ref D)) _ _ _
 refine wpAny_assign_Name (Vt I' hN hk (.inl hx) (v:=.ref D) rfl (fun fo EJ cK=>?_) (.inr hx))
 obtain⟨a,sb,ha⟩:=cK
 have aM:Cc≠a:=by
  rcases ha with z |z
  . rw[z];exact cC.2.1
  . exact fun e=>cC.2.2.2.2.1 x a z e.symm
 refine⟨m,hn.sameBut sb aM,fun h' EK=>⟨_,H',?_,q⟩⟩
 exact EJ.turned (t':=fo.toks) (fun b o hb e=>EK.extBut b o hb e) cC.1 cC.2.1 cC.2.2.2.1 cC.2.2.2.2.1 cC.2.2.2.2.2
end
section
variable {X:Cx}
theorem PE.imp(h:PE X e t)(hi:∀U H Q,t' U H Q->t U H Q):PE X e t':=fun pins s U H Q I q=>h pins s U H Q I (hi U H Q q)
theorem PT.imp(h:PT X e t)(hi:∀U H Q,t' U H Q->t U H Q):PT X e t':=fun pins s U H Q I q=>h pins s U H Q I (hi U H Q q)
theorem OpR.imp(h:OpR X f r)(hi:∀x y H Q,r' x y H Q->r x y H Q):OpR X f r':=fun pins s U H x y v u Q I rx ry q=>h pins s U H x y v u Q I rx ry (hi x y H Q q)
theorem UnR.imp(h:UnR X f r)(hi:∀x H Q,r' x H Q->r x H Q):UnR X f r':=fun pins s U H x v Q I rx q=>h pins s U H x v Q I rx (hi x H Q q)
theorem CallR.imp(h:CallR X f r)(hi:∀xs H Q,r' xs H Q->r xs H Q):CallR X f r':=fun pins s U H xs us Q I rx q=>h pins s U H xs us Q I rx (hi xs H Q q)
end
noncomputable def G9(i:Nat):TE:=fun U H Q=>match U[i]? with |some (some v)=>Q v H |_=>False
theorem pw(i:Nat)(hN:X.N[i]?=some x:=by rfl)(hv:Vis X.env.scope x:=by first |exact .inl rfl |exact .inr (.inl rfl) |exact .inr (.inr rfl))(hd:(x==("__debug__":Str))=false:=by decide)
  (br:(x==("__classdict__":Str))=false:=by decide):PE X (.Name x pos) (G9 i):=
 (Jr hN hv hd br).imp fun U H Q q=>by
  unfold G9 at q;unfold Gf;split at q
  . rename_i v e;exact⟨v,e,q⟩
  . exact q.elim
noncomputable def cI(g:Int->Int->V):R2:=fun x y H Q=>match x,y with | .int i,.int j=>Q (g i j) H |_,_=>False
noncomputable def cIC(C:Int->Int->Prop)(g:Int->Int->V):R2:=fun x y H Q=>match x,y with | .int i,.int j=>C i j/\Q (g i j) H |_,_=>False
theorem OpR.cI(h:OpR X f (rI0 g)):OpR X f (cI g):=h.imp fun x y H Q q=>by cases x<;>cases y<;>first |exact⟨_,_,rfl,rfl,q⟩ |exact q.elim
theorem OpR.cIC(h:OpR X f (rI C g)):OpR X f (cIC C g):=h.imp fun x y H Q q=>by cases x<;>cases y<;>first |exact⟨_,_,rfl,rfl,q.1,q.2⟩ |exact q.elim
section
variable {X:Cx}
theorem x4:OpR X (binaryOp .Add) (cI fun i j=>.int (i+j)):=op_add.cI
theorem v7:OpR X (binaryOp .Sub) (cI fun i j=>.int (i - j)):=op_sub.cI
theorem Hh:OpR X (binaryOp .Mult) (cIC CMul fun i j=>.int (i * j)):=op_mul.cIC
theorem Jp:OpR X (binaryOp .FloorDiv) (cIC R5 fun i j=>.int (i / j)):=op_fdiv.cIC
theorem G3:OpR X (binaryOp .Mod) (cIC (fun _ j=>0<j) fun i j=>.int (i % j)):=op_mod.cIC
theorem Zj:OpR X (binaryOp .Pow) (cIC V2 fun i j=>.int (i ^ j.toNat)):=op_pow.cIC
theorem D7:OpR X (compareOp .Lt) (cI fun i j=>.bl (decide (i<j))):=op_lt.cI
theorem V1:OpR X (compareOp .LtE) (cI fun i j=>.bl (decide (i<=j))):=op_le.cI
theorem Fx:OpR X (compareOp .Gt) (cI fun i j=>.bl (decide (j<i))):=op_gt.cI
theorem Yg:OpR X (compareOp .GtE) (cI fun i j=>.bl (decide (j<=i))):=op_ge.cI
def cU(g:Int->V):V->Hp->VK->Prop:=fun x H Q=>match x with | .int i=>Q (g i) H |_=>False
theorem Ov:UnR X (unaryOp .USub) (cU fun i=>.int (-i)):=un_neg.imp fun x H Q q=>by cases x<;>first |exact⟨_,rfl,q⟩ |exact q.elim
end
noncomputable def G1(H:Hp)(p:Addr):Option (List V):=match H p with
 |some (.lst xs)=>some xs
 |some (.tup xs)=>some xs
 |some (.frz _ (.lst xs))=>some xs
 |some (.frz _ (.tup xs))=>some xs
 |_=>none
theorem Uj{K:Frag}{H:Hp}{p:Addr}{xs:List V}(h:G1 H p=some xs):SqL K H p xs\/SqT K H p xs:=by
 unfold G1 at h;split at h;all_goals first | (cases h;done) |skip
 . rename_i ys e;cases h;exact .inl (.inl (.inl e))
 . rename_i ys e;cases h;exact .inr (.inl (.inl e))
 . rename_i o ys e;cases h;exact .inl (.inl (.inr ⟨_,e⟩))
 . rename_i o ys e;cases h;exact .inr (.inl (.inr ⟨_,e⟩))
theorem Vk(h:H p=some (.lst xs)):G1 H p=some xs:=by unfold G1;rw[h]
theorem Vj(h:H p=some (.tup xs)):G1 H p=some xs:=by unfold G1;rw[h]
def Q0(x:V)(H:Hp)(Q:Bool->Hp->Prop):Prop:=match x with
 | .bl b=>Q b H
 | .int i=>Q (i != 0) H
 | .non=>Q false H
 | .str y=>y.length<=sizeLine/\Q ((y.length:Int) != 0) H
 | .ref p=>(match G1 H p with
  |some xs=>Q (!xs.isEmpty) H
  |none=>(match H p with |some (.dK kvs)=>Q (!kvs.isEmpty) H |_=>False))
 |_=>False
theorem Ui{K:Frag}{x:V}{H:Hp}{Q:Bool->Hp->Prop}(h:Q0 x H Q):∃k,Yo K x H k/\Q k H:=by
 cases x with
 |bl b=>exact⟨b,rfl,h⟩
 |int i=>exact⟨_,rfl,h⟩
 |non=>exact⟨_,rfl,h⟩
 |str y=>exact⟨_,⟨h.1,rfl⟩,h.2⟩
 |ref p=>
  unfold Q0 at h
  dsimp only at h
  split at h
  . rename_i xs e;rcases Uj (K:=K) e with z |z
    . exact⟨_,.inl ⟨xs,z,rfl⟩,h⟩
    . exact⟨_,.inr (.inl ⟨xs,z,rfl⟩),h⟩
  . split at h
    . rename_i kvs e;exact⟨_,.inr (.inr ⟨kvs,e,rfl⟩),h⟩
    . exact h.elim
 |_=>exact h.elim
noncomputable def y4a(t:TE):TT:=fun U H Q=>t U H fun x H'=>Q0 x H' Q
section
variable {X:Cx}{a b c:Expr}{ta tb:TE}{pos:Pos}
theorem qe(ha:PE X a ta)(he:∀whole,isTrue a X.env whole=(do let v <-whole;standAt a.pos;holding [v] (truthy v)):=by intro _;rfl):PT X a (y4a ta):=by intro pins s U H Q I h;exact isTrue_plain (thn (ha pins s U H _ I h) fun v s1 ⟨x,H1,I1,r1,q1⟩=>Qw pins s1 U H1 x v Q I1 r1 (Ui q1)) (he _)
noncomputable def Hg(t:TE):TT:=fun U H Q=>t U H fun x H'=>match x with | .bl k=>Q k H' |_=>False
theorem wo(ho:OpR X (compareOp op) r)(ha:PE X a ta)(hb:PE X b tb)(hm:behindInMarks op b=false):PT X (.Compare a [op] [b] pos) (Hg (tOp r ta tb)):=by
 intro pins s U H Q I h;refine wpAny_isTrue_Compare1 (thn (ha pins s U H _ I h) fun v s1 ⟨x,H1,I1,r1,q1⟩=>thn (hb pins s1 U H1 _ I1 q1) fun u s2 ⟨y,H2,I2,r2,q2⟩=>
  thn (ho pins s2 U H2 x y v u _ I2 r1 r2 q2) fun c s3 ⟨z,H3,I3,r3,q3⟩=>?_) hm
 cases z<;>first |exact q3.elim |skip
 cases r3;exact QV ⟨H3,I3,q3⟩
end
section
variable {X:Cx}{a b c:Expr}{ta tb:TE}{pos:Pos}
def PCh(X:Cx)(ops:List CmpOp)(rs:List Expr)(t:V->TE):Prop:=
 ∀(pos:Pos)(pins:List (Addr×Obj))(s:Shared)(U:St)(H:Hp)(x:V)(v:Value)(Q:VK),Inv X pins U H s->RelV x v->t x U H Q->wpAny (model X.prog X.w) X.A (compareChain pos v ops (evalEach rs X.env)) (EP X pins U Q) X.xe s
def PChT(X:Cx)(ops:List CmpOp)(rs:List Expr)(t:V->TT):Prop:=
 ∀(pos:Pos)(pins:List (Addr×Obj))(s:Shared)(U:St)(H:Hp)(x:V)(v:Value)(Q:Bool->Hp->Prop),Inv X pins U H s->RelV x v->t x U H Q->wpAny (model X.prog X.w) X.A (testChain pos v ops (evalEach rs X.env)) (TP X pins U Q) X.xe s
noncomputable def Ou(r:R2)(tb:TE):V->TE:=fun x U H Q=>tb U H fun y H2=>r x y H2 Q
noncomputable def Ot(r:R2)(tb:TE)(t:V->TE):V->TE:=fun x U H Q=>tb U H fun y H2=>r x y H2 fun z H3=>match z with | .bl k=>(if k=true then t y U H3 Q else Q (.bl false) H3) |_=>False
noncomputable def Qu(r:R2)(tb:TE):V->TT:=fun x U H Q=>tb U H fun y H2=>r x y H2 fun z H3=>match z with | .bl k=>Q k H3 |_=>False
noncomputable def Qt(r:R2)(tb:TE)(t:V->TT):V->TT:=fun x U H Q=>tb U H fun y H2=>r x y H2 fun z H3=>match z with | .bl k=>(if k=true then t y U H3 Q else Q false H3) |_=>False
theorem xX(ho:OpR X (compareOp op) r)(hb:PE X b tb):PCh X [op] [b] (Ou r tb):=by intro pos pins s U H x v Q I rx h;exact chain_last (thn (hb pins s U H _ I h) fun u s2 ⟨y,H2,I2,r2,q2⟩=>ho pins s2 U H2 x y v u Q I2 rx r2 q2)
theorem xW(ho:OpR X (compareOp op) r)(hb:PE X b tb)(hr:PCh X (eR::ops) (r'::rs) t):PCh X (op::eR::ops) (b::r'::rs) (Ot r tb t):=by
 intro pos pins s U H x v Q I rx h;refine chain_link (thn (hb pins s U H _ I h) fun u s2 ⟨y,H2,I2,r2,q2⟩=>thn (ho pins s2 U H2 x y v u _ I2 rx r2 q2) fun d s3 ⟨z,H3,I3,r3,q3⟩=>?_);cases z<;>first |exact q3.elim |skip
 rename_i k;cases r3;refine QV ?_;cases k with
 |false=>exact ite_ff ⟨.bl false,H3,I3,rfl,by simpa using q3⟩
 |true=>exact ite_tt (hr pos pins s3 U H3 y u Q I3 r2 (by simpa using q3))
theorem yL(ho:OpR X (compareOp op) r)(hb:PE X b tb):PChT X [op] [b] (Qu r tb):=by
 intro pos pins s U H x v Q I rx h;refine test_last (thn (hb pins s U H _ I h) fun u s2 ⟨y,H2,I2,r2,q2⟩=>thn (ho pins s2 U H2 x y v u _ I2 rx r2 q2) fun d s3 ⟨z,H3,I3,r3,q3⟩=>?_);cases z<;>first |exact q3.elim |skip
 cases r3;exact QV ⟨H3,I3,q3⟩
theorem yK(ho:OpR X (compareOp op) r)(hb:PE X b tb)(hr:PChT X (eR::ops) (r'::rs) t):PChT X (op::eR::ops) (b::r'::rs) (Qt r tb t):=by
 intro pos pins s U H x v Q I rx h;refine test_link (thn (hb pins s U H _ I h) fun u s2 ⟨y,H2,I2,r2,q2⟩=>thn (ho pins s2 U H2 x y v u _ I2 rx r2 q2) fun d s3 ⟨z,H3,I3,r3,q3⟩=>?_);cases z<;>first |exact q3.elim |skip
 rename_i k;cases r3;refine QV ?_;cases k with
 |false=>exact ite_ff ⟨H3,I3,by simpa using q3⟩
 |true=>exact ite_tt (hr pos pins s3 U H3 y u Q I3 r2 (by simpa using q3))
noncomputable def Ye(ta:TE)(t:V->TE):TE:=fun U H Q=>ta U H fun x H1=>t x U H1 Q
noncomputable def Os(ta:TE)(t:V->TT):TT:=fun U H Q=>ta U H fun x H1=>t x U H1 Q
theorem qc(ha:PE X a ta)(hr:PCh X (bo::bp::ops) (bR::bD::rs) t)(hm:lastMarks (bo::bp::ops) (bR::bD::rs)=false:=by with_unfolding_all rfl) :
  PE X (.Compare a (bo::bp::ops) (bR::bD::rs) pos) (Ye ta t):=by
 intro pins s U H Q I h
 exact Compare_chain (thn (ha pins s U H _ I h) fun v s1 ⟨x,H1,I1,r1,q1⟩=>hr pos pins s1 U H1 x v Q I1 r1 q1) hm
theorem qb(ha:PE X a ta)(hr:PChT X (bo::bp::ops) (bR::bD::rs) t)(hm:lastMarks (bo::bp::ops) (bR::bD::rs)=false:=by with_unfolding_all rfl) :
  PT X (.Compare a (bo::bp::ops) (bR::bD::rs) pos) (Os ta t):=by
 intro pins s U H Q I h
 exact isTrue_chain (thn (ha pins s U H _ I h) fun v s1 ⟨x,H1,I1,r1,q1⟩=>hr pos pins s1 U H1 x v Q I1 r1 q1) hm
noncomputable def Oq(ta tb:TE):TE:=fun U H Q=>ta U H fun x H1=>match x with | .bl c=>(if c=true then tb U H1 Q else Q (.bl false) H1) |_=>False
noncomputable def Yd(ta tb:TE):TE:=fun U H Q=>ta U H fun x H1=>match x with | .bl c=>(if c=true then Q (.bl true) H1 else tb U H1 Q) |_=>False
end
section
variable {X:Cx}{a b c:Expr}{ta tb:TE}{pos:Pos}{rest:List Expr}
theorem wn(ha:PE X a ta)(hb:PE X (.BoolOp .And (b::rest) pos) tb):PE X (.BoolOp .And (a::b::rest) pos) (Oq ta tb):=by
 intro pins s U H Q I h;refine BoolOp_and (thn (ha pins s U H _ I h) fun v s1 ⟨x,H1,I1,r1,q1⟩=>?_);cases x<;>first |exact q1.elim |skip
 rename_i k;cases r1;refine QV ?_;cases k with
 |true=>exact ite_tt (hb pins s1 U H1 Q I1 (by simpa using q1))
 |false=>exact ite_ff ⟨.bl false,H1,I1,rfl,by simpa using q1⟩
theorem qa(ha:PE X a ta)(hb:PE X (.BoolOp .Or (b::rest) pos) tb):PE X (.BoolOp .Or (a::b::rest) pos) (Yd ta tb):=by
 intro pins s U H Q I h;refine BoolOp_or (thn (ha pins s U H _ I h) fun v s1 ⟨x,H1,I1,r1,q1⟩=>?_);cases x<;>first |exact q1.elim |skip
 rename_i k;cases r1;refine QV ?_;cases k with
 |true=>exact ite_tt ⟨.bl true,H1,I1,rfl,by simpa using q1⟩
 |false=>exact ite_ff (hb pins s1 U H1 Q I1 (by simpa using q1))
noncomputable def Zi(ta:TE):TE:=fun U H Q=>ta U H fun x H1=>Q0 x H1 fun k H2=>Q (.bl (!k)) H2
theorem wm(ha:PE X a ta):PE X (.UnaryOp .Not a pos) (Zi ta):=by intro pins s U H Q I h;refine UnaryOp_ (thn (ha pins s U H _ I h) fun v s1 ⟨x,H1,I1,r1,q1⟩=>not_of ?_);exact thn (Qw pins s1 U H1 x v _ I1 r1 (Ui q1)) fun k s2 ⟨H2,I2,q2⟩=>⟨.bl (!k),H2,I2,rfl,q2⟩
noncomputable def O1(H:Hp):V->Option String
 | .non=>some "NoneType"
 | .bl _=>some "bool"
 | .int _=>some "int"
 | .str _=>some "str"
 | .ref a=>(match H a with
  |some (.lst _)=>some "list"
  |some (.frz _ (.lst _))=>some "list"
  |some (.tup _)=>some "tuple"
  |some (.dK _)=>some "dict"
  |some (.dT _)=>some "dict"
  |_=>none)
 |_=>none
noncomputable def G8(t c:String):Bool:=t==c||(t=="bool"&&c=="int")
noncomputable def J4(c:String):Bool:=["int","bool","str","list","tuple","dict"].contains c
theorem O6{K:Frag}{t c:String}(ht:["NoneType","bool","int","str","list","tuple","dict"].contains t=true)(hc:J4 c=true):kitOne K (.type t) (.type c)=some (G8 t c):=by
 have h1:t="NoneType"\/t="bool"\/t="int"\/t="str"\/t="list"\/t="tuple"\/t="dict":=by simpa using ht
 have h2:c="int"\/c="bool"\/c="str"\/c="list"\/c="tuple"\/c="dict":=by simpa [J4] using hc
 rcases h1 with rfl |rfl |rfl |rfl |rfl |rfl |rfl<;>rcases h2 with rfl |rfl |rfl |rfl |rfl |rfl<;>first |rfl | (with_unfolding_all rfl)
theorem xV:CallR X (.builtin "isinstance") (fun xs H Q=>match xs with
  | [x,.ty c]=>J4 c=true/\(match O1 H x with |some t=>Q (.bl (G8 t c)) H |none=>False)
  |_=>False):=by
 intro pins s U H xs us Q I r h
 split at h
 . rename_i x c;obtain⟨hc,h⟩:=h;obtain⟨u,w',rfl,ru,dh⟩:=Pa r;cases dh;split at h
   . rename_i t et;have fin:∀(tk:Nat),EP X pins U Q (.bool (G8 t c)) { s with toks:=tk }:=fun tk=>⟨.bl _,H,I.tok _,rfl,h⟩
     cases x<;>simp only[O1]at et
     case non=>cases et;exact O7 I ru .non (O6 (by decide) hc) fin
     case bl b=>cases et;exact O7 I ru (.bl b) (O6 (by decide) hc) fin
     case int b=>cases et;exact O7 I ru (.int b) (O6 (by decide) hc) fin
     case str b=>cases et;exact O7 I ru (.str b) (O6 (by decide) hc) fin
     case ref a=>
      split at et<;>first | (cases et;done) |skip
      . rename_i ys e;cases et;exact O7 I ru (.lst e) (O6 (by decide) hc) fin
      . rename_i o ys e;cases et;exact O7 I ru (.frz e) (O6 (by decide) hc) fin
      . rename_i ys e;cases et;exact O7 I ru (.tup e) (O6 (by decide) hc) fin
      . rename_i ys e;cases et;exact O7 I ru (.dK e) (O6 (by decide) hc) fin
      . rename_i ys e;cases et;exact O7 I ru (.dT e) (O6 (by decide) hc) fin
     all_goals cases et
   . exact h.elim
 . exact h.elim
theorem yJ(hc:X.calm=true):CallR X (.builtin "sum") (fun xs H Q=>match xs with
  | [.ref p]=>∃ns:List Int,G1 H p=some (ns.map V.int)/\Q (.int ns.sum) H
  |_=>False):=by
 intro pins s U H xs us Q I r h
 split at h
 . rename_i p;obtain⟨ns,e,q⟩:=h;obtain⟨u,rfl,ru⟩:=w8 r;cases ru;have key:∀{its:List Value},Vals (ns.map V.int) its->∃ys:Array (Int×Tok),its.toArray=intItems ys/\preSum (numAt ys) ys.size=ns.sum:=fun {its} rv=>by
    have hi:=Co rv;obtain⟨ys,hx⟩:=hi.allInts.items;refine⟨ys,hx,?_⟩;have e1:ns=ys.toList.map (·.1):=by rw[<-nums_intItems,<-hx];exact(show numsOf its.toArray.toList=ns from hi.numsOf).symm
    rw[preSum_eq,OU (by simp),e1]
   rcases Uj (K:=X.K) e with hq |hq
   . obtain⟨its,rv,pl,_⟩:=I.list hq;obtain⟨ys,hx,es⟩:=key rv;refine sum_intListG (I.ok.hd hc) (hx ▸ pl.isList) fun h' tk t' hk=>?_
     rw[es];exact⟨.int ns.sum,H,I.kept hk,⟨_,rfl⟩,q⟩
   . obtain⟨its,rv,pl,_⟩:=I.tuple hq;obtain⟨ys,hx,es⟩:=key rv;refine PySem.W.ktm_sumG (I.ok.hd hc) (hx ▸ pl) fun h' tk t' hk=>?_
     rw[es];exact⟨.int ns.sum,H,I.kept hk,⟨_,rfl⟩,q⟩
 . exact h.elim
abbrev Hf(s:Shared)(L:Addr):List (Addr×Obj):=Cj (Att.noObjs s.heap) s.heap L
section
variable {pins:List (Addr×Obj)}{U:St}{H:Hp}{s:Shared}{h':Heap}{m:Str->Option Value}
theorem We(N:News (Att.noObjs s.heap) L h' (Hf s L)):∀b o,b≠L->s.heap.get? b=some o->h'.get? b=some o:=fun b o hb e=>(N (b,o) (zI hb (Att.noObjs_get _ _) e)).1
theorem Inv.frn(I:Inv X pins U H s)(hn:s.heap.Ns X.env.locals m)(F:Fr (Att.noObjs s.heap) X.env.locals h' m)(N:News (Att.noObjs s.heap) X.env.locals h' (Hf s X.env.locals)):Inv X pins U H { s with heap:=h',toks:=tk }:=by
 have kept:=We N;refine I.step (g':=s.gens) (d':=s.drawn) (ch:=[]) (fun _ z=>nomatch z) (fun b o hL _ _ e _=>kept b o hL e) (fun b o hL _ _ e _=>⟨o.slots,kept b o hL e⟩) (fun _ _ _ _ n=>n) (fun b o _ e=>?_) (fun _ _ e=>e) (fun _ _ _ e=>e) (fun b ps e=>⟨#[],by rw[e];simp⟩) (fun m' hm=>?_) (fun b u e=>?_) I.bare
 . by_cases hb:b=X.env.locals
   . subst hb;obtain⟨o',_,_,aS,_⟩:=F.ns;exact⟨o',aS⟩
   . exact⟨o,kept b o hb e⟩
 . rw[hm.eq_nsMap,<-hn.eq_nsMap];exact F.ns
 . refine(I.hok b u e).stay (fun c v hc q=>kept c v ?_ q) (fun _ q=>q) fun _ _ q=>q
   intro z;rcases hc with hc |hc
   . rw[<-hc,z,I.free]at e;cases e
   . rw[z,I.free]at hc;cases hc
theorem Inv.frnew(I:Inv X pins U H s)(hn:s.heap.Ns X.env.locals m)(F:Fr (Att.noObjs s.heap) X.env.locals h' m)(N:News (Att.noObjs s.heap) X.env.locals h' ((D,ob)::Hf s X.env.locals))
  (hD:s.heap.get? D=none) (new:ObjOk X.prog X.w (upd H D o) h' D o):H D=none/\Inv X pins U (upd H D o) { s with heap:=h',toks:=tk }:=by
 have kept:=We (fun p hp=>N p (.tail _ hp))
 have MC:D≠X.env.locals:=(N (D,ob) (.head _)).2.1
 have EL:∀b o,s.heap.get? b=some o->b≠D:=fun b o e z=>by rw[z,hD]at e;cases e
 have HD:H D=none:=by
  cases q:H D with
  |none=>rfl
  |some u=>
   have:=(I.hok D u q).lt
   obtain⟨v,hv⟩:∃v,s.heap.get? D=some v:=by
    have z:=I.hok D u q;cases u with
    |lst xs=>obtain⟨_,_,_,_,e⟩:=z;exact⟨_,e⟩
    |tup xs=>obtain⟨_,_,_,o,e,_⟩:=z;exact⟨_,e⟩
    |dK kvs=>obtain⟨_,_,_,_,o,_,_,e,_⟩:=z;exact⟨_,e⟩
    |dT kvs=>obtain⟨_,_,_,_,o,_,_,e,_⟩:=z;exact⟨_,e⟩
    |set S n=>obtain⟨_,_,_,_,e,_⟩:=z;exact⟨_,e⟩
    |ins C dx fs=>obtain⟨_,_,_,e,_⟩:=z;exact⟨_,e⟩
    |own x=>exact z
    |xd fs=>obtain⟨mA,n1,_⟩:=z;obtain⟨o,_,_,e,_⟩:=n1;exact⟨o,e⟩
    |met f x=>exact⟨_,z⟩
    |rng lo hi=>obtain⟨_,_,_,e⟩:=z;exact⟨_,e⟩
    |frz o u=>exact⟨_,z.1⟩
    |tbl ps=>exact⟨_,z⟩
    |ctb q=>obtain⟨_,e,_⟩:=z;exact⟨_,e⟩
    |ext φ=>exact z.2.1
   rw[hD]at hv;cases hv
 refine⟨HD,I.step (g':=s.gens) (d':=s.drawn) (ch:=[]) (fun _ z=>nomatch z) (fun b o hL _ _ e _=>kept b o hL e) (fun b o hL _ _ e _=>⟨o.slots,kept b o hL e⟩) (fun b ob _ e n=>by rw[i6 (EL b ob e)];exact n) (fun b o _ e=>?_)
  (fun b xs e=>by rw[i6 (z5 e HD)];exact e) (fun b u xs e=>by rw[i6 (z5 e HD)];exact e) (fun b ps e=>⟨#[],by rw[i6 (z5 e HD),e];simp⟩) (fun m' hm=>?_) (fun b u e=>?_) I.bare⟩
 . by_cases hb:b=X.env.locals
   . subst hb;obtain⟨o',_,_,aS,_⟩:=F.ns;exact⟨o',aS⟩
   . exact⟨o,kept b o hb e⟩
 . rw[hm.eq_nsMap,<-hn.eq_nsMap];exact F.ns
 . by_cases hb:b=D
   . subst hb;rw[t9]at e;cases e;exact new
   . rw[i6 hb]at e;refine(I.hok b u e).stay (fun c v hc q=>kept c v ?_ q) (fun c q=>?_) fun c xs q=>?_
     . intro z;rcases hc with hc |hc
       . rw[<-hc,z,I.free]at e;cases e
       . rw[z,I.free]at hc;cases hc
     . rw[i6 (z5 q HD)];exact q
     . rw[i6 (z5 q HD)];exact q
end
theorem Wm:∀{us:List Value},Vals (bs.map V.bl) us->LSm.BoolsAre us bs:=by
 induction bs with
 |nil=>intro us r;cases r;exact .nil
 |cons b bs ih=>
  intro us r
  cases r with
  |cons r1 r2=>cases r1;exact .cons b (ih r2)
theorem yI(hc:X.calm=true):CallR X (.builtin "all") (fun xs H Q=>match xs with
  | [.ref p]=>∃bs:List Bool,Rd H p (.lst (bs.map V.bl))/\Q (.bl (bs.all id)) H
  |_=>False):=by
 intro pins s U H xs us Q I r h
 split at h
 . rename_i p;obtain⟨bs,e,q⟩:=h;obtain⟨u,rfl,ru⟩:=w8 r;cases ru;obtain⟨its,rv,pl,_⟩:=I.list (.inl e);obtain⟨m,hn,_⟩:=id I.loc;exact LSm.all_bools (Att.fr_all hn) (T4 (g:=Att.noObjs s.heap) (L:=X.env.locals)) (I.ok.hd hc) pl.isList (Wm rv) fun h' tk F N=>⟨.bl _,H,I.frn hn F N,rfl,q⟩
 . exact h.elim
theorem yH(hc:X.calm=true):CallR X (.builtin "any") (fun xs H Q=>match xs with
  | [.ref p]=>∃bs:List Bool,Rd H p (.lst (bs.map V.bl))/\Q (.bl (bs.any id)) H
  |_=>False):=by
 intro pins s U H xs us Q I r h
 split at h
 . rename_i p;obtain⟨bs,e,q⟩:=h;obtain⟨u,rfl,ru⟩:=w8 r;cases ru;obtain⟨its,rv,pl,_⟩:=I.list (.inl e);obtain⟨m,hn,_⟩:=id I.loc;exact LSm.any_bools (Att.fr_all hn) (T4 (g:=Att.noObjs s.heap) (L:=X.env.locals)) (I.ok.hd hc) pl.isList (Wm rv) fun h' tk F N=>⟨.bl _,H,I.frn hn F N,rfl,q⟩
 . exact h.elim
theorem yG:CallR X (.type "int") (fun xs H Q=>match xs with | [.int i]=>Q (.int i) H | [.bl k]=>Q (.int (if k then 1 else 0)) H |_=>False):=call_int1.imp fun xs H Q q=>by
 split at q
 . exact .inl ⟨_,rfl,q⟩
 . exact .inr ⟨_,rfl,q⟩
 . exact q.elim
end
noncomputable def ItS(S:Hp->Prop)(xs:List V):It:=⟨fun i H=>S H/\i<xs.length,fun i H x H'=>H'=H/\xs[i]?=some x,fun i H=>S H/\xs.length<=i⟩
theorem Turn.conv{P:Program}{w:World}{K:Frag}{tg:Expr}{J J':It}{fp:List Addr}{it:Addr}{tn:Nat->Heap->Prop}(T:Turn P w K tg J fp it tn)(h1:∀i H,J'.go i H->J.go i H)(h2:∀i H x H',J'.go i H->J.yld i H x H'->J'.yld i H x H')
  (h3:∀i H,J'.stop i H->J.stop i H):Turn P w K tg J' fp it tn where
 mem:=T.mem
 obj:=T.obj
 keep:=T.keep
 item:=fun X a b c d i pins s U H E I hf st hg=>thn (T.item X a b c d i pins s U H E I hf st (h1 i H hg)) fun r s1 ⟨u,e,h⟩=>⟨u,e,thn h fun _ s2 ⟨x,H',I',r',y',st',cE⟩=>⟨x,H',I',r',h2 i H x H' hg y',st',cE⟩⟩
 done:=fun X a b c d i pins s U H E I hf st hg=>T.done X a b c d i pins s U H E I hf st (h3 i H hg)
 self:=T.self
section
variable {X:Cx}{tg:Expr}
def V0(x:V)(H1:Hp)(R:It->Hp->Prop):Prop:=match x with
 | .ref a=>(match H1 a with
  |some (.lst xs)=>R (ItS (fun H'=>Rd H' a (.lst xs)) xs) H1
  |some (.frz _ (.lst xs))=>R (ItS (fun H'=>Rd H' a (.lst xs)) xs) H1
  |some (.tup xs)=>R (ItS (fun H'=>H' a=some (.tup xs)) xs) H1
  |_=>False)
 |_=>False
theorem xU(h:Rd H a (.lst xs))(r:R (ItS (fun H'=>Rd H' a (.lst xs)) xs) H):V0 (.ref a) H R:=by
 unfold V0;rcases h with h |⟨o,h⟩
 . dsimp only;rw[h];exact r
 . dsimp only;rw[h];exact r
theorem xT(h:H a=some (.tup xs))(r:R (ItS (fun H'=>H' a=some (.tup xs)) xs) H):V0 (.ref a) H R:=by unfold V0;dsimp only;rw[h];exact r
noncomputable def y4b(K:Frag)(tl:TE):TI:=fun U H R=>tl U H fun x H1=>V0 x H1 R
theorem kZ(hl:PE X l tl):PI X tg l (y4b X.K tl):=by
 intro pins s U H R I h;refine thn (hl pins s U H _ I h) fun v s1 ⟨x,H1,I1,r1,q1⟩=>?_
 cases x<;>first |exact q1.elim |skip
 rename_i a;cases r1;unfold V0 at q1;dsimp only at q1;have fH:∀xs,Rd H1 a (.lst xs)->R (ItS (fun H'=>Rd H' a (.lst xs)) xs) H1->wpAny (model X.prog X.w) X.A (pyIter (.ref a)) (PIE X pins U tg R) X.xe s1:=fun xs hq q=>by
  obtain⟨its,rv,p,hz⟩:=I1.list (.inl hq);refine wpAny_pyIter_list p.isList ?_;refine⟨s1.heap.objs.size,[s1.heap.objs.size],_,_,H1,rfl,I1.kept (t':=s1.toks) fun b o e=>Ψ _ e,(yT a _).conv ?_ ?_ ?_,⟨_,Ξ _ rfl,rfl,rfl⟩,fun b hb=>?_,q⟩
  . exact fun i H' ⟨h1,h2⟩=>⟨xs,xs[i],.inl h1,by simp[h2]⟩
  . exact fun i H' x gJ ⟨h1,h2⟩ ⟨e,y⟩=>⟨e,y xs (.inl h1)⟩
  . exact fun i H' ⟨h1,h2⟩=>⟨xs,.inl h1,h2⟩
  . have e:b=s1.heap.objs.size:=by simpa using hb
    subst e;exact I1.fpOk (ζ _) (I1.hok.fresh (ζ _))
 split at q1
 . rename_i xs e;exact fH xs (.inl e) q1
 . rename_i o xs e;exact fH xs (.inr ⟨o,e⟩) q1
 . rename_i xs e;obtain⟨its,rv,p,hz⟩:=I1.tuple (.of e);refine wpAny_pyIter_tuple (show s1.heap.IsTuple a its.toArray from p) ?_;refine⟨s1.heap.objs.size,[s1.heap.objs.size],_,_,H1,rfl,I1.kept (t':=s1.toks) fun b o e=>Ψ _ e,(zq a _).conv ?_ ?_ ?_,⟨_,Ξ _ rfl,rfl,rfl⟩,fun b hb=>?_,q1⟩
   . exact fun i H' ⟨h1,h2⟩=>⟨xs,xs[i],.of h1,by simp[h2]⟩
   . exact fun i H' x gJ ⟨h1,h2⟩ ⟨e,y⟩=>⟨e,y xs (.of h1)⟩
   . exact fun i H' ⟨h1,h2⟩=>⟨xs,.of h1,h2⟩
   . have e:b=s1.heap.objs.size:=by simpa using hb
     subst e;exact I1.fpOk (ζ _) (I1.hok.fresh (ζ _))
 . exact q1.elim
noncomputable def A9(lo:Int)(n:Nat):List V:=(List.range n).map fun (i:Nat)=>V.int (lo+i)
theorem T0(lo:Int)(n:Nat):(A9 lo n).length=n:=by simp[A9]
theorem Ks(lo:Int)(n i:Nat)(h:i<n):(A9 lo n)[i]?=some (.int (lo+i)):=by simp[A9,h]
def iR1(ta:TA):TI:=fun U H R=>ta U H fun vs H1=>match vs with | [.int j]=>(-(2 ^ 62)<=j/\j<2 ^ 62)/\R (ItS (fun _=>True) (A9 0 j.toNat)) H1 |_=>False
def iR2(ta:TA):TI:=fun U H R=>ta U H fun vs H1=>match vs with | [.int i,.int j]=>(-(2 ^ 62)<=i/\i<2 ^ 62/\-(2 ^ 62)<=j/\j<2 ^ 62)/\R (ItS (fun _=>True) (A9 i (j - i).toNat)) H1 |_=>False
theorem Z9(lo:Int)(n:Nat):(∀i (H:Hp),(ItS (fun _=>True) (A9 lo n)).go i H->(Itr lo n).go i H)/\(∀i H x H',(ItS (fun _=>True) (A9 lo n)).go i H->(Itr lo n).yld i H x H'->(ItS (fun _=>True) (A9 lo n)).yld i H x H') /\
  (∀i (H:Hp),(ItS (fun _=>True) (A9 lo n)).stop i H->(Itr lo n).stop i H):=by
 refine⟨fun i H ⟨_,h⟩=>?_,fun i H x H' ⟨_,h⟩ ⟨e,y⟩=>⟨e,?_⟩,fun i H ⟨_,h⟩=>?_⟩
 . rw[T0]at h;exact h
 . rw[T0]at h;rw[y];exact Ks lo n i h
 . rw[T0]at h;exact h
end
def Yc(J:It)(g:TG)(tb:TS)(D:Ends)(U:St)(H1:Hp):Prop:=∃W:Nat->Nat->St->Hp->Prop,(∃m,W 0 m U H1)/\∀i m U H,W i m U H ->
 (J.stop i H/\D.nx U H)\/(J.go i H/\∃N:St->Hp->Prop,(∀af H',N af H'->∃m',m'<m/\W (i+1) m' af H')/\∀x H',J.yld i H x H'->g x U H' fun bz H2=>tb { D with nx:=N,ct:=N,bk:=D.nx } bz H2)
noncomputable def Op(wi:TI)(g:TG)(tb:TS):TS:=fun D U H=>wi U H fun J H1=>Yc J g tb D U H1
theorem wj(hp:PassesOwn (model X.prog X.w) X.A X.env X.xe)(hc:X.calm=true)(hi:PI X tg iter wi)(hg:PG X tg g)(hb:PSs X body tb)
 (hs:∀x,foldedSetIterable iter X.env x=pure x:=by intro _;rfl):PS X (.For tg iter body [] pos) (Op wi g tb):=qo hp hc hi hg hb hs
def Stp(n i:Nat)(P:Prop):Prop:=∃m',m'<n - i/\m'=n - (i+1)/\i+1<=n/\P
theorem Stp.mk(h:i<n)(p:P):Stp n i P:=⟨n - (i+1),by omega,rfl,h,p⟩
theorem Same.upd_new(h:H a=none):Same H (upd H a o):=fun b u e=>by rw[i6 (z5 e h)];exact e
theorem Same.upd_at(s:Same H H1)(h:H a=none):Same H (upd H1 a o):=fun b u e=>by rw[i6 (z5 e h)];exact s b u e
theorem wg{prog:Program}{w:World}{A:Around}{E:Value->Shared->Prop}{s:Shared}{e it l:Addr}(cu:e≠it)(bS:l≠e)(dH:l≠it){items:Array Value}{i:Nat}{Q:Option Value->Shared->Prop}(hi:i<items.size)
  (he:∃aW,IsEnum s.heap e it i aW) (h1:s.heap.IsListIter it l i) (g1:s.heap.IsList l items)
  (q:∀T ag h' tk,(∃t x,items[i]?=some x/\ag=#[.int i t,x])->s.heap.objs.size<=T->IsTp h' T ag->((∃x,IsEnumOut h' e it ((i:Int)+1) x T)/\h'.IsListIter it l (i+1)/\h'.IsList l items/\T≠e/\T≠it) ->
   (∀c o,c∉[e,it]->s.heap.get? c=some o->h'.get? c=some o)->Q (some (.ref T)) { s with heap:=h',toks:=tk }):wpAny (model prog w) A (pyNext (.ref e)) Q E s:=by
 obtain⟨aW,he⟩:=he
 have gt:∀{c:Addr}{o:Obj},s.heap.get? c=some o->s.heap.objs.size≠c:=fun e z=>absurd (Φ e) (by rw[z];exact PB _)
 have n1:s.heap.objs.size≠it:=by obtain⟨_,e,_⟩:=h1;exact gt e
 refine wpAny_pyNext_enum_item he h1 g1 (x:=items[i]) (by simp[hi]) cu fun h' r1 r2 r3 _ kp=>?_
 have kl:∀c o,c∉[e,it]->s.heap.get? c=some o->h'.get? c=some o:=fun c o hc e=>by simp only[tB,RA,or_false,not_or]at hc;exact kp c o hc.1 hc.2 e
 exact q s.heap.objs.size #[.int i s.toks,items[i]] h' (s.toks+1) ⟨_,_,by simp[hi],rfl⟩ (ζ _) (.mk' r3) ⟨⟨_,r1⟩,r2,g1.at fun o e=>kp _ o bS dH e,gt he,n1⟩ kl
section
variable {X:Cx}{pins:List (Addr×Obj)}{U:St}{H:Hp}{s:Shared}
theorem Inv.turnedT{wr:List Addr}{h':Heap}{tk:Nat}{T:Addr}{xs:List V}{its:List Value}(I:Inv X pins U H s)(hw:∀b∈wr,B0 X pins H b)(k:∀b o,b∉wr->s.heap.get? b=some o->h'.get? b=some o)
  (hT:s.heap.objs.size<=T) (ht:IsTp h' T its.toArray) (rv:Vals xs its) (hz:xs.length<=sizeLine):Inv X pins U (upd H T (.tup xs)) { s with heap:=h',toks:=tk }:=by
 have HT:H T=none:=I.hok.fresh hT
 have nw:∀b u,H b=some u->b∉wr:=fun b u e z=>by rw[(hw b z).1]at e;cases e
 have neT:∀b o,s.heap.get? b=some o->b≠T:=fun b o e=>NI (NH (Φ e) hT)
 refine I.step (g':=s.gens) (d':=s.drawn) (ch:=wr) (fun b hb=>⟨(hw b hb).2.2.2.1,(hw b hb).2.1,(hw b hb).2.2.2.2.1,(hw b hb).2.2.2.2.2⟩) (fun b o _ _ hc e _=>k b o hc e) (fun b o _ _ hc e _=>⟨o.slots,k b o hc e⟩)
  (fun b o _ e n=>by rw[i6 (neT b o e)];exact n) (fun b o hc e=>⟨o,k b o hc e⟩) (fun b ys e=>by rw[i6 (z5 e HT)];exact e) (fun b u ys e=>by rw[i6 (z5 e HT)];exact e)
  (fun b ps e=>⟨#[],by rw[i6 (z5 e HT),e];simp⟩) (fun m hm=>?_) (fun b u e=>?_) I.bare
 . obtain⟨o,es,ep,ho,r⟩:=hm;exact⟨o,es,ep,k _ o (fun z=>(hw _ z).2.1 rfl) ho,r⟩
 . by_cases hb:b=T
   . subst hb;rw[t9]at e;cases e;exact⟨hz,its,rv,ht⟩
   . rw[i6 hb]at e;refine(I.hok b u e).stay (fun c v hc q=>k c v ?_ q) (fun c q=>?_) fun c ys q=>?_
     . rcases hc with z |z
       . rw[z];exact nw b u e
       . exact nw c _ z
     . rw[i6 (z5 q HT)];exact q
     . rw[i6 (z5 q HT)];exact q
end
section
variable {X:Cx}{pins:List (Addr×Obj)}{U:St}{H:Hp}{s:Shared}
theorem Inv.turnedN{wr:List Addr}{h':Heap}{tk:Nat}(I:Inv X pins U H s)(hw:∀b∈wr,B0 X pins H b)(k:∀b o,b∉wr->s.heap.get? b=some o->h'.get? b=some o):Inv X pins U H { s with heap:=h',toks:=tk }:=by
 have nw:∀b u,H b=some u->b∉wr:=fun b u e z=>by rw[(hw b z).1]at e;cases e
 refine I.step (g':=s.gens) (d':=s.drawn) (ch:=wr) (fun b hb=>⟨(hw b hb).2.2.2.1,(hw b hb).2.1,(hw b hb).2.2.2.2.1,(hw b hb).2.2.2.2.2⟩) (fun b o _ _ hc e _=>k b o hc e) (fun b o _ _ hc e _=>⟨o.slots,k b o hc e⟩)
  (fun b o _ e n=>n) (fun b o hc e=>⟨o,k b o hc e⟩) (fun b ys e=>e) (fun b u ys e=>e) (fun b ps e=>⟨#[],by rw[e];simp⟩) (fun m hm=>?_) (fun b u e=>?_) I.bare
 . obtain⟨o,es,ep,ho,r⟩:=hm;exact⟨o,es,ep,k _ o (fun z=>(hw _ z).2.1 rfl) ho,r⟩
 . refine(I.hok b u e).stay (fun c v hc q=>k c v ?_ q) (fun c q=>q) fun c ys q=>q
   rcases hc with z |z
   . rw[z];exact nw b u e
   . exact nw c _ z
end
def ItP(S:Hp->Prop)(ps:List (V×V)):It:=⟨fun i H=>S H/\i<ps.length,fun i H x H'=>∃T a b,x=.ref T/\H T=none/\H'=upd H T (.tup [a,b])/\ps[i]?=some (a,b),fun i H=>S H/\i=ps.length⟩
theorem Qs:2<=sizeLine:=by rw[UB];decide
theorem yF{P:Program}{w:World}{K:Frag}{bq:List Expr}{k:Nat}{pos:Pos}{e it l:Addr}{xs:List V}(cu:e≠it)(bS:l≠e)(dH:l≠it) :
  Turn P w K (.Tuple bq k pos) (ItP (fun H=>Rd H l (.lst xs)) ((A9 0 xs.length).zip xs)) [e,it] e (fun i h=>(∃aW,IsEnum h e it i aW)/\h.IsListIter it l i) where
 mem:=by simp
 obj:=fun i h ⟨⟨aW,he⟩,⟨o1,h1,_,d1⟩⟩ c hc=>by
  have aT:c=e\/c=it:=by simpa using hc
  rcases aT with rfl |rfl
  . exact⟨_,he,fun v z=>by cases z⟩
  . exact⟨o1,h1,fun v z=>by rw[d1]at z;cases z⟩
 keep:=fun i h h' ⟨⟨aW,he⟩,h1⟩ kp=>⟨⟨aW,kp e (by simp) _ he⟩,h1.at fun o z=>kp it (by simp) o z⟩
 item:=by
  intro X hP hw hK hc i pins s U H E I hf st hg;subst hP hw hK;obtain⟨hS,aD⟩:=hg;obtain⟨he,h1⟩:=st;obtain⟨its,r,p1,z1⟩:=I.list (.inl hS);have W:=WalksT.enumerate (prog:=X.prog) (w:=X.w) (A:=X.A) (I.ok.hd hc) e it l cu bS dH its.toArray;have mX:=r.length;have mY:i<xs.length:=by rw[QL,T0]at aD;lia
  have mZ:i<its.toArray.size:=by simp only[LL];lia
  refine wg cu bS dH mZ he h1 p1.isList fun T ag h' tk ng hT ht hM hk=>⟨.ref T,rfl,?_⟩
  refine W.go bq k pos i T _ _ _ hM fun ck cW eL=>?_
  obtain⟨t,x,hx,rfl⟩:=ng;obtain⟨a,ea⟩:∃a,xs[i]?=some a:=⟨xs[i],by simp⟩;obtain⟨u1,q1,nh⟩:=r.get ea;have bJ:its[i]?=some x:=by simpa using hx
  rw[q1]at bJ;cases bJ;obtain⟨oT,nj,nq,nT,bK⟩:=ht;have gl:IsTp ck T ([.int (i:Nat) t,x]:List Value).toArray:=⟨oT,eL T oT (W.apart i T _ hM) nj,nq,nT,bK⟩;have sub:∀c∈[e,it],B0 X pins H c:=fun c aT=>hf c aT
  have I2:=I.turnedT (tk:=tk) (xs:=[.int (i:Nat),a]) (its:=[.int (i:Nat) t,x]) sub (fun c o gK z=>eL c o gK (hk c o gK z)) hT gl (.cons ⟨_,rfl⟩ (.cons nh .nil)) Qs;have HT:H T=none:=I.hok.fresh hT;refine⟨.ref T,upd H T (.tup [.int (i:Nat),a]),I2,rfl,⟨T,.int (i:Nat),a,rfl,HT,rfl,?_⟩,⟨cW.1,cW.2.1⟩,fun c aT=>?_⟩
  . rw[PP];refine⟨?_,ea⟩;rw[Ks 0 _ _ mY];simp
  . rw[i6]
    . exact(hf c aT).1
    . intro ec;have hh:∃o,s.heap.get? c=some o:=by
       have gm:c=e\/c=it:=by simpa using aT
       obtain⟨aW,dG⟩:=he;obtain⟨o1,g1,_⟩:=h1;rcases gm with z |z<;>subst z
       . exact⟨_,dG⟩
       . exact⟨_,g1⟩
      obtain⟨o,ho⟩:=hh;exact absurd (NH (Φ ho) hT) (by rw[ec];exact PB _)
 done:=by
  intro X hP hw hK hc i pins s U H E I hf st hg;subst hP hw hK;obtain⟨hS,gn⟩:=hg;obtain⟨he,h1⟩:=st;obtain⟨its,r,p1,z1⟩:=I.list (.inl hS);have W:=WalksT.enumerate (prog:=X.prog) (w:=X.w) (A:=X.A) (I.ok.hd hc) e it l cu bS dH its.toArray;have mX:=r.length;have hi:its.toArray.size=i:=by rw[QL,T0]at gn;simp only[LL];lia
  rw[<-hi]at h1 he;exact W.done s _ _ ⟨he,h1,p1.isList⟩ fun h' tk hk=>⟨rfl,I.turnedN hf hk⟩
 self:=fun A i s Q E st h=>by obtain⟨⟨aW,he⟩,_⟩:=st;exact wpAny_pyIter_enum he h
section
variable {X:Cx}{a:Expr}{ta:TA}{p pos am:Pos}{bq:List Expr}{k:Nat}
def Zh(ta:TA):TI:=fun U H R=>ta U H fun vs H1=>match vs with
 | [.ref l]=>∃xs,Rd H1 l (.lst xs)/\R (ItP (fun H=>Rd H l (.lst xs)) ((A9 0 xs.length).zip xs)) H1
 |_=>False
theorem wf(hg:Gl X "enumerate")(hm:X.mg "enumerate"=none)(ha:PA X [a] ta)(hs:starEach [a] X.env=[(false,eval a X.env)]:=by rfl) :
  PI X (.Tuple bq k am) (.Call (.Name "enumerate" p) [a] [] pos) (Zh ta):=by
 intro pins s U H R I h
 refine Call_ (S9 I hg hm boot_enumerate (QP (thn (ha pos pins s U H _ I h) fun us s1 ⟨vs,H1,I1,r1,q1⟩=>?_) hs rfl))
 dsimp only at q1
 split at q1
 . rename_i l;obtain⟨xs,e1,q⟩:=q1;obtain⟨u,rfl,ru⟩:=w8 r1;cases ru;obtain⟨pB,EM,p1,_⟩:=I1.list (.inl e1);have gL:l<s1.heap.objs.size:=by obtain⟨o,ho,_⟩:=p1.isList;exact Φ ho
   refine call_enumerate_list p1.isList fun h' he hi hsz hk=>?_
   refine wpAny_pyIter_enum he ⟨s1.heap.objs.size+1,[s1.heap.objs.size+1,s1.heap.objs.size],_,_,H1,rfl,I1.kept (t':=s1.toks) hk,yF (Nat.succ_ne_self _) (NI (UF gL)) (NI gL),⟨⟨_,he⟩,hi⟩,fun c hc=>?_,q⟩;have aT:s1.heap.objs.size<=c:=by
    have:c=s1.heap.objs.size+1\/c=s1.heap.objs.size:=by simpa using hc
    rcases this with z |z<;>rw[z]<;>first |exact Nat.le_add_right _ _ |exact ζ _
   exact I1.fpOk aT (I1.hok.fresh aT)
 . exact q1.elim
end
section
variable {X:Cx}{tg:Expr}{a b:Expr}{ta:TA}{p pos:Pos}
theorem Zg(hg:Gl X "range")(hm:X.mg "range"=none)(ha:PA X [a] ta)(hs:starEach [a] X.env=[(false,eval a X.env)]:=by rfl):PI X tg (.Call (.Name "range" p) [a] [] pos) (iR1 ta):=by
 intro pins s U H R I h;refine Call_ (S9 I hg hm boot_range (QP (thn (ha pos pins s U H _ I h) fun us s1 ⟨vs,H1,I1,r1,q1⟩=>?_) hs rfl));dsimp only at q1;split at q1
 . rename_i j;obtain⟨⟨h1,h2⟩,q⟩:=q1;obtain⟨u,rfl,t,rfl⟩:=w8 r1;refine call_range_1 (thn (Uo (tg:=tg) (R:=fun J H1=>∃J',(∀i H,J'.go i H->J.go i H)/\(∀i H x H',J'.go i H->J.yld i H x H'->J'.yld i H x H')/\(∀i H,J'.stop i H->J.stop i H)/\R J' H1) I1 (by lia) (by lia) h1 h2 ?_) fun fN s2 h2=>?_)
   . refine⟨_,(Z9 0 (j - 0).toNat).1,(Z9 0 (j - 0).toNat).2.1,(Z9 0 (j - 0).toNat).2.2,?_⟩;simpa using q
   . obtain⟨it,fp,tn,J,H2,e,I2,T,st,hf,J',c1,c2,c3,r⟩:=h2;exact⟨it,fp,tn,J',H2,e,I2,T.conv c1 c2 c3,st,hf,r⟩
 . exact q1.elim
theorem Zf(hg:Gl X "range")(hm:X.mg "range"=none)(ha:PA X [a,b] ta)(hs:starEach [a,b] X.env=[(false,eval a X.env),(false,eval b X.env)]:=by rfl)(iC:starEach [b] X.env=[(false,eval b X.env)]:=by rfl) :
  PI X tg (.Call (.Name "range" p) [a,b] [] pos) (iR2 ta):=by
 intro pins s U H R I h
 refine Call_ (S9 I hg hm boot_range (QP (thn (ha pos pins s U H _ I h) fun us s1 ⟨vs,H1,I1,r1,q1⟩=>?_) (by rw[hs,iC]) (by rw[iC];rfl)))
 dsimp only at q1
 split at q1
 . rename_i i j;obtain⟨⟨h1,h2,h3,h4⟩,q⟩:=q1;obtain⟨u,w',rfl,⟨t,rfl⟩,⟨t',rfl⟩⟩:=Pa r1;refine call_range_2 (thn (Uo (tg:=tg) (R:=fun J H1=>∃J',(∀i H,J'.go i H->J.go i H)/\(∀i H x H',J'.go i H->J.yld i H x H'->J'.yld i H x H')/\(∀i H,J'.stop i H->J.stop i H)/\R J' H1) I1 h1 h2 h3 h4 ?_) fun fN s2 h2=>?_)
   . exact⟨_,(Z9 i (j - i).toNat).1,(Z9 i (j - i).toNat).2.1,(Z9 i (j - i).toNat).2.2,q⟩
   . obtain⟨it,fp,tn,J,H2,e,I2,T,st,hf,J',c1,c2,c3,r⟩:=h2;exact⟨it,fp,tn,J',H2,e,I2,T.conv c1 c2 c3,st,hf,r⟩
 . exact q1.elim
end
def cB1:V->Hp->(List V->Hp->Prop)->Prop:=fun x H R=>R [x] H
def cBT(n:Nat):V->Hp->(List V->Hp->Prop)->Prop:=fun x H R=>match x with
 | .ref a=>(match H a with |some (.tup xs)=>xs.length=n/\R xs H |_=>False)
 |_=>False
section
variable {X:Cx}{sc:Scope}{caps:List Str}{ix:List Nat}{aH iter:Expr}{aC:List Expr}{pos px py am:Pos}{tt:TT}{te:TE}{wi:TI}{x y:Str}{kt:Nat}
theorem Yb(x:V)(bA cs:St)(H:Hp)(Q:St->Hp->Prop)(hl:bA.length=1)(h:cB1 x H (fun ag H2=>Q (ag.map some++cs) H2)):D2 0 x (bA++cs) H fun bz H2=>(∃ag:List V,ag.length=1/\bz=ag.map some++cs)/\Q bz H2:=by
 match bA,hl with
 | [t],_=>exact⟨⟨[x],rfl,rfl⟩,h⟩
theorem Xz{K:Frag}(x:V)(bA cs:St)(H:Hp)(Q:St->Hp->Prop)(hl:bA.length=2)(h:cBT 2 x H (fun ag H2=>Q (ag.map some++cs) H2)) :
  Gb K 2 (Bn (D2 0) (Bn (D2 1) Gc)) x (bA++cs) H fun bz H2=>(∃ag:List V,ag.length=2/\bz=ag.map some++cs)/\Q bz H2:=by
 cases x<;>first |exact h.elim |skip
 rename_i a
 unfold cBT at h
 dsimp only at h
 split at h
 . rename_i xs e;obtain⟨hn,h⟩:=h
   match bA,hl,xs,hn with
   | [t,t'],_,[v,v'],_=>exact⟨a,[v,v'],rfl,.of e,rfl,v,[v'],rfl,v',[],rfl,rfl,⟨[v,v'],rfl,rfl⟩,h⟩
 . exact h.elim
theorem Dh(hN:(tgs++caps).Nodup)(hi:(tgs++caps)[i]?=some x)(hx:sc.names.lookup x=some .local)(fp:List Addr)(s:Shared)(H:Hp):PG (n5 X sc (tgs++caps) fp s H) (.Name x px) (D2 i):=
 Kv (X:=n5 X sc (tgs++caps) fp s H) hN hi (.inl (lookup_relabel_local hx)) (.inr (lookup_relabel_local hx))
theorem xS(C:CompOk X sc caps ix)(hN:([x]++caps).Nodup)(hx:sc.names.lookup x=some .local)(hi:PI X (.Name x px) iter wi)(ht:∀fp s H,PTs (n5 X sc ([x]++caps) fp s H) aC tt)(he:∀fp s H,PE (n5 X sc ([x]++caps) fp s H) aH te)
  (hs:∀x,foldedSetIterable iter X.env x=pure x:=by intro _;rfl):PE X (.ListComp aH [⟨.Name x px,iter,aC,0⟩] sc pos) (Q1 wi cB1 ix tt te):=
 Tf (tgs:=[x]) C hi (fun fp s H=>Dh hN rfl hx fp s H) Yb ht he hs
theorem xR{v:Str}{k:Nat}{bC pv:Pos}(ft:X.N.Nodup)(hk:X.N[k]?=some v)(hv:X.env.scope.names.lookup v=some .local)(C:CompOk X sc caps ix)(hN:([x]++caps).Nodup)(hx:sc.names.lookup x=some .local)(hi:PI X (.Name x px) iter wi)
  (ht:∀fp s H,PTs (n5 X sc ([x]++caps) fp s H) aC tt) (he:∀fp s H,PE (n5 X sc ([x]++caps) fp s H) aH te)
  (dj:swapsWith (.ListComp aH [⟨.Name x px,iter,aC,0⟩] sc pos) (some (.Name v pv)) bC.line X.env=pure true:=by rfl) (hs:∀x,foldedSetIterable iter X.env x=pure x:=by intro _;rfl) :
  PS X (.Assign [.Name v pv] (.ListComp aH [⟨.Name x px,iter,aC,0⟩] sc pos) bC) (N4 (Q1 wi cB1 ix tt te) (D2 k)):=
 Te (tgs:=[x]) ft hk hv C hi (fun fp s H=>Dh hN rfl hx fp s H) Yb ht he dj hs
theorem Oo(hc:X.calm=true)(hN:([x,y]++caps).Nodup)(hx:sc.names.lookup x=some .local)(hy:sc.names.lookup y=some .local)(fp:List Addr)(s:Shared)(H:Hp) :
  PG (n5 X sc ([x,y]++caps) fp s H) (.Tuple [.Name x px,.Name y py] kt am) (Gb X.K 2 (Bn (D2 0) (Bn (D2 1) Gc))):=
 Qy (X:=n5 X sc ([x,y]++caps) fp s H) hc (Lj (Dh hN rfl hx fp s H) (Lj (Dh hN rfl hy fp s H) pgs_nil))
theorem xQ(C:CompOk X sc caps ix)(hN:([x,y]++caps).Nodup)(hx:sc.names.lookup x=some .local)(hy:sc.names.lookup y=some .local)(hi:PI X (.Tuple [.Name x px,.Name y py] kt am) iter wi)(ht:∀fp s H,PTs (n5 X sc ([x,y]++caps) fp s H) aC tt)
  (he:∀fp s H,PE (n5 X sc ([x,y]++caps) fp s H) aH te) (hs:∀x,foldedSetIterable iter X.env x=pure x:=by intro _;rfl):PE X (.ListComp aH [⟨.Tuple [.Name x px,.Name y py] kt am,iter,aC,0⟩] sc pos) (Q1 wi (cBT 2) ix tt te):=
 Tf (tgs:=[x,y]) C hi (fun fp s H=>Oo C.calm hN hx hy fp s H) Xz ht he hs
theorem xP{v:Str}{k:Nat}{bC pv:Pos}(ft:X.N.Nodup)(hk:X.N[k]?=some v)(hv:X.env.scope.names.lookup v=some .local)(C:CompOk X sc caps ix)(hN:([x,y]++caps).Nodup)(hx:sc.names.lookup x=some .local)(hy:sc.names.lookup y=some .local)
  (hi:PI X (.Tuple [.Name x px,.Name y py] kt am) iter wi) (ht:∀fp s H,PTs (n5 X sc ([x,y]++caps) fp s H) aC tt) (he:∀fp s H,PE (n5 X sc ([x,y]++caps) fp s H) aH te)
  (dj:swapsWith (.ListComp aH [⟨.Tuple [.Name x px,.Name y py] kt am,iter,aC,0⟩] sc pos) (some (.Name v pv)) bC.line X.env=pure true:=by rfl) (hs:∀x,foldedSetIterable iter X.env x=pure x:=by intro _;rfl) :
  PS X (.Assign [.Name v pv] (.ListComp aH [⟨.Tuple [.Name x px,.Name y py] kt am,iter,aC,0⟩] sc pos) bC) (N4 (Q1 wi (cBT 2) ix tt te) (D2 k)):=
 Te (tgs:=[x,y]) ft hk hv C hi (fun fp s H=>Oo C.calm hN hx hy fp s H) Xz ht he dj hs
noncomputable def Hd(n:Nat)(t:TGs):TG:=fun v U H Q=>match v with
 | .ref a=>(match H a with |some (.tup xs)=>xs.length=n/\t xs U H Q |_=>False)
 |_=>False
noncomputable def Qr(t:TG)(u:TGs):TGs:=fun vs U H Q=>match vs with |v::r=>t v U H fun af H'=>u r af H' Q | []=>False
noncomputable def On:TGs:=fun vs U H Q=>match vs with | []=>Q U H |_=>False
theorem PGs.imp(h:PGs X es t)(hi:∀vs U H Q,t' vs U H Q->t vs U H Q):PGs X es t':=fun pins s U H vs us Q I r q=>h pins s U H vs us Q I r (hi vs U H Q q)
theorem PG.imp(h:PG X e t)(hi:∀v U H Q,t' v U H Q->t v U H Q):PG X e t':=fun pins s U H v u Q I r q=>h pins s U H v u Q I r (hi v U H Q q)
theorem xO:PGs X [] On:=pgs_nil.imp fun vs U H Q q=>by
 cases vs with
 |nil=>exact⟨rfl,q⟩
 |cons _ _=>exact q.elim
theorem yE(h1:PG X e t)(h2:PGs X es u)(hs:(assignEach (e::es) X.env).map (·.2)=assign e X.env::(assignEach es X.env).map (·.2):=by rfl):PGs X (e::es) (Qr t u):=(Lj h1 h2 hs).imp fun vs U H Q q=>by
 cases vs with
 |nil=>exact q.elim
 |cons v r=>exact⟨v,r,rfl,q⟩
theorem we(hc:X.calm=true)(h:PGs X es t)
  (hn:(assignEach es X.env).length=n:=by rfl) (aL:(assignEach es X.env).findIdx? (·.1)=none:=by rfl):PG X (.Tuple es k pos) (Hd n t):=(Qy hc h hn aL).imp fun v U H Q q=>by
 cases v<;>first |exact q.elim |skip
 rename_i a
 unfold Hd at q
 dsimp only at q
 split at q
 . rename_i xs e;exact⟨a,xs,rfl,.of e,q.1,q.2⟩
 . exact q.elim
end
theorem Xy(a:α)(r:List α):atI (a::r) 0=some a:=Ep (j:=0) rfl
theorem Xx(a b:α)(r:List α):atI (a::b::r) 1=some b:=Ep (j:=1) rfl
section
variable {prog:Program}{w:World}{A:Around}{E:Value->Shared->Prop}{s:Shared}
theorem Uh(aM:t≠it):∀(n i:Nat)(s:Shared)(Q:List Value->Shared->Prop),s.heap.IsListIter it t i->s.heap.IsList t items->i+n<=items.size ->
  (∀h',h'.IsListIter it t (i+n)->Heap.SameBut it s.heap h'->Q ((items.toList.drop i).take n) { s with heap:=h' })->wpAny (model prog w) A (draw (.ref it) n) Q E s
 | 0,i,s,Q,aU,_,_,k=>by show wpAny _ _ (pure []) Q E s;exact ω (by simpa using k s.heap aU (Heap.SameBut.refl ..))
 |n+1,i,s,Q,aU,ht,bS,k=>by
  have aD:i<items.size:=by lia
  show wpAny _ _ (pyNext (.ref it) >>= _) Q E s;refine χ (wpAny_pyNext_list_item aU ht (x:=items[i]) (by simp[aD]) fun g1 nr dJ=>?_);refine χ (NZ (Uh aM n (i+1) _ _ nr (ht.extBut dJ.extBut aM) (by lia) fun g2 EN iD=>ω ?_));have hd:items.toList.drop i=items[i]::items.toList.drop (i+1):=by simp[PU,aD]
  have z:=k g2 (by rw[show i+(n+1)=i+1+n by lia];exact EN) (dJ.trans iD);rw[hd,List.take_succ_cons]at z;exact z
theorem yD(hh:A.handled=none)(ht:s.heap.IsList t items)
  (k:∀h',(∀b o,s.heap.get? b=some o->h'.get? b=some o)->Q items.toList { s with heap:=h' }):wpAny (model prog w) A (unpackItems (.ref t) items.size none) Q E s:=by
 have aD:t≠s.heap.objs.size:=by obtain⟨o,ho,_⟩:=ht;exact NI (Φ ho)
 have aW:∀{b:Addr}{o:Obj},s.heap.get? b=some o->b≠s.heap.objs.size:=fun e=>NI (Φ e)
 unfold unpackItems
 refine χ ?_
 . unfold notIterableAtAll;refine χ (wpAny_specialOf ht.typeIs slot_list_iter.lookup ?_);refine ω ?_;simp only[OD,PY];refine χ (NZ (wpAny_pyIter_list ht ?_));refine χ (NZ (Uh aD items.size 0 _ _ ⟨_,Ξ _ rfl,rfl,rfl⟩ (ht.push _) (by lia) fun g1 nr dJ=>?_));have eJ:List.take items.size (List.drop 0 items.toList)=items.toList:=by rw[List.drop_zero];exact OU (by simp)
   rw[eJ];rw[ψ (by simp)];have EO:g1.IsList t items:=(ht.push _).extBut dJ.extBut aD;refine χ (NZ (wpAny_pyNext_list_end hh nr EO (by simp) fun g2 EQ=>?_));simp only[Option.isSome_none,OD,PY];exact ω (k g2 fun b o e=>EQ b o (aW e) (dJ.extBut b o (aW e) (Ψ _ e)))
theorem zk(hh:A.handled=none)(ht:s.heap.IsList t items)
  (hn:(assignEach bq env).length=items.size) (mK:(assignEach bq env).findIdx? (·.1)=none)
  (h:∀h',(∀b o,s.heap.get? b=some o->h'.get? b=some o)->wpAny (model prog w) A (assignInOrder ((assignEach bq env).map (·.2)) items.toList) Q E { s with heap:=h' }) :
  wpAny (model prog w) A (assign (.Tuple bq x1 pos) env (.ref t)) Q E s:=by
 rw[assign_Tuple]
 refine χ (wpAny_standAt ?_)
 unfold unpack
 rw[hn,mK]
 exact χ (NZ (yD hh ht h))
end
section
variable {X:Cx}{pos:Pos}
noncomputable def Bm(n:Nat)(t:TGs):TG:=fun v U H Q=>match v with
 | .ref a=>(match H a with
  |some (.tup xs)=>xs.length=n/\t xs U H Q
  |some (.lst xs)=>xs.length=n/\t xs U H Q
  |_=>False)
 |_=>False
theorem wd(hc:X.calm=true)(h:PGs X es t)
  (hn:(assignEach es X.env).length=n:=by rfl) (aL:(assignEach es X.env).findIdx? (·.1)=none:=by rfl):PG X (.Tuple es k pos) (Bm n t):=by
 intro pins s U H v u Q I r hw
 cases v<;>first |exact hw.elim |skip
 rename_i a
 unfold Bm at hw
 dsimp only at hw
 split at hw
 . rename_i xs e;exact we hc h hn aL pins s U H (.ref a) u Q I r (by unfold Hd;dsimp only;rw[e];exact hw)
 . rename_i xs e;obtain⟨hl,hw⟩:=hw;cases r;obtain⟨its,rv,ht,hz⟩:=I.list (.of e);refine zk (I.ok.hd hc) ht.isList (by simp[hn,<-hl,rv.length]) aL fun h' hx=>?_
   exact h pins _ U H xs _ Q (I.kept (t':=s.toks) hx) (by simpa using rv) hw
 . exact hw.elim
theorem few(h:n<=1000):n<=sizeLine:=QQ (yM h)
def Dg:List V->Hp->VK->Prop:=fun xs H Q=>match xs with
 | [x,.ty c]=>J4 c=true/\(match O1 H x with |some t=>Q (.bl (G8 t c)) H |none=>False)
 |_=>False
def Ha:List V->Hp->VK->Prop:=fun xs H Q=>match xs with
 | [.ref p]=>∃ns:List Int,G1 H p=some (ns.map V.int)/\Q (.int ns.sum) H
 |_=>False
def Gz:List V->Hp->VK->Prop:=fun xs H Q=>match xs with
 | [.ref p]=>∃bs:List Bool,Rd H p (.lst (bs.map V.bl))/\Q (.bl (bs.all id)) H
 |_=>False
def Gy:List V->Hp->VK->Prop:=fun xs H Q=>match xs with
 | [.ref p]=>∃bs:List Bool,Rd H p (.lst (bs.map V.bl))/\Q (.bl (bs.any id)) H
 |_=>False
def Om:List V->Hp->VK->Prop:=fun xs H Q=>match xs with | [.int i]=>Q (.int i) H | [.bl k]=>Q (.int (if k then 1 else 0)) H |_=>False
section
variable {H:Hp}{Q:VK}{p:Addr}{x:V}{cs:String}
theorem kY:Dg [x,.ty cs] H Q=(J4 cs=true/\(match O1 H x with |some t=>Q (.bl (G8 t cs)) H |none=>False)):=rfl
theorem Td:Ha [.ref p] H Q=∃ns:List Int,G1 H p=some (ns.map V.int)/\Q (.int ns.sum) H:=rfl
theorem wc:Gz [.ref p] H Q=∃bs:List Bool,Rd H p (.lst (bs.map V.bl))/\Q (.bl (bs.all id)) H:=rfl
theorem wb:Gy [.ref p] H Q=∃bs:List Bool,Rd H p (.lst (bs.map V.bl))/\Q (.bl (bs.any id)) H:=rfl
end
theorem Ze:CallR X (.builtin "isinstance") Dg:=xV
theorem Zd(hc:X.calm=true):CallR X (.builtin "sum") Ha:=yJ hc
theorem Ol(hc:X.calm=true):CallR X (.builtin "all") Gz:=yI hc
theorem Zc(hc:X.calm=true):CallR X (.builtin "any") Gy:=yH hc
theorem Oj:CallR X (.type "int") Om:=yG
end
inductive NK where
 |i (n:Int)
 |t (ks:List NK)
noncomputable instance:DecidableEq NK:=fun a b=>Classical.propDecidable (a=b)
mutual
noncomputable def NK.dep:NK->Nat
 | .i _=>0
 | .t ks=>E2 ks+1
noncomputable def E2:List NK->Nat
 | []=>0
 |k::ks=>max k.dep (E2 ks)
end
mutual
noncomputable def NK.hs:NK->Int
 | .i n=>hashInt n
 | .t ks=>reduceHash (Builtin.Tuple.tupleHashOf (Az ks))
noncomputable def Az:List NK->List Int
 | []=>[]
 |k::ks=>k.hs::Az ks
end
mutual
noncomputable def NK.dr:NK->Nat
 | .i _=>1
 | .t ks=>Df ks+1
noncomputable def Df:List NK->Nat
 | []=>0
 |k::ks=>k.dr+Df ks
end
mutual
def NKv(h:Heap):NK->Value->Prop
 | .i n,v=>∃t,v=.int n t
 | .t ks,v=>∃a its,v=.ref a/\h.IsTuple a its/\NKvs h ks its.toList
def NKvs(h:Heap):List NK->List Value->Prop
 | [],vs=>vs=[]
 |k::ks,vs=>∃v r,vs=v::r/\NKv h k v/\NKvs h ks r
end
theorem NKvs.len:∀{ks:List NK}{vs:List Value},NKvs h ks vs->ks.length=vs.length
 | [],_,q=>by simp only[NKvs]at q;rw[q];rfl
 |k::ks,_,q=>by simp only[NKvs]at q;obtain⟨v,r,rfl,_,q⟩:=q;simp only[NM,NKvs.len q]
theorem yC{h:Heap}{a:Addr}{x y:Array Value}(p:h.IsTuple a x)(q:h.IsTuple a y):x=y:=by obtain⟨o,e,c,n,d⟩:=p;obtain⟨o',e',c',n',d'⟩:=q;rw[e]at e';cases e';rw[d]at d';cases d';rfl
mutual
theorem NKv.inj:∀{k j:NK}{v:Value},NKv h k v->NKv h j v->k=j
 | .i n,.i m,v,p,q=>by simp only[NKv]at p q;obtain⟨t,rfl⟩:=p;obtain⟨t',e⟩:=q;cases e;rfl
 | .i n,.t ks,v,p,q=>by simp only[NKv]at p q;obtain⟨t,rfl⟩:=p;obtain⟨_,_,e,_⟩:=q;cases e
 | .t ks,.i m,v,p,q=>by simp only[NKv]at p q;obtain⟨t,rfl⟩:=q;obtain⟨_,_,e,_⟩:=p;cases e
 | .t ks,.t js,v,p,q=>by simp only[NKv]at p q;obtain⟨a,its,rfl,p1,p2⟩:=p;obtain⟨b,its',e,q1,q2⟩:=q;cases e;cases yC p1 q1;rw[NKvs.inj p2 q2]
theorem NKvs.inj:∀{ks js:List NK}{vs:List Value},NKvs h ks vs->NKvs h js vs->ks=js
 | [],[],_,_,_=>rfl
 | [],j::js,_,p,q=>by simp only[NKvs]at p q;subst p;obtain⟨_,_,e,_⟩:=q;cases e
 |k::ks,[],_,p,q=>by simp only[NKvs]at p q;subst q;obtain⟨_,_,e,_⟩:=p;cases e
 |k::ks,j::js,_,p,q=>by simp only[NKvs]at p q;obtain⟨v,r,rfl,p1,p2⟩:=p;obtain⟨_,_,e,q1,q2⟩:=q;cases e;rw[NKv.inj p1 q1,NKvs.inj p2 q2]
end
mutual
theorem NKv.stay(st:∀a its,h.IsTuple a its->h'.IsTuple a its):∀{k:NK}{v:Value},NKv h k v->NKv h' k v
 | .i n,v,p=>by simp only[NKv]at p⊢;exact p
 | .t ks,v,p=>by simp only[NKv]at p⊢;obtain⟨a,its,e,p1,p2⟩:=p;exact⟨a,its,e,st _ _ p1,NKvs.stay st p2⟩
theorem NKvs.stay(st:∀a its,h.IsTuple a its->h'.IsTuple a its):∀{ks:List NK}{vs:List Value},NKvs h ks vs->NKvs h' ks vs
 | [],_,p=>by simp only[NKvs]at p⊢;exact p
 |k::ks,_,p=>by simp only[NKvs]at p⊢;obtain⟨v,r,e,p1,p2⟩:=p;exact⟨v,r,e,NKv.stay st p1,NKvs.stay st p2⟩
end
section
variable {prog:Program}{w:World}
theorem Kr:∀(m:Nat){k:NK}{v:Value}{A:Around}{E:Value->Shared->Prop}{s:Shared}{Q:Int->Shared->Prop},k.dep<=m->A.units+m<cLine->NKv s.heap k v->Q k.hs { s with toks:=s.toks+k.dr }->wpAny (model prog w) A (pyHash v) Q E s
 |m,.i n,v,A,E,s,Q,hd,hu,p,q=>by simp only[NKv]at p;obtain⟨t,rfl⟩:=p;exact wpAny_pyHash_int q
 | 0,.t ks,v,A,E,s,Q,hd,hu,p,q=>by simp only[NK.dep]at hd;lia
 |m+1,.t ks,v,A,E,s,Q,hd,hu,p,q=>by
  simp only[NKv]at p;obtain⟨a,its,rfl,⟨o,e,c,n,d⟩,p2⟩:=p;simp only[NK.dep]at hd;show wpAny (model prog w) A (pyHashByItsType (.ref a)) Q E s;refine W.pyHash_slot (T:="tuple") ⟨o,e,c⟩ F.slot_tuple_hash F.entry_tuple_hash (F.args_tuple_hash_1 _) rfl (.inr (by lia)) ?_;refine χ (wpAny_of_eq (show slotArgs "__hash__" 0 ⟨[.ref a],[]⟩=pure (.ref a,[]) from rfl) ?_);show wpAny (model prog w) A.in1 (Builtin.Tuple.tupleItemsOf (.ref a) >>= _) _ _ s;refine χ (wpAny_tupleItemsOf e d ?_);refine χ ?_;have go:∀(ks:List NK)(vs:List Value)(b:Array Int)(s':Shared)(Q':Array Int->Shared->Prop),E2 ks<=m->NKvs s'.heap ks vs->(∀b':Array Int,b'.toList=b.toList++Az ks->Q' b' { s' with toks:=s'.toks+Df ks }) ->
    wpAny (model prog w) A.in1 (forIn vs b fun x r=>do
     let h <-pyHash x
     pure (ForInStep.yield (r.push h))) Q' E s':=by
   intro ks
   induction ks with
   |nil=>
    intro vs b s' Q' _ p hq
    simp only[NKvs]at p;subst p
    exact ω (hq b (by simp[Az]))
   |cons k ks ih=>
    intro vs b s' Q' hd p hq
    simp only[NKvs]at p
    obtain⟨v,r,rfl,p1,p2⟩:=p
    simp only[E2]at hd
    rw[SN]
    refine χ (χ (Kr m (by lia) (by show A.units+1+m<cLine;lia) p1 ?_))
    refine ω ?_
    refine ih r (b.push k.hs) _ Q' (by lia) p2 fun b' dL=>?_
    have:=hq b' (by rw[dL];simp[Az])
    simpa only [Df,Nat.add_assoc] using this
  rw[<-UD];refine go ks its.toList #[] s _ (by lia) p2 fun b' dL=>?_
  show wpAny (model prog w) A.in1 (retInt (Builtin.Tuple.tupleHashOf b'.toList)) _ _ _;refine OG (wpAny_ret_mkInt (Q:=fun v s'=>∃n t,v=Value.int n t/\Q (reduceHash n) s') ⟨_,_,rfl,?_⟩) (fun fin s' h=>?_) fun _ _ h=>h
  . rw[dL];simpa only [NK.hs,NK.dr,Nat.add_assoc,List.nil_append] using q
  . obtain⟨v,rfl,n,t,rfl,hq⟩:=h;exact⟨n,t,rfl,hq⟩
theorem Gx:∀(m:Nat){k j:NK}{u v:Value}{A:Around},k.dep<=m->A.units+m<cLine->NKv s.heap k u->NKv s.heap j v->SeqAt.EqAt A s u v (decide (k=j))
 |m,.i n,.i n',u,v,A,hd,hu,p,q=>by
  simp only[NKv]at p q;obtain⟨t,rfl⟩:=p;obtain⟨t',rfl⟩:=q;have:decide (NK.i n=NK.i n')=(n==n'):=by
   by_cases h:n=n'
   . rw[h];simp
   . rw[NO (fun e=>h (NK.i.inj e))];simp[h]
  rw[this];exact .int_int _ _ _ _
 |m,.i n,.t js,u,v,A,hd,hu,p,q=>by simp only[NKv]at p q;obtain⟨t,rfl⟩:=p;obtain⟨a,its,rfl,q1,_⟩:=q;rw[NO (fun e=>by cases e)];exact .int_tuple _ _ q1 (by lia)
 |m,.t ks,.i n',u,v,A,hd,hu,p,q=>by simp only[NKv]at p q;obtain⟨t,rfl⟩:=q;obtain⟨a,its,rfl,q1,_⟩:=p;rw[NO (fun e=>by cases e)];exact .tuple_int _ _ q1 (by lia)
 | 0,.t ks,.t js,u,v,A,hd,hu,p,q=>by simp only[NK.dep]at hd;lia
 |m+1,.t ks,.t js,u,v,A,hd,hu,p,q=>by
  have p0:=p;have q0:=q;simp only[NKv]at p q;obtain⟨a,its,rfl,p1,p2⟩:=p;obtain⟨b,aA,rfl,q1,q2⟩:=q;simp only[NK.dep]at hd;by_cases bX:a=b
  . subst bX;rw[decide_eq_true (NKv.inj p0 q0)];exact .same _
  . have l1:=p2.len;have l2:=q2.len;simp only[gc]at l1 l2;have cM:∀(ks:List NK)(vs:List Value),NKvs s.heap ks vs->∀j v,vs[j]?=some v->NKv s.heap (ks.getD j (.i 0)) v/\(ks.getD j (.i 0)).dep<=E2 ks:=by
     intro ks;induction ks with
     |nil=>intro vs p j v e;simp only[NKvs]at p;subst p;simp at e
     |cons k ks ih=>
      intro vs p j v e
      simp only[NKvs]at p
      obtain⟨v0,r,rfl,r1,r2⟩:=p
      cases j with
      |zero=>simp at e;subst e;exact⟨r1,by simp only[List.getD_cons_zero,E2];lia⟩
      |succ j=>
       simp only[List.getElem?_cons_succ]at e
       obtain⟨x1,x2⟩:=ih r r2 j v e
       exact⟨x1,by simp only[List.getD_cons_succ,E2];lia⟩
    have q:=SeqAt.RcAt.tuples (A:=A) p1 q1 (by lia) (e:=fun j=>decide (ks.getD j (.i 0)=js.getD j (.i 0))) fun j h1 h2=>by obtain⟨x1,x2⟩:=cM ks _ p2 j its[j] (by simp[h1]);obtain⟨y1,y2⟩:=cM js _ q2 j aA[j] (by simp[h2]);exact Gx m (by lia) (by show A.units+1+m<cLine;lia) x1 y1
    have eb:((List.range (min its.size aA.size)).all (fun j=>decide (ks.getD j (.i 0)=js.getD j (.i 0)))&&its.size==aA.size)=decide (NK.t ks=NK.t js):=by
     rw[TU,bI,KB,NP,OY];constructor
     . rintro⟨h1,h2⟩;congr 1;refine List.ext_getElem (by lia) fun j hj iE=>?_
       have:=h1 j (OE.mpr (by lia));rw[NP,io,io,NG hj,NG iE]at this;exact this
     . intro e;cases e;exact⟨fun j _=>decide_eq_true rfl,by lia⟩
    rw[eb]at q;exact .of_refs bX q
end
section
variable {prog:Program}{w:World}
theorem Fb:∀(m:Nat){k:NK}{v:Value}{Q:Bool->Shared->Prop},k.dep<=m->NKv s.heap k v->Q true s->wpAny (model prog w) A (eqIsQuiet m v) Q E s
 |m,.i n,v,Q,hd,p,q=>by simp only[NKv]at p;obtain⟨t,rfl⟩:=p;rw[eqIsQuiet.eq_3 _ _ (fun a e=>by cases e)];exact ω q
 | 0,.t ks,v,Q,hd,p,q=>by simp only[NK.dep]at hd;lia
 |m+1,.t ks,v,Q,hd,p,q=>by
  simp only[NKv]at p;obtain⟨a,its,rfl,⟨o,e,c,n,d⟩,p2⟩:=p;simp only[NK.dep]at hd;rw[eqIsQuiet.eq_2];refine χ (wpAny_specialOf (T:="tuple") ⟨o,e,c⟩ F.slot_tuple_eq.lookup ?_);show wpAny (model prog w) A (isInstance (.ref a) (.type "tuple") >>= _) _ _ s;refine χ (wpAny_isInstance (T:="tuple") (b:=true) ⟨o,e,c⟩ (by rfl) ?_);show wpAny (model prog w) A (seqItems? (.ref a) >>= _) _ _ s;refine χ (TM e d ?_);refine χ ?_;have go:∀(ks:List NK)(vs:List Value)(Q':Option Bool×Unit->Shared->Prop),E2 ks<=m->NKvs s.heap ks vs->Q' (none,()) s ->
    wpAny (model prog w) A (forIn vs ((none,()):Option Bool×Unit) fun y __s=>do
     let __do_lift <-eqIsQuiet m y
     if(!__do_lift)=true then pure (ForInStep.done (some false,()))
      else pure (ForInStep.yield (none,()))) Q' E s:=by
   intro ks
   induction ks with
   |nil=>
    intro vs Q' _ p hq
    simp only[NKvs]at p;subst p
    exact ω hq
   |cons k ks ih=>
    intro vs Q' hd p hq
    simp only[NKvs]at p
    obtain⟨v,r,rfl,p1,p2⟩:=p
    simp only[E2]at hd
    rw[SN]
    refine χ (χ (Fb m (by lia) p1 ?_))
    refine ω ?_
    exact ih r Q' (by lia) p2 hq
  show wpAny (model prog w) A (forIn its ((none,()):Option Bool×Unit) _) _ _ s;rw[<-UD];refine go ks its.toList _ (by lia) p2 ?_;exact ω q
def deepKind(prog:Program)(w:World):HeapKind prog w NK where
 is:=fun h k a=>NKv h k (.ref a)/\k.dep<=8
 hash:=NK.hs
 draws:=NK.dr
 room:=fun A=>A.units+8<cLine
 inj:=fun p q=>NKv.inj p.1 q.1
 keeps:=fun {h h' k a d o es ep} p e eo sb=>⟨NKv.stay (fun b its t=>by
  obtain⟨ob,eb,cb,n,db⟩:=t;have aM:b≠d:=fun z=>by subst z;rw[e]at eb;cases eb;rw[eo]at db;cases db
  exact⟨ob,(sb.2 b aM).trans eb,cb,n,db⟩) p.1,p.2⟩
 pyHash:=fun {A E s k a Q} hr p q=>Kr 8 p.2 hr p.1 q
 eqBool:=fun {A E s x y a b Q} hr p p' q=>Gx 8 p.2 hr p.1 p'.1 prog w E Q q
 quiet:=fun {A E s k a Q} p q=>Fb 8 p.2 p.1 q
end
def dnE(x:NK×Addr×Value):DictEntry:={ hash:=x.1.hs,key:=.ref x.2.1,val:=x.2.2 }
def dnP(a:Addr)(ks:List (NK×Addr))(xs:List V)(o:Obj)(h:Heap):Prop:=
 h.get? a=some o/\∃(vs:List Value)(es:Array DictEntry)(ep:Nat),Vals xs vs/\ks.length=vs.length/\o.ExactDict/\o.data=.dict es ep/\es.toList=((ks.zip vs).map fun q=>(q.1.1,q.1.2,q.2)).map dnE
theorem dnP.stay:∀h1 h2:Heap,dnP a ks xs o h1->(∀o,h1.get? a=some o->h2.get? a=some o)->dnP a ks xs o h2:=fun _ _ p k=>⟨k _ p.1,p.2⟩
mutual
def NKr(H:Hp):NK->V->Prop
 | .i n,v=>v=.int n
 | .t ks,v=>∃a ys,v=.ref a/\H a=some (.tup ys)/\NKrs H ks ys
def NKrs(H:Hp):List NK->List V->Prop
 | [],vs=>vs=[]
 |k::ks,vs=>∃v r,vs=v::r/\NKr H k v/\NKrs H ks r
end
mutual
theorem NKr.mono(st:∀a ys,H a=some (.tup ys)->H' a=some (.tup ys)):∀{k:NK}{v:V},NKr H k v->NKr H' k v
 | .i n,v,p=>by simp only[NKr]at p⊢;exact p
 | .t ks,v,p=>by simp only[NKr]at p⊢;obtain⟨a,ys,e,p1,p2⟩:=p;exact⟨a,ys,e,st _ _ p1,NKrs.mono st p2⟩
theorem NKrs.mono(st:∀a ys,H a=some (.tup ys)->H' a=some (.tup ys)):∀{ks:List NK}{vs:List V},NKrs H ks vs->NKrs H' ks vs
 | [],_,p=>by simp only[NKrs]at p⊢;exact p
 |k::ks,_,p=>by simp only[NKrs]at p⊢;obtain⟨v,r,e,p1,p2⟩:=p;exact⟨v,r,e,NKr.mono st p1,NKrs.mono st p2⟩
end
section
variable {X:Cx}{pins:List (Addr×Obj)}{U:St}{H:Hp}{s:Shared}
mutual
theorem Dq(I:Inv X pins U H s):∀{k:NK}{x:V}{u:Value},NKr H k x->RelV x u->NKv s.heap k u
 | .i n,x,u,p,r=>by simp only[NKr]at p;subst p;obtain⟨t,rfl⟩:=r;simp only[NKv];exact⟨t,rfl⟩
 | .t ks,x,u,p,r=>by simp only[NKr]at p;obtain⟨a,ys,rfl,p1,p2⟩:=p;cases r;obtain⟨its,r1,t1,_⟩:=I.tuple (.of p1);simp only[NKv];exact⟨a,its.toArray,rfl,t1,Qq I p2 r1⟩
theorem Qq(I:Inv X pins U H s):∀{ks:List NK}{xs:List V}{us:List Value},NKrs H ks xs->Vals xs us->NKvs s.heap ks us
 | [],_,_,p,r=>by simp only[NKrs]at p;subst p;cases r;simp only[NKvs]
 |k::ks,_,_,p,r=>by
  simp only[NKrs]at p;obtain⟨v,q,rfl,p1,p2⟩:=p;cases r with
  |cons a1 a2=>
   simp only[NKvs]
   exact⟨_,_,rfl,Dq I p1 a1,Qq I p2 a2⟩
end
end
def KL(K:Frag)(a:Addr)(xs:List V):Prop:=∃(o:Obj)(its:Array Value)(n:Nat),K.lookup a=some o/\o.cls=.type "list"/\o.dict=none/\o.data=.seq its n/\its.size<=sizeLine/\Vals xs its.toList
def XO(K:Frag)(c:String)(a:Addr)(od:Option Addr)(o:HO):Prop:=∃C:Addr,nsIn K mainGlobals (c:Str)=some (some (.ref C))/\o=.ext fun h=>∃ob,h.get? a=some ob/\ob.cls=.ref C/\(∃vs,ob.data=.fields vs)/\ob.dict=od
noncomputable def Fw(c:String):List Str:=if c="Fallen" then ["corner"] else if c="Crossed" then ["one","other"] else if c="NotFull" then ["line"] else []
inductive D where
 |non |bl (b:Bool) |int (i:Int) |str (x:Str) |tup (ds:List D) |lst (ds:List D)
 |dk (ks:List Key) (ds:List D) |dt (ks:List (List Key)) (ds:List D) |dn (ks:List NK) (ds:List D) |scr (ns:List Int) |exc (c:String) (fs:List D)
def DN(H:Hp)(a:Addr)(qs:List (NK×Addr)):Prop:=(qs.map (·.1)).Nodup/\(∀q∈qs,NKr H q.1 (.ref q.2)/\q.1.dep<=8)/\(a==sysModules)=false/\qs.length<=sizeLine
theorem DN.tk(h:DN H a qs)(st:∀a ys,H a=some (.tup ys)->H' a=some (.tup ys)):DN H' a qs:=
 ⟨h.1,fun q hq=>⟨NKr.mono st (h.2.1 q hq).1,(h.2.1 q hq).2⟩,h.2.2⟩
mutual
def RD(K:Frag)(H:Hp):D->V->Prop
 | .non,v=>v=.non
 | .bl b,v=>v=.bl b
 | .int i,v=>v=.int i
 | .str x,v=>v=.str x
 | .tup ds,v=>∃a xs,v=.ref a/\H a=some (.tup xs)/\RDs K H ds xs
 | .lst ds,v=>∃a xs,v=.ref a/\H a=some (.lst xs)/\RDs K H ds xs
 | .dk ks ds,v=>∃a xs,v=.ref a/\H a=some (.dK (ks.zip xs))/\ks.length=xs.length/\RDs K H ds xs
 | .dt ks ds,v=>∃a xs,v=.ref a/\H a=some (.dT (ks.zip xs))/\ks.length=xs.length/\RDs K H ds xs
 | .dn ks ds,v=>∃a qs xs o,v=.ref a/\H a=some (.ext (dnP a qs xs o))/\qs.map (·.1)=ks/\DN H a qs/\RDs K H ds xs
 | .scr ns,v=>∃a,v=.ref a/\((∃o,H a=some (.frz o (.lst (ns.map V.int))))\/KL K a (ns.map V.int))
 | .exc c fs,v=>∃a od o,v=.ref a/\XO K c a od o/\H a=some o/\(fs=[]\/∃(dx:Addr)(ns:List Int)(ob:Obj),od=some dx/\H dx=some (.frz ob (.xd ((Fw c).zip (ns.map V.int))))/\fs=ns.map D.int)
def RDs(K:Frag)(H:Hp):List D->List V->Prop
 | [],xs=>xs=[]
 |d::ds,xs=>∃x r,xs=x::r/\RD K H d x/\RDs K H ds r
end
mutual
noncomputable def D.noL:D->Bool
 | .lst _=>false
 | .dk _ _=>false
 | .dt _ _=>false
 | .dn _ _=>false
 | .tup ds=>m8 ds
 |_=>true
noncomputable def m8:List D->Bool
 | []=>true
 |d::ds=>d.noL&&m8 ds
end
mutual
noncomputable def D.pl:D->Bool
 | .dk _ _=>false
 | .dt _ _=>false
 | .dn _ _=>false
 | .scr _=>false
 | .exc _ _=>false
 | .tup ds=>pls ds
 | .lst ds=>pls ds
 |_=>true
noncomputable def pls:List D->Bool
 | []=>true
 |d::ds=>d.pl&&pls ds
end
def D.shal:D->Bool
 | .lst ds=>m8 ds
 | .dk _ ds=>m8 ds
 | .dt _ ds=>m8 ds
 | .dn _ ds=>m8 ds
 |d=>d.noL
def Imm:HO->Prop
 | .tup _=>True
 | .frz _ _=>True
 | .ext φ=>∀a qs xs o,φ≠dnP a qs xs o
 |_=>False
theorem XO.imm{K:Frag}{c:String}{a:Addr}{od:Option Addr}{o:HO}(h:XO K c a od o):Imm o:=by
 obtain⟨C,_,rfl⟩:=h;intro b qs xs o0 e;obtain⟨ob,du⟩:∃ob:Obj,ob={ cls:=.ref C,dict:=od,data:=.fields #[] }:=⟨_,rfl⟩;have hg:∀(i:Nat)(o:Obj),({ objs:=Array.replicate (a+1) ob }:Heap).get? i=some o->o=ob:=fun i o q=>by
  by_cases hi:i<a+1
  . have z:({ objs:=Array.replicate (a+1) ob }:Heap).get? i=some ob:=by
     unfold Heap.get?
     rw[UK,ξ hi,du]
    rw[z]at q;cases q;rfl
  . unfold Heap.get? at q;rw[UK,ψ hi]at q;cases q
 have h1:(fun h:Heap=>∃ob,h.get? a=some ob/\ob.cls=.ref C/\(∃vs,ob.data=.fields vs)/\ob.dict=od) { objs:=Array.replicate (a+1) ob }:=by refine⟨ob,?_,by rw[du],⟨#[],by rw[du]⟩,by rw[du]⟩;unfold Heap.get?;rw[UK,ξ (Nat.lt_succ_self a),du]
 rw[e]at h1;obtain⟨g,vs,es,ep,_,_,_,d,_⟩:=h1;rw[hg _ _ g,du]at d;cases d
def TK(H H':Hp):Prop:=∀a o,Imm o->H a=some o->H' a=some o
section
variable {K:Frag}{H H':Hp}
mutual
theorem RD.tk(hs:TK H H'):∀{d:D}{v:V},d.noL=true->RD K H d v->RD K H' d v
 | .non,_,_,h=>by simp only[RD]at h⊢;exact h
 | .bl _,_,_,h=>by simp only[RD]at h⊢;exact h
 | .int _,_,_,h=>by simp only[RD]at h⊢;exact h
 | .str _,_,_,h=>by simp only[RD]at h⊢;exact h
 | .tup ds,_,n,h=>by simp only[RD]at h⊢;obtain⟨a,xs,e,h1,h2⟩:=h;exact⟨a,xs,e,hs _ _ trivial h1,RDs.tk hs (by simpa only [D.noL] using n) h2⟩
 | .lst ds,_,n,h=>by simp[D.noL]at n
 | .dk _ ds,_,n,h=>by simp[D.noL]at n
 | .dt _ ds,_,n,h=>by simp[D.noL]at n
 | .dn _ ds,_,n,h=>by simp[D.noL]at n
 | .exc c fs,_,n,h=>by
  simp only[RD]at h⊢;obtain⟨a,od,o,e,h1,h2,h3⟩:=h;refine⟨a,od,o,e,h1,hs _ _ h1.imm h2,?_⟩;rcases h3 with h3 |⟨dx,xs,ob,q1,q2,q3⟩
  . exact .inl h3
  . exact .inr ⟨dx,xs,ob,q1,hs _ _ trivial q2,q3⟩
 | .scr ns,_,n,h=>by
  simp only[RD]at h⊢;obtain⟨a,e,h1⟩:=h;refine⟨a,e,?_⟩;rcases h1 with⟨o,h1⟩ |h1
  . exact .inl ⟨o,hs _ _ trivial h1⟩
  . exact .inr h1
theorem RDs.tk(hs:TK H H'):∀{ds:List D}{xs:List V},m8 ds=true->RDs K H ds xs->RDs K H' ds xs
 | [],_,_,h=>by simp only[RDs]at h⊢;exact h
 |d::ds,_,n,h=>by simp only[RDs]at h⊢;simp only[m8,bI]at n;obtain⟨x,r,e,h1,h2⟩:=h;exact⟨x,r,e,RD.tk hs n.1 h1,RDs.tk hs n.2 h2⟩
end
mutual
theorem RD.mono(hs:Same H H'):∀{d:D}{v:V},RD K H d v->RD K H' d v
 | .non,_,h=>by simp only[RD]at h⊢;exact h
 | .bl _,_,h=>by simp only[RD]at h⊢;exact h
 | .int _,_,h=>by simp only[RD]at h⊢;exact h
 | .str _,_,h=>by simp only[RD]at h⊢;exact h
 | .tup ds,_,h=>by simp only[RD]at h⊢;obtain⟨a,xs,e,h1,h2⟩:=h;exact⟨a,xs,e,hs _ _ h1,RDs.mono hs h2⟩
 | .lst ds,_,h=>by simp only[RD]at h⊢;obtain⟨a,xs,e,h1,h2⟩:=h;exact⟨a,xs,e,hs _ _ h1,RDs.mono hs h2⟩
 | .dk _ ds,_,h=>by simp only[RD]at h⊢;obtain⟨a,xs,e,h1,hl,h2⟩:=h;exact⟨a,xs,e,hs _ _ h1,hl,RDs.mono hs h2⟩
 | .dn _ ds,_,h=>by simp only[RD]at h⊢;obtain⟨a,qs,xs,o,e,h1,hk,hd,h2⟩:=h;exact⟨a,qs,xs,o,e,hs _ _ h1,hk,hd.tk fun b ys q=>hs _ _ q,RDs.mono hs h2⟩
 | .dt _ ds,_,h=>by simp only[RD]at h⊢;obtain⟨a,xs,e,h1,hl,h2⟩:=h;exact⟨a,xs,e,hs _ _ h1,hl,RDs.mono hs h2⟩
 | .exc c fs,_,h=>by
  simp only[RD]at h⊢;obtain⟨a,od,o,e,h1,h2,h3⟩:=h;refine⟨a,od,o,e,h1,hs _ _ h2,?_⟩;rcases h3 with h3 |⟨dx,xs,ob,q1,q2,q3⟩
  . exact .inl h3
  . exact .inr ⟨dx,xs,ob,q1,hs _ _ q2,q3⟩
 | .scr ns,_,h=>by
  simp only[RD]at h⊢;obtain⟨a,e,h1⟩:=h;refine⟨a,e,?_⟩;rcases h1 with⟨o,h1⟩ |h1
  . exact .inl ⟨o,hs _ _ h1⟩
  . exact .inr h1
theorem RDs.mono(hs:Same H H'):∀{ds:List D}{xs:List V},RDs K H ds xs->RDs K H' ds xs
 | [],_,h=>by simp only[RDs]at h⊢;exact h
 |d::ds,_,h=>by simp only[RDs]at h⊢;obtain⟨x,r,e,h1,h2⟩:=h;exact⟨x,r,e,RD.mono hs h1,RDs.mono hs h2⟩
end
theorem RDs.length:∀{ds:List D}{xs:List V},RDs K H ds xs->ds.length=xs.length
 | [],_,h=>by simp only[RDs]at h;subst h;rfl
 |d::ds,_,h=>by simp only[RDs]at h;obtain⟨x,r,rfl,_,h2⟩:=h;simp[RDs.length h2]
theorem RDs.get:∀{ds:List D}{xs:List V}{i:Nat}{x:V},RDs K H ds xs->xs[i]?=some x->∃d,ds[i]?=some d/\RD K H d x
 | [],_,i,x,h,e=>by simp only[RDs]at h;subst h;simp at e
 |d::ds,_,i,x,h,e=>by
  simp only[RDs]at h;obtain⟨y,r,rfl,h1,h2⟩:=h;cases i with
  |zero=>simp at e;subst e;exact⟨d,rfl,h1⟩
  |succ i=>simp at e;obtain⟨d',e1,e2⟩:=RDs.get h2 e;exact⟨d',by simpa using e1,e2⟩
theorem RDs.get':∀{ds:List D}{xs:List V}{i:Nat}{d:D},RDs K H ds xs->ds[i]?=some d->∃x,xs[i]?=some x/\RD K H d x
 | [],_,i,d,h,e=>by simp at e
 |d'::ds,_,i,d,h,e=>by
  simp only[RDs]at h;obtain⟨y,r,rfl,h1,h2⟩:=h;cases i with
  |zero=>simp at e;subst e;exact⟨y,rfl,h1⟩
  |succ i=>simp at e;obtain⟨x',e1,e2⟩:=RDs.get' h2 e;exact⟨x',by simpa using e1,e2⟩
theorem RDs.append:∀{ds es:List D}{xs ys:List V},RDs K H ds xs->RDs K H es ys->RDs K H (ds++es) (xs++ys)
 | [],_,_,_,h,h'=>by simp only[RDs]at h;subst h;exact h'
 |d::ds,es,_,ys,h,h'=>by simp only[RDs]at h;obtain⟨x,r,rfl,h1,h2⟩:=h;simp only[TJ,RDs];exact⟨x,r++ys,rfl,h1,RDs.append h2 h'⟩
theorem RDs.nil:RDs K H [] []:=by simp only[RDs]
theorem RDs.cons(h:RD K H d x)(h':RDs K H ds xs):RDs K H (d::ds) (x::xs):=by simp only[RDs];exact⟨x,xs,rfl,h,h'⟩
theorem RDs.one(h:RD K H d x):RDs K H [d] [x]:=.cons h .nil
theorem RDs.take:∀{ds:List D}{xs:List V}(n:Nat),RDs K H ds xs->RDs K H (ds.take n) (xs.take n)
 |_,_,0,_=>by simp[RDs]
 | [],_,n+1,h=>by simp only[RDs]at h;subst h;simp[RDs]
 |d::ds,_,n+1,h=>by simp only[RDs]at h;obtain⟨x,r,rfl,h1,h2⟩:=h;simp only[List.take_succ_cons];exact .cons h1 (RDs.take n h2)
theorem RDs.drop:∀{ds:List D}{xs:List V}(n:Nat),RDs K H ds xs->RDs K H (ds.drop n) (xs.drop n)
 |_,_,0,h=>h
 | [],_,n+1,h=>by simp only[RDs]at h;subst h;simp[RDs]
 |d::ds,_,n+1,h=>by simp only[RDs]at h;obtain⟨x,r,rfl,h1,h2⟩:=h;exact RDs.drop n h2
theorem RDs.set:∀{ds:List D}{xs:List V}(n:Nat){d:D}{x:V},RDs K H ds xs->RD K H d x->RDs K H (ds.set n d) (xs.set n x)
 | [],_,n,_,_,h,_=>by simp only[RDs]at h;subst h;simp[RDs]
 |d::ds,_,0,_,_,h,h'=>by simp only[RDs]at h;obtain⟨x,r,rfl,h1,h2⟩:=h;exact .cons h' h2
 |d::ds,_,n+1,_,_,h,h'=>by simp only[RDs]at h;obtain⟨x,r,rfl,h1,h2⟩:=h;exact .cons h1 (RDs.set n h2 h')
theorem RDs.ofInts:∀(ns:List Int),RDs K H (ns.map D.int) (ns.map V.int)
 | []=>by simp only[List.map,RDs]
 |n::ns=>by simp only[List.map];exact RDs.cons (by simp only[RD]) (RDs.ofInts ns)
end
mutual
noncomputable def eqD:D->D->Bool
 | .non,.non=>true
 | .bl a,.bl b=>a==b
 | .bl a,.int j=>(if a then 1 else 0)==j
 | .int i,.bl b=>i==(if b then 1 else 0)
 | .int i,.int j=>i==j
 | .str a,.str b=>a==b
 | .tup ds,.tup es=>r8 ds es
 | .lst ds,.lst es=>r8 ds es
 |_,_=>false
noncomputable def r8:List D->List D->Bool
 | [],[]=>true
 |d::ds,e::es=>eqD d e&&r8 ds es
 |_,_=>false
end
mutual
noncomputable def D.dep:D->Nat
 | .tup ds=>i8 ds+1
 | .lst ds=>i8 ds+1
 |_=>0
noncomputable def i8:List D->Nat
 | []=>0
 |d::ds=>max d.dep (i8 ds)
end
mutual
theorem Fa:∀d:D,d.pl=true->eqD d d=true
 | .non,_=>rfl
 | .bl b,_=>by simp[eqD]
 | .int b,_=>by simp[eqD]
 | .str b,_=>by simp[eqD]
 | .tup ds,h=>by simp only[eqD];exact Lr ds (by simpa only [D.pl] using h)
 | .lst ds,h=>by simp only[eqD];exact Lr ds (by simpa only [D.pl] using h)
 | .dk _ _,h=>by simp[D.pl]at h
 | .dt _ _,h=>by simp[D.pl]at h
 | .dn _ _,h=>by simp[D.pl]at h
 | .scr _,h=>by simp[D.pl]at h
 | .exc _ _,h=>by simp[D.pl]at h
theorem Lr:∀ds:List D,pls ds=true->r8 ds ds=true
 | [],_=>rfl
 |d::ds,h=>by simp only[pls,bI]at h;simp only[r8,Fa d h.1,Lr ds h.2,OW]
end
mutual
theorem RD.inj{K:Frag}{H:Hp}:∀{d e:D}{v:V},d.pl=true->e.pl=true->RD K H d v->RD K H e v->d=e
 | .non,e,v,_,p,h,h'=>by simp only[RD]at h;subst h;cases e<;>simp only[RD]at h'<;>first | (exfalso;simp[D.pl]at p;done) |rfl | (cases h';done) | (obtain⟨a,xs,z,_⟩:=h';cases z)
 | .bl b,e,v,_,p,h,h'=>by simp only[RD]at h;subst h;cases e<;>simp only[RD]at h'<;>first | (exfalso;simp[D.pl]at p;done) | (cases h';rfl) | (cases h';done) | (obtain⟨a,xs,z,_⟩:=h';cases z)
 | .int b,e,v,_,p,h,h'=>by simp only[RD]at h;subst h;cases e<;>simp only[RD]at h'<;>first | (exfalso;simp[D.pl]at p;done) | (cases h';rfl) | (cases h';done) | (obtain⟨a,xs,z,_⟩:=h';cases z)
 | .str b,e,v,_,p,h,h'=>by simp only[RD]at h;subst h;cases e<;>simp only[RD]at h'<;>first | (exfalso;simp[D.pl]at p;done) | (cases h';rfl) | (cases h';done) | (obtain⟨a,xs,z,_⟩:=h';cases z)
 | .dk _ _,e,v,p,_,h,h'=>by simp[D.pl]at p
 | .dt _ _,e,v,p,_,h,h'=>by simp[D.pl]at p
 | .dn _ _,e,v,p,_,h,h'=>by simp[D.pl]at p
 | .scr _,e,v,p,_,h,h'=>by simp[D.pl]at p
 | .exc _ _,e,v,p,_,h,h'=>by simp[D.pl]at p
 | .tup ds,e,v,p,p',h,h'=>by
  simp only[RD]at h;obtain⟨a,xs,rfl,h1,h2⟩:=h;cases e<;>simp only[RD]at h'
  case tup es=>
   obtain⟨b,ys,z,h3,h4⟩:=h'
   cases z
   rw[h1]at h3;cases h3
   rw[RDs.inj (by simpa only [D.pl] using p) (by simpa only [D.pl] using p') h2 h4]
  case lst es=>
   obtain⟨b,ys,z,h3,h4⟩:=h'
   cases z
   rw[h1]at h3;cases h3
  all_goals first | (exfalso;simp[D.pl]at p';done) |cases h'
 | .lst ds,e,v,p,p',h,h'=>by
  simp only[RD]at h;obtain⟨a,xs,rfl,h1,h2⟩:=h;cases e<;>simp only[RD]at h'
  case tup es=>
   obtain⟨b,ys,z,h3,h4⟩:=h'
   cases z
   rw[h1]at h3;cases h3
  case lst es=>
   obtain⟨b,ys,z,h3,h4⟩:=h'
   cases z
   rw[h1]at h3;cases h3
   rw[RDs.inj (by simpa only [D.pl] using p) (by simpa only [D.pl] using p') h2 h4]
  all_goals first | (exfalso;simp[D.pl]at p';done) |cases h'
theorem RDs.inj{K:Frag}{H:Hp}:∀{ds es:List D}{xs:List V},pls ds=true->pls es=true->RDs K H ds xs->RDs K H es xs->ds=es
 | [],es,xs,_,_,h,h'=>by
  simp only[RDs]at h;subst h;cases es<;>simp only[RDs]at h'
  . rfl
  . obtain⟨x,r,z,_⟩:=h';cases z
 |d::ds,es,xs,p,p',h,h'=>by
  simp only[RDs]at h;obtain⟨x,r,rfl,h1,h2⟩:=h;simp only[pls,bI]at p;cases es with
  |nil=>simp only[RDs]at h';cases h'
  |cons e es=>
   simp only[RDs]at h'
   obtain⟨y,r',z,h3,h4⟩:=h'
   cases z
   simp only[pls,bI]at p'
   rw[RD.inj p.1 p'.1 h1 h3,RDs.inj p.2 p'.2 h2 h4]
end
theorem Kq:∀{ds:List D}{d:D},pls ds=true->d∈ds->d.pl=true
 |e::ds,d,h,m=>by
  simp only[pls,bI]at h;rcases tB.mp m with rfl |m
  . exact h.1
  . exact Kq h.2 m
theorem Ez:∀{ds:List D}{d:D},d∈ds->d.dep<=i8 ds
 |d'::ds,d,h=>by
  simp only[i8];rcases tB.mp h with rfl |h
  . lia
  . have:=Ez h;lia
theorem Li:∀{ds es:List D},ds.length=es.length->r8 ds es=(List.range ds.length).all fun j=>eqD (ds.getD j .non) (es.getD j .non)
 | [],[],_=>rfl
 | [],_::_,h=>by simp at h
 |_::_,[],h=>by simp at h
 |d::ds,e::es,h=>by simp only[r8,NM];rw[Li (by simpa using h),List.range_succ_eq_map,List.all_cons,List.all_map];rfl
theorem Lh:∀{ds es:List D},ds.length≠es.length->r8 ds es=false
 | [],[],h=>absurd rfl h
 | [],_::_,_=>rfl
 |_::_,[],_=>rfl
 |d::ds,e::es,h=>by simp only[r8];rw[Lh (by intro z;exact h (by simp[z])),Bool.and_false]
section
variable {X:Cx}{pins:List (Addr×Obj)}{U:St}{H:Hp}{s:Shared}
theorem Inv.tupA(I:Inv X pins U H s)(h:H a=some (.tup xs)):∃its:List Value,Vals xs its/\s.heap.IsTuple a its.toArray:=by obtain⟨its,r,t,_⟩:=I.tuple (.of h);exact⟨its,r,t⟩
theorem Inv.lstA(I:Inv X pins U H s)(h:H a=some (.lst xs)):∃its:List Value,Vals xs its/\s.heap.IsList a its.toArray:=by obtain⟨its,r,t,_⟩:=I.list (.of h);exact⟨its,r,t.isList⟩
inductive Shp (X:Cx) (H:Hp) (s:Shared):D->V->Value->Prop
 |non:Shp X H s .non .non .none
 |bl (b:Bool):Shp X H s (.bl b) (.bl b) (.bool b)
 |int (i:Int) (t:Tok):Shp X H s (.int i) (.int i) (.int i t)
 |str (c:Str) (t:Tok):Shp X H s (.str c) (.str c) (.str c t)
 |tup {ds:List D} {a:Addr} {xs:List V} {its:List Value} (p:pls ds=true) (h:H a=some (.tup xs)) (q:RDs X.K H ds xs) (r:Vals xs its) (t:s.heap.IsTuple a its.toArray):Shp X H s (.tup ds) (.ref a) (.ref a)
 |lst {ds:List D} {a:Addr} {xs:List V} {its:List Value} (p:pls ds=true) (h:H a=some (.lst xs)) (q:RDs X.K H ds xs) (r:Vals xs its) (t:s.heap.IsList a its.toArray):Shp X H s (.lst ds) (.ref a) (.ref a)
theorem shp(I:Inv X pins U H s)(p:d.pl=true)(h:RD X.K H d x)(r:RelV x u):Shp X H s d x u:=by
 cases d<;>simp only[RD]at h<;>first | (exfalso;simp[D.pl]at p;done) |skip
 . subst h;cases r;exact .non
 . subst h;cases r;exact .bl _
 . subst h;obtain⟨t,rfl⟩:=r;exact .int _ _
 . subst h;obtain⟨t,rfl⟩:=r;exact .str _ _
 . obtain⟨a,xs,rfl,h1,h2⟩:=h;cases r;obtain⟨its,v,t⟩:=I.tupA h1;exact .tup (by simpa only [D.pl] using p) h1 h2 v t
 . obtain⟨a,xs,rfl,h1,h2⟩:=h;cases r;obtain⟨its,v,t⟩:=I.lstA h1;exact .lst (by simpa only [D.pl] using p) h1 h2 v t
def Fv(X:Cx)(H:Hp)(s:Shared)(A:Around)(n:Nat):Prop:=∀{d e:D}{x y:V}{u v:Value},d.pl=true->e.pl=true->d.dep<=n->RD X.K H d x->RD X.K H e y->RelV x u->RelV y v->SeqAt.EqAt A s u v (eqD d e)
theorem Tc(ih:Fv X H s A n)(pd:pls ds=true)(pe:pls es=true)(ER:i8 ds<=n)(gM:RDs X.K H ds xs)(fR:RDs X.K H es ys)(r:Vals xs its)(r2:Vals ys aA)(j:Nat)
  (h1:j<its.toArray.size) (h2:j<aA.toArray.size):SeqAt.EqAt A s its.toArray[j] aA.toArray[j] (eqD (ds.getD j .non) (es.getD j .non)):=by
 have nt:j<its.length:=by simpa using h1
 have ES:j<aA.length:=by simpa using h2
 have l1:=r.length
 have l2:=r2.length
 obtain⟨u1,e1,q1⟩:=r.get (i:=j) (x:=xs[j]'(by lia)) (by simp)
 obtain⟨u2,e2,q2⟩:=r2.get (i:=j) (x:=ys[j]'(by lia)) (by simp)
 obtain⟨d1,g1,w1⟩:=gM.get (i:=j) (x:=xs[j]'(by lia)) (by simp)
 obtain⟨d2,g2,w2⟩:=fR.get (i:=j) (x:=ys[j]'(by lia)) (by simp)
 have ea:its.toArray[j]=u1:=by rw[NG nt]at e1;simpa using e1
 have eb:aA.toArray[j]=u2:=by rw[NG ES]at e2;simpa using e2
 have ga:ds.getD j .non=d1:=by rw[io,g1];rfl
 have gb:es.getD j .non=d2:=by rw[io,g2];rfl
 rw[ea,eb,ga,gb]
 exact ih (Kq pd (OR g1)) (Kq pe (OR g2)) (KM (Ez (OR g1)) ER) w1 w2 q1 q2
theorem wa(gM:RDs X.K H ds xs)(fR:RDs X.K H es ys)(r:Vals xs its)(r2:Vals ys aA) :
  ((List.range (min its.toArray.size aA.toArray.size)).all (fun j=>eqD (ds.getD j .non) (es.getD j .non))&&its.toArray.size==aA.toArray.size)=r8 ds es:=by
 have lx:=gM.length;have ly:=fR.length;have l1:=r.length;have l2:=r2.length
 simp only[LL]
 by_cases hl:ds.length=es.length
 . rw[Li hl];have:its.length=aA.length:=by lia
   rw[this,Nat.min_self,show aA.length=ds.length by lia];simp
 . rw[Lh hl];have:(its.length==aA.length)=false:=by simp;lia
   rw[this,Bool.and_false]
theorem vZ(gM:RDs X.K H ds xs)(fR:RDs X.K H es ys)(r:Vals xs its)(r2:Vals ys aA)(hl:ds.length=es.length) :
  ((List.range its.toArray.size).all fun j=>eqD (ds.getD j .non) (es.getD j .non))=r8 ds es:=by
 have lx:=gM.length;have ly:=fR.length;have l1:=r.length;have l2:=r2.length
 rw[Li hl,LL,show its.length=ds.length by lia]
theorem Xw(hu:A.units<cLine)(ih:Fv X H s A.in1 n)(hn:d.dep<=n+1)(sx:Shp X H s d x u)(sy:Shp X H s e y v):SeqAt.RcAt A s u v (eqD d e)/\SeqAt.RcNeAt A s u v (!eqD d e):=by
 cases sx with
 |non=>cases sy with
  |non=>exact⟨.none_none,.none_none⟩
  |bl _=>exact⟨.none_bool _,.none_bool _⟩
  |int _ _=>exact⟨.none_int _ _,.none_int _ _⟩
  |str _ _=>exact⟨.none_str _ _,.none_str _ _⟩
  |tup p2 h2 q2 r2 t2=>exact⟨.none_tuple t2 hu,.none_tuple t2 hu⟩
  |lst p2 h2 q2 r2 t2=>exact⟨.none_list t2 hu,.none_list t2 hu⟩
 |bl _=>cases sy with
  |non=>exact⟨.bool_none _,.bool_none _⟩
  |bl _=>exact⟨.bool_bool _ _,.bool_bool _ _⟩
  |int _ _=>exact⟨.bool_int _ _ _,.bool_int _ _ _⟩
  |str _ _=>exact⟨.bool_str _ _ _,.bool_str _ _ _⟩
  |tup p2 h2 q2 r2 t2=>exact⟨.bool_tuple _ t2 hu,.bool_tuple _ t2 hu⟩
  |lst p2 h2 q2 r2 t2=>exact⟨.bool_list _ t2 hu,.bool_list _ t2 hu⟩
 |int _ _=>cases sy with
  |non=>exact⟨.int_none _ _,.int_none _ _⟩
  |bl _=>exact⟨.int_bool _ _ _,.int_bool _ _ _⟩
  |int _ _=>exact⟨.int_int _ _ _ _,.int_int _ _ _ _⟩
  |str _ _=>exact⟨.int_str _ _ _ _,.int_str _ _ _ _⟩
  |tup p2 h2 q2 r2 t2=>exact⟨.int_tuple _ _ t2 hu,.int_tuple _ _ t2 hu⟩
  |lst p2 h2 q2 r2 t2=>exact⟨.int_list _ _ t2 hu,.int_list _ _ t2 hu⟩
 |str _ _=>cases sy with
  |non=>exact⟨.str_none _ _,.str_none _ _⟩
  |bl _=>exact⟨.str_bool _ _ _,.str_bool _ _ _⟩
  |int _ _=>exact⟨.str_int _ _ _ _,.str_int _ _ _ _⟩
  |str _ _=>exact⟨.str_str _ _ _ _,.str_str _ _ _ _⟩
  |tup p2 h2 q2 r2 t2=>exact⟨.str_tuple _ _ t2 hu,.str_tuple _ _ t2 hu⟩
  |lst p2 h2 q2 r2 t2=>exact⟨.str_list _ _ t2 hu,.str_list _ _ t2 hu⟩
 |tup p h q r t=>cases sy with
  |non=>exact⟨.tuple_none t hu,.tuple_none t hu⟩
  |bl _=>exact⟨.tuple_bool _ t hu,.tuple_bool _ t hu⟩
  |int _ _=>exact⟨.tuple_int _ _ t hu,.tuple_int _ _ t hu⟩
  |str _ _=>exact⟨.tuple_str _ _ t hu,.tuple_str _ _ t hu⟩
  |tup p2 h2 q2 r2 t2 => 
   simp only[D.dep]at hn
   have z:=Tc ih p p2 (Nat.le_of_succ_le_succ hn) q q2 r r2
   simp only[eqD]
   rw[<-wa q q2 r r2]
   exact⟨.tuples t t2 hu z,.tuples t t2 hu z⟩
  |lst p2 h2 q2 r2 t2=>exact⟨.tuple_list t t2 hu,.tuple_list t t2 hu⟩
 |lst p h q r t=>cases sy with
  |non=>exact⟨.list_none t hu,.list_none t hu⟩
  |bl _=>exact⟨.list_bool _ t hu,.list_bool _ t hu⟩
  |int _ _=>exact⟨.list_int _ _ t hu,.list_int _ _ t hu⟩
  |str _ _=>exact⟨.list_str _ _ t hu,.list_str _ _ t hu⟩
  |tup p2 h2 q2 r2 t2=>exact⟨.list_tuple t t2 hu,.list_tuple t t2 hu⟩
  |lst p2 h2 q2 r2 t2 => 
   rename_i ds _ xs its es _ ys aA
   simp only[D.dep]at hn
   have z:=Tc ih p p2 (Nat.le_of_succ_le_succ hn) q q2 r r2
   have lx:=q.length;have ly:=q2.length;have l1:=r.length;have l2:=r2.length
   simp only[eqD]
   by_cases hl:ds.length=es.length
   . have hsz:its.toArray.size=aA.toArray.size:=by simp;lia
     rw[<-vZ q q2 r r2 hl];exact⟨.lists t t2 hsz hu z,.lists t t2 hsz hu z⟩
   . have hsz:(its.toArray.size != aA.toArray.size)=true:=by simp;lia
     rw[Lh hl];exact⟨.lists_lengths t t2 hsz hu,.lists_lengths t t2 hsz hu⟩
theorem Bt(I:Inv X pins U H s):∀(n:Nat){A:Around}{d e:D}{x y:V}{u v:Value},d.pl=true->e.pl=true->d.dep<=n->A.units+n<cLine->RD X.K H d x->RD X.K H e y->RelV x u->RelV y v->SeqAt.EqAt A s u v (eqD d e):=by
 have key:∀(n:Nat){A:Around}{d e:D}{x y:V}{u v:Value},A.units<cLine->(∀m,m+1=n->Fv X H s A.in1 m)->d.pl=true->e.pl=true->d.dep<=n->RD X.K H d x->RD X.K H e y->RelV x u->RelV y v->SeqAt.EqAt A s u v (eqD d e):=by
  intro n A d e x y u v hu ih iF gN hn hx hy ru rv;have sx:=shp I iF hx ru;have sy:=shp I gN hy rv;have back:∀{a b:Addr},u=.ref a->v=.ref b->x=.ref a->y=.ref b->1<=d.dep->SeqAt.EqAt A s u v (eqD d e):=fun {a b} eu ev ex ey h1=>by
   subst eu ev ex ey;by_cases bX:a=b
   . subst bX;rw[RD.inj iF gN hx hy,Fa _ gN];exact .same _
   . exact .of_refs bX (Xw (n:=n - 1) hu (ih (n - 1) (by lia)) (by lia) sx sy).1
  cases sx with
  |non=>cases sy with
   |non=>exact .same _
   |bl _=>exact .none_bool _
   |int _ _=>exact .none_int _ _
   |str _ _=>exact .none_str _ _
   |tup p2 h2 q2 r2 t2=>exact .none_tuple t2 hu
   |lst p2 h2 q2 r2 t2=>exact .none_list t2 hu
  |bl _=>cases sy with
   |non=>exact .bool_none _
   |bl _=>exact .bool_bool _ _
   |int _ _=>exact .bool_int _ _ _
   |str _ _=>exact .bool_str _ _ _
   |tup p2 h2 q2 r2 t2=>exact .bool_tuple _ t2 hu
   |lst p2 h2 q2 r2 t2=>exact .bool_list _ t2 hu
  |int _ _=>cases sy with
   |non=>exact .int_none _ _
   |bl _=>exact .int_bool _ _ _
   |int _ _=>exact .int_int _ _ _ _
   |str _ _=>exact .int_str _ _ _ _
   |tup p2 h2 q2 r2 t2=>exact .int_tuple _ _ t2 hu
   |lst p2 h2 q2 r2 t2=>exact .int_list _ _ t2 hu
  |str _ _=>cases sy with
   |non=>exact .str_none _ _
   |bl _=>exact .str_bool _ _ _
   |int _ _=>exact .str_int _ _ _ _
   |str _ _=>exact .str_str _ _ _ _
   |tup p2 h2 q2 r2 t2=>exact .str_tuple _ _ t2 hu
   |lst p2 h2 q2 r2 t2=>exact .str_list _ _ t2 hu
  |tup p h q r t=>cases sy with
   |non=>exact .tuple_none t hu
   |bl _=>exact .tuple_bool _ t hu
   |int _ _=>exact .tuple_int _ _ t hu
   |str _ _=>exact .tuple_str _ _ t hu
   |tup p2 h2 q2 r2 t2=>exact back rfl rfl rfl rfl (by simp only[D.dep];exact Nat.succ_pos _)
   |lst p2 h2 q2 r2 t2=>exact .tuple_list t t2 hu
  |lst p h q r t=>cases sy with
   |non=>exact .list_none t hu
   |bl _=>exact .list_bool _ t hu
   |int _ _=>exact .list_int _ _ t hu
   |str _ _=>exact .list_str _ _ t hu
   |tup p2 h2 q2 r2 t2=>exact .list_tuple t t2 hu
   |lst p2 h2 q2 r2 t2=>exact back rfl rfl rfl rfl (by simp only[D.dep];exact Nat.succ_pos _)
 intro n;induction n with
 |zero=>exact fun p q hn hu=>key 0 (by lia) (fun m z=>nomatch z) p q hn
 |succ n ih=>exact fun {A d e x y u v} p q hn hu=>key (n+1) (by lia) (fun m z=>by cases z;exact fun p q hn=>ih p q hn (by show A.units+1+n<cLine;lia)) p q hn
theorem Qp(I:Inv X pins U H s)(iF:d.pl=true)(gN:e.pl=true)(hn:d.dep<=n)(hu:A.units+1+n<cLine)(hx:RD X.K H d x)(hy:RD X.K H e y)(ru:RelV x u)(rv:RelV y v):SeqAt.RcAt A s u v (eqD d e)/\SeqAt.RcNeAt A s u v (!eqD d e):=
 Xw (n:=n) (by lia) (fun p q h=>Bt I n p q h (by show A.units+1+n<cLine;lia)) (by lia) (shp I iF hx ru) (shp I gN hy rv)
end
section
variable {X:Cx}
open Classical in
def hitD(K:Frag)(H:Hp)(d:D)(u:Value):Bool:=match Yu u with
 |some v=>decide (∃e,e.pl=true/\RD K H e v/\eqD e d=true)
 |none=>false
open Classical in
theorem Ta{K:Frag}{H:Hp}{d e:D}{y:V}{u:Value}(pe:e.pl=true)(r:RelV y u)(h:RD K H e y):hitD K H d u=eqD e d:=by unfold hitD;rw[r.abs];dsimp only;rw[TU];rw[decide_eq_true_iff];exact⟨fun⟨e',p',h',q⟩=>by rw[RD.inj pe p' h h'];exact q,fun q=>⟨e,pe,h,q⟩⟩
theorem Lg{K:Frag}{H:Hp}{d:D}:∀{es:List D}{xs:List V}{us:List Value},pls es=true->RDs K H es xs->Vals xs us->us.any (hitD K H d)=es.any fun e=>eqD e d
 | [],_,_,_,h,r=>by simp only[RDs]at h;subst h;cases r;rfl
 |e::es,_,_,p,h,r=>by
  simp only[RDs]at h;simp only[pls,bI]at p;obtain⟨x,xs,rfl,h1,h2⟩:=h;cases r with
  |cons r1 r2=>rw[List.any_cons,List.any_cons,Ta p.1 r1 h1,Lg p.2 h2 r2]
theorem Kp{A:Around}{pins:List (Addr×Obj)}{U:St}{H:Hp}{s:Shared}(I:Inv X pins U H s)(hu:A.units+1+20<cLine){d:D}{x:V}{v:Value}(pd:d.pl=true)(hx:RD X.K H d x)(rx:RelV x v):∀{es:List D}{xs:List V}{us:List Value},
  pls es=true->RDs X.K H es xs->Vals xs us->i8 es<=20->∀u∈us,SeqAt.EqAt A.in1 s u v (hitD X.K H d u)
 | [],_,_,_,h,r,_=>by simp only[RDs]at h;subst h;cases r;intro u hu;cases hu
 |e::es,_,_,p,h,r,hd=>by
  simp only[RDs]at h;simp only[pls,bI]at p;obtain⟨y,xs,rfl,h1,h2⟩:=h;simp only[i8]at hd;cases r with
  |cons r1 r2=>
   intro u hm
   rcases tB.mp hm with z |hm
   . subst z;rw[Ta p.1 r1 h1];exact Bt I 20 p.1 pd (by lia) (by show A.units+1+20<cLine;lia) h1 hx r1 rx
   . exact Kp I hu pd hx rx p.2 h2 r2 (by lia) u hm
end
structure Ex where
 cls:String
 fs:List D
inductive R (α:Type) where
 |ok (a:α) |er (x:Ex) |st
noncomputable def R.bind{α β:Type}(r:R α)(f:α->R β):R β:=match r with
 | .ok a=>f a
 | .er x=>.er x
 | .st=>.st
def Rk{α:Type}(EX:Ex->Prop)(r:R α)(k:α->Prop):Prop:=match r with
 | .ok a=>k a
 | .er x=>EX x
 | .st=>False
section
variable {α β:Type}{EX:Ex->Prop}
noncomputable def R.of(o:Option α):R α:=match o with
 |some a=>.ok a
 |none=>.st
theorem R.of_some(a:α):R.of (some a)=R.ok a:=rfl
theorem Rk.of(h:Rk EX (R.of o) k):∃a,o=some a/\k a:=by
 cases o with
 |none=>exact h.elim
 |some a=>exact⟨a,rfl,h⟩
theorem R.bind_ok(a:α)(f:α->R β):(R.ok a).bind f=f a:=rfl
theorem Rk.bind:Rk EX (r.bind f) k=Rk EX r fun a=>Rk EX (f a) k:=by cases r<;>rfl
theorem Rk.mono(h:Rk EX r k)(hk:∀a,k a->k' a):Rk EX r k':=by
 cases r with
 |ok a=>exact hk a h
 |er x=>exact h
 |st=>exact h
end
def Ext(H0 H aa H':Hp):Prop:=Same H0 aa/\Same aa H'/\∀a,H a≠none->H0 a=none->aa a=none
theorem Ext.refl(h:Same H0 H):Ext H0 H H0 H:=⟨Same.refl _,h,fun _ _ e=>e⟩
theorem Ch(h:o=some x):o≠none:=by rw[h];exact fun z=>nomatch z
theorem Same.ne(h:Same H H')(n:H a≠none):H' a≠none:=by
 cases e:H a with
 |none=>exact absurd e n
 |some o=>exact Ch (h a o e)
theorem Ext.trans(s:Same H H')(a:Ext H0 H aa H')(b:Ext aa H' pC gJ):Ext H0 H pC gJ:=
 ⟨a.1.trans b.1,b.2.1,fun c h1 h2=>b.2.2 c (s.ne h1) (a.2.2 c h1 h2)⟩
theorem Ext.grow(a:Ext H0 H aa H')(s:Same H' gJ):Ext H0 H aa gJ:=⟨a.1,a.2.1.trans s,a.2.2⟩
theorem Ext.new(h:Same H0 H)(hp:H p=none):Ext H0 H (upd H0 p o) (upd H p o):=by
 have h0:H0 p=none:=by
  cases e:H0 p with
  |none=>rfl
  |some u=>rw[h p u e]at hp;cases hp
 refine⟨Same.upd_new h0,fun b u e=>?_,fun a h1 h2=>?_⟩
 . by_cases hb:b=p
   . subst hb;rw[t9]at e⊢;exact e
   . rw[i6 hb]at e⊢;exact h b u e
 . have ha:a≠p:=fun z=>h1 (by rw[z];exact hp)
   rw[i6 ha];exact h2
def OB(K:Frag)(H0 H:Hp)(a:Addr):D->Prop
 | .lst ds=>∃xs,H a=some (.lst xs)/\RDs K H0 ds xs
 | .dk ks ds=>∃xs,H a=some (.dK (ks.zip xs))/\ks.length=xs.length/\RDs K H0 ds xs
 | .dt ks ds=>∃xs,H a=some (.dT (ks.zip xs))/\ks.length=xs.length/\RDs K H0 ds xs
 | .dn ks ds=>∃qs xs o,H a=some (.ext (dnP a qs xs o))/\qs.map (·.1)=ks/\DN H0 a qs/\RDs K H0 ds xs
 |_=>False
section
variable {K:Frag}{H0 H aa H':Hp}{a:Addr}{d:D}
theorem OB.some(h:OB K H0 H a d):∃o,H a=some o/\¬Imm o:=by
 cases d<;>simp only[OB]at h
 . obtain⟨xs,h,_⟩:=h;exact⟨_,h,fun z=>z⟩
 . obtain⟨xs,h,_⟩:=h;exact⟨_,h,fun z=>z⟩
 . obtain⟨xs,h,_⟩:=h;exact⟨_,h,fun z=>z⟩
 . obtain⟨qs,xs,o,h,_⟩:=h;exact⟨_,h,fun z=>z _ _ _ _ rfl⟩
theorem OB.mono(h:OB K H0 H a d)(s0:Same H0 aa)(s:Same H H'):OB K aa H' a d:=by
 cases d<;>simp only[OB]at h⊢
 . obtain⟨xs,h,r⟩:=h;exact⟨_,s _ _ h,r.mono s0⟩
 . obtain⟨xs,h,l,r⟩:=h;exact⟨_,s _ _ h,l,r.mono s0⟩
 . obtain⟨xs,h,l,r⟩:=h;exact⟨_,s _ _ h,l,r.mono s0⟩
 . obtain⟨qs,xs,o,h,k,n,r⟩:=h;exact⟨qs,xs,o,s _ _ h,k,n.tk fun b ys q=>s0 _ _ q,r.mono s0⟩
theorem OB.at(h:OB K H0 H a d)(e:H' a=H a):OB K H0 H' a d:=by
 cases d<;>simp only[OB]at h⊢
 . obtain⟨xs,h,r⟩:=h;exact⟨_,e.trans h,r⟩
 . obtain⟨xs,h,l,r⟩:=h;exact⟨_,e.trans h,l,r⟩
 . obtain⟨xs,h,l,r⟩:=h;exact⟨_,e.trans h,l,r⟩
 . obtain⟨qs,xs,o,h,k,n,r⟩:=h;exact⟨qs,xs,o,e.trans h,k,n,r⟩
theorem OB.tk(h:OB K H0 H a d)(n:d.shal=true)(t:TK H0 aa):OB K aa H a d:=by
 cases d<;>simp only[OB,D.shal]at h n⊢
 . obtain⟨xs,h,r⟩:=h;exact⟨_,h,r.tk t n⟩
 . obtain⟨xs,h,l,r⟩:=h;exact⟨_,h,l,r.tk t n⟩
 . obtain⟨xs,h,l,r⟩:=h;exact⟨_,h,l,r.tk t n⟩
 . obtain⟨qs,xs,o,h,k,m,r⟩:=h;exact⟨qs,xs,o,h,k,m.tk fun b ys q=>t _ _ trivial q,r.tk t n⟩
theorem OB.rd(h:OB K H0 H a d)(s0:Same H0 aa)(e:aa a=H a):RD K aa d (.ref a):=by
 cases d<;>simp only[OB,RD]at h⊢
 . obtain⟨xs,h,r⟩:=h;exact⟨_,_,rfl,e.trans h,r.mono s0⟩
 . obtain⟨xs,h,l,r⟩:=h;exact⟨_,_,rfl,e.trans h,l,r.mono s0⟩
 . obtain⟨xs,h,l,r⟩:=h;exact⟨_,_,rfl,e.trans h,l,r.mono s0⟩
 . obtain⟨qs,xs,o,h,k,n,r⟩:=h;exact⟨_,qs,xs,o,rfl,e.trans h,k,n.tk fun b ys q=>s0 _ _ q,r.mono s0⟩
end
def Out(K:Frag)(fr:Bool)(H0 H:Hp)(d:D)(v:V)(H':Hp):Prop:=
 Same H H'/\∃aa,Ext H0 H aa H'/\(if fr=true then ∃p,v=.ref p/\H p=none/\aa p=none/\OB K aa H' p d else RD K aa d v)
section
variable {K:Frag}{fr:Bool}{H0 H aa H':Hp}{d:D}{v:V}
theorem Out.val(s:Same H H')(e:Ext H0 H aa H')(r:RD K aa d v):Out K false H0 H d v H':=⟨s,aa,e,by rw[ψ η];exact r⟩
theorem Out.pure(s:Same H0 H)(r:RD K H0 d v):Out K false H0 H d v H:=.val (Same.refl _) (.refl s) r
theorem Out.fresh(s:Same H H')(e:Ext H0 H aa H')(hp:H p=none)(fS:aa p=none)(o:OB K aa H' p d):Out K true H0 H d (.ref p) H':=⟨s,aa,e,by rw[ξ rfl];exact⟨p,rfl,hp,fS,o⟩⟩
theorem Out.rd(o:Out K false H0 H d v H'):Same H H'/\∃aa,Ext H0 H aa H'/\RD K aa d v:=by obtain⟨s,aa,e,r⟩:=o;rw[ψ η]at r;exact⟨s,aa,e,r⟩
theorem Out.weak(o:Out K fr H0 H d v H'):Out K false H0 H d v H':=by
 cases fr with
 |false=>exact o
 |true=>
  obtain⟨s,aa,e,r⟩:=o
  rw[ξ rfl]at r
  obtain⟨p,rfl,hp,fS,ob⟩:=r
  obtain⟨u,hu,_⟩:=ob.some
  have e2:Ext H0 H (upd aa p u) H':=by
   refine⟨e.1.trans (Same.upd_new fS),fun b w q=>?_,fun a h1 h2=>?_⟩
   . by_cases hb:b=p
     . subst hb;rw[t9]at q;cases q;exact hu
     . rw[i6 hb]at q;exact e.2.1 b w q
   . rw[i6 (fun z=>h1 (by rw[z];exact hp))];exact e.2.2 a h1 h2
  exact .val s e2 (ob.rd (Same.upd_new fS) (by rw[t9,hu]))
theorem Out.after(s:Same H H1)(e:Ext H0 H aq H1)(o:Out K fr aq H1 d v H'):Out K fr H0 H d v H':=by
 obtain⟨s',aa,e',r⟩:=o;refine⟨s.trans s',aa,e.trans s e',?_⟩;cases fr with
 |false=>exact r
 |true=>
  rw[ξ rfl]at r⊢
  obtain⟨p,rfl,hp,r⟩:=r
  refine⟨p,rfl,?_,r⟩
  cases q:H p with
  |none=>rfl
  |some u=>rw[s p u q]at hp;cases hp
end
abbrev DE:=List (Option D)
def RE(K:Frag)(H:Hp)(ρ:DE)(U:St):Prop:=ρ.length=U.length/\∀(i:Nat) d,ρ[i]?=some (some d)->∃v,U[i]?=some (some v)/\RD K H d v
theorem RE.mono{K:Frag}{H H':Hp}{ρ:DE}{U:St}(h:RE K H ρ U)(s:Same H H'):RE K H' ρ U:=⟨h.1,fun i d e=>by obtain⟨v,h1,h2⟩:=h.2 i d e;exact⟨v,h1,h2.mono s⟩⟩
structure XW where
 hb:Hp
 p:Ex->Hp->Prop
abbrev F0:XW:=⟨fun _=>none,fun _ _=>False⟩
theorem F0.same(H:Hp):Same F0.hb H:=fun _ _ z=>nomatch z
def XW.at(W:XW)(x:Ex):Prop:=∀H',Same W.hb H'->W.p x H'
noncomputable def TEd(K:Frag)(EX:XW)(fr:Bool)(f:DE->R D):TE:=fun U H Q=>Same EX.hb H/\∃ρ H0,Same H0 H/\RE K H0 ρ U/\Rk EX.at (f ρ) fun d=>∀v H',Out K fr H0 H d v H'->Q v H'
noncomputable def TAd(K:Frag)(EX:XW)(f:DE->R (List D)):TA:=fun U H Q=>Same EX.hb H/\∃ρ H0,Same H0 H/\RE K H0 ρ U/\Rk EX.at (f ρ) fun ds=>∀vs H' aa,Same H H'->Ext H0 H aa H'->RDs K aa ds vs->Q vs H'
noncomputable def TTd(K:Frag)(EX:XW)(f:DE->R Bool):TT:=fun U H Q=>Same EX.hb H/\∃ρ H0,Same H0 H/\RE K H0 ρ U/\Rk EX.at (f ρ) fun b=>∀H',Same H H'->Q b H'
noncomputable def d6(i:Nat):DE->R D:=fun ρ=>match ρ[i]? with |some (some d)=>.ok d |_=>.st
noncomputable def eC(d:D):DE->R D:=fun _=>.ok d
def eOp(o:D->D->Option D)(fa fb:DE->R D):DE->R D:=fun ρ=>(fa ρ).bind fun x=>(fb ρ).bind fun y=>R.of (o x y)
def eUn(o:D->Option D)(fa:DE->R D):DE->R D:=fun ρ=>(fa ρ).bind fun x=>R.of (o x)
noncomputable def d9:DE->R (List D):=fun _=>.ok []
def d7(f:DE->R D)(fs:DE->R (List D)):DE->R (List D):=fun ρ=>(f ρ).bind fun d=>(fs ρ).bind fun ds=>.ok (d::ds)
def g6(m:List D->R D)(fs:DE->R (List D)):DE->R D:=fun ρ=>(fs ρ).bind m
def eCB(m:List D->Option D)(fs:DE->R (List D)):DE->R D:=fun ρ=>(fs ρ).bind fun ds=>R.of (m ds)
def n8(fs:DE->R (List D)):DE->R D:=fun ρ=>(fs ρ).bind fun ds=>if ds.length<=1000 then .ok (.tup ds) else .st
def t0(fs:DE->R (List D)):DE->R D:=fun ρ=>(fs ρ).bind fun ds=>if ds.length<=1000 then .ok (.lst ds) else .st
def eIf(t:DE->R Bool)(fa fb:DE->R D):DE->R D:=fun ρ=>(t ρ).bind fun b=>if b=true then fa ρ else fb ρ
def y4c(t u:DE->R Bool):DE->R Bool:=fun ρ=>(t ρ).bind fun b=>if b=true then u ρ else .ok false
def bOr(t u:DE->R Bool):DE->R Bool:=fun ρ=>(t ρ).bind fun b=>if b=true then .ok true else u ρ
def w4(t:DE->R Bool):DE->R Bool:=fun ρ=>(t ρ).bind fun b=>.ok (!b)
noncomputable def asB:D->Option Bool
 | .bl b=>some b
 |_=>none
def i7(tr:D->Option Bool)(f:DE->R D):DE->R Bool:=fun ρ=>(f ρ).bind fun d=>R.of (tr d)
def J1(fa fb:DE->R D):DE->R D:=fun ρ=>(fa ρ).bind fun x=>(R.of (asB x)).bind fun b=>if b=true then fb ρ else .ok (.bl false)
def eOr(fa fb:DE->R D):DE->R D:=fun ρ=>(fa ρ).bind fun x=>(R.of (asB x)).bind fun b=>if b=true then .ok (.bl true) else fb ρ
def OpD(K:Frag)(fr:Bool)(o:D->D->Option D)(r:R2):Prop:=∀(H0 H:Hp)(x y:V)(d e z:D)(Q:VK),Same H0 H->RD K H0 d x->RD K H0 e y->o d e=some z->(∀v H',Out K fr H0 H z v H'->Q v H')->r x y H Q
def UnD(K:Frag)(fr:Bool)(o:D->Option D)(r:V->Hp->VK->Prop):Prop:=∀(H0 H:Hp)(x:V)(d z:D)(Q:VK),Same H0 H->RD K H0 d x->o d=some z->(∀v H',Out K fr H0 H z v H'->Q v H')->r x H Q
def B9(K:Frag)(fr:Bool)(m:List D->Option D)(r:List V->Hp->VK->Prop):Prop:=∀(H0 H:Hp)(xs:List V)(ds:List D)(z:D)(Q:VK),Same H0 H->RDs K H0 ds xs->m ds=some z->(∀v H',Out K fr H0 H z v H'->Q v H')->r xs H Q
def Fu(K:Frag)(tr:D->Option Bool)(r:V->Hp->(Bool->Hp->Prop)->Prop):Prop:=∀(H0 H:Hp)(x:V)(d:D)(b:Bool)(Q:Bool->Hp->Prop),Same H0 H->RD K H0 d x->tr d=some b->Q b H->r x H Q
section
variable {K:Frag}{EX:XW}{fr:Bool}{U:St}{H:Hp}{Q:VK}
theorem TEd.go(sx:Same EX.hb H)(s:Same H0 H)(e:RE K H0 ρ U)(h:Rk EX.at (f ρ) k)(hk:∀d,k d->∀v H' aa,Same H H'->Ext H0 H aa H'->RD K aa d v->Q v H'):TEd K EX false f U H Q:=
 ⟨sx,ρ,H0,s,e,h.mono fun d z v H' o=>by obtain⟨s',aa,e',r⟩:=o.rd;exact hk d z v H' aa s' e' r⟩
theorem TAd.go{f:DE->R (List D)}{ρ:DE}{H0:Hp}{k:List D->Prop}{Q:List V->Hp->Prop}(sx:Same EX.hb H)(s:Same H0 H)(e:RE K H0 ρ U)(h:Rk EX.at (f ρ) k)(hk:∀d,k d->∀v H' aa,Same H H'->Ext H0 H aa H'->RDs K aa d v->Q v H'):TAd K EX f U H Q:=
 ⟨sx,ρ,H0,s,e,h.mono fun d z v H' aa s' e' r=>hk d z v H' aa s' e' r⟩
theorem TTd.go{f:DE->R Bool}{ρ:DE}{H0:Hp}{k:Bool->Prop}{Q:Bool->Hp->Prop}(sx:Same EX.hb H)(s:Same H0 H)(e:RE K H0 ρ U)(h:Rk EX.at (f ρ) k)(hk:∀b,k b->∀H',Same H H'->Q b H'):TTd K EX f U H Q:=
 ⟨sx,ρ,H0,s,e,h.mono fun b z H' s'=>hk b z H' s'⟩
theorem TEd.weak(h:TEd K EX false f U H Q):TEd K EX fr f U H Q:=by obtain⟨sx,ρ,H0,s,e,h⟩:=h;exact⟨sx,ρ,H0,s,e,h.mono fun d z v H' o=>z v H' o.weak⟩
theorem Zb(h:TEd K EX false (d6 i) U H Q):∃v,U[i]?=some (some v)/\Q v H:=by
 obtain⟨sx,ρ,H0,s,e,h⟩:=h;unfold d6 at h;split at h
 . rename_i d q;obtain⟨v,h1,h2⟩:=e.2 i d q;exact⟨v,h1,h v H (.pure s h2)⟩
 . exact h.elim
theorem Eo(hd:∀H0,RD K H0 d v)(h:TEd K EX false (eC d) U H Q):tC v U H Q:=by obtain⟨sx,ρ,H0,s,e,h⟩:=h;exact h v H (.pure s (hd _))
theorem Dc(ho:OpD K fr o r)(h:TEd K EX fr (eOp o fa fb) U H Q):tOp r (TEd K EX false fa) (TEd K EX false fb) U H Q:=by
 obtain⟨sx,ρ,H0,s,e,h⟩:=h;unfold eOp at h;rw[Rk.bind]at h;refine TEd.go sx s e h fun d h v H1 aq s1 e1 r1=>?_
 rw[Rk.bind]at h;refine TEd.go (sx.trans s1) e1.2.1 (e.mono e1.1) h fun d2 h v2 H2 bF s2 e2 r2=>?_
 obtain⟨z,hz,h⟩:=h.of;exact ho bF H2 v v2 d d2 z Q e2.2.1 (r1.mono e2.1) r2 hz fun w H3 o=>h w H3 (o.after (s1.trans s2) (e1.trans s1 e2))
theorem y4d(ho:UnD K fr o r)(h:TEd K EX fr (eUn o fa) U H Q):tUn r (TEd K EX false fa) U H Q:=by
 obtain⟨sx,ρ,H0,s,e,h⟩:=h;unfold eUn at h;rw[Rk.bind]at h;refine TEd.go sx s e h fun d h v H1 aq s1 e1 r1=>?_
 obtain⟨z,hz,h⟩:=h.of;exact ho aq H1 v d z Q e1.2.1 r1 hz fun w H3 o=>h w H3 (o.after s1 e1)
theorem Za{Q:List V->Hp->Prop}(h:TAd K EX d9 U H Q):Ba U H Q:=by obtain⟨sx,ρ,H0,s,e,h⟩:=h;exact h [] H H0 (Same.refl _) (.refl s) .nil
theorem kX{Q:List V->Hp->Prop}{f:DE->R D}{fs:DE->R (List D)}(h:TAd K EX (d7 f fs) U H Q):Q2 (TEd K EX false f) (TAd K EX fs) U H Q:=by
 obtain⟨sx,ρ,H0,s,e,h⟩:=h;unfold d7 at h;rw[Rk.bind]at h;refine TEd.go sx s e h fun d h v H1 aq s1 e1 r1=>?_
 rw[Rk.bind]at h;refine TAd.go (sx.trans s1) e1.2.1 (e.mono e1.1) h fun ds h vs H2 bF s2 e2 r2=>?_
 exact h (v::vs) H2 bF (s1.trans s2) (e1.trans s1 e2) (.cons (r1.mono e2.1) r2)
theorem Ft(hm:B9 K fr m r)(h:TEd K EX fr (eCB m fs) U H Q):tCB r (TAd K EX fs) U H Q:=by
 obtain⟨sx,ρ,H0,s,e,h⟩:=h;unfold eCB at h;rw[Rk.bind]at h;refine TAd.go sx s e h fun ds h vs H1 aq s1 e1 r1=>?_
 obtain⟨z,hz,h⟩:=h.of;exact hm aq H1 vs ds z Q e1.2.1 r1 hz fun w H3 o=>h w H3 (o.after s1 e1)
theorem En(h:n<=1000):n<=sizeLine:=KM h (by decide)
theorem Yz(h:TEd K EX false (n8 fs) U H Q):Fy (TAd K EX fs) U H Q:=by
 obtain⟨sx,ρ,H0,s,e,h⟩:=h;unfold n8 at h;rw[Rk.bind]at h;refine TAd.go sx s e h fun ds h vs H1 aq s1 e1 r1=>?_
 split at h
 . rename_i hl;refine⟨En (by rw[<-r1.length];exact hl),fun p hp=>h _ _ (.val (s1.trans (Same.upd_new hp)) (e1.trans s1 (.new e1.2.1 hp)) ?_)⟩;have ET:aq p=none:=by
    cases q:aq p with
    |none=>rfl
    |some u=>rw[e1.2.1 p u q]at hp;cases hp
   simp only[RD];exact⟨p,vs,rfl,t9,r1.mono (Same.upd_new ET)⟩
 . exact h.elim
theorem Same.none(s:Same H H')(h:H' p=none):H p=none:=by
 cases q:H p with
 |none=>rfl
 |some u=>rw[s p u q]at h;cases h
theorem Out.new(s:Same H0 H)(hp:H p=none)(du:∀H',H' p=some o->OB K H0 H' p d):Out K true H0 H d (.ref p) (upd H p o):=
 .fresh (Same.upd_new hp) ((Ext.refl s).grow (Same.upd_new hp)) hp (s.none hp) (du _ t9)
theorem Yy(h:TEd K EX true (t0 fs) U H Q):Yn (TAd K EX fs) U H Q:=by
 obtain⟨sx,ρ,H0,s,e,h⟩:=h;unfold t0 at h;rw[Rk.bind]at h;refine TAd.go sx s e h fun ds h vs H1 aq s1 e1 r1=>?_
 split at h
 . rename_i hl;refine⟨En (by rw[<-r1.length];exact hl),fun p hp=>h _ _ (Out.after s1 e1 (.new e1.2.1 hp fun H' hH=>?_))⟩;simp only[OB];exact⟨vs,hH,r1⟩
 . exact h.elim
theorem y4e(h:TEd K EX fr (eIf t fa fb) U H Q):tIf (TTd K EX t) (TEd K EX fr fa) (TEd K EX fr fb) U H Q:=by
 obtain⟨sx,ρ,H0,s,e,h⟩:=h;unfold eIf at h;rw[Rk.bind]at h;refine TTd.go sx s e h fun b h H1 s1=>?_
 have fin:∀{f:DE->R D},Rk EX.at (f ρ) (fun d=>∀v H',Out K fr H0 H d v H'->Q v H')->TEd K EX fr f U H1 Q:=fun {f} h=>
  ⟨sx.trans s1,ρ,H0,s.trans s1,e,h.mono fun d z v H' o=>z v H' (o.after s1 ((Ext.refl s).grow s1))⟩
 cases b with
 |true=>exact fin h
 |false=>exact fin h
theorem Yx{t u:DE->R Bool}{Q:Bool->Hp->Prop}(h:TTd K EX (bOr t u) U H Q):tOr (TTd K EX t) (TTd K EX u) U H Q:=by
 obtain⟨sx,ρ,H0,s,e,h⟩:=h;unfold bOr at h;rw[Rk.bind]at h;refine TTd.go sx s e h fun b h H1 s1=>?_
 cases b with
 |true=>exact h H1 s1
 |false=>exact TTd.go (sx.trans s1) (s.trans s1) e h fun b h H' s'=>h H' (s1.trans s')
theorem kW{t:DE->R Bool}{Q:Bool->Hp->Prop}(h:TTd K EX (w4 t) U H Q):Yv (TTd K EX t) U H Q:=by obtain⟨sx,ρ,H0,s,e,h⟩:=h;unfold w4 at h;rw[Rk.bind]at h;exact TTd.go sx s e h fun b h H1 s1=>h H1 s1
end
noncomputable def y4f(r:V->Hp->(Bool->Hp->Prop)->Prop)(t:TE):TT:=fun U H Q=>t U H fun x H'=>r x H' Q
noncomputable def Ay(K:Frag)(EX:XW)(g:D->DE->R D):V->TE:=fun x U H Q=>Same EX.hb H/\∃d ρ H0,Same H0 H/\RE K H0 ρ U/\RD K H0 d x/\Rk EX.at (g d ρ) fun z=>∀v H',Out K false H0 H z v H'->Q v H'
noncomputable def Bl(K:Frag)(EX:XW)(g:D->DE->R Bool):V->TT:=fun x U H Q=>Same EX.hb H/\∃d ρ H0,Same H0 H/\RE K H0 ρ U/\RD K H0 d x/\Rk EX.at (g d ρ) fun b=>∀H',Same H H'->Q b H'
def Q3(o:D->D->Option D)(fb:DE->R D):D->DE->R D:=fun d ρ=>(fb ρ).bind fun y=>R.of (o d y)
def J6(o:D->D->Option D)(fb:DE->R D)(g:D->DE->R D):D->DE->R D:=fun d ρ=>(fb ρ).bind fun y=>(R.of (o d y)).bind fun z=>(R.of (asB z)).bind fun b=>if b=true then g y ρ else .ok (.bl false)
def Bx(o:D->D->Option D)(fb:DE->R D):D->DE->R Bool:=fun d ρ=>(fb ρ).bind fun y=>(R.of (o d y)).bind fun z=>R.of (asB z)
def Bw(o:D->D->Option D)(fb:DE->R D)(g:D->DE->R Bool):D->DE->R Bool:=fun d ρ=>(fb ρ).bind fun y=>(R.of (o d y)).bind fun z=>(R.of (asB z)).bind fun b=>if b=true then g y ρ else .ok false
def P6(fa:DE->R D)(g:D->DE->R D):DE->R D:=fun ρ=>(fa ρ).bind fun x=>g x ρ
def Be(fa:DE->R D)(g:D->DE->R Bool):DE->R Bool:=fun ρ=>(fa ρ).bind fun x=>g x ρ
theorem Y9(h:asB d=some b):d=.bl b:=by cases d<;>simp[asB]at h;subst h;rfl
theorem RD.bl{K:Frag}{H:Hp}{b:Bool}{v:V}(h:RD K H (.bl b) v):v=.bl b:=by simpa only [RD] using h
section
variable {K:Frag}{EX:XW}{U:St}{H:Hp}{Q:VK}{QB:Bool->Hp->Prop}
theorem Yw(h:TEd K EX false (J1 fa fb) U H Q):Oq (TEd K EX false fa) (TEd K EX false fb) U H Q:=by
 obtain⟨sx,ρ,H0,s,e,h⟩:=h;unfold J1 at h;rw[Rk.bind]at h;refine TEd.go sx s e h fun d h v H1 aq s1 e1 r1=>?_
 rw[Rk.bind]at h;obtain⟨b,hb,h⟩:=h.of;cases Y9 hb;cases r1.bl;cases b with
 |true=>exact TEd.go (sx.trans s1) e1.2.1 (e.mono e1.1) h fun d h v H2 bF s2 e2 r2=>h v H2 (.val (s1.trans s2) (e1.trans s1 e2) r2)
 |false=>exact h _ H1 (.val s1 e1 (by simp only[RD]))
theorem y4g(h:TEd K EX false (eOr fa fb) U H Q):Yd (TEd K EX false fa) (TEd K EX false fb) U H Q:=by
 obtain⟨sx,ρ,H0,s,e,h⟩:=h;unfold eOr at h;rw[Rk.bind]at h;refine TEd.go sx s e h fun d h v H1 aq s1 e1 r1=>?_
 rw[Rk.bind]at h;obtain⟨b,hb,h⟩:=h.of;cases Y9 hb;cases r1.bl;cases b with
 |true=>exact h _ H1 (.val s1 e1 (by simp only[RD]))
 |false=>exact TEd.go (sx.trans s1) e1.2.1 (e.mono e1.1) h fun d h v H2 bF s2 e2 r2=>h v H2 (.val (s1.trans s2) (e1.trans s1 e2) r2)
theorem y00(ht:Fu K tr r)(h:TTd K EX (i7 tr fa) U H QB):y4f r (TEd K EX false fa) U H QB:=by
 obtain⟨sx,ρ,H0,s,e,h⟩:=h;unfold i7 at h;rw[Rk.bind]at h;refine TEd.go sx s e h fun d h v H1 aq s1 e1 r1=>?_
 obtain⟨b,hb,h⟩:=h.of;exact ht aq H1 v d b QB e1.2.1 r1 hb (h H1 s1)
theorem kT(ht:Fu K tr r)(h:TEd K EX false (eUn (fun d=>(tr d).map fun b=>.bl (!b)) fa) U H Q) :
  (fun U H Q=>(TEd K EX false fa) U H fun x H1=>r x H1 fun k H2=>Q (.bl (!k)) H2) U H Q:=by
 obtain⟨sx,ρ,H0,s,e,h⟩:=h
 unfold eUn at h
 rw[Rk.bind]at h
 refine TEd.go sx s e h fun d h v H1 aq s1 e1 r1=>?_
 obtain⟨z,hz,h⟩:=h.of
 have hz:(tr d).map (fun b=>D.bl (!b))=some z:=hz
 cases hb:tr d with
 |none=>rw[hb]at hz;cases hz
 |some b=>
  rw[hb]at hz;cases hz
  exact ht aq H1 v d b _ e1.2.1 r1 hb (h _ H1 (.val s1 e1 (by simp only[RD])))
theorem y01(ho:OpD K false o r)(h:TTd K EX (i7 asB (eOp o fa fb)) U H QB):Hg (tOp r (TEd K EX false fa) (TEd K EX false fb)) U H QB:=by obtain⟨sx,ρ,H0,s,e,h⟩:=h;unfold i7 at h;rw[Rk.bind]at h;unfold Hg;refine Dc (EX:=EX) ho ⟨sx,ρ,H0,s,e,h.mono fun d h v H' o=>?_⟩;obtain⟨b,hb,h⟩:=h.of;obtain⟨s',aa,e',r'⟩:=o.rd;cases Y9 hb;cases r'.bl;exact h H' s'
theorem kS(ho:OpD K false o r)(h:Ay K EX (Q3 o fb) x U H Q):Ou r (TEd K EX false fb) x U H Q:=by
 obtain⟨sx,d,ρ,H0,s,e,rx,h⟩:=h;unfold Q3 at h;rw[Rk.bind]at h;refine TEd.go sx s e h fun d2 h v2 H2 bF s2 e2 r2=>?_
 obtain⟨z,hz,h⟩:=h.of;exact ho bF H2 x v2 d d2 z Q e2.2.1 (rx.mono e2.1) r2 hz fun w H3 o=>h w H3 (o.after s2 e2)
theorem kR(ho:OpD K false o r)(h:Ay K EX (J6 o fb g) x U H Q):Ot r (TEd K EX false fb) (Ay K EX g) x U H Q:=by
 obtain⟨sx,d,ρ,H0,s,e,rx,h⟩:=h;unfold J6 at h;rw[Rk.bind]at h;refine TEd.go sx s e h fun d2 h v2 H2 bF s2 e2 r2=>?_
 rw[Rk.bind]at h;obtain⟨z,hz,h⟩:=h.of;rw[Rk.bind]at h;obtain⟨b,hb,h9⟩:=h.of;cases Y9 hb;refine ho bF H2 x v2 d d2 _ _ e2.2.1 (rx.mono e2.1) r2 hz fun w H3 o=>?_
 obtain⟨s3,dw,e3,r3⟩:=o.rd;cases r3.bl;clear h;have h:=h9;cases b with
 |true=>exact⟨(sx.trans s2).trans s3,d2,ρ,dw,e3.2.1,e.mono (e2.1.trans e3.1),r2.mono e3.1,h.mono fun z h v H' o=>h v H' (o.after (s2.trans s3) (e2.trans s2 e3))⟩
 |false=>exact h _ H3 (.val (s2.trans s3) (e2.trans s2 e3) (by simp only[RD]))
theorem vW(ho:OpD K false o r)(h:Bl K EX (Bx o fb) x U H QB):Qu r (TEd K EX false fb) x U H QB:=by
 obtain⟨sx,d,ρ,H0,s,e,rx,h⟩:=h;unfold Bx at h;rw[Rk.bind]at h;refine TEd.go sx s e h fun d2 h v2 H2 bF s2 e2 r2=>?_
 rw[Rk.bind]at h;obtain⟨z,hz,h⟩:=h.of;obtain⟨b,hb,h⟩:=h.of;cases Y9 hb;refine ho bF H2 x v2 d d2 _ _ e2.2.1 (rx.mono e2.1) r2 hz fun w H3 o=>?_
 obtain⟨s3,dw,e3,r3⟩:=o.rd;cases r3.bl;exact h H3 (s2.trans s3)
theorem vV(ho:OpD K false o r)(h:Bl K EX (Bw o fb g) x U H QB):Qt r (TEd K EX false fb) (Bl K EX g) x U H QB:=by
 obtain⟨sx,d,ρ,H0,s,e,rx,h⟩:=h;unfold Bw at h;rw[Rk.bind]at h;refine TEd.go sx s e h fun d2 h v2 H2 bF s2 e2 r2=>?_
 rw[Rk.bind]at h;obtain⟨z,hz,h⟩:=h.of;rw[Rk.bind]at h;obtain⟨b,hb,h9⟩:=h.of;cases Y9 hb;refine ho bF H2 x v2 d d2 _ _ e2.2.1 (rx.mono e2.1) r2 hz fun w H3 o=>?_
 obtain⟨s3,dw,e3,r3⟩:=o.rd;cases r3.bl;clear h;have h:=h9;cases b with
 |true=>exact⟨(sx.trans s2).trans s3,d2,ρ,dw,e3.2.1,e.mono (e2.1.trans e3.1),r2.mono e3.1,h.mono fun z h H' s'=>h H' (s2.trans (s3.trans s'))⟩
 |false=>exact h H3 (s2.trans s3)
theorem y02(h:TEd K EX false (P6 fa g) U H Q):Ye (TEd K EX false fa) (Ay K EX g) U H Q:=by obtain⟨sx,ρ,H0,s,e,h⟩:=h;unfold P6 at h;rw[Rk.bind]at h;exact TEd.go sx s e h fun d h v H1 aq s1 e1 r1=>⟨sx.trans s1,d,ρ,aq,e1.2.1,e.mono e1.1,r1,h.mono fun z h v H' o=>h v H' (o.after s1 e1)⟩
theorem kQ(h:TTd K EX (Be fa g) U H QB):Os (TEd K EX false fa) (Bl K EX g) U H QB:=by obtain⟨sx,ρ,H0,s,e,h⟩:=h;unfold Be at h;rw[Rk.bind]at h;exact TEd.go sx s e h fun d h v H1 aq s1 e1 r1=>⟨sx.trans s1,d,ρ,aq,e1.2.1,e.mono e1.1,r1,h.mono fun z h H' s'=>h H' (s1.trans s')⟩
end
inductive Sl where
 |em |im (d:D) |ow (d:D)
abbrev DS:=List Sl
noncomputable def Sl.see(b:Bool):Sl->Option D
 | .em=>none
 | .im d=>some d
 | .ow d=>if b=true then some d else none
noncomputable def Sl.frz(b:Bool):Sl->Sl
 | .ow d=>if b=true then .im d else .ow d
 |s=>s
def vis:List Bool->DS->DE
 |_,[]=>[]
 | [],s::r=>s.see false::vis [] r
 |b::m,s::r=>s.see b::vis m r
noncomputable def frz:List Bool->DS->DS
 |_,[]=>[]
 | [],s::r=>s::r
 |b::m,s::r=>s.frz b::frz m r
theorem Ko:∀(m:List Bool)(ρ:DS)(i:Nat),(vis m ρ)[i]?=(ρ[i]?).map (Sl.see (m.getD i false))
 | [],[],i=>by simp[vis]
 |_::_,[],i=>by simp[vis]
 | [],s::r,0=>by simp[vis]
 |b::m,s::r,0=>by simp[vis]
 | [],s::r,i+1=>by simpa [vis] using Ko [] r i
 |b::m,s::r,i+1=>by simpa [vis] using Ko m r i
theorem Mb:∀(m:List Bool)(ρ:DS),(vis m ρ).length=ρ.length
 | [],[]=>rfl
 |_::_,[]=>rfl
 | [],s::r=>by simp[vis,Mb [] r]
 |b::m,s::r=>by simp[vis,Mb m r]
theorem Sl.frz_false(s:Sl):s.frz false=s:=by cases s<;>simp[Sl.frz]
theorem Km:∀(m:List Bool)(ρ:DS)(i:Nat),(L2.frz m ρ)[i]?=(ρ[i]?).map (Sl.frz (m.getD i false))
 | [],[],i=>by simp[frz]
 |_::_,[],i=>by simp[frz]
 | [],s::r,i=>by
  simp only[frz,List.getD_nil];cases h:(s::r)[i]? with
  |none=>rfl
  |some x=>simp[Sl.frz_false]
 |b::m,s::r,0=>by simp[frz]
 |b::m,s::r,i+1=>by simpa [frz] using Km m r i
theorem Wd:∀(m:List Bool)(ρ:DS),(L2.frz m ρ).length=ρ.length
 | [],[]=>rfl
 |_::_,[]=>rfl
 | [],s::r=>rfl
 |b::m,s::r=>by simp[frz,Wd m r]
structure RS(K:Frag)(Hc Hb H0:Hp)(ρ:DS)(U:St)(H:Hp):Prop where
 sb:Same Hb H
 ext:Ext Hc Hb H0 H
 len:ρ.length=U.length
 im:∀(i:Nat) d,ρ[i]?=some (.im d)->∃v,U[i]?=some (some v)/\RD K H0 d v
 ow:∀(i:Nat) d,ρ[i]?=some (.ow d)->∃a,U[i]?=some (some (.ref a))/\H0 a=none/\Hb a=none/\OB K H0 H a d
 ap:∀(i j:Nat) d e a,ρ[i]?=some (.ow d)->ρ[j]?=some (.ow e)->U[i]?=some (some (.ref a))->U[j]?=some (some (.ref a))->i=j
theorem RS.grow{K:Frag}{Hc Hb H0 H H':Hp}{ρ:DS}{U:St}(R:RS K Hc Hb H0 ρ U H)(s:Same H H'):RS K Hc Hb H0 ρ U H':=
 ⟨R.sb.trans s,R.ext.grow s,R.len,R.im,fun i d e=>by obtain⟨a,h1,h2,h3,h4⟩:=R.ow i d e;exact⟨a,h1,h2,h3,h4.mono (Same.refl _) s⟩,R.ap⟩
def Msk(m:List Bool)(ρ:DS)(U:St)(a:Addr):Prop:=∃i d,m.getD i false=true/\ρ[i]?=some (.ow d)/\U[i]?=some (some (.ref a))
open Classical in
noncomputable def HeOf(m:List Bool)(ρ:DS)(U:St)(H0 H:Hp):Hp:=fun a=>if Msk m ρ U a then H a else H0 a
open Classical in
noncomputable def HdOf(m:List Bool)(ρ:DS)(U:St)(H0:Hp):Hp:=fun a=>if Msk m ρ U a then none else H0 a
section
variable {K:Frag}{Hc Hb H0 H H':Hp}{ρ:DS}{U:St}{m:List Bool}
theorem RS.msk(R:RS K Hc Hb H0 ρ U H)(h:Msk m ρ U a):H0 a=none/\Hb a=none/\∃o,H a=some o/\¬Imm o:=by obtain⟨i,d,_,h1,h2⟩:=h;obtain⟨a',q1,q2,q3,q4⟩:=R.ow i d h1;rw[h2]at q1;cases q1;exact⟨q2,q3,q4.some⟩
theorem Em(h:Msk m ρ U a):HeOf m ρ U H0 H a=H a:=by unfold HeOf;exact ξ h
theorem Y8(h:¬Msk m ρ U a):HeOf m ρ U H0 H a=H0 a:=by unfold HeOf;exact ψ h
theorem El(h:Msk m ρ U a):HdOf m ρ U H0 a=none:=by unfold HdOf;exact ξ h
theorem Y7(h:¬Msk m ρ U a):HdOf m ρ U H0 a=H0 a:=by unfold HdOf;exact ψ h
theorem RS.he0(R:RS K Hc Hb H0 ρ U H)(m:List Bool):Same H0 (HeOf m ρ U H0 H):=fun b o e=>by
 by_cases h:Msk m ρ U b
 . rw[(R.msk h).1]at e;cases e
 . rw[Y8 h];exact e
theorem RS.heH(R:RS K Hc Hb H0 ρ U H)(m:List Bool):Same (HeOf m ρ U H0 H) H:=fun b o e=>by
 by_cases h:Msk m ρ U b
 . rw[Em h]at e;exact e
 . rw[Y8 h]at e;exact R.ext.2.1 b o e
theorem RS.re(R:RS K Hc Hb H0 ρ U H)(m:List Bool):RE K (HeOf m ρ U H0 H) (vis m ρ) U:=by
 refine⟨by rw[Mb];exact R.len,fun i d e=>?_⟩;rw[Ko]at e;cases q:ρ[i]? with
 |none=>rw[q]at e;cases e
 |some s=>
  rw[q]at e
  simp only[NV,Option.some.injEq]at e
  cases s with
  |em=>cases e
  |im d'=>
   cases e
   obtain⟨v,h1,h2⟩:=R.im i d q
   exact⟨v,h1,h2.mono (R.he0 m)⟩
  |ow d'=>
   simp only[Sl.see]at e
   split at e
   . rename_i hm;cases e;obtain⟨a,h1,h2,h3,h4⟩:=R.ow i d q;exact⟨_,h1,h4.rd (R.he0 m) (Em ⟨i,d,hm,q,h1⟩)⟩
   . cases e
def t6(keep:Bool)(m:List Bool)(ρ:DS):DS:=if keep=true then ρ else frz m ρ
def keeps(fr:Bool)(d:D):Bool:=if fr=true then d.shal else d.noL
def Apt(K:Frag)(fr:Bool)(Hb H0:Hp)(ρ:DS)(U:St)(H:Hp)(d:D)(v:V):Prop:=
 if fr=true then ∃p,v=.ref p/\H0 p=none/\Hb p=none/\OB K H0 H p d/\∀(i:Nat) e,ρ[i]?=some (.ow e)->U[i]?≠some (some (.ref p)) else RD K H0 d v
theorem Ek(h:(t6 keep m ρ)[i]?=some (.ow d)):ρ[i]?=some (.ow d)/\(keep=false->m.getD i false=false):=by
 unfold t6 at h;cases keep with
 |true=>exact⟨h,fun z=>nomatch z⟩
 |false=>
  rw[ψ η,Km]at h
  cases q:ρ[i]? with
  |none=>rw[q]at h;cases h
  |some s=>
   rw[q]at h
   simp only[NV,Option.some.injEq]at h
   cases s with
   |em=>cases h
   |im d'=>cases h
   |ow d'=>
    simp only[Sl.frz]at h
    split at h
    . cases h
    . rename_i hm;cases h;exact⟨rfl,fun _=>by simpa using hm⟩
theorem RS.frame(R:RS K Hc Hb H0 ρ U H)(s:Same H H')(e:Ext (HeOf m ρ U H0 H) H aa H')(keep:Bool) :
  ∃aV,RS K Hc Hb aV (t6 keep m ρ) U H'/\TK aa aV/\(keep=false->aV=aa)/\(∀p,aa p=none->aV p=none)/\Same H0 aV:=by
 have lG:∀(i:Nat) d' a,ρ[i]?=some (.ow d')->U[i]?=some (some (.ref a))->¬Msk m ρ U a->aa a=none:=fun i d' a h1 h2 h3=>by obtain⟨a',q1,q2,q3,q4⟩:=R.ow i d' h1;rw[h2]at q1;cases q1;obtain⟨u,hu,_⟩:=q4.some;exact e.2.2 a (Ch hu) (by rw[Y8 h3];exact q2)
 have pD:∀{i:Nat}{d':D}{a:Addr},ρ[i]?=some (.ow d')->U[i]?=some (some (.ref a))->m.getD i false=false->¬Msk m ρ U a:=fun {i d' a} h1 h2 h3 ⟨j,e',q1,q2,q3⟩=>by have:=R.ap i j d' e' a h1 q2 h2 q3;subst this;rw[h3]at q1;cases q1
 cases keep with
 |true=>
  have MD:t6 true m ρ=ρ:=rfl
  have s0:Same H0 (HdOf m ρ U aa):=fun b u q=>by
   have hb:¬Msk m ρ U b:=fun z=>by rw[(R.msk z).1]at q;cases q
   rw[Y7 hb];exact e.1 b u (R.he0 m b u q)
  have tk:TK aa (HdOf m ρ U aa):=fun b u hi q=>by
   have hb:¬Msk m ρ U b:=fun z=>by obtain⟨_,_,w,hw,hn⟩:=R.msk z;have:=e.1 b w (by rw[Em z];exact hw);rw[q]at this;cases this;exact hn hi
   rw[Y7 hb];exact q
  refine⟨HdOf m ρ U aa,⟨R.sb.trans s,⟨R.ext.1.trans s0,fun b u q=>?_,fun a h1 h2=>?_⟩,R.len,fun i d' q=>?_,fun i d' q=>?_,R.ap⟩,tk,(fun z=>nomatch z),fun p hp=>?_,s0⟩
  . by_cases hb:Msk m ρ U b
    . rw[El hb]at q;cases q
    . rw[Y7 hb]at q;exact e.2.1 b u q
  . by_cases hb:Msk m ρ U a
    . exact El hb
    . rw[Y7 hb];exact e.2.2 a (R.sb.ne h1) (by rw[Y8 hb];exact R.ext.2.2 a h1 h2)
  . obtain⟨w,h1,h2⟩:=R.im i d' q;exact⟨w,h1,h2.mono s0⟩
  . obtain⟨a,h1,h2,h3,h4⟩:=R.ow i d' q;refine⟨a,h1,?_,h3,h4.mono s0 s⟩;by_cases hb:Msk m ρ U a
    . exact El hb
    . rw[Y7 hb];exact lG i d' a q h1 hb
  . by_cases hb:Msk m ρ U p
    . exact El hb
    . rw[Y7 hb];exact hp
 |false=>
  refine⟨aa,⟨R.sb.trans s,?_,?_,fun i d' q=>?_,fun i d' q=>?_,fun i j d1 d2 a q1 q2=>?_⟩,fun _ _ _ z=>z,fun _=>rfl,fun _ z=>z,(R.he0 m).trans e.1⟩
  . refine⟨R.ext.1.trans ((R.he0 m).trans e.1),e.2.1,fun a h1 h2=>e.2.2 a (R.sb.ne h1) ?_⟩;have hb:¬Msk m ρ U a:=fun z=>h1 (R.msk z).2.1
    rw[Y8 hb];exact R.ext.2.2 a h1 h2
  . show(L2.frz m ρ).length=_;rw[Wd];exact R.len
  . have q':(L2.frz m ρ)[i]?=some (.im d'):=q;rw[Km]at q';cases hs:ρ[i]? with
    |none=>rw[hs]at q';cases q'
    |some sl=>
     rw[hs]at q'
     simp only[NV,Option.some.injEq]at q'
     cases sl with
     |em=>cases q'
     |im d2=>
      cases q'
      obtain⟨w,h1,h2⟩:=R.im i d' hs
      exact⟨w,h1,h2.mono ((R.he0 m).trans e.1)⟩
     |ow d2=>
      simp only[Sl.frz]at q'
      split at q'
      . rename_i hm;cases q';obtain⟨a,h1,h2,h3,h4⟩:=R.ow i d' hs;obtain⟨u,hu,_⟩:=h4.some;refine⟨_,h1,h4.rd ((R.he0 m).trans e.1) ?_⟩;rw[hu];exact e.1 a u (by rw[Em ⟨i,d',hm,hs,h1⟩];exact hu)
      . cases q'
  . obtain⟨q1,q2⟩:=Ek q;obtain⟨a,h1,h2,h3,h4⟩:=R.ow i d' q1;exact⟨a,h1,lG i d' a q1 h1 (pD q1 h1 (q2 rfl)),h3,h4.mono ((R.he0 m).trans e.1) s⟩
  . exact R.ap i j d1 d2 a (Ek q1).1 (Ek q2).1
theorem RS.out(R:RS K Hc Hb H0 ρ U H)(o:Out K fr (HeOf m ρ U H0 H) H d v H') :
  ∃aV,RS K Hc Hb aV (t6 (keeps fr d) m ρ) U H'/\Apt K fr Hb aV (t6 (keeps fr d) m ρ) U H' d v:=by
 obtain⟨s,aa,e,r⟩:=o
 obtain⟨aV,R',tk,eq,hn,_⟩:=R.frame s e (keeps fr d)
 refine⟨aV,R',?_⟩
 unfold Apt
 cases fr with
 |false=>
  rw[ψ η]at r⊢
  cases hk:keeps false d with
  |true=>exact r.tk tk (by simpa [keeps] using hk)
  |false=>rw[eq hk];exact r
 |true=>
  rw[ξ rfl]at r⊢
  obtain⟨p,rfl,hp,fS,ob⟩:=r
  refine⟨p,rfl,hn p fS,R.sb.none hp,?_,fun i e' q z=>?_⟩
  . cases hk:keeps true d with
    |true=>exact ob.tk (by simpa [keeps] using hk) tk
    |false=>rw[eq hk];exact ob
  . obtain⟨a,h1,_,_,h4⟩:=R.ow i e' (Ek q).1;rw[z]at h1;cases h1;obtain⟨u,hu,_⟩:=h4.some;rw[hp]at hu;cases hu
theorem RS.outs(R:RS K Hc Hb H0 ρ U H)(s:Same H H')(e:Ext (HeOf m ρ U H0 H) H aa H')(r:RDs K aa ds vs) :
  ∃aV,RS K Hc Hb aV (t6 (m8 ds) m ρ) U H'/\RDs K aV ds vs:=by
 obtain⟨aV,R',tk,eq,hn,_⟩:=R.frame s e (m8 ds)
 refine⟨aV,R',?_⟩
 cases hk:m8 ds with
 |true=>exact r.tk tk hk
 |false=>rw[eq hk];exact r
noncomputable def N1(fr:Bool)(i:Nat)(d:D)(ρ:DS):DS:=ρ.set i (if fr=true then .ow d else .im d)
theorem RS.put(R:RS K Hc Hb H0 ρ U H)(a:Apt K fr Hb H0 ρ U H d v)(i:Nat):RS K Hc Hb H0 (N1 fr i d ρ) (U.set i (some v)) H:=by
 unfold N1;have other:∀{j:Nat}{s:Sl},j≠i->(ρ.set i s)[j]?=ρ[j]?:=fun {j s} h=>by rw[OJ (PN h)]
 have bB:∀{j:Nat},j≠i->(U.set i (some v))[j]?=U[j]?:=fun {j} h=>by rw[OJ (PN h)]
 have here:∀{s s':Sl},(ρ.set i s)[i]?=some s'->s'=s/\(U.set i (some v))[i]?=some (some v):=fun {s s'} h=>by
  have hi:i<ρ.length:=by have:=(NW.mp h).1;simpa using this
  rw[PH hi]at h;cases h;exact⟨rfl,by rw[PH (by rw[<-R.len];exact hi)]⟩
 refine⟨R.sb,R.ext,by rw[List.length_set,List.length_set];exact R.len,fun j d' q=>?_,fun j d' q=>?_,fun j k d1 d2 b q1 q2 z1 z2=>?_⟩
 . by_cases hj:j=i
   . subst hj;obtain⟨h1,h2⟩:=here q;refine⟨v,h2,?_⟩;cases fr with
     |false=>
      rw[ψ η]at h1;cases h1
      unfold Apt at a
      rw[ψ η]at a;exact a
     |true=>rw[ξ rfl]at h1;cases h1
   . rw[other hj]at q;rw[bB hj];exact R.im j d' q
 . by_cases hj:j=i
   . subst hj;obtain⟨h1,h2⟩:=here q;cases fr with
     |false=>rw[ψ η]at h1;cases h1
     |true=>
      rw[ξ rfl]at h1;cases h1
      unfold Apt at a
      rw[ξ rfl]at a
      obtain⟨p,rfl,a1,a2,a3,_⟩:=a
      exact⟨p,h2,a1,a2,a3⟩
   . rw[other hj]at q;rw[bB hj];exact R.ow j d' q
 . by_cases hj:j=i
   . by_cases hk:k=i
     . rw[hj,hk]
     . subst hj;obtain⟨h1,h2⟩:=here q1;rw[other hk]at q2;rw[bB hk]at z2;rw[h2]at z1;cases fr with
       |false=>rw[ψ η]at h1;cases h1
       |true=>
        unfold Apt at a
        rw[ξ rfl]at a
        obtain⟨p,rfl,_,_,_,a4⟩:=a
        cases z1
        exact absurd z2 (a4 k d2 q2)
   . by_cases hk:k=i
     . subst hk;obtain⟨h1,h2⟩:=here q2;rw[other hj]at q1;rw[bB hj]at z1;rw[h2]at z2;cases fr with
       |false=>rw[ψ η]at h1;cases h1
       |true=>
        unfold Apt at a
        rw[ξ rfl]at a
        obtain⟨p,rfl,_,_,_,a4⟩:=a
        cases z2
        exact absurd z1 (a4 j d1 q1)
     . rw[other hj]at q1;rw[other hk]at q2;rw[bB hj]at z1;rw[bB hk]at z2;exact R.ap j k d1 d2 b q1 q2 z1 z2
end
inductive SR where
 |nx (ρ:DS) |bk (ρ:DS) |ct (ρ:DS) |rt (d:D) |er (x:Ex) |st
def SK(K:Frag)(EX:XW)(fr:Bool)(Hc Hb:Hp)(De:Ends):SR->Prop
 | .nx ρ=>∀U H H0,RS K Hc Hb H0 ρ U H->De.nx U H
 | .bk ρ=>∀U H H0,RS K Hc Hb H0 ρ U H->De.bk U H
 | .ct ρ=>∀U H H0,RS K Hc Hb H0 ρ U H->De.ct U H
 | .rt d=>∀v H,Out K fr Hc Hb d v H->De.rt v H
 | .er x=>EX.at x
 | .st=>False
noncomputable def TSd(K:Frag)(EX:XW)(fr:Bool)(g:DS->SR):TS:=fun De U H=>∃Hc Hb H0 ρ,Same EX.hb Hb/\RS K Hc Hb H0 ρ U H/\SK K EX fr Hc Hb De (g ρ)
noncomputable def R.toS{α:Type}(r:R α)(k:α->SR):SR:=match r with
 | .ok a=>k a
 | .er x=>.er x
 | .st=>.st
noncomputable def sNx:DS->SR:=fun ρ=>.nx ρ
noncomputable def e9(g1 g2:DS->SR):DS->SR:=fun ρ=>match g1 ρ with
 | .nx ay=>g2 ay
 |r=>r
noncomputable def see(ρ:DS):DE:=ρ.map (Sl.see true)
def sIf(t:DE->R Bool)(g1 g2:DS->SR):DS->SR:=fun ρ=>(t (see ρ)).toS fun b=>if b=true then g1 ρ else g2 ρ
def g7(fr:Bool)(i:Nat)(m:List Bool)(f:DE->R D):DS->SR:=fun ρ=>(f (vis m ρ)).toS fun d=>.nx (N1 fr i d (t6 (keeps fr d) m ρ))
def i5(m:List Bool)(f:DE->R D):DS->SR:=fun ρ=>(f (vis m ρ)).toS fun d=>.rt d
noncomputable def y03:DS->SR:=fun _=>.rt .non
noncomputable def W7(i:Nat):DS->SR:=fun ρ=>match ρ[i]? with
 |some (.ow d)=>.rt d
 |_=>.st
def J5(f:DE->R D):DS->SR:=fun ρ=>(f (see ρ)).toS fun _=>.nx ρ
section
variable {K:Frag}{EX:XW}{fr:Bool}{Hc Hb H0 H H':Hp}{ρ:DS}{U:St}{De:Ends}{m:List Bool}
theorem SK.toS:SK K EX fr Hc Hb De (r.toS k)=Rk EX.at r fun a=>SK K EX fr Hc Hb De (k a):=by cases r<;>rfl
theorem Cg:∀(ρ:DS),vis (List.replicate ρ.length true) ρ=see ρ
 | []=>rfl
 |s::r=>by show s.see true::vis (List.replicate r.length true) r=_;rw[Cg r];rfl
theorem RS.extE(R:RS K Hc Hb H0 ρ U H)(m:List Bool):Ext Hc Hb (HeOf m ρ U H0 H) H:=
 ⟨R.ext.1.trans (R.he0 m),R.heH m,fun a h1 h2=>by
  have hb:¬Msk m ρ U a:=fun z=>h1 (R.msk z).2.1
  rw[Y8 hb];exact R.ext.2.2 a h1 h2⟩
theorem RS.te(I:RS K Hc Hb H0 ρ U H)(sb:Same EX.hb Hb)(h:Rk EX.at (f (vis m ρ)) k)
  (hk:∀d,k d->∀v H' aV,RS K Hc Hb aV (t6 (keeps cE d) m ρ) U H'->Apt K cE Hb aV (t6 (keeps cE d) m ρ) U H' d v->Q v H'):TEd K EX cE f U H Q:=
 ⟨sb.trans I.sb,vis m ρ,HeOf m ρ U H0 H,I.heH m,I.re m,h.mono fun d z v H' o=>by obtain⟨aV,R',a⟩:=I.out o;exact hk d z v H' aV R' a⟩
theorem RS.tt(I:RS K Hc Hb H0 ρ U H)(sb:Same EX.hb Hb)(h:Rk EX.at (f (see ρ)) k)(hk:∀b,k b->∀H',RS K Hc Hb H0 ρ U H'->Q b H'):TTd K EX f U H Q:=by refine⟨sb.trans I.sb,see ρ,HeOf (List.replicate ρ.length true) ρ U H0 H,I.heH _,?_,h.mono fun b z H' s=>hk b z H' (I.grow s)⟩;rw[<-Cg];exact I.re _
theorem y4h(h:TSd K EX fr sNx De U H):Pb De U H:=by obtain⟨Hc,Hb,H0,ρ,sb,R,h⟩:=h;exact h U H H0 R
theorem y04(h:TSd K EX fr (e9 g1 g2) De U H):Yt (TSd K EX fr g1) (TSd K EX fr g2) De U H:=by
 obtain⟨Hc,Hb,H0,ρ,sb,R,h⟩:=h;refine⟨Hc,Hb,H0,ρ,sb,R,?_⟩;unfold e9 at h;cases q:g1 ρ with
 |nx ay=>rw[q]at h;exact fun af H' aa R'=>⟨Hc,Hb,aa,ay,sb,R',h⟩
 |bk ay=>rw[q]at h;exact h
 |ct ay=>rw[q]at h;exact h
 |rt d=>rw[q]at h;exact h
 |er x=>rw[q]at h;exact h
 |st=>rw[q]at h;exact h
theorem y05(h:TSd K EX fr (sIf t g1 g2) De U H):Ys (TTd K EX t) (TSd K EX fr g1) (TSd K EX fr g2) De U H:=by
 obtain⟨Hc,Hb,H0,ρ,sb,R,h⟩:=h;unfold sIf at h;rw[SK.toS]at h;refine R.tt sb h fun b h H' R'=>?_
 cases b with
 |true=>exact⟨Hc,Hb,H0,ρ,sb,R',h⟩
 |false=>exact⟨Hc,Hb,H0,ρ,sb,R',h⟩
theorem Gw(h:TSd K EX fr (g7 cE i m f) De U H):N4 (TEd K EX cE f) (D2 i) De U H:=by obtain⟨Hc,Hb,H0,ρ,sb,R,h⟩:=h;unfold g7 at h;rw[SK.toS]at h;exact R.te sb h fun d h v H' aV R' a=>h _ H' aV (R'.put a i)
theorem y06(h:TSd K EX fr (i5 m f) De U H):Ge (TEd K EX fr f) De U H:=by obtain⟨Hc,Hb,H0,ρ,sb,R,h⟩:=h;unfold i5 at h;rw[SK.toS]at h;exact⟨sb.trans R.sb,vis m ρ,HeOf m ρ U H0 H,R.heH m,R.re m,h.mono fun d z v H' o=>z v H' (o.after R.sb (R.extE m))⟩
theorem kP(h:TSd K EX true (W7 i) De U H):Ge (G9 i) De U H:=by
 obtain⟨Hc,Hb,H0,ρ,sb,R,h⟩:=h;unfold W7 at h;split at h
 . rename_i d q;obtain⟨a,h1,h2,h3,h4⟩:=R.ow i d q;show G9 i U H De.rt;unfold G9;rw[h1];exact h _ H (.fresh R.sb R.ext h3 h2 h4)
 . exact h.elim
theorem kN(h:TSd K EX fr (J5 f) De U H):Dt (TEd K EX false f) De U H:=by obtain⟨Hc,Hb,H0,ρ,sb,R,h⟩:=h;unfold J5 at h;rw[SK.toS]at h;refine⟨sb.trans R.sb,see ρ,HeOf (List.replicate ρ.length true) ρ U H0 H,R.heH _,by rw[<-Cg];exact R.re _,h.mono fun d z v H' o=>?_⟩;exact z U H' H0 (R.grow o.1)
theorem RS.mutate(R:RS K Hc Hb H0 ρ U H)(h:ρ[i]?=some (.ow d))(ha:U[i]?=some (some (.ref a)))(ob:OB K H0 (upd H a o) a d'):RS K Hc Hb H0 (ρ.set i (.ow d')) U (upd H a o):=by
 obtain⟨a',q1,q2,q3,q4⟩:=R.ow i d h;rw[ha]at q1;cases q1;have hi:i<ρ.length:=(NW.mp h).1;have other:∀{j:Nat}{s:Sl},j≠i->(ρ.set i s)[j]?=ρ[j]?:=fun {j s} h=>by rw[OJ (PN h)]
 have here:(ρ.set i (.ow d'))[i]?=some (.ow d'):=by rw[PH hi]
 have sm:∀{H1:Hp},Same H1 H->H1 a=none->Same H1 (upd H a o):=fun s n=>s.upd_at n
 refine⟨sm R.sb q3,⟨R.ext.1,sm R.ext.2.1 q2,R.ext.2.2⟩,by rw[List.length_set];exact R.len,fun j d2 q=>?_,fun j d2 q=>?_,fun j k d1 d2 b z1 z2=>?_⟩
 . have hj:j≠i:=fun z=>by subst z;rw[here]at q;cases q
   rw[other hj]at q;exact R.im j d2 q
 . by_cases hj:j=i
   . subst hj;rw[here]at q;cases q;exact⟨a,ha,q2,q3,ob⟩
   . rw[other hj]at q;obtain⟨b,h1,h2,h3,h4⟩:=R.ow j d2 q;have hb:b≠a:=fun z=>hj (R.ap j i d2 d b q h h1 (by rw[z];exact ha))
     exact⟨b,h1,h2,h3,h4.at (i6 hb)⟩
 . have back:∀{j:Nat}{d1:D},(ρ.set i (.ow d'))[j]?=some (.ow d1)->∃d0,ρ[j]?=some (.ow d0):=fun {j d1} z=>by
    by_cases hj:j=i
    . subst hj;exact⟨d,h⟩
    . rw[other hj]at z;exact⟨_,z⟩
   obtain⟨e1,z1⟩:=back z1
   obtain⟨e2,z2⟩:=back z2
   exact R.ap j k e1 e2 b z1 z2
def Nj(K:Frag)(mt:D->List D->Option D)(r:V->List V->Hp->VK->Prop):Prop:=∀(H0 H:Hp)(a:Addr)(d d':D)(ds:List D)(vs:List V)(Q:VK),Same H0 H->H0 a=none->OB K H0 H a d->RDs K H0 ds vs->mt d ds=some d' ->
 (∀v o,OB K H0 (upd H a o) a d'->Q v (upd H a o))->r (.ref a) vs H Q
noncomputable def isT(T:String):D->Bool
 | .lst _=>T=="list"
 | .dk _ _=>T=="dict"
 | .dt _ _=>T=="dict"
 |_=>false
def TyD(K:Frag)(T:String):Prop:=∀(H0 H:Hp)(a:Addr)(d:D),OB K H0 H a d->isT T d=true->tyV K T (.ref a) H
def P5(T:String)(mt:D->List D->Option D)(i:Nat)(m:List Bool)(fs:DE->R (List D)):DS->SR:=fun ρ=>match ρ[i]? with
 |some (.ow d0)=>if isT T d0=true then(fs (vis m ρ)).toS fun ds=>match (t6 (m8 ds) m ρ)[i]? with
  |some (.ow d)=>(R.of (mt d ds)).toS fun d'=>.nx ((t6 (m8 ds) m ρ).set i (.ow d'))
  |_=>.st
  else .st
 |_=>.st
theorem y08{T:String}{mt:D->List D->Option D}{r:V->List V->Hp->VK->Prop}{i:Nat}{fs:DE->R (List D)}(hm:Nj K mt r)(hT:TyD K T)(h:TSd K EX fr (P5 T mt i m fs) De U H) :
  Dt (tBM K T r (G9 i) (TAd K EX fs)) De U H:=by
 obtain⟨Hc,Hb,H0,ρ,sb,R,h⟩:=h
 unfold P5 at h
 split at h
 . rename_i d0 q0;split at h
   . rename_i gF;rw[SK.toS]at h;obtain⟨a,h1,h2,h3,h4⟩:=R.ow i d0 q0;unfold Dt tBM G9;rw[h1];refine⟨hT H0 H a d0 h4 gF,sb.trans R.sb,vis m ρ,HeOf m ρ U H0 H,R.heH m,R.re m,h.mono fun ds h vs H' aa s e EU=>?_⟩;obtain⟨aV,R',EV⟩:=R.outs s e EU;split at h
     . rename_i d q;rw[SK.toS]at h;obtain⟨d',bW,h⟩:=h.of;obtain⟨a',z1,z2,z3,z4⟩:=R'.ow i d q;rw[h1]at z1;cases z1;exact hm aV H' a d d' ds vs _ R'.ext.2.1 z2 z4 EV bW fun v o ob=>h U _ aV (R'.mutate q h1 ob)
     . exact h.elim
   . exact h.elim
 . exact h.elim
def y09(T:String)(mt:D->List D->Option D)(i:Nat):DS->SR:=fun ρ=>match ρ[i]? with
 |some (.ow d)=>if isT T d=true then(R.of (mt d [])).toS fun d'=>.nx (ρ.set i (.ow d')) else .st
 |_=>.st
def Xv(K:Frag)(st:D->D->D->Option D)(r:Bb):Prop:=∀(H0 H:Hp)(a:Addr)(d d' dk dv:D)(y v:V)(Q:Hp->Prop),Same H0 H->H0 a=none->OB K H0 H a d->RD K H0 dk y->RD K H0 dv v->st d dk dv=some d' ->
 (∀o,OB K H0 (upd H a o) a d'->Q (upd H a o))->r (.ref a) y v H Q
def Bd(st:D->D->D->Option D)(i:Nat)(m:List Bool)(fk fv:DE->R D):DS->SR:=fun ρ=>(fv (vis m ρ)).toS fun dv=>match (t6 (keeps false dv) m ρ)[i]? with
 |some (.ow _)=>(fk (vis m (t6 (keeps false dv) m ρ))).toS fun dk=>(match (t6 (keeps false dk) m (t6 (keeps false dv) m ρ))[i]? with
  |some (.ow d)=>(R.of (st d dk dv)).toS fun d'=>.nx ((t6 (keeps false dk) m (t6 (keeps false dv) m ρ)).set i (.ow d'))
  |_=>.st)
 |_=>.st
theorem Apt.rd(a:Apt K false Hb H0 ρ U H d v):RD K H0 d v:=by unfold Apt at a;rw[ψ η]at a;exact a
end
section
variable {K:Frag}{EX:XW}{fr:Bool}{Hc Hb H0 H H':Hp}{ρ:DS}{U:St}{De:Ends}{m:List Bool}
theorem y0a{st:D->D->D->Option D}{r:Bb}{i:Nat}{fk fv:DE->R D}(hs:Xv K st r)(h:TSd K EX fr (Bd st i m fk fv) De U H) :
  N4 (TEd K EX false fv) (Ga (G9 i) (TEd K EX false fk) r) De U H:=by
 obtain⟨Hc,Hb,H0,ρ,sb,I,h⟩:=h
 unfold Bd at h
 rw[SK.toS]at h
 refine I.te sb h fun dv h v H1 nu I1 a1=>?_
 split at h
 . rename_i d0 q0;rw[SK.toS]at h;obtain⟨a,h1,h2,h3,h4⟩:=I1.ow i d0 q0;unfold Ga G9;rw[h1];refine⟨sb.trans I1.sb,vis m _,HeOf m _ U nu H1,I1.heH m,I1.re m,h.mono fun dk h y H2 o2=>?_⟩;obtain⟨s2,bF,e2,r2⟩:=o2.rd;obtain⟨ny,I2,tk,eq,hn,sub⟩:=I1.frame s2 e2 (keeps false dk);have EW:RD K ny dk y:=by
    cases hk:keeps false dk with
    |true=>exact r2.tk tk (by simpa [keeps] using hk)
    |false=>rw[eq hk];exact r2
   split at h
   . rename_i d q;rw[SK.toS]at h;obtain⟨d',bW,h⟩:=h.of;obtain⟨a',z1,z2,z3,z4⟩:=I2.ow i d q;rw[h1]at z1;cases z1;exact hs ny H2 a d d' dk dv y v _ I2.ext.2.1 z2 z4 EW (a1.rd.mono sub) bW fun o ob=>h U _ ny (I2.mutate q h1 ob)
   . exact h.elim
 . exact h.elim
inductive Tg where
 |n (i:Nat) |t (is:List Nat)
def Js:List Nat->List D->DS->DS
 |i::is,d::ds,ρ=>Js is ds (N1 false i d ρ)
 |_,_,ρ=>ρ
noncomputable def items:D->Option (List D)
 | .tup ds=>some ds
 | .lst ds=>some ds
 |_=>none
def R6:Tg->D->DS->Option DS
 | .n i,d,ρ=>some (N1 false i d ρ)
 | .t is,d,ρ=>(items d).bind fun ds=>if ds.length=is.length then some (Js is ds ρ) else none
def TGd(K:Frag)(tg:Tg):TG:=fun v U H Q=>∃Hc Hb H0 ρ d ay,RS K Hc Hb H0 ρ U H/\RD K H0 d v/\R6 tg d ρ=some ay/\∀af,RS K Hc Hb H0 ay af H->Q af H
theorem RS.putI(I:RS K Hc Hb H0 ρ U H)(r:RD K H0 d v)(i:Nat):RS K Hc Hb H0 (N1 false i d ρ) (U.set i (some v)) H:=
 I.put (fr:=false) (by unfold Apt;rw[ψ η];exact r) i
theorem y4i(h:TGd K (.n i) v U H Q):D2 i v U H Q:=by obtain⟨Hc,Hb,H0,ρ,d,ay,I,r,e,q⟩:=h;simp only[R6,Option.some.injEq]at e;subst e;exact q _ (I.putI r i)
def Ea:List Nat->TGs
 | []=>On
 |i::is=>Qr (D2 i) (Ea is)
theorem Lq:∀(is:List Nat){ds:List D}{xs:List V}{ρ:DS}{U:St}{Q:St->Hp->Prop},RS K Hc Hb H0 ρ U H->RDs K H0 ds xs->ds.length=is.length->(∀af,RS K Hc Hb H0 (Js is ds ρ) af H->Q af H)->Ea is xs U H Q
 | [],[],_,ρ,U,Q,I,r,_,q=>by simp only[RDs]at r;subst r;exact q U I
 | [],_::_,_,_,_,_,_,_,hl,_=>by simp at hl
 |_::_,[],_,_,_,_,_,_,hl,_=>by simp at hl
 |i::is,d::ds,_,ρ,U,Q,I,r,hl,q=>by simp only[RDs]at r;obtain⟨x,xs,rfl,r1,r2⟩:=r;exact Lq is (I.putI r1 i) r2 (by simpa using hl) q
theorem y4j(h:TGd K (.t is) v U H Q):Bm is.length (Ea is) v U H Q:=by
 obtain⟨Hc,Hb,H0,ρ,d,ay,I,r,e,q⟩:=h;simp only[R6]at e;cases d<;>simp only[items,Option.bind_none,Option.bind_some]at e<;>first |cases e |skip
 . rename_i ds;split at e
   . rename_i hl;cases e;simp only[RD]at r;obtain⟨a,xs,rfl,ha,rs⟩:=r;unfold Bm;simp only[I.ext.2.1 a _ ha];exact⟨by rw[<-rs.length];exact hl,Lq is I rs hl q⟩
   . cases e
 . rename_i ds;split at e
   . rename_i hl;cases e;simp only[RD]at r;obtain⟨a,xs,rfl,ha,rs⟩:=r;unfold Bm;simp only[I.ext.2.1 a _ ha];exact⟨by rw[<-rs.length];exact hl,Lq is I rs hl q⟩
   . cases e
def y4k(tg:Tg)(m:List Bool)(f:DE->R D):DS->SR:=fun ρ=>(f (vis m ρ)).toS fun d=>match R6 tg d (t6 (keeps false d) m ρ) with
 |some ay=>.nx ay
 |none=>.st
noncomputable def Hno:Hp:=fun _=>none
def U9(K:Frag)(J:It)(H0:Hp)(ds:List D):Prop:=
 (∀(i:Nat) d,ds[i]?=some d->∀H H1,Same H0 H1->Same H1 H->J.go i H/\∀x H',J.yld i H x H'->Same H H'/\∃aq,Ext H1 H aq H'/\RD K aq d x)/\∀H,Same H0 H->J.stop ds.length H
def TId(K:Frag)(EX:XW)(kp:Bool)(f:DE->R (List D)):TI:=fun U H Q=>Same EX.hb H/\∃ρ H0,Same H0 H/\RE K H0 ρ U/\Rk EX.at (f ρ) fun ds=>∀J H' aa,Same H H'->Ext H0 H aa H'->U9 K J (if kp=true then Hno else aa) ds->Q J H'
def C5(tg:Tg)(g:DS->SR):List D->DS->SR
 | [],ρ=>.nx ρ
 |d::ds,ρ=>match R6 tg d ρ with
  |none=>.st
  |some cq=>match g cq with
   | .nx aB=>C5 tg g ds aB
   | .ct aB=>C5 tg g ds aB
   | .bk aB=>.nx aB
   | .rt d=>.rt d
   | .er x=>.er x
   | .st=>.st
def B7(kp:Bool)(m:List Bool)(f:DE->R (List D))(tg:Tg)(g:DS->SR):DS->SR:=fun ρ=>(f (vis m ρ)).toS fun ds=>C5 tg g ds (t6 kp m ρ)
theorem Ext.base(a:Ext Hc Hb gO H)(b:Ext gO Hb H0 H'):Ext Hc Hb H0 H':=⟨a.1.trans b.1,b.2.1,fun c h1 h2=>b.2.2 c h1 (a.2.2 c h1 h2)⟩
theorem RS.base(a:Ext Hc Hb gO H1)(I:RS K gO Hb H0 ρ U H):RS K Hc Hb H0 ρ U H:=⟨I.sb,a.base I.ext,I.len,I.im,I.ow,I.ap⟩
theorem RS.self(I:RS K Hc Hb H0 ρ U H):RS K H0 Hb H0 ρ U H:=⟨I.sb,⟨Same.refl _,I.ext.2.1,fun _ _ z=>z⟩,I.len,I.im,I.ow,I.ap⟩
theorem Out.base(a:Ext Hc Hb gO H)(o:Out K fr gO Hb d v H'):Out K fr Hc Hb d v H':=by obtain⟨s,aa,e,r⟩:=o;exact⟨s,aa,a.base e,r⟩
theorem RS.sees(I:RS K Hc Hb H0 ρ U H)(s:Same H H')(e:Ext H0 H aq H'):RS K Hc Hb aq ρ U H':=
 ⟨I.sb.trans s,⟨I.ext.1.trans e.1,e.2.1,fun a h1 h2=>e.2.2 a (I.sb.ne h1) (I.ext.2.2 a h1 h2)⟩,I.len,fun i d q=>by
  obtain⟨v,h1,h2⟩:=I.im i d q;exact⟨v,h1,h2.mono e.1⟩,fun i d q=>by
  obtain⟨a,h1,h2,h3,h4⟩:=I.ow i d q;obtain⟨u,hu,_⟩:=h4.some;exact⟨a,h1,e.2.2 a (Ch hu) h2,h3,h4.mono e.1 s⟩,I.ap⟩
theorem y4l(sb:Same EX.hb Hb)(I1:RS K Hc Hb Hn ρ U H1)(fu:U9 K J Hn ds)(h:SK K EX fr Hc Hb De (C5 tg g ds ρ)):Yc J (TGd K tg) (TSd K EX fr g) De U H1:=by
 have nz:Ext Hc Hb Hn H1:=I1.ext;refine⟨fun i mm U H=>mm=ds.length - i/\i<=ds.length/\∃ρ H0,RS K Hn Hb H0 ρ U H/\SK K EX fr Hc Hb De (C5 tg g (ds.drop i) ρ),⟨ds.length,by simp,OI _,_,Hn,I1.self,h⟩,?_⟩;rintro i mm U H ⟨rfl,hi,ρ,H0,I2,h⟩;have sn:Same Hn H0:=I2.ext.1;by_cases aD:i<ds.length
 . have hd:ds[i]?=some ds[i]:=by simp[aD]
   obtain⟨nA,hy⟩:=fu.1 i _ hd H H0 sn I2.ext.2.1;have nB:ds.drop i=ds[i]::ds.drop (i+1):=PU aD;rw[nB]at h;refine .inr ⟨nA,fun af H'=>∃ay aa,RS K Hn Hb aa ay af H'/\SK K EX fr Hc Hb De (C5 tg g (ds.drop (i+1)) ay),fun af H' ⟨ay,aa,q⟩=>⟨ds.length - (i+1),by omega,rfl,aD,ay,aa,q⟩,fun x H' y=>?_⟩;obtain⟨s3,H3,e3,r3⟩:=hy x H' y;have I3:=I2.sees s3 e3;unfold C5 at h;split at h
   . exact h.elim
   . rename_i cq q1;refine⟨Hn,Hb,H3,ρ,ds[i],cq,I3,r3,q1,fun af I4=>⟨Hn,Hb,H3,cq,sb,I4,?_⟩⟩;cases qg:g cq with
     |nx aB=>rw[qg]at h;exact fun fw H5 dy I5=>⟨aB,dy,I5,h⟩
     |ct aB=>rw[qg]at h;exact fun fw H5 dy I5=>⟨aB,dy,I5,h⟩
     |bk aB=>rw[qg]at h;exact fun fw H5 dy I5=>h fw H5 dy (I5.base nz)
     |rt d=>rw[qg]at h;exact fun v H5 o=>h v H5 (o.base nz)
     |er x=>rw[qg]at h;exact h
     |st=>rw[qg]at h;exact h
 . have e:i=ds.length:=by omega
   subst e;rw[List.drop_length]at h;refine .inl ⟨fu.2 H (sn.trans I2.ext.2.1),?_⟩;exact h U H H0 (I2.base nz)
theorem y0b(h:TSd K EX fr (B7 kp m f tg g) De U H):Op (TId K EX kp f) (TGd K tg) (TSd K EX fr g) De U H:=by
 obtain⟨Hc,Hb,H0,ρ,sb,I,h⟩:=h;unfold B7 at h;rw[SK.toS]at h;refine⟨sb.trans I.sb,vis m ρ,HeOf m ρ U H0 H,I.heH m,I.re m,h.mono fun ds h J H1 aq s1 e1 it=>?_⟩;obtain⟨Hn,I1,tk,eq,hn,sub⟩:=I.frame s1 e1 kp;have fu:U9 K J Hn ds:=by
  cases kp with
  |true=>
   rw[ξ rfl]at it
   exact⟨fun i d q H H1 a b=>it.1 i d q H H1 (fun _ _ z=>nomatch z) b,fun H a=>it.2 H fun _ _ z=>nomatch z⟩
  |false=>rw[ψ η,<-eq rfl]at it;exact it
 exact y4l sb I1 fu h
def X3(t:DE->R Bool)(g:DS->SR):Nat->DS->SR
 | 0,_=>.st
 |n+1,ρ=>(t (see ρ)).toS fun b=>if b=true then(match g ρ with
  | .nx aB=>X3 t g n aB
  | .ct aB=>X3 t g n aB
  | .bk aB=>.nx aB
  | .rt d=>.rt d
  | .er x=>.er x
  | .st=>.st) else .nx ρ
def Bs(n:Nat)(t:DE->R Bool)(g:DS->SR):DS->SR:=X3 t g n
theorem vU(h:TSd K EX fr (Bs n t g) De U H):Qx (TTd K EX t) (TSd K EX fr g) De U H:=by
 obtain⟨Hc,Hb,H0,ρ,sb,I,h⟩:=h;refine⟨fun mm U H=>∃ρ H0,RS K Hc Hb H0 ρ U H/\SK K EX fr Hc Hb De (X3 t g mm ρ),⟨n,ρ,H0,I,h⟩,?_⟩;rintro mm U H ⟨ρ,H0,I,h⟩;cases mm with
 |zero=>exact h.elim
 |succ mm=>
  unfold X3 at h
  rw[SK.toS]at h
  refine I.tt sb h fun b h H' I'=>?_
  cases b with
  |false=>exact h U H' H0 I'
  |true=>
   rw[ξ rfl]at h⊢
   refine⟨fun af H'=>∃ay aa,RS K Hc Hb aa ay af H'/\SK K EX fr Hc Hb De (X3 t g mm ay),fun af H' q=>⟨mm,Nat.lt_succ_self _,q⟩,Hc,Hb,H0,ρ,sb,I',?_⟩
   cases qg:g ρ with
   |nx aB=>rw[qg]at h;exact fun fw H5 dy I5=>⟨aB,dy,I5,h⟩
   |ct aB=>rw[qg]at h;exact fun fw H5 dy I5=>⟨aB,dy,I5,h⟩
   |bk aB=>rw[qg]at h;exact fun fw H5 dy I5=>h fw H5 dy I5
   |rt d=>rw[qg]at h;exact fun v H5 o=>h v H5 o
   |er x=>rw[qg]at h;exact h
   |st=>rw[qg]at h;exact h
noncomputable def R.noE{α:Type}(r:R α):R α:=match r with
 | .er _=>.st
 |r=>r
theorem Rk.noE{α:Type}{EX iG:Ex->Prop}{r:R α}{k:α->Prop}(h:Rk EX r.noE k):Rk iG r k:=by
 cases r with
 |ok a=>exact h
 |er x=>exact h.elim
 |st=>exact h
def BD(K:Frag)(bn:D->Option (List D))(B:V->Hp->(List V->Hp->Prop)->Prop):Prop:=∀(H0 H:Hp)(x:V)(d:D)(ds:List D)(Q:List V->Hp->Prop),Same H0 H->RD K H0 d x->bn d=some ds->(∀vs,RDs K H0 ds vs->Q vs H)->B x H Q
noncomputable def b1:D->Option (List D):=fun d=>some [d]
noncomputable def bT(n:Nat):D->Option (List D)
 | .tup ds=>if ds.length=n then some ds else none
 |_=>none
theorem Xu:BD K b1 cB1:=fun H0 H x d ds Q s r e q=>by simp only[b1,Option.some.injEq]at e;subst e;exact q [x] (.one r)
theorem Xs:BD K (bT n) (cBT n):=fun H0 H x d ds Q s r e q=>by
 cases d<;>simp only[bT]at e<;>first |cases e |skip
 rename_i es;split at e
 . rename_i hl;cases e;simp only[RD]at r;obtain⟨a,xs,rfl,ha,rs⟩:=r;unfold cBT;simp only[s a _ ha];exact⟨by rw[<-rs.length];exact hl,q xs rs⟩
 . cases e
noncomputable def sel(ix:List Nat)(ρ:DE):DE:=ix.map fun j=>(ρ[j]?).getD none
def J3(bn:D->Option (List D))(t:DE->R Bool)(f:DE->R D)(cs:DE):List D->R (List D)
 | []=>.ok []
 |d::ds=>(R.of (bn d)).bind fun bs=>(t (bs.map some++cs)).noE.bind fun b=>if b=true then(f (bs.map some++cs)).noE.bind fun y=>(J3 bn t f cs ds).bind fun ys=>.ok (y::ys) else J3 bn t f cs ds
def o6(fi:DE->R (List D))(bn:D->Option (List D))(ix:List Nat)(t:DE->R Bool)(f:DE->R D):DE->R D:=fun ρ=>(fi ρ).bind fun ds=>if ds.length<=100000 then(J3 bn t f (sel ix ρ) ds).bind fun ys=>.ok (.lst ys) else .st
theorem RE.sel{ρ:DE}{vs:List V}{ds:List D}(h:RE K H0 ρ U)(r:RDs K H0 ds vs)(ix:List Nat):RE K H0 (ds.map some++sel ix ρ) (vs.map some++K5 ix U):=by
 have hl:=r.length;refine⟨by simp[L2.sel,K5,hl],fun i d e=>?_⟩;by_cases hi:i<ds.length
 . rw[PQ (by simpa using hi),NS]at e;rw[PQ (by simpa [<-hl] using hi),NS];cases q:ds[i]? with
   |none=>rw[q]at e;cases e
   |some d'=>
    rw[q]at e;cases e
    obtain⟨x,h1,h2⟩:=r.get' q
    exact⟨x,by rw[h1];rfl,h2⟩
 . rw[PJ (by simpa using hi)]at e;rw[PJ (by simpa [<-hl] using hi)];simp only[oQ]at e⊢;rw[<-hl];unfold L2.sel at e;unfold K5;rw[NS]at e⊢;cases q:ix[i - ds.length]? with
   |none=>rw[q]at e;cases e
   |some j=>
    rw[q]at e
    simp only[NV,Option.some.injEq]at e⊢
    cases qj:ρ[j]? with
    |none=>rw[qj]at e;cases e
    |some o=>
     rw[qj]at e
     simp only[TH]at e
     subst e
     obtain⟨v,h1,h2⟩:=h.2 j d qj
     exact⟨v,by rw[h1];rfl,h2⟩
theorem Fh(h:n<100000):n<sizeLine:=NH h (by decide)
theorem vT(hW:Same W.hb EX.hb)(hB:BD K bn B)(nC:∀U H Q,TTd K F0 t U H Q->tt U H Q)
  (h:TEd K EX true (o6 fi bn ix t f) U H Q):Q1 (TId K EX kp fi) B ix tt (TEd K W false f) U H Q:=by
 obtain⟨sx,ρ,H0,s,e,h⟩:=h
 unfold o6 at h
 rw[Rk.bind]at h
 refine⟨sx,ρ,H0,s,e,h.mono fun ds h J H1 aq s1 e1 it D hD=>?_⟩
 split at h
 . rename_i hsz;rw[Rk.bind]at h;have fu:U9 K J aq ds:=by
    cases kp with
    |true=>rw[ξ rfl]at it;exact⟨fun i d q H H1 a b=>it.1 i d q H H1 (fun _ _ z=>nomatch z) b,fun H a=>it.2 H fun _ _ z=>nomatch z⟩
    |false=>rw[ψ η]at it;exact it
   have e':=e.mono e1.1;have EY:aq D=none:=e1.2.1.none hD;refine⟨fun i mm ys H2=>mm=ds.length - i/\i<=ds.length/\ys.length<=i/\∃acc bF,Same H1 H2/\H2 D=some (.lst ys)/\Ext aq H1 bF H2/\bF D=none/\RDs K bF acc ys /\
    Rk EX.at (J3 bn t f (L2.sel ix ρ) (ds.drop i)) fun rest=>∀v H',Out K true H0 H (.lst (acc++rest)) v H'->Q v H',⟨ds.length,by simp,OI _,ζ _,[],aq,Same.upd_new hD,t9,(Ext.refl e1.2.1).grow (Same.upd_new hD),EY,.nil,h⟩,?_⟩
   rintro i mm ys H2 ⟨rfl,hi,fR,acc,bF,s2,dZ,e2,lH,r2,h⟩;refine⟨dZ,?_⟩;by_cases aD:i<ds.length
   . have hd:ds[i]?=some ds[i]:=by simp[aD]
     obtain⟨nA,hy⟩:=fu.1 i _ hd H2 bF e2.1 e2.2.1;have nB:ds.drop i=ds[i]::ds.drop (i+1):=PU aD;rw[nB]at h;unfold J3 at h;rw[Rk.bind]at h;obtain⟨bs,EZ,h⟩:=h.of;rw[Rk.bind]at h;refine .inr ⟨nA,fun x H3 y=>?_⟩;obtain⟨s3,dw,e3,r3⟩:=hy x H3 y;refine hB dw H3 x _ bs _ e3.2.1 r3 EZ fun vs FA=>?_
     have en:=(e'.mono (e2.1.trans e3.1)).sel FA ix;have FC:=e2.trans s2 e3;refine nC _ _ _ ⟨F0.same _,_,dw,e3.2.1,en,(Rk.noE h).mono fun b h H4 s4=>?_⟩;have iH:=s2.trans (s3.trans s4);have nD:H4 D=some (.lst ys):=s4 _ _ (s3 _ _ dZ);have lJ:dw D=none:=e3.2.2 D (Ch dZ) lH;have nE:Ext aq H1 dw H4:=FC.grow s4;cases b with
     |false=>
      rw[ψ η]at h
      dsimp only
      rw[ψ η]
      exact⟨ds.length - (i+1),by lia,rfl,aD,by lia,acc,dw,iH,nD,nE,lJ,r2.mono e3.1,h⟩
     |true=>
      rw[ξ rfl]at h
      dsimp only
      rw[ξ rfl]
      rw[Rk.bind]at h
      refine⟨hW.trans (sx.trans (s1.trans iH)),_,dw,nE.2.1,en,(Rk.noE h).mono fun y h w H5 o5=>?_⟩
      obtain⟨s5,AN,e5,r5⟩:=o5.rd
      have FD:H5 D=some (.lst ys):=s5 _ _ nD
      have lK:AN D=none:=e5.2.2 D (Ch nD) lJ
      have nF:=nE.trans iH e5
      rw[Rk.bind]at h
      refine⟨FD,Fh (by lia),ds.length - (i+1),by lia,rfl,aD,by rw[θ];show ys.length+1<=i+1;lia,acc++[y],AN,(iH.trans s5).upd_at hD,t9,⟨nF.1,nF.2.1.upd_at lK,nF.2.2⟩,lK,((r2.mono (e3.1.trans e5.1))).append (.one r5),?_⟩
      exact h.mono fun rest h v H' o=>h v H' (by simpa using o)
   . have ei:i=ds.length:=by lia
     subst ei;rw[List.drop_length]at h;refine .inl ⟨fu.2 H2 (e2.1.trans e2.2.1),h _ H2 ?_⟩;rw[RZ];refine Out.after s1 e1 (.fresh s2 e2 hD lH ?_);simp only[OB];exact⟨ys,dZ,r2⟩
 . exact h.elim
theorem Dz(hB:BD K bn B)(nC:∀U H Q,TTd K F0 t U H Q->tt U H Q)
 (h:TEd K EX true (o6 fi bn ix t f) U H Q):Q1 (TId K EX kp fi) B ix tt (TEd K F0 false f) U H Q:=vT (F0.same _) hB nC h
noncomputable def mOf(fr:Bool)(n k:Nat)(g:DS->SR):List D->R D:=fun ds=>if ds.length=n then(match g (ds.map .im++List.replicate k .em) with
 | .rt d=>.ok d
 | .nx _=>if fr=true then .st else .ok .non
 | .er x=>.er x
 |_=>.st) else .st
def XFs(K:Frag)(x:Ex)(od:Option Addr)(H:Hp):Prop:=x.fs=[]\/∃(dx:Addr)(ns:List Int)(ob:Obj),od=some dx/\H dx=some (.frz ob (.xd ((Fw x.cls).zip (ns.map V.int))))/\x.fs=ns.map D.int
def xNm(K:Frag)(mg:Str->Option Value)(E:XK)(x:Ex)(H:Hp):Prop:=∃C,mg (x.cls:Str)=some (.ref C)/\∀od,XFs K x od H->E (.ref C) od H
noncomputable def spD(K:Frag)(mg:Str->Option Value)(fr:Bool)(m:List D->R D)(n:Nat):Sp:=fun vs H Q E=>∃ds H0,Same H0 H/\RDs K H0 ds vs/\ds.length=n/\Rk (XW.at ⟨H,xNm K mg E⟩) (m ds) fun d=>∀v H',Out K fr H0 H d v H'->Q v H'
noncomputable def Jo(sp:Sp)(E:XK)(t:TA):TE:=fun U H Q=>t U H fun vs H1=>sp vs H1 Q E
theorem Qo{mg:Str->Option Value}{E:XK}{m:List D->R D}{n:Nat}{fs:DE->R (List D)}{Q:VK}(hl:∀ds,ds.length≠n->m ds=.st)(hE:∀x H,EX.p x H->xNm K mg E x H)(h:TEd K EX fr (g6 m fs) U H Q):Jo (spD K mg fr m n) E (TAd K EX fs) U H Q:=by
 obtain⟨sx,ρ,H0,s,e,h⟩:=h;unfold g6 at h;rw[Rk.bind]at h;refine TAd.go sx s e h fun ds h vs H1 aq s1 e1 r1=>?_
 refine⟨ds,aq,e1.2.1,r1,?_,?_⟩
 . apply OH;intro hn;rw[hl ds hn]at h;exact h
 . cases q:m ds with
   |ok d=>rw[q]at h;exact fun v H' o=>h v H' (o.after s1 e1)
   |er x=>rw[q]at h;exact fun H' s'=>hE x H' (h H' ((sx.trans s1).trans s'))
   |st=>rw[q]at h;exact h
theorem Kl(ds:List D)(h:ds.length≠n):mOf fr n k g ds=.st:=by unfold mOf;rw[ψ h]
theorem xN(s:Same H0 H)(r:RDs K H0 ds vs)(k:Nat):RS K H0 H H0 (ds.map .im++List.replicate k .em) (vs.map some++List.replicate k none) H:=by
 have hl:=r.length;have lL:∀(i:Nat) d,(ds.map Sl.im++List.replicate k Sl.em)[i]?≠some (.ow d):=fun i d q=>by
  rcases OF.mp (OR q) with z |z
  . obtain⟨_,_,z⟩:=OO.mp z;cases z
  . have:=(List.mem_replicate.mp z).2;cases this
 refine⟨Same.refl _,.refl s,by simp[hl],fun i d q=>?_,fun i d q=>absurd q (lL i d),fun i j d e a q=>absurd q (lL i d)⟩;by_cases hi:i<ds.length
 . rw[PQ (by simpa using hi),NS]at q;rw[PQ (by simpa [<-hl] using hi),NS];cases qd:ds[i]? with
   |none=>rw[qd]at q;cases q
   |some d'=>
    rw[qd]at q
    simp only[NV,Option.some.injEq,Sl.im.injEq]at q
    subst q
    obtain⟨x,h1,h2⟩:=r.get' qd
    exact⟨x,by rw[h1];rfl,h2⟩
 . rw[PJ (by simpa using hi)]at q;have:=(List.mem_replicate.mp (OR q)).2;cases this
theorem Qn(h:spD K mg fr (mOf fr n k g) n vs H Q E) :
  TSd K ⟨H,xNm K mg E⟩ fr g { nx:=fun _ H'=>Q .non H',rt:=Q } (vs.map some++List.replicate k none) H:=by
 obtain⟨ds,H0,s,r,hn,h⟩:=h
 refine⟨H0,H,H0,_,Same.refl _,xN s r k,?_⟩
 unfold mOf at h
 rw[ξ hn]at h
 cases q:g (ds.map .im++List.replicate k .em) with
 |nx ρ=>
  rw[q]at h
  cases fr with
  |true=>exact h.elim
  |false=>exact fun U H' aa I=>h _ H' (.val I.sb I.ext (by simp only[RD]))
 |rt d=>rw[q]at h;exact h
 |er x=>rw[q]at h;exact h
 |bk ρ=>rw[q]at h;exact h.elim
 |ct ρ=>rw[q]at h;exact h.elim
 |st=>rw[q]at h;exact h.elim
end
structure Flt{α:Type}(t:Sem α):Prop where
 go:∀{M:Model}{Γ:PySem.Ctx}{Q Q':α->Pos->Shared->Prop}{E E':Value->Pos->Shared->Prop}{p:Pos}{s:Shared},
 t.wp M Γ Q E p s->t.wp M Γ Q' E' p s->t.wp M Γ (fun a p s=>Q a p s/\Q' a p s) (fun a p s=>E a p s/\E' a p s) p s
theorem Flt.bind(h:Flt t)(k:∀a,Flt (f a)):Flt (t >>= f):=by refine⟨fun x y=>?_⟩;rw[Sem.wp_bind']at x y⊢;exact Sem.wp_mono _ _ _ (fun a _ _ z=>(k a).go z.1 z.2) (fun _ _ _ z=>z) _ _ (h.go x y)
theorem Flt.pure(a:α):Flt (Pure.pure a:Sem α):=⟨fun x y=>⟨x,y⟩⟩
theorem Flt.uns(w:String):Flt (unsupported w:Sem α):=⟨fun x _=>x.elim⟩
theorem Flt.stack:Flt PySem.stack:=⟨fun x y=>⟨x,y⟩⟩
theorem Flt.alloc(o:Obj):Flt (PySem.alloc o):=⟨fun x y=>⟨x,y⟩⟩
theorem Flt.update(a:Addr)(f:Obj->Obj):Flt (PySem.update a f):=⟨fun x y=>⟨x.1,x.2,y.2⟩⟩
theorem Flt.load(a:Addr):Flt (PySem.load a):=⟨fun⟨o,e,x⟩ ⟨o',e',y⟩=>by rw[e]at e';cases e';exact⟨o,e,x,y⟩⟩
theorem Flt.cells(v:Value):Flt (fieldsOf v):=by cases v<;>first |exact .uns _ |exact .bind (.load _) fun o=>by split<;>first |exact .pure _ |exact .uns _
theorem Flt.field(v:Value)(i:Nat):Flt (PySem.field v i):=.bind (.cells v) fun vs=>by split<;>first |exact .pure _ |exact .uns _
theorem Flt.put(v:Value)(i:Nat)(x:Value):Flt (setField v i x):=by cases v<;>first |exact .uns _ |exact .bind (.load _) fun o=>by split<;>first |exact .uns _ | (split<;>first |exact .update _ _ |exact .uns _)
theorem Flt.flight(e:Value)(f:Option Addr):Flt (setFlight e f):=.bind (.field e 1) fun tb=>by split<;>first |exact .put _ _ _ |exact .pure _
theorem Flt.ready:∀l:List Env,Flt (readyFrames l)
 | []=>.pure _
 |env::outer=>by
  unfold readyFrames;split<;>first |exact .uns _ |skip
  refine .bind (.load _) fun o=>?_
  split<;>first |exact .pure _ |skip
  refine .bind ?_ fun b=>.bind ?_ fun v=>.bind (.update _ _) fun _=>Flt.ready outer
  . unfold behindIsImport;split<;>first |exact .pure _ |skip
    split<;>first |exact .pure _ |exact .bind (.field _ _) fun _=>.pure _
  . unfold keptBack;split<;>first |exact .pure _ |skip
    split<;>first |exact .pure _ |exact .bind (.bind .stack fun _=>.pure _) fun _=>.pure _
theorem Flt.frame(env:Env):Flt (frameOf env):=.bind (.bind .stack fun _=>.pure _) fun es=>.bind (by
 unfold frameObject;split
 . exact .pure _
 . exact .bind (.ready _) fun _=>.pure _) fun f=>by split<;>first |exact .pure _ |exact .uns _
theorem Flt.fields(vs:List Value):Flt (newFields "traceback" vs):=by
 have h:Flt (newObjAsIs (.type "traceback") (.fields vs.toArray)):=.bind (.alloc _) fun a=>.pure _
 unfold newFields newObj;dsimp only;split
 . exact .bind (.uns _) fun _=>h
 . exact h
theorem Flt.entry(env:Env)(e head:Value)(L:Addr)(b:Bool):Flt (do let a <-frameOf env;let pl <-entryPlaceOf L b;let b <-EntryCells.newEntry head a .none (rawInt L) .none pl;setField e 1 b):=
 .bind (.frame env) fun _=>.bind (.bind .stack fun LH=>by split<;>exact .pure _) fun _=>.bind (.fields _) fun _=>.put _ _ _
theorem Flt.note(e:Value)(env:Env):Flt (noteFrame e env):=by
 unfold noteFrame;split<;>first |exact .uns _ |skip
 refine .bind (.field _ _) fun head=>?_
 split
 . refine .bind (.field _ _) fun x=>?_
   split
   . exact .pure _
   . exact .bind (.put _ _ _) fun _=>.entry _ _ _ _ _
 . exact .entry _ _ _ _ _
theorem Fl(f:Flt t)(h:wpAny M A t Q E s)(k:wpAny M A t Q' E' s):wpAny M A t (fun a s=>Q a s/\Q' a s) (fun a s=>E a s/\E' a s) s:=
 fun Γ p AO=>f.go (h Γ p AO) (k Γ p AO)
section
variable {M:Model}{A:Around}{E:Value->Shared->Prop}{s:Shared}{base:Heap}{env:Env}{outer:List Env}{L e:Addr}{cls a0 fl:Value}{od:Option Addr}
def w6(e:Addr)(od:Option Addr)(h:Heap):Prop:=∀o,h.get? e=some o->o.dict=od
theorem xM(o:Obj)(f:Array Value->Array Value):(Obj.mapFields f o).dict=o.dict:=by unfold Obj.mapFields;split<;>rfl
theorem Lf(d:w6 e od h)(hb:∃o,h.get? b=some o/\∃vs,o.data=.fields vs):w6 e od (h.update b (Obj.mapFields f)):=by
 intro o ho;by_cases q:b=e
 . subst q;obtain⟨ob,h1,vs,h2⟩:=hb;rw[OZ _ h1 (Obj.isFreed_of_fields (Obj.data_mapFields h2 f))]at ho;cases ho;rw[xM];exact d _ h1
 . rw[OK _ _ q]at ho;exact d o ho
theorem Sz(T:Addr):(Value.ref T != Value.none)=true:=by simp
theorem kM(L:Addr):(Value.none==rawInt L)=false:=by simp[rawInt]
theorem Wl(ht:s.heap.TracedAtW base e cls a0 fl)(d:w6 e od s.heap):wpAny M A (setFlight (.ref e) none) (fun _ s'=>w6 e od s'.heap) E s:=by obtain⟨oe,vs,T,oT,ts,he,-,hd,h1,-,-,hT,bK,h3⟩:=ht;have nG:=(NY.mp h3).1;unfold setFlight;exact χ (wpAny_field he hd h1 (by rw[ξ (Sz T)];exact wpAny_setField hT bK nG (Lf d ⟨_,hT,_,bK⟩)))
theorem Wc(bE:A.frames=some (env::outer))(hl:s.heap.FunFrames base (env::outer))(hf:env.frame=some L)(he:s.heap.get? e=some oe)(hd:oe.data=.fields vs)(hsz:1<vs.size)(d:w6 e od s.heap) :
  wpAny M A (do let a <-frameOf env;let pl <-entryPlaceOf L oP;let b <-EntryCells.newEntry head a .none (rawInt L) .none pl;setField (.ref e) 1 b) (fun _ s'=>w6 e od s'.heap) E s:=by
 have nf:e∉(env::outer).filterMap (·.frame):=fun hm=>by obtain⟨_,o,ho,FE⟩:=hl.mem hm;rw[he]at ho;cases ho;exact FE vs hd
 refine χ (wpAny_frameOf_fun bE hl hf fun h1 hs=>χ (wpAny_entryPlaceOf fun pl hpl=>?_))
 unfold EntryCells.newEntry newFields
 refine χ (QZ ?_ (hpl.sizeOk5 _ _ _ _ _))
 have FF:h1.get? e=some oe:=(hs.2.1 e nf).trans he
 have ef:=Ψ (h:=h1) { cls:=.type "traceback",dict:=none,data:=.fields ([head,.ref L,.none,rawInt L,.none]++(if pl.isEmpty then List.replicate 6 Value.none else pl)).toArray } FF
 refine wpAny_setField ef hd hsz (Lf (fun o ho=>?_) ⟨_,ef,_,hd⟩)
 rw[ef]at ho;cases ho
 exact d _ he
theorem yB(bE:A.frames=some (env::outer))(hl:s.heap.FunFrames base (env::outer))(hf:env.frame=some L)(ht:s.heap.TracedW base e cls a0)(d:w6 e od s.heap) :
  wpAny M A (noteFrame (.ref e) env) (fun _ s'=>w6 e od s'.heap) E s:=by
 obtain⟨oe,vs,T,oT,ts,he,-,hd,h1,-,fx,hT,bK,h3⟩:=ht
 have in1:=(NY.mp h1).1
 have nG:=(NY.mp h3).1
 have AQ:∀b,T≠b->(s.heap.update T (Obj.mapFields (·.setIfInBounds 3 Value.none))).get? b=s.heap.get? b:=fun b hb=>OK _ _ hb
 have fr:(s.heap.update T (Obj.mapFields (·.setIfInBounds 3 Value.none))).FunFrames base (env::outer):=hl.of_keeps fun b o hb nf=>⟨o,(AQ b fun z=>by rw[<-z,hT]at hb;cases hb;exact nf ts bK).trans hb,rfl⟩
 unfold noteFrame
 simp only[hf]
 exact χ (wpAny_field he hd h1 (by rw[ξ (Sz T)];exact χ (wpAny_field hT bK h3 (by rw[ψ (by rw[kM];exact η)];exact χ (wpAny_setField hT bK nG (Wc bE fr hf ((AQ e fx).trans he) hd in1 (Lf d ⟨_,hT,_,bK⟩)))))))
end
section
variable {M:Model}{A:Around}{E:Value->Shared->Prop}{s:Shared}{base:Heap}{env:Env}{outer:List Env}{L e:Addr}{cls a0:Value}{od:Option Addr}{Q:Unit->Shared->Prop}
theorem Kk(hh:Heap.HeldW base (env::outer) e cls a0 L s.heap)(d:w6 e od s.heap)(hQ:∀h',Heap.FlyingW base (env::outer) e cls a0 h'->s.heap.UpToSlots h'->w6 e od h'->Q () { s with heap:=h' }):wpAny M A (setFlight (.ref e) none) Q E s:=
 OG (Fl (E:=E) (E':=E) (.flight _ _) (wpAny_landsW hh (Q:=fun _ s'=>∃h',s'={ s with heap:=h' }/\Heap.FlyingW base (env::outer) e cls a0 h'/\s.heap.UpToSlots h') fun h' f u=>⟨h',rfl,f,u⟩) (Wl hh.2.2.2 d))
  (fun _ s' ⟨⟨h',e1,f,u⟩,d'⟩=>by subst e1;exact hQ h' f u d') fun _ _ z=>z.1
theorem Sy(bE:A.frames=some (env::outer))(hf:env.frame=some L)(bL:Heap.FlyingW base (env::outer) e cls a0 s.heap)(d:w6 e od s.heap)
  (hQ:∀h',Heap.HeldW base (env::outer) e cls a0 L h'->s.heap.UpToSlots h'->w6 e od h'->Q () { s with heap:=h' }):wpAny M A (noteFrame (.ref e) env) Q E s:=
 OG (Fl (E:=E) (E':=E) (.note _ _) (wpAny_looks_onW bE hf bL (Q:=fun _ s'=>∃h',s'={ s with heap:=h' }/\Heap.HeldW base (env::outer) e cls a0 L h'/\s.heap.UpToSlots h') fun h' f u=>⟨h',rfl,f,u⟩) (yB bE bL.2.2.1 hf bL.2.2.2 d))
  (fun _ s' ⟨⟨h',e1,f,u⟩,d'⟩=>by subst e1;exact hQ h' f u d') fun _ _ z=>z.1
theorem xL(bE:A.frames=some (env::outer))(hf:env.frame=some L)(bL:Heap.FlyingW base (env::outer) e cls a0 s.heap)(d:w6 e od s.heap)
  (hQ:∀h',Heap.FlyingW base outer e cls a0 h'->s.heap.UpToSlots h'->w6 e od h'->Q () { s with heap:=h' }):wpAny M A (leaving env (.ref e)) Q E s:=by
 unfold leaving
 refine χ (Sy bE hf bL d fun h1 hh u1 d1=>Kk (s:={ s with heap:=h1 }) hh d1 fun h2 f u2 d2=>hQ h2 ?_ (u1.trans u2) d2)
 obtain⟨k1,k2,⟨_,_,k3⟩,k4⟩:=f
 exact⟨k1,k2,k3,k4⟩
theorem vS(bE:A.frames=some (env::outer))(hl:s.heap.FunFrames base (env::outer))(hf:env.frame=some L)(he:s.heap.get? e=some oe)(FG:base.StaysIn s.heap)(AR:base.get? e=none)(hd:oe.data=.fields vs)(h1:vs[1]?=some .none)(h0:vs[0]?=some a0)(d:w6 e od s.heap)
  (hQ:∀h',Heap.FlyingW base outer e oe.cls a0 h'->s.heap.UpToSlots h'->w6 e od h'->Q () { s with heap:=h' }):wpAny M A (leaving env (.ref e)) Q E s:=by
 have hsz:=(NY.mp h1).1
 unfold leaving noteFrame
 simp only[hf]
 refine χ (χ (wpAny_field he hd h1 ?_))
 rw[ψ (by decide)]
 refine OG (Fl (E:=E) (E':=E) (.entry _ _ _ _ _) (wpAny_entryW bE hl hf he FG AR hd hsz h0 (Q:=fun _ s'=>∃h',s'={ s with heap:=h' }/\Heap.NotedW base (env::outer) e oe.cls a0 (rawInt L) s.heap h') fun h' n=>⟨h',rfl,n⟩) (Wc bE hl hf he hd hsz d)) (fun _ s' z=>?_) fun _ _ z=>z.1
 obtain⟨⟨h',e1,n1,n2,n3,n4⟩,d1⟩:=z
 subst e1
 refine Kk (s:={ s with heap:=h' }) ⟨n1,AR,n2,n3⟩ d1 fun h2 f u2 d2=>hQ h2 ?_ (Heap.UpToSlots.trans n4 u2) d2
 obtain⟨k1,k2,⟨_,_,k3⟩,k4⟩:=f
 exact⟨k1,k2,k3,k4⟩
end
theorem ObjOk.there(x:ObjOk P w H h a o):∃ob,h.get? a=some ob:=by
 induction o with
 |lst xs=>obtain⟨_,_,_,_,e⟩:=x;exact⟨_,e⟩
 |tup xs=>obtain⟨_,_,_,ob,e,_⟩:=x;exact⟨_,e⟩
 |dK kvs=>obtain⟨_,_,_,_,o,_,_,e,_⟩:=x;exact⟨_,e⟩
 |dT kvs=>obtain⟨_,_,_,_,o,_,_,e,_⟩:=x;exact⟨_,e⟩
 |set S n=>obtain⟨o,_,_,_,e,_⟩:=x;exact⟨_,e⟩
 |ins C dx fs=>obtain⟨_,_,_,e,_⟩:=x;exact⟨_,e⟩
 |own y=>exact x
 |xd fs=>obtain⟨_,⟨_,_,_,e,_⟩,_⟩:=x;exact⟨_,e⟩
 |rng lo hi=>obtain⟨_,_,_,e⟩:=x;exact⟨_,e⟩
 |frz ob u ih=>exact⟨_,x.1⟩
 |tbl ps=>exact⟨_,x⟩
 |ctb q=>obtain⟨_,e,_⟩:=x;exact⟨_,e⟩
 |met f y=>exact⟨_,x⟩
 |ext φ=>exact x.2.1
theorem HOk.none(x:HOk P w H h)(e:h.get? a=Option.none):H a=Option.none:=by
 cases q:H a with
 |none=>rfl
 |some o=>
  obtain⟨ob,z⟩:=(x a o q).there
  rw[e]at z;cases z
def Fly(h0:Heap)(H':Hp)(C a:Addr)(od:Option Addr)(h:Heap):Prop:=∃oe vs T oT ts a0,h.get? a=some oe/\oe.cls=.ref C/\vs[0]?=some a0/\oe.data=.fields vs/\vs[1]?=some (.ref T)/\T≠a/\h.get? T=some oT/\oT.data=.fields ts/\ts[3]?=some Value.none /\
 h0.get? a=none/\h0.get? T=none/\H' a=none/\H' T=none/\oe.dict=od/\∀dx,od=some dx->h0.get? dx=none
structure XOut(P:Program)(w:World)(outer:List Env)(H:Hp)(s:Shared)(C a:Addr)(od:Option Addr)(H':Hp)(s':Shared):Prop where
 os:s'.os=s.os
 bare:AllBare s'.gens
 un:Un (frs outer) [] H H' s.heap s'.heap
 hok:HOk P w H' s'.heap
 fly:Fly s.heap H' C a od s'.heap
noncomputable def CX1(P:Program)(w:World):CXT:=fun outer H s E e s'=>∃C a od H',e=.ref a/\XOut P w outer H s C a od H' s'/\E (.ref C) od H'
theorem Vi(e:(hideAll h l).get? b=none):b∈l\/h.get? b=none:=by
 by_cases hb:b∈l
 . exact .inl hb
 . cases q:h.get? b with
   |none=>exact .inr rfl
   |some o=>rw[hideAll_get l q hb]at e;cases e
section
variable {X:Cx}{pins:List (Addr×Obj)}{U:List (Option V)}{H1 H2:Hp}{s1 s2:Shared}{h' B:Heap}{Z:List Addr}{C a:Addr}{a0:Value}{od:Option Addr}
theorem Inv.stack2(I:Inv X pins U H1 s1)(un:Un (frs X.stack) [] H1 H2 s1.heap s2.heap):s2.heap.FunFrames X.base X.stack:=by
 have all:∀(l:List Env),(∀b∈frs l,b∈frs X.stack)->s1.heap.FunFrames X.base l->s2.heap.FunFrames X.base l:=by
  intro l;induction l with
  |nil=>intro _ _;trivial
  |cons env r ih=>
   intro hs hl
   obtain⟨hk,⟨L,o,hf,hn,ho,hd⟩,hr⟩:=hl
   have hL:L∈frs X.stack:=hs L (by unfold frs;rw[PL,hf];exact NN)
   obtain⟨sl,e⟩:=un.slot L o ho (I.stkFree L hL) hL (by simp)
   exact⟨hk,⟨L,_,hf,hn,e,hd⟩,ih (fun b hb=>hs b (by unfold frs;rw[PL,hf];exact IR _ hb)) hr⟩
 exact all X.stack (fun _ hb=>hb) I.stack
theorem Wb(I:Inv X pins U H1 s1)(aL:X.stack=X.env::X.outer)(hex:X.ex=[])(dg:s2.os=s1.os)(ff:AllBare s2.gens)(un:Un (frs X.stack) [] H1 H2 s1.heap s2.heap)(hok:HOk X.prog X.w H2 s2.heap)
  (hZ:∀b∈Z,s1.heap.get? b=none/\H2 b=none) (ha:s1.heap.get? a=none) (fy:H2 a=none) (keep:∀b o,s2.heap.get? b=some o->b∉Z->b∉frs X.stack->h'.get? b=some o)
  (up:s2.heap.UpToSlots h') (hB:∀b,B.get? b=none->b∈frs X.stack\/(s1.heap.get? b=none/\H2 b=none)) (bL:Heap.FlyingW B X.outer a (.ref C) a0 h') (cw:w6 a od h') (iI:∀dx,od=some dx->s1.heap.get? dx=none) :
  XOut X.prog X.w X.outer X.H₀ X.s₀ C a od H2 { s2 with heap:=h' }:=by
 have base:Un X.fs [] X.H₀ H1 X.s₀.heap s1.heap:=hex ▸ I.base
 have F2:=I.stack2 un
 have sub:∀b∈frs X.outer,b∈frs X.stack:=fun b hb=>by
  rw[aL];unfold frs;cases q:X.env.frame with
  |none=>rw[PL,q];exact hb
  |some L=>rw[PL,q];exact IR _ hb
 have eP:∀b o,X.s₀.heap.get? b=some o->b≠X.env.locals:=fun b o e=>NI (NH (Φ e) I.ok.above)
 have lM:∀b o,X.s₀.heap.get? b=some o->b∉frs X.outer->b∉frs X.stack:=fun b o e hb z=>(tB.mp (I.stkSub b z)).elim (eP b o e) hb
 have cR:∀b,s1.heap.get? b=none->X.s₀.heap.get? b=none:=fun b e=>by
  cases q:X.s₀.heap.get? b with
  |none=>rfl
  |some o=>
   obtain⟨o',z⟩:=base.there b o q (by simp)
   rw[e]at z;cases z
 have AS:∀b o,X.s₀.heap.get? b=some o->b∉Z:=fun b o e hb=>by rw[cR b (hZ b hb).1]at e;cases e
 have dR:∀b∈frs X.stack,H2 b=none:=fun b hb=>by obtain⟨_,o,ho,_⟩:=I.stack.mem hb;exact un.free b o ho (I.stkFree b hb) (by simp)
 have cz:∀b∈frs X.stack,∀o,s2.heap.get? b=some o->∃sl,h'.get? b=some { o with slots:=sl }:=fun b hb o e=>by obtain⟨_,o',aS,hd⟩:=F2.mem hb;rw[e]at aS;cases aS;exact up b o e hd
 refine⟨by show s2.os=_;rw[dg,I.os],ff,⟨fun b o e n hb _=>?_,fun b o e n hb _=>?_,fun b o e n _=>?_,fun b o e _=>?_,fun b xs e=>un.tups b xs (base.tups b xs e),fun b o u e=>un.frzs b o u (base.frzs b o u e),fun b ps e=>?_⟩,fun b o e=>?_,?_⟩
 . exact keep b o (un.keep b o (base.keep b o e n hb (by simp)) (base.free b o e n (by simp)) (lM b o e hb) (by simp)) (AS b o e) (lM b o e hb)
 . obtain⟨sl,e1⟩:=base.slot b o e n hb (by simp);obtain⟨eT,e2⟩:=un.slot b _ e1 (base.free b o e n (by simp)) (sub b hb) (by simp);obtain⟨nH,e3⟩:=cz b (sub b hb) _ e2;exact⟨nH,e3⟩
 . obtain⟨o1,e1⟩:=base.there b o e (by simp);exact un.free b o1 e1 (base.free b o e n (by simp)) (by simp)
 . obtain⟨o1,e1⟩:=base.there b o e (by simp);obtain⟨o2,e2⟩:=un.there b o1 e1 (by simp);by_cases hb:b∈frs X.stack
   . obtain⟨sl,e3⟩:=cz b hb _ e2;exact⟨_,e3⟩
   . exact⟨o2,keep b o2 e2 (AS b o e) hb⟩
 . obtain⟨m1,e1⟩:=base.tbls b ps e;obtain⟨m2,e2⟩:=un.tbls b _ e1;exact⟨m1++m2,by rw[e2,Array.append_assoc]⟩
 . refine(hok b o e).stay (fun c v hc q=>keep c v q (fun hz=>?_) fun hf=>?_) (fun _ q=>q) fun _ _ q=>q
   . have:=(hZ c hz).2;rcases hc with rfl |hc
     . rw[e]at this;cases this
     . rw[hc]at this;cases this
   . have:=dR c hf;rcases hc with rfl |hc
     . rw[e]at this;cases this
     . rw[hc]at this;cases this
 . obtain⟨_,_,_,oe,vs,T,oT,ts,he,⟨hc,h0⟩,hd,h1,FH,fx,hT,bK,h3⟩:=bL;have AT:s1.heap.get? T=none/\H2 T=none:=by
    rcases hB T FH with z |z
    . obtain⟨_,o',aS,bW⟩:=F2.mem z;obtain⟨sl,e3⟩:=cz T z o' aS;rw[hT]at e3;cases e3;exact absurd bK (bW ts)
    . exact z
   exact⟨oe,vs,T,oT,ts,a0,he,hc,h0,hd,h1,fx,hT,bK,h3,cR a ha,cR T AT.1,fy,AT.2,cw _ he,fun dx e=>cR dx (iI dx e)⟩
theorem xK(I:Inv X pins U H1 s1)(aL:X.stack=X.env::X.outer)(hex:X.ex=[])(hf:X.env.frame=some X.env.locals)(x:XOut X.prog X.w X.stack H1 s1 C a od H2 s2)
  (h:∀s',XOut X.prog X.w X.outer X.H₀ X.s₀ C a od H2 s'->Q () s'):wpAny (model X.prog X.w) X.A (leaving X.env (.ref a)) Q E s2:=by
 obtain⟨oe,vs,T,oT,ts,a0,he,hc,h0,hd,h1,fx,hT,bK,h3,na,nT,ha,iJ,gP,iI⟩:=id x.fly
 have F2:=I.stack2 x.un
 have fz:∀env∈X.stack,∀b,env.frame=some b->b∈a::T::frs X.stack:=fun env he b hb=>IR _ (IR _ (PX.mpr ⟨env,he,hb⟩))
 have bE:X.A.frames=some (X.env::X.outer):=by rw[<-aL];exact I.ok.frames
 refine xL (od:=od) (base:=hideAll s2.heap (a::T::frs X.stack)) (cls:=.ref C) (a0:=a0) bE hf ⟨fun b o q=>of_hideAll _ q,hideAll_none _ (.head _),aL ▸ PySem.W.funFrames_hide F2 fz,?_⟩ (fun o ho=>by rw[he]at ho;cases ho;exact gP) fun h' bL up cw=>h _ (Wb (Z:=[a,T]) I aL hex x.os x.bare x.un x.hok (fun b hb=>?_) na ha (fun b o q hz gI=>bL.1 b o (hideAll_get _ q ?_)) up (fun b q=>?_) bL cw iI)
 . exact⟨oe,vs,T,oT,ts,he,⟨hc,h0⟩,hd,h1,hideAll_none _ (.tail _ (.head _)),fx,hT,bK,h3⟩
 . rcases tB.mp hb with rfl |hb
   . exact⟨na,ha⟩
   . have:b=T:=by simpa using hb
     subst this;exact⟨nT,iJ⟩
 . intro z;rcases tB.mp z with rfl |z
   . exact hz (.head _)
   . rcases tB.mp z with rfl |z
     . exact hz (.tail _ (.head _))
     . exact gI z
 . rcases Vi q with z |z
   . rcases tB.mp z with rfl |z
     . exact .inr ⟨na,ha⟩
     . rcases tB.mp z with rfl |z
       . exact .inr ⟨nT,iJ⟩
       . exact .inl z
   . refine .inr ⟨?_,x.hok.none z⟩;cases q1:s1.heap.get? b with
     |none=>rfl
     |some o=>
      obtain⟨o',e'⟩:=x.un.there b o q1 (by simp)
      rw[z]at e';cases e'
structure MadeX(h h':Heap)(e C:Addr)(od:Option Addr):Prop where
 new:h.get? e=none
 newd:∀dx,od=some dx->h.get? dx=none
 there:∃oe vs a0,h'.get? e=some oe/\oe.cls=.ref C/\oe.dict=od/\oe.data=.fields vs/\vs[0]?=some a0/\vs[1]?=some .none
theorem MadeX.of(x:Heap.MadeExcOf h h' e (.ref C) args):MadeX h h' e C none:=by obtain⟨t,he,_,_⟩:=x.there;exact⟨x.new,(fun _ z=>nomatch z),_,_,_,he,rfl,rfl,rfl,rfl,rfl⟩
theorem zj(I:Inv X pins U H1 s1)(aL:X.stack=X.env::X.outer)(hex:X.ex=[])(hf:X.env.frame=some X.env.locals)(hx:MadeX s1.heap s2.heap a C od)(hok:HOk X.prog X.w H2 s2.heap)(un:Un (frs X.stack) [] H1 H2 s1.heap s2.heap)(fy:H2 a=none)(dg:s2.os=s1.os)(ff:AllBare s2.gens)
  (h:∀s',XOut X.prog X.w X.outer X.H₀ X.s₀ C a od H2 s'->Q () s'):wpAny (model X.prog X.w) X.A (leaving X.env (.ref a)) Q E s2:=by
 have fz:∀env∈X.stack,∀b,env.frame=some b->b∈a::frs X.stack:=fun env he b hb=>IR _ (PX.mpr ⟨env,he,hb⟩)
 have bE:X.A.frames=some (X.env::X.outer):=by rw[<-aL];exact I.ok.frames
 have F2:=I.stack2 un
 obtain⟨oe,vs,a0,he,hc,gP,hd,h0,h1⟩:=hx.there
 refine vS (od:=od) (base:=hideAll s2.heap (a::frs X.stack)) bE (aL ▸ PySem.W.funFrames_hide F2 fz) hf he (fun b o q=>of_hideAll _ q) (hideAll_none _ (.head _)) hd h1 h0 (fun o ho=>by rw[he]at ho;cases ho;exact gP) fun h' bL up cw=>h _ ?_
 rw[hc]at bL
 refine Wb (B:=hideAll s2.heap (a::frs X.stack)) (Z:=[a]) I aL hex dg ff un hok (fun b hb=>?_) hx.new fy (fun b o q hz gI=>bL.1 b o (hideAll_get _ q ?_)) up (fun b q=>?_) bL cw hx.newd
 . obtain rfl:b=a:=by simpa using hb
   exact⟨hx.new,fy⟩
 . intro z;rcases tB.mp z with rfl |z
   . exact hz (.head _)
   . exact gI z
 . rcases Vi q with z |z
   . rcases tB.mp z with rfl |z
     . exact .inr ⟨hx.new,fy⟩
     . exact .inl z
   . refine .inr ⟨?_,hok.none z⟩;cases q1:s1.heap.get? b with
     |none=>rfl
     |some o=>
      obtain⟨o',e'⟩:=un.there b o q1 (by simp)
      rw[z]at e';cases e'
end
noncomputable def eOf(K:Frag)(EX:XW)(mg:Str->Option Value):XK:=fun cv od H=>∃x:Ex,EX.p x H/\mg (x.cls:Str)=some cv/\XFs K x od H
structure Lnd(X:Cx)(EX:XW):Prop where
 nm:∀x H,EX.p x H->∃C,X.mg (x.cls:Str)=some (.ref C)
 on:Eb (CX1 X.prog X.w) X (eOf X.K EX X.mg)
 md:∀(pins:List (Addr×Obj))(U:St)(H H2:Hp)(s:Shared)(a C:Addr)(od:Option Addr)(s':Shared)(x:Ex),Inv X pins U H s->MadeX s.heap s'.heap a C od->HOk X.prog X.w H2 s'.heap->Un (frs X.stack) [] H H2 s.heap s'.heap->H2 a=none->s'.os=s.os->AllBare s'.gens->X.mg (x.cls:Str)=some (.ref C)->EX.p x H2->XFs X.K x od H2->X.xe (.ref a) s'
theorem K4:Lnd X F0:=⟨fun _ _ z=>z.elim,fun _ _ _ _ _ _ _ ⟨_,_,_,_,_,_,_,z,_⟩=>z.elim,fun _ _ _ _ _ _ _ _ _ _ _ _ _ _ _ _ _ _ z _=>z.elim⟩
theorem m9{P:Program}{w:World}{K:Frag}{mg:Str->Option Value}{base:Heap}{N:List Str}{qual:Str}{sc:Scope}{f:Addr}{cdv:Value}{A:Around}{outer:List Env}{s:Shared}{H:Hp}{E:XK} :
  Lnd (J0 (CX1 P w) P w K mg base N qual sc f cdv A outer s H E) ⟨H,xNm K mg E⟩:=by
 refine⟨fun x H ⟨C,hC,_⟩=>⟨C,hC⟩,?_,?_⟩
 . rintro pins U H1 s1 e s' I ⟨C,a,od,H',rfl,xo,x,⟨C',nI,hE⟩,cj,hx⟩;have cj:mg (x.cls:Str)=some (.ref C):=cj;rw[nI]at cj;cases cj;exact xK I rfl rfl rfl xo fun fo y=>⟨_,a,od,H',rfl,y,hE od hx⟩
 . rintro pins U H1 H2 s1 a C od s' x I hx hok un fy ho hb cj ⟨C',nI,hE⟩ hf;have cj:mg (x.cls:Str)=some (.ref C):=cj;rw[nI]at cj;cases cj;exact zj I rfl rfl rfl hx hok un fy ho hb fun fo y=>⟨_,a,od,H2,rfl,y,hE od hf⟩
def g4(P:Program)(w:World)(K:Frag)(mg:Str->Option Value)(base:Heap)(x:Str)(ps:List Str)(k:Nat)(sp:Sp):Prop:=
 ∃f fd,FnOk P w K mg base (CX1 P w) k f fd ps sp/\Binds K fd ps []/\mg x=some (.ref f)/\keepIn K (.ref f)=true
section
variable {X:Cx}{x:Str}{p pos:Pos}{e:Expr}{es:List Expr}{t:TA}{ps:List Str}{k j:Nat}{sp:Sp}{E:XK}
theorem Sx(G:g4 X.prog X.w X.K X.mg X.base x ps k sp)(hx:Eb (CX1 X.prog X.w) X E)(hr:Room j X.A)(hg:Gl X x)(ha:PA X (e::es) t)(eg:k<=j:=by omega)(aF:(x==("__debug__":Str))=false:=by decide)
  (he:starEach (e::es) X.env=(false,eval e X.env)::starEach es X.env:=by rfl) (hpl:(backTo pos (starEach es X.env)).any (·.1)=false:=by rfl):PE X (.Call (.Name x p) (e::es) [] pos) (Jo sp E t):=by
 obtain⟨f,fd,F,b,m,kp⟩:=G
 refine(ww F (hr.mono eg) hg m kp b .nil hx ha aF he hpl).imp fun U H Q q=>?_
 unfold Oz
 unfold Jo at q
 simpa only [RZ] using q
end
theorem Fun.okX{P:Program}{w:World}{K:Frag}{mg:Str->Option Value}{base:Heap}{x qual:Str}{st:Stmt}{f:Addr}{fd:FuncData}{N ps:List Str}{k:Nat}{sp:Sp}{CX:CXT}(F:Fun K x qual st f fd)(S:FnScope N ps (g3 st))(len:∀vs H Q E,sp vs H Q E->vs.length=ps.length)
  (bj:∀(cdv:Value)(A:Around)(outer:List Env)(s:Shared)(H:Hp)(vs:List V)(Q:VK)(E:XK),Room k (A.deeper (envOfC qual (g3 st) s.heap.objs.size f cdv))->sp vs H Q E ->
   ∃t,PSs (J0 CX P w K mg base N qual (g3 st) f cdv A outer s H E) (i9 st) t/\t { nx:=fun _ H'=>Q .non H',rt:=Q } (D1 N vs) H):FnOk P w K mg base CX (k+1) f fd ps sp:=by
 obtain⟨oc,od,kV,doc,pm,an,cdv,ct,osl,rfl,lk,br⟩:=F.ex
 refine Hk lk br S len fun A outer s H vs Q E hr cL=>?_
 exact bj cdv A outer s H vs Q E hr cL
section
variable {K:Frag}{H:Hp}{v:V}
theorem RD.int(h:RD K H (.int i) v):v=.int i:=by simpa only [RD] using h
theorem RD.str(h:RD K H (.str i) v):v=.str i:=by simpa only [RD] using h
theorem RD.non(h:RD K H .non v):v=.non:=by simpa only [RD] using h
theorem RD.tup(h:RD K H (.tup ds) v):∃a xs,v=.ref a/\H a=some (.tup xs)/\RDs K H ds xs:=by simpa only [RD] using h
theorem RD.lst(h:RD K H (.lst ds) v):∃a xs,v=.ref a/\H a=some (.lst xs)/\RDs K H ds xs:=by simpa only [RD] using h
theorem RD.dk(h:RD K H (.dk ks ds) v):∃a xs,v=.ref a/\H a=some (.dK (ks.zip xs))/\ks.length=xs.length/\RDs K H ds xs:=by simpa only [RD] using h
theorem RD.dt(h:RD K H (.dt ks ds) v):∃a xs,v=.ref a/\H a=some (.dT (ks.zip xs))/\ks.length=xs.length/\RDs K H ds xs:=by simpa only [RD] using h
theorem RD.scr(h:RD K H (.scr ns) v):∃a,v=.ref a/\SqL K H a (ns.map V.int):=by
 simp only[RD]at h;obtain⟨a,e,h |h⟩:=h
 . exact⟨a,e,.inl (.inr h)⟩
 . exact⟨a,e,.inr h⟩
theorem RD.mkInt(i:Int):RD K H (.int i) (.int i):=by simp only[RD]
theorem RD.mkBl(i:Bool):RD K H (.bl i) (.bl i):=by simp only[RD]
theorem RD.mkNon:RD K H .non .non:=by simp only[RD]
theorem RD.mkStr(i:Str):RD K H (.str i) (.str i):=by simp only[RD]
theorem RD.mkTup(h:H a=some (.tup xs))(r:RDs K H ds xs):RD K H (.tup ds) (.ref a):=by simp only[RD];exact⟨a,xs,rfl,h,r⟩
end
noncomputable def dI(g:Int->Int->D):D->D->Option D
 | .int i,.int j=>some (g i j)
 |_,_=>none
noncomputable def dIC(C:Int->Int->Prop)[∀i j,Decidable (C i j)](g:Int->Int->D):D->D->Option D
 | .int i,.int j=>if C i j then some (g i j) else none
 |_,_=>none
noncomputable def dOr(o p:D->D->Option D):D->D->Option D:=fun d e=>match o d e with
 |some z=>some z
 |none=>p d e
section
variable {K:Frag}
theorem OpD.weak(h:OpD K fr o r):OpD K false o r:=fun H0 H x y d e z Q s rx ry ho k=>h H0 H x y d e z Q s rx ry ho fun v H' q=>k v H' q.weak
theorem OpD.or(h1:OpD K f1 o r)(h2:OpD K f2 p q):OpD K false (dOr o p) (fun x y H Q=>r x y H Q\/q x y H Q):=by
 intro H0 H x y d e z Q s rx ry ho k;unfold dOr at ho;split at ho
 . rename_i z' hz;cases ho;exact .inl (h1.weak H0 H x y d e z Q s rx ry hz k)
 . exact .inr (h2.weak H0 H x y d e z Q s rx ry ho k)
theorem U8(h:∀i j H,RD K H (gd i j) (gv i j)):OpD K false (dI gd) (cI gv):=by
 intro H0 H x y d e z Q s rx ry ho k;cases d<;>simp only[dI]at ho<;>first |cases ho |skip
 cases e<;>simp only[dI]at ho<;>first |cases ho |skip
 cases rx.int;cases ry.int;exact k _ H (.pure s (h _ _ _))
theorem W5[∀i j,Decidable (C i j)](h:∀i j H,RD K H (gd i j) (gv i j)):OpD K false (dIC C gd) (cIC C gv):=by
 intro H0 H x y d e z Q s rx ry ho k;cases d<;>simp only[dIC]at ho<;>first |cases ho |skip
 cases e<;>simp only[dIC]at ho<;>first |cases ho |skip
 cases rx.int;cases ry.int;split at ho
 . rename_i dD;cases ho;exact⟨dD,k _ H (.pure s (h _ _ _))⟩
 . cases ho
instance (i j:Int):Decidable (CMul i j):=by unfold CMul;infer_instance
instance (i j:Int):Decidable (R5 i j):=by unfold R5;infer_instance
instance (i j:Int):Decidable (V2 i j):=by unfold V2;infer_instance
def v5:D->D->Option D:=dI fun i j=>.int (i+j)
def n6:D->D->Option D:=dI fun i j=>.int (i - j)
def Db:D->D->Option D:=dIC CMul fun i j=>.int (i * j)
def R4:D->D->Option D:=dIC R5 fun i j=>.int (i / j)
def v9:D->D->Option D:=dIC (fun _ j=>0<j) fun i j=>.int (i % j)
def Ni:D->D->Option D:=dIC V2 fun i j=>.int (i ^ j.toNat)
def B6:D->D->Option D:=dI fun i j=>.bl (decide (i<j))
def dLe:D->D->Option D:=dI fun i j=>.bl (decide (i<=j))
def Dk:D->D->Option D:=dI fun i j=>.bl (decide (j<i))
def dGe:D->D->Option D:=dI fun i j=>.bl (decide (j<=i))
theorem x6:OpD K false v5 (cI fun i j=>.int (i+j)):=U8 fun _ _ _=>.mkInt _
theorem v8:OpD K false n6 (cI fun i j=>.int (i - j)):=U8 fun _ _ _=>.mkInt _
theorem Jn:OpD K false Db (cIC CMul fun i j=>.int (i * j)):=W5 fun _ _ _=>.mkInt _
theorem Jm:OpD K false R4 (cIC R5 fun i j=>.int (i / j)):=W5 fun _ _ _=>.mkInt _
theorem G5:OpD K false v9 (cIC (fun _ j=>0<j) fun i j=>.int (i % j)):=W5 fun _ _ _=>.mkInt _
theorem kL:OpD K false Ni (cIC V2 fun i j=>.int (i ^ j.toNat)):=W5 fun _ _ _=>.mkInt _
theorem E1:OpD K false B6 (cI fun i j=>.bl (decide (i<j))):=U8 fun _ _ _=>.mkBl _
theorem W4:OpD K false dLe (cI fun i j=>.bl (decide (i<=j))):=U8 fun _ _ _=>.mkBl _
theorem Jl:OpD K false Dk (cI fun i j=>.bl (decide (j<i))):=U8 fun _ _ _=>.mkBl _
theorem Oi:OpD K false dGe (cI fun i j=>.bl (decide (j<=i))):=U8 fun _ _ _=>.mkBl _
noncomputable def Bc:D->Option D
 | .int i=>some (.int (-i))
 |_=>none
theorem Qm:UnD K false Bc (cU fun i=>.int (-i)):=by
 intro H0 H x d z Q s rx ho k;cases d<;>simp only[Bc]at ho<;>first |cases ho |skip
 cases rx.int;exact k _ H (.pure s (.mkInt _))
noncomputable def z9:D->D->Option D
 | .lst ds,.lst es=>if ds.length+es.length<=100000 then some (.lst (ds++es)) else none
 |_,_=>none
theorem Da(h:n<=100000):n<=sizeLine:=KM h (by decide)
theorem X2:OpD K true z9 Yh:=by
 intro H0 H x y d e z Q s rx ry ho k;cases d<;>simp only[z9]at ho<;>first |cases ho |skip
 cases e<;>simp only[z9]at ho<;>first |cases ho |skip
 split at ho<;>cases ho;rename_i hl;obtain⟨a,xs,rfl,ha,ra⟩:=rx.lst;obtain⟨b,ys,rfl,hb,rb⟩:=ry.lst;refine⟨a,b,xs,ys,rfl,rfl,s _ _ ha,s _ _ hb,by rw[<-ra.length,<-rb.length];exact Da hl,fun p hp=>k _ _ (.new s hp fun H' hH=>?_)⟩;simp only[OB];exact⟨_,hH,ra.append rb⟩
end
def dEq:D->D->Option D:=fun d e=>if d.pl=true/\e.pl=true/\d.dep<=20 then some (.bl (eqD d e)) else none
def dNe:D->D->Option D:=fun d e=>if d.pl=true/\e.pl=true/\d.dep<=20 then some (.bl (!eqD d e)) else none
def Xr(K:Frag):R2:=fun x y H Q=>∃d e,RD K H d x/\RD K H e y/\d.pl=true/\e.pl=true/\d.dep<=20/\Q (.bl (eqD d e)) H
def Xq(K:Frag):R2:=fun x y H Q=>∃d e,RD K H d x/\RD K H e y/\d.pl=true/\e.pl=true/\d.dep<=20/\Q (.bl (!eqD d e)) H
def Nh(neg:Bool):D->D->Option D:=fun d c=>match c with
 | .lst es=>if d.pl=true/\pls es=true/\i8 es<=20 then some (.bl (if neg then !(es.any fun e=>eqD e d) else es.any fun e=>eqD e d)) else none
 | .tup es=>if d.pl=true/\pls es=true/\i8 es<=20 then some (.bl (if neg then !(es.any fun e=>eqD e d) else es.any fun e=>eqD e d)) else none
 |_=>none
def Ng(K:Frag)(neg:Bool):R2:=fun x y H Q=>∃p xs d es,y=.ref p/\(H p=some (.lst xs)\/H p=some (.tup xs))/\RD K H d x/\RDs K H es xs/\d.pl=true/\pls es=true/\i8 es<=20/\Q (.bl (if neg then !(es.any fun e=>eqD e d) else es.any fun e=>eqD e d)) H
section
variable {X:Cx}{K:Frag}
theorem W3(hu:X.A.units+64<cLine):OpR X (compareOp .Eq) (Xr X.K):=by intro pins s U H x y v u Q I rx ry h;obtain⟨d,e,h1,h2,p1,p2,h3,q⟩:=h;exact(Qp (n:=20) I p1 p2 h3 (by lia) h1 h2 rx ry).1 X.prog X.w X.xe _ ⟨.bl _,H,I,rfl,q⟩
theorem Oh(hu:X.A.units+64<cLine):OpR X (compareOp .NotEq) (Xq X.K):=by intro pins s U H x y v u Q I rx ry h;obtain⟨d,e,h1,h2,p1,p2,h3,q⟩:=h;exact(Qp (n:=20) I p1 p2 h3 (by lia) h1 h2 rx ry).2 X.prog X.w X.xe _ ⟨.bl _,H,I,rfl,q⟩
theorem W2:OpD K false dEq (Xr K):=by intro H0 H x y d e z Q s rx ry ho k;unfold dEq at ho;split at ho<;>cases ho;rename_i h;exact⟨d,e,rx.mono s,ry.mono s,h.1,h.2.1,h.2.2,k _ H (.pure s (.mkBl _))⟩
theorem Og:OpD K false dNe (Xq K):=by intro H0 H x y d e z Q s rx ry ho k;unfold dNe at ho;split at ho<;>cases ho;rename_i h;exact⟨d,e,rx.mono s,ry.mono s,h.1,h.2.1,h.2.2,k _ H (.pure s (.mkBl _))⟩
theorem y0f(hu:X.A.units+64<cLine):OpR X (compareOp .In) (Ng X.K false):=by
 intro pins s U H x y v u Q I rx ry h;obtain⟨p,xs,d,es,rfl,hp,hx,dA,pd,pe,hd,q⟩:=h;cases ry;rcases hp with hq |hq
 . obtain⟨its,rv,pl,_⟩:=I.list (.of hq);refine SeqAt.in_listAt (hitD X.K H d) pl.isList (fun y hy=>Kp (A:=X.A) I (by lia) pd hx rx pe dA rv hd y (by simpa using hy)) ⟨.bl _,H,I,rfl,?_⟩;rw[show its.toArray.any (hitD X.K H d)=its.any (hitD X.K H d) by simp,Lg pe dA rv];simpa using q
 . obtain⟨its,rv,pl,_⟩:=I.tuple (.of hq);refine SeqAt.in_tupleAt (hitD X.K H d) pl (fun y hy=>Kp (A:=X.A) I (by lia) pd hx rx pe dA rv hd y (by simpa using hy)) ⟨.bl _,H,I,rfl,?_⟩;rw[show its.toArray.any (hitD X.K H d)=its.any (hitD X.K H d) by simp,Lg pe dA rv];simpa using q
theorem od_inS:OpD K false (Nh neg) (Ng K neg):=by
 intro H0 H x y d e z Q s rx ry ho k;unfold Nh at ho;cases e<;>dsimp only at ho<;>first |cases ho |skip
 . split at ho<;>cases ho;rename_i es h;obtain⟨a,xs,rfl,ha,ra⟩:=ry.tup;exact⟨a,xs,d,es,rfl,.inr (s _ _ ha),rx.mono s,ra.mono s,h.1,h.2.1,h.2.2,k _ H (.pure s (.mkBl _))⟩
 . split at ho<;>cases ho;rename_i es h;obtain⟨a,xs,rfl,ha,ra⟩:=ry.lst;exact⟨a,xs,d,es,rfl,.inl (s _ _ ha),rx.mono s,ra.mono s,h.1,h.2.1,h.2.2,k _ H (.pure s (.mkBl _))⟩
end
noncomputable def Ax:D->Option Key
 | .int i=>some (.inl i)
 | .str x=>some (.inr x)
 |_=>none
def W1:List D->Option (List Key)
 | []=>some []
 |d::ds=>match Ax d,W1 ds with
  |some k,some ks=>some (k::ks)
  |_,_=>none
theorem Sw{K:Frag}{H:Hp}{d:D}{k:Key}{v:V}(h:Ax d=some k)(r:RD K H d v):v=kV k:=by
 cases d<;>simp only[Ax]at h<;>first |cases h |skip
 . cases r.int;rfl
 . cases r.str;rfl
theorem Ug{K:Frag}{H:Hp}:∀{ds:List D}{ks:List Key}{xs:List V},W1 ds=some ks->RDs K H ds xs->xs=ks.map kV
 | [],ks,xs,h,r=>by simp only[W1]at h;cases h;simp only[RDs]at r;subst r;rfl
 |d::ds,ks,xs,h,r=>by simp only[RDs]at r;obtain⟨x,xs,rfl,r1,r2⟩:=r;simp only[W1]at h;split at h<;>cases h;rename_i k ks h1 h2;rw[Sw h1 r1,Ug h2 r2];rfl
def ROp(K:Frag)(H:Hp):Option D->Option V->Prop
 |some z,w=>∃v,w=some v/\RD K H z v
 |none,w=>w=none
section
variable {κ:Type}[DecidableEq κ]
noncomputable def S7(ks:List κ)(ds:List D)(k:κ):Option D:=((ks.zip ds).find? fun kv=>decide (kv.1=k)).map (·.2)
theorem Kj{K:Frag}{H:Hp}(k:κ):∀{ks:List κ}{ds:List D}{xs:List V},ks.length=xs.length->RDs K H ds xs->ROp K H (S7 ks ds k) (C6 (ks.zip xs) k)
 | [],ds,xs,_,_=>by simp[S7,C6,ROp]
 |k'::ks,[],xs,h,r=>by simp only[RDs]at r;subst r;simp at h
 |k'::ks,d::ds,xs,h,r=>by
  simp only[RDs]at r;obtain⟨x,xs,rfl,r1,r2⟩:=r;have ih:=Kj k (by simpa using h) r2 (ks:=ks);simp only[S7,C6,OM,RY]at ih⊢;by_cases e:k'=k
  . simp only[e,SS];exact⟨x,rfl,r1⟩
  . simp only[e,SV];exact ih
noncomputable def Gv(ks:List κ)(k:κ):List κ:=if k∈ks then ks else ks++[k]
noncomputable def E9{β:Type}(ks:List κ)(ds:List β)(k:κ)(d:β):List β:=if k∈ks then List.zipWith (fun k' d'=>if k'=k then d else d') ks ds else ds++[d]
theorem vR{K:Frag}{H:Hp}(k:κ){d:D}{v:V}(rv:RD K H d v){ks:List κ}{ds:List D}{xs:List V}(r:RDs K H ds xs):RDs K H (E9 ks ds k d) (E9 ks xs k v):=by
 have zw:∀(ks:List κ)(ds:List D)(xs:List V),RDs K H ds xs->RDs K H (List.zipWith (fun k' d'=>if k'=k then d else d') ks ds) (List.zipWith (fun k' d'=>if k'=k then v else d') ks xs):=by
  intro ks;induction ks with
  |nil=>intro ds xs _;simp[RDs]
  |cons k' ks ih=>
   intro ds xs r
   cases ds with
   |nil=>simp only[RDs]at r;subst r;simp[RDs]
   |cons d' ds=>
    simp only[RDs]at r
    obtain⟨x,xs,rfl,r1,r2⟩:=r
    simp only[List.zipWith_cons_cons]
    refine .cons ?_ (ih ds xs r2)
    by_cases e:k'=k
    . rw[ξ e,ξ e];exact rv
    . rw[ψ e,ψ e];exact r1
 unfold E9;by_cases m:k∈ks
 . rw[ξ m,ξ m];exact zw ks ds xs r
 . rw[ψ m,ψ m];exact r.append (.one rv)
end
def S6:D->D->Option (Option D)
 | .dk ks ds,k=>(Ax k).map fun k=>S7 ks ds k
 | .dt ks ds,.tup es=>(W1 es).map fun k=>S7 ks ds k
 |_,_=>none
theorem Sv{K:Frag}{H:Hp}{d k:D}{x y:V}{o:Option D}(h:S6 d k=some o)(rx:RD K H d x)(ry:RD K H k y) :
  ∃a w,x=.ref a/\DGet H a y w/\ROp K H o w:=by
 cases d<;>simp only[S6]at h<;>first |cases h |skip
 . rename_i ks ds;obtain⟨a,xs,rfl,ha,hl,rs⟩:=rx.dk;cases hk:Ax k with
   |none=>rw[hk]at h;cases h
   |some k'=>
    rw[hk]at h
    have h:S7 ks ds k'=o:=by simpa using h
    subst h
    cases Sw hk ry
    exact⟨a,_,rfl,DGet.k ha,Kj k' hl rs⟩
 . rename_i ks ds;cases k<;>simp only[S6]at h<;>first |cases h |skip
   rename_i es;obtain⟨a,xs,rfl,ha,hl,rs⟩:=rx.dt;obtain⟨b,ys,rfl,hb,rb⟩:=ry.tup;cases hk:W1 es with
   |none=>rw[hk]at h;cases h
   |some k'=>
    rw[hk]at h
    have h:S7 ks ds k'=o:=by simpa using h
    subst h
    have e:=Ug hk rb
    subst e
    exact⟨a,_,rfl,DGet.t ha hb,Kj k' hl rs⟩
def Nf(neg:Bool):D->D->Option D:=fun k d=>(S6 d k).map fun o=>.bl (if neg then !o.isSome else o.isSome)
noncomputable def Nd(neg:Bool):R2:=fun y x H Q=>∃a w,x=.ref a/\DGet H a y w/\Q (.bl (if neg then !w.isSome else w.isSome)) H
def Nc:D->D->Option D:=fun d k=>(S6 d k).bind id
noncomputable def Nb:R2:=fun x y H Q=>∃a w,x=.ref a/\DGet H a y (some w)/\Q w H
def D6:D->D->Option D
 | .lst ds,.int i=>atI ds i
 | .tup ds,.int i=>atI ds i
 | .scr ns,.int i=>(atI ns i).map D.int
 | .str z,.int i=>if z.length<=100000 then(atI z.cps.toList i).map fun c=>D.str ⟨#[c]⟩ else none
 |_,_=>none
theorem RDs.atI{K:Frag}{H:Hp}{ds:List D}{xs:List V}{i:Int}{d:D}(r:RDs K H ds xs)(h:L2.atI ds i=some d):∃v,L2.atI xs i=some v/\RD K H d v:=by
 unfold L2.atI at h⊢;rw[<-r.length];cases q:ixN ds.length i with
 |none=>rw[q]at h;cases h
 |some j=>
  rw[q]at h
  exact r.get' h
theorem vQ(f:α->β)(xs:List α)(i:Int):atI (xs.map f) i=(atI xs i).map f:=by
 unfold atI;rw[oQ];cases ixN xs.length i with
 |none=>rfl
 |some j=>simp
section
variable {X:Cx}{K:Frag}
theorem y0k(hu:X.A.units+64<cLine):OpR X (compareOp .In) (Nd false):=by intro pins s U H x y v u Q I rx ry h;obtain⟨a,w,rfl,g,q⟩:=h;cases ry;exact y49 (by omega) I g rx fun s' I'=>⟨.bl w.isSome,H,I',rfl,by simpa using q⟩
theorem kK:OpD K false (Nf neg) (Nd neg):=by
 intro H0 H x y d e z Q s rx ry ho k;unfold Nf at ho;cases aS:S6 e d with
 |none=>rw[aS]at ho;cases ho
 |some o=>
  rw[aS]at ho;cases ho
  obtain⟨a,w,rfl,g,m⟩:=Sv aS (ry.mono s) (rx.mono s)
  refine⟨a,w,rfl,g,k _ H ?_⟩
  have e:w.isSome=o.isSome:=by
   cases o with
   |none=>rw[show w=none from m];rfl
   |some z=>obtain⟨v,e,_⟩:=m;rw[e];rfl
  rw[e]
  exact .pure s (.mkBl _)
def dIn(neg:Bool):D->D->Option D:=dOr (Nh neg) (Nf neg)
def Xp(K:Frag)(neg:Bool):R2:=fun x y H Q=>Ng K neg x y H Q\/Nd neg x y H Q
theorem Of(hu:X.A.units+64<cLine):OpR X (compareOp .In) (Xp X.K false):=(y0f hu).or (y0k hu)
theorem Oe:OpD K false (dIn neg) (Xp K neg):=od_inS.or kK
theorem vP(hu:X.A.units+64<cLine):IxR X Nb:=by intro value slice pins s U H x y v u Q I rx ry h hs;obtain⟨a,w,rfl,g,q⟩:=h;cases rx;exact tail_any (ops:=[.ref a,u]) (zH I g) PySem.F.slot_dict_getitem.lookup (yP (by lia) I g ry fun w' s3 I3 dh=>⟨w,H,I3,dh,q⟩) hs
theorem kJ:OpD K false Nc Nb:=by
 intro H0 H x y d e z Q s rx ry ho k;unfold Nc at ho;cases aS:S6 d e with
 |none=>rw[aS]at ho;cases ho
 |some o=>
  rw[aS]at ho
  have ho:o=some z:=ho
  subst ho
  obtain⟨a,w,e0,g,m⟩:=Sv aS rx ry
  obtain⟨v,rfl,rv⟩:=m
  subst e0
  refine⟨a,v,rfl,?_,k _ H (.pure s rv)⟩
  rcases g with⟨kvs,kk,e1,e2,e3⟩ |⟨kvs,kk,b,e1,e2,e3,e4⟩
  . refine .inl ⟨kvs,kk,?_,e2,e3⟩;rcases e1 with e1 |⟨o,e1⟩
    . exact .inl (s _ _ e1)
    . exact .inr ⟨o,s _ _ e1⟩
  . refine .inr ⟨kvs,kk,b,?_,e2,s _ _ e3,e4⟩;rcases e1 with e1 |⟨o,e1⟩
    . exact .inl (s _ _ e1)
    . exact .inr ⟨o,s _ _ e1⟩
theorem od_ixS:OpD K false D6 (rIx K):=by
 intro H0 H x y d e z Q s rx ry ho k;cases d<;>simp only[D6]at ho<;>first |cases ho |skip
 . -- a LI
   cases e<;>simp only[D6]at ho<;>first |cases ho |skip
   cases rx.str;cases ry.int;split at ho
   . rename_i z' i hl;cases hc:atI z'.cps.toList i with
     |none=>rw[hc]at ho;cases ho
     |some c=>
      rw[hc]at ho;cases ho
      exact .inr (.inr ⟨z',i,c,rfl,rfl,Da hl,hc,k _ H (.pure s (.mkStr _))⟩)
   . cases ho
 . cases e<;>simp only[D6]at ho<;>first |cases ho |skip
   obtain⟨a,xs,rfl,ha,ra⟩:=rx.tup;cases ry.int;obtain⟨v,hv,rv⟩:=ra.atI ho;exact .inr (.inl ⟨a,xs,_,v,rfl,rfl,.of (s _ _ ha),hv,k _ H (.pure s rv)⟩)
 . cases e<;>simp only[D6]at ho<;>first |cases ho |skip
   obtain⟨a,xs,rfl,ha,ra⟩:=rx.lst;cases ry.int;obtain⟨v,hv,rv⟩:=ra.atI ho;exact .inl ⟨a,xs,_,v,rfl,rfl,.of (s _ _ ha),hv,k _ H (.pure s rv)⟩
 . cases e<;>simp only[D6]at ho<;>first |cases ho |skip
   rename_i ns i;cases ry.int;obtain⟨a,rfl,ha⟩:=(rx.mono s).scr;cases hc:atI ns i with
   |none=>rw[hc]at ho;cases ho
   |some c=>
    rw[hc]at ho;cases ho
    exact .inl ⟨a,_,i,.int c,rfl,rfl,ha,by rw[vQ,hc];rfl,k _ H (.pure s (.mkInt _))⟩
def dIx:D->D->Option D:=dOr D6 Nc
def Xo(K:Frag):R2:=fun x y H Q=>rIx K x y H Q\/Nb x y H Q
theorem y4m(hu:X.A.units+64<cLine):IxR X (Xo X.K):=ix_seq.or (vP hu)
theorem y0l:OpD K false dIx (Xo K):=od_ixS.or kJ
end
structure QE(X:Cx)(EX:XW)(fr:Bool)(e:Expr)(f:DE->R D):Prop where
 h:PE X e (TEd X.K EX fr f)
structure QT(X:Cx)(EX:XW)(e:Expr)(t:DE->R Bool):Prop where
 h:PT X e (TTd X.K EX t)
structure QW(X:Cx)(EX:XW)(e:Expr)(t:DE->R Bool):Prop where
 h:PW X e (TTd X.K EX t)
structure QA(X:Cx)(EX:XW)(es:List Expr)(f:DE->R (List D)):Prop where
 h:PA X es (TAd X.K EX f)
structure QI(X:Cx)(EX:XW)(kp:Bool)(tg e:Expr)(f:DE->R (List D)):Prop where
 h:PI X tg e (TId X.K EX kp f)
structure QG(X:Cx)(tg:Expr)(t:Tg):Prop where
 h:PG X tg (TGd X.K t)
structure QGs(X:Cx)(ts:List Expr)(is:List Nat):Prop where
 h:PGs X ts (Ea is)
structure QS(X:Cx)(EX:XW)(fr:Bool)(st:Stmt)(g:DS->SR):Prop where
 h:PS X st (TSd X.K EX fr g)
structure QB(X:Cx)(EX:XW)(fr:Bool)(sts:List Stmt)(g:DS->SR):Prop where
 h:PSs X sts (TSd X.K EX fr g)
structure QC(X:Cx)(EX:XW)(ops:List CmpOp)(rs:List Expr)(g:D->DE->R D):Prop where
 h:PCh X ops rs (Ay X.K EX g)
structure QCT(X:Cx)(EX:XW)(ops:List CmpOp)(rs:List Expr)(g:D->DE->R Bool):Prop where
 h:PChT X ops rs (Bl X.K EX g)
section
variable {X:Cx}{EX:XW}{fr:Bool}{a b c e:Expr}{es rest:List Expr}{fa fb:DE->R D}{fs:DE->R (List D)}{t u:DE->R Bool}{pos p:Pos}{x:Str}
theorem PA.imp{es:List Expr}{t t':TA}(h:PA X es t)(hi:∀U H Q,t' U H Q->t U H Q):PA X es t':=fun pos pins s U H Q I q=>h pos pins s U H Q I (hi U H Q q)
theorem PW.imp{e:Expr}{t t':TT}(h:PW X e t)(hi:∀U H Q,t' U H Q->t U H Q):PW X e t':=fun wh pins s U H Q I q=>h wh pins s U H Q I (hi U H Q q)
theorem PI.imp{tg e:Expr}{t t':TI}(h:PI X tg e t)(hi:∀U H Q,t' U H Q->t U H Q):PI X tg e t':=fun pins s U H Q I q=>h pins s U H Q I (hi U H Q q)
theorem PS.imp{st:Stmt}{t t':TS}(h:PS X st t)(hi:∀D U H,t' D U H->t D U H):PS X st t':=fun pins s U H D I q=>h pins s U H D I (hi D U H q)
theorem PSs.imp{st:List Stmt}{t t':TS}(h:PSs X st t)(hi:∀D U H,t' D U H->t D U H):PSs X st t':=fun pins s U H D I q=>h pins s U H D I (hi D U H q)
theorem QE.wk(h:QE X EX true e f):QE X EX false e f:=⟨h.h.imp fun _ _ _ q=>q.weak⟩
theorem qv(i:Nat)(hN:X.N[i]?=some x:=by rfl)(hv:Vis X.env.scope x:=by first |exact .inl rfl |exact .inr (.inl rfl) |exact .inr (.inr rfl))(hd:(x==("__debug__":Str))=false:=by decide)
 (br:(x==("__classdict__":Str))=false:=by decide):QE X EX false (.Name x pos) (d6 i):=⟨(Jr hN hv hd br).imp fun U H Q q=>Zb q⟩
theorem e8:QE X EX false (.Constant (.int i) j pos) (eC (.int i)):=⟨pe_int.imp fun U H Q q=>Eo (fun _=>.mkInt i) q⟩
theorem r6:QE X EX false (.Constant (.bool i) j pos) (eC (.bl i)):=⟨pe_bl.imp fun U H Q q=>Eo (fun _=>.mkBl i) q⟩
theorem y0m:QE X EX false (.Constant .none j pos) (eC .non):=⟨pe_non.imp fun U H Q q=>Eo (fun _=>.mkNon) q⟩
theorem Dp:QE X EX false (.Constant (.str i) j pos) (eC (.str i)):=⟨pe_str.imp fun U H Q q=>Eo (fun _=>.mkStr i) q⟩
theorem g5(ho:OpR X (binaryOp op) r)(od:OpD X.K fr o r)(ha:QE X EX false a fa)(hb:QE X EX false b fb):QE X EX fr (.BinOp a op b pos) (eOp o fa fb):=⟨(Zp ho ha.h hb.h).imp fun _ _ _ q=>Dc od q⟩
theorem Xn(ho:UnR X (unaryOp op) r)(od:UnD X.K fr o r)(ha:QE X EX false a fa):QE X EX fr (.UnaryOp op a pos) (eUn o fa):=⟨(Zo ho ha.h).imp fun _ _ _ q=>y4d od q⟩
theorem J2(ho:OpR X (compareOp op) r)(od:OpD X.K false o r)(ha:QE X EX false a fa)(hb:QE X EX false b fb)(hm:behindInMarks op b=false) :
 QE X EX false (.Compare a [op] [b] pos) (eOp o fa fb):=⟨(wz ho ha.h hb.h hm).imp fun _ _ _ q=>Dc od q⟩
theorem y4n(ho:IxR X r)(od:OpD X.K false o r)(ha:QE X EX false a fa)(hb:QE X EX false b fb)(hs:Kt b:=by exact fun _ _=>rfl):QE X EX false (.Subscript a b pos) (eOp o fa fb):=⟨(Zm ho ha.h hb.h hs).imp fun _ _ _ q=>Dc od q⟩
theorem e7:QA X EX [] d9:=⟨pa_nil.imp fun _ _ _ q=>Za q⟩
theorem d8(ha:QE X EX false e fa)(hr:QA X EX es fs)(hs:starEach (e::es) X.env=(false,eval e X.env)::starEach es X.env:=by rfl):QA X EX (e::es) (d7 fa fs):=⟨(O4 ha.h hr.h hs).imp fun _ _ _ q=>kX q⟩
theorem x9(h:QA X EX es fs):QE X EX false (.Tuple es x1 pos) (n8 fs):=⟨(Qv h.h).imp fun _ _ _ q=>Yz q⟩
theorem A5(h:QA X EX es fs):QE X EX true (.List es pos) (t0 fs):=⟨(qm h.h).imp fun _ _ _ q=>Yy q⟩
theorem y0n(hc:QT X EX c t)(ha:QE X EX fr a fa)(hb:QE X EX fr b fb):QE X EX fr (.IfExp c a b pos) (eIf t fa fb):=⟨(ye hc.h ha.h hb.h).imp fun _ _ _ q=>y4e q⟩
theorem S5(ha:QE X EX false a fa)(hb:QE X EX false (.BoolOp .And (b::rest) pos) fb):QE X EX false (.BoolOp .And (a::b::rest) pos) (J1 fa fb):=⟨(wn ha.h hb.h).imp fun _ _ _ q=>Yw q⟩
theorem Na(ha:QE X EX false a fa)(hb:QE X EX false (.BoolOp .Or (b::rest) pos) fb):QE X EX false (.BoolOp .Or (a::b::rest) pos) (eOr fa fb):=⟨(qa ha.h hb.h).imp fun _ _ _ q=>y4g q⟩
theorem O0(h:QE X EX false a fa):QE X EX false (.BoolOp op [a] pos) fa:=⟨qx h.h⟩
noncomputable def o9:D->Option Bool
 | .bl b=>some b
 | .int i=>some (i != 0)
 | .non=>some false
 | .str z=>if z.length<=100000 then some ((z.length:Int) != 0) else none
 | .lst ds=>some (!ds.isEmpty)
 | .tup ds=>some (!ds.isEmpty)
 | .dk ks _=>some (!ks.isEmpty)
 |_=>none
theorem Me{α β:Type}{xs:List α}{ys:List β}(h:xs.length=ys.length):xs.isEmpty=ys.isEmpty:=by cases xs<;>cases ys<;>first |rfl |simp at h
theorem Ql{K:Frag}:Fu K o9 Q0:=by
 intro H0 H x d b Q s rx ht q;cases d<;>simp only[o9]at ht<;>first |cases ht |skip
 . cases rx.non;exact q
 . cases rx.bl;exact q
 . cases rx.int;exact q
 . split at ht<;>cases ht;rename_i h;cases rx.str;exact⟨Da h,q⟩
 . obtain⟨p,xs,rfl,hp,r⟩:=rx.tup;unfold Q0;dsimp only;rw[Vj (s _ _ hp)];rw[Me r.length]at q;exact q
 . obtain⟨p,xs,rfl,hp,r⟩:=rx.lst;unfold Q0;dsimp only;rw[Vk (s _ _ hp)];rw[Me r.length]at q;exact q
 . rename_i ks es;obtain⟨p,xs,rfl,hp,hl,r⟩:=rx.dk;unfold Q0;dsimp only;have e:G1 H p=none:=by unfold G1;rw[s _ _ hp]
   rw[e];dsimp only;rw[s _ _ hp];dsimp only;rw[Me (show ks.length=(List.zip ks xs).length by rw[QL,<-hl,Nat.min_self])]at q;exact q
theorem Qk(ha:QE X EX false a fa):QE X EX false (.UnaryOp .Not a pos) (eUn (fun d=>(o9 d).map fun b=>.bl (!b)) fa):=⟨(wm ha.h).imp fun _ _ _ q=>kT Ql q⟩
theorem C9(ha:QE X EX false a fa)(he:∀whole,isTrue a X.env whole=(do let v <-whole;standAt a.pos;holding [v] (truthy v)):=by intro _;rfl):QT X EX a (i7 o9 fa):=⟨(qe ha.h he).imp fun _ _ _ q=>y00 Ql q⟩
theorem N9(ho:OpR X (compareOp op) r)(od:OpD X.K false o r)(ha:QE X EX false a fa)(hb:QE X EX false b fb)(hm:behindInMarks op b=false) :
 QT X EX (.Compare a [op] [b] pos) (i7 asB (eOp o fa fb)):=⟨(wo ho ha.h hb.h hm).imp fun _ _ _ q=>y01 od q⟩
theorem QW.pt(h:QW X EX a t):QT X EX a t:=⟨h.h.pt⟩
theorem G0(ha:QT X EX a t):QT X EX (.UnaryOp .Not a pos) (w4 t):=⟨(qy ha.h).imp fun _ _ _ q=>kW q⟩
theorem S4(ha:QT X EX a t):QW X EX (.BoolOp .Or [a] pos) t:=⟨qz ha.h⟩
theorem D5(ha:QT X EX a t)(hb:QW X EX (.BoolOp .Or (b::rest) pos) u):QW X EX (.BoolOp .Or (a::b::rest) pos) (bOr t u):=⟨(Zr ha.h hb.h).imp fun _ _ _ q=>Yx q⟩
theorem PCh.imp{ops:List CmpOp}{rs:List Expr}{t t':V->TE}(h:PCh X ops rs t)(hi:∀x U H Q,t' x U H Q->t x U H Q):PCh X ops rs t':=fun pos pins s U H x v Q I r q=>h pos pins s U H x v Q I r (hi x U H Q q)
theorem PChT.imp{ops:List CmpOp}{rs:List Expr}{t t':V->TT}(h:PChT X ops rs t)(hi:∀x U H Q,t' x U H Q->t x U H Q):PChT X ops rs t':=fun pos pins s U H x v Q I r q=>h pos pins s U H x v Q I r (hi x U H Q q)
variable {g:D->DE->R D}{gt:D->DE->R Bool}{op eR:CmpOp}{ops:List CmpOp}{r:R2}{o:D->D->Option D}{r':Expr}{rs:List Expr}
theorem Br(ho:OpR X (compareOp op) r)(od:OpD X.K false o r)(hb:QE X EX false b fb):QC X EX [op] [b] (Q3 o fb):=⟨(xX ho hb.h).imp fun _ _ _ _ q=>kS od q⟩
theorem Q4(ho:OpR X (compareOp op) r)(od:OpD X.K false o r)(hb:QE X EX false b fb)(hr:QC X EX (eR::ops) (r'::rs) g):QC X EX (op::eR::ops) (b::r'::rs) (J6 o fb g):=⟨(xW ho hb.h hr.h).imp fun _ _ _ _ q=>kR od q⟩
theorem vO(ho:OpR X (compareOp op) r)(od:OpD X.K false o r)(hb:QE X EX false b fb):QCT X EX [op] [b] (Bx o fb):=⟨(yL ho hb.h).imp fun _ _ _ _ q=>vW od q⟩
theorem vN(ho:OpR X (compareOp op) r)(od:OpD X.K false o r)(hb:QE X EX false b fb)(hr:QCT X EX (eR::ops) (r'::rs) gt):QCT X EX (op::eR::ops) (b::r'::rs) (Bw o fb gt):=⟨(yK ho hb.h hr.h).imp fun _ _ _ _ q=>vV od q⟩
theorem Bk(ha:QE X EX false a fa)(hr:QC X EX (bo::bp::ops) (bR::bD::rs) g)(hm:lastMarks (bo::bp::ops) (bR::bD::rs)=false:=by with_unfolding_all rfl) :
 QE X EX false (.Compare a (bo::bp::ops) (bR::bD::rs) pos) (P6 fa g):=⟨(qc ha.h hr.h hm).imp fun _ _ _ q=>y02 q⟩
theorem y0p(ha:QE X EX false a fa)(hr:QCT X EX (bo::bp::ops) (bR::bD::rs) gt)(hm:lastMarks (bo::bp::ops) (bR::bD::rs)=false:=by with_unfolding_all rfl) :
 QT X EX (.Compare a (bo::bp::ops) (bR::bD::rs) pos) (Be fa gt):=⟨(qb ha.h hr.h hm).imp fun _ _ _ q=>kQ q⟩
theorem C4{id:String}{rr:List V->Hp->VK->Prop}{m:List D->Option D}(hc:CallR X (.builtin id) rr)(od:B9 X.K fr m rr)(hg:Gl X x)(hm:X.mg x=none)(hv:bootBuiltins x=some (.builtin id))(ha:QA X EX (e::es) fs)(hn:x≠"__name__":=by decide)(aF:(x==("__debug__":Str))=false:=by decide)
 (he:starEach (e::es) X.env=(false,eval e X.env)::starEach es X.env:=by rfl) (hpl:(backTo pos (starEach es X.env)).any (·.1)=false:=by rfl):QE X EX fr (.Call (.Name x p) (e::es) [] pos) (eCB m fs):=⟨(Cm hc hg hm hv ha.h hn aF he hpl).imp fun _ _ _ q=>Ft od q⟩
theorem W0(hc:CallR X (.type T) rr)(od:B9 X.K fr m rr)(hg:Gl X x)(hm:X.mg x=none)(hv:bootBuiltins x=some (.type T))(ha:QA X EX (e::es) fs)(hn:x≠"__name__":=by decide)(aF:(x==("__debug__":Str))=false:=by decide)
 (he:starEach (e::es) X.env=(false,eval e X.env)::starEach es X.env:=by rfl) (hpl:(backTo pos (starEach es X.env)).any (·.1)=false:=by rfl):QE X EX fr (.Call (.Name x p) (e::es) [] pos) (eCB m fs):=⟨(Vo hc hg hm hv ha.h hn aF he hpl).imp fun _ _ _ q=>Ft od q⟩
theorem j6(L:Lnd X EX)(G:g4 X.prog X.w X.K X.mg X.base x ps k (spD X.K X.mg fr (mOf fr n kk gg) n))(hr:Room j X.A)(hg:Gl X x)(ha:QA X EX (e::es) fs)(eg:k<=j:=by omega)(aF:(x==("__debug__":Str))=false:=by decide)
 (he:starEach (e::es) X.env=(false,eval e X.env)::starEach es X.env:=by rfl) (hpl:(backTo pos (starEach es X.env)).any (·.1)=false:=by rfl):QE X EX fr (.Call (.Name x p) (e::es) [] pos) (g6 (mOf fr n kk gg) fs):=⟨(Sx G L.on hr hg ha.h eg aF he hpl).imp fun _ _ _ q=>Qo Kl (fun x H z=>by obtain⟨C,hC⟩:=L.nm x H z;exact⟨C,hC,fun od xf=>⟨x,z,hC,xf⟩⟩) q⟩
end
noncomputable def D9:D->String
 | .non=>"NoneType"
 | .bl _=>"bool"
 | .int _=>"int"
 | .str _=>"str"
 | .tup _=>"tuple"
 | .lst _=>"list"
 | .dk _ _=>"dict"
 | .dt _ _=>"dict"
 | .dn _ _=>"?"
 | .scr _=>"?"
 | .exc _ _=>"?"
def p8(c:String):D->Option D:=fun d=>if J4 c=true/\D9 d≠"?" then some (.bl (G8 (D9 d) c)) else none
theorem vM{K:Frag}{H:Hp}{d:D}{v:V}(h:D9 d≠"?")(r:RD K H d v):O1 H v=some (D9 d):=by
 cases d
 . cases r.non;rfl
 . cases r.bl;rfl
 . cases r.int;rfl
 . cases r.str;rfl
 . obtain⟨a,xs,rfl,ha,_⟩:=r.tup;simp only[O1,ha,D9]
 . obtain⟨a,xs,rfl,ha,_⟩:=r.lst;simp only[O1,ha,D9]
 . obtain⟨a,xs,rfl,ha,_⟩:=r.dk;simp only[O1,ha,D9]
 . obtain⟨a,xs,rfl,ha,_⟩:=r.dt;simp only[O1,ha,D9]
 . exact absurd rfl h
 . exact absurd rfl h
 . exact absurd rfl h
theorem y0q{K:Frag}{EX:XW}{U:St}{H:Hp}{Q:VK}{c:String}{f:DE->R D}(h:TEd K EX false (eUn (p8 c) f) U H Q):tCB Dg (Q2 (TEd K EX false f) (Q2 (tC (.ty c)) Ba)) U H Q:=by
 obtain⟨sx,ρ,H0,s,e,h⟩:=h;unfold eUn at h;rw[Rk.bind]at h;refine TEd.go sx s e h fun d h v H1 aq s1 e1 r1=>?_
 obtain⟨z,hz,h⟩:=h.of;unfold p8 at hz;split at hz<;>cases hz;rename_i hc;show Dg [v,.ty c] H1 Q;rw[kY];refine⟨hc.1,?_⟩;rw[vM hc.2 (r1.mono e1.2.1)];exact h _ H1 (.val s1 e1 (.mkBl _))
theorem P9(hg:Gl X x)(hm:X.mg x=none)(hv:bootBuiltins x=some (.builtin "isinstance"))(ha:QE X EX false a f)(hb:PE X b (tC (.ty c)))(hn:x≠"__name__":=by decide)(aF:(x==("__debug__":Str))=false:=by decide)
 (he:starEach [a,b] X.env=(false,eval a X.env)::starEach [b] X.env:=by rfl) (hpl:(backTo pos (starEach [b] X.env)).any (·.1)=false:=by rfl) (hs:starEach [b] X.env=(false,eval b X.env)::starEach [] X.env:=by rfl) :
 QE X EX false (.Call (.Name x p) [a,b] [] pos) (eUn (p8 c) f):=⟨(Cm Ze hg hm hv (O4 ha.h (O4 hb pa_nil hs) he) hn aF he hpl).imp fun _ _ _ q=>y0q q⟩
noncomputable def y0:List D->Option (List Int)
 | []=>some []
 | .int i::ds=>(y0 ds).map (i::·)
 |_::_=>none
noncomputable def J8:List D->Option (List Bool)
 | []=>some []
 | .bl i::ds=>(J8 ds).map (i::·)
 |_::_=>none
theorem Wa:∀(ns:List Int),y0 (ns.map D.int)=some ns
 | []=>rfl
 |n::ns=>by simp[y0,Wa ns]
theorem Wj:∀(ns:List Bool),J8 (ns.map D.bl)=some ns
 | []=>rfl
 |n::ns=>by simp[J8,Wj ns]
theorem T5{K:Frag}{H:Hp}:∀{ds:List D}{ns:List Int}{xs:List V},y0 ds=some ns->RDs K H ds xs->xs=ns.map V.int
 | [],ns,xs,h,r=>by simp only[y0]at h;cases h;simp only[RDs]at r;subst r;rfl
 |d::ds,ns,xs,h,r=>by
  simp only[RDs]at r;obtain⟨x,xs,rfl,r1,r2⟩:=r;cases d<;>simp only[y0]at h<;>first |cases h |skip
  cases q:y0 ds with
  |none=>rw[q]at h;cases h
  |some ms=>
   rw[q]at h;cases h
   cases r1.int
   rw[T5 q r2];rfl
theorem Ma{K:Frag}{H:Hp}:∀{ds:List D}{ns:List Bool}{xs:List V},J8 ds=some ns->RDs K H ds xs->xs=ns.map V.bl
 | [],ns,xs,h,r=>by simp only[J8]at h;cases h;simp only[RDs]at r;subst r;rfl
 |d::ds,ns,xs,h,r=>by
  simp only[RDs]at r;obtain⟨x,xs,rfl,r1,r2⟩:=r;cases d<;>simp only[J8]at h<;>first |cases h |skip
  cases q:J8 ds with
  |none=>rw[q]at h;cases h
  |some ms=>
   rw[q]at h;cases h
   cases r1.bl
   rw[Ma q r2];rfl
noncomputable def C3:List D->Option D
 | [.lst ds]=>some (.int ds.length)
 | [.tup ds]=>some (.int ds.length)
 | [.dk ks _]=>some (.int ks.length)
 | [.scr ns]=>some (.int ns.length)
 | [.str z]=>if z.length<=100000 then some (.int z.length) else none
 |_=>none
def N0:List D->Option D
 | [.lst ds]=>(y0 ds).map fun ns=>.int ns.sum
 | [.tup ds]=>(y0 ds).map fun ns=>.int ns.sum
 |_=>none
def R0:List D->Option D
 | [.lst ds]=>(J8 ds).map fun bs=>.bl (bs.all id)
 |_=>none
def Mz:List D->Option D
 | [.lst ds]=>(J8 ds).map fun bs=>.bl (bs.any id)
 |_=>none
noncomputable def y0s:List D->Option D
 | [.int i,.int j]=>some (.int (if j > i then j else i))
 |_=>none
noncomputable def y0t:List D->Option D
 | [.int i,.int j]=>some (.int (if j<i then j else i))
 |_=>none
noncomputable def U7:List D->Option D
 | [.int i]=>some (.int i)
 | [.bl b]=>some (.int (if b then 1 else 0))
 |_=>none
noncomputable def Gu:List D->Option D
 | [.lst ds]=>some (.lst ds)
 | [.tup ds]=>some (.lst ds)
 | [.scr ns]=>some (.lst (ns.map .int))
 |_=>none
noncomputable def J7:List D->Option D
 | [.lst ds]=>some (.tup ds)
 | [.tup ds]=>some (.tup ds)
 |_=>none
section
variable {X:Cx}{K:Frag}
theorem RDs.uno(h:RDs K H [d] xs):∃x,xs=[x]/\RD K H d x:=by simp only[RDs]at h;obtain⟨x,r,rfl,h1,rfl⟩:=h;exact⟨x,rfl,h1⟩
theorem RDs.duo(h:RDs K H [d,e] xs):∃x y,xs=[x,y]/\RD K H d x/\RD K H e y:=by simp only[RDs]at h;obtain⟨x,r,rfl,h1,y,r',rfl,h2,rfl⟩:=h;exact⟨x,y,rfl,h1,h2⟩
def Od(K:Frag):List V->Hp->VK->Prop:=fun xs H Q=>(∃p ys,xs=[.ref p]/\(SqL K H p ys\/SqT K H p ys)/\Q (.int ys.length) H)\/(∃a kvs,xs=[V.ref a]/\H a=some (.dK kvs)/\Q (.int kvs.length) H)\/∃z,xs=[.str z]/\z.length<=sizeLine/\Q (.int z.length) H
theorem kI:CallR X (.builtin "len") (Od X.K):=call_len_seq.or (call_lenD.or zY)
theorem kH:B9 K false C3 (Od K):=by
 intro H0 H xs ds z Q s r ho k;unfold C3 at ho;split at ho<;>first |cases ho |skip
 . obtain⟨x,rfl,q1⟩:=r.uno;obtain⟨a,ys,rfl,ha,ra⟩:=q1.lst;exact .inl ⟨a,ys,rfl,.inl (.of (s _ _ ha)),by rw[<-ra.length];exact k _ H (.pure s (.mkInt _))⟩
 . obtain⟨x,rfl,q1⟩:=r.uno;obtain⟨a,ys,rfl,ha,ra⟩:=q1.tup;exact .inl ⟨a,ys,rfl,.inr (.of (s _ _ ha)),by rw[<-ra.length];exact k _ H (.pure s (.mkInt _))⟩
 . obtain⟨x,rfl,q1⟩:=r.uno;obtain⟨a,ys,rfl,ha,hl,ra⟩:=q1.dk;refine .inr (.inl ⟨a,_,rfl,s _ _ ha,?_⟩);rw[QL,<-hl,Nat.min_self];exact k _ H (.pure s (.mkInt _))
 . obtain⟨x,rfl,q1⟩:=r.uno;obtain⟨a,rfl,ha⟩:=(q1.mono s).scr;exact .inl ⟨a,_,rfl,.inl ha,by rw[oQ];exact k _ H (.pure s (.mkInt _))⟩
 . split at ho<;>cases ho;rename_i h;obtain⟨x,rfl,q1⟩:=r.uno;cases q1.str;exact .inr (.inr ⟨_,rfl,Da h,k _ H (.pure s (.mkInt _))⟩)
theorem kG:B9 K false N0 Ha:=by
 intro H0 H xs ds z Q s r ho k;unfold N0 at ho;split at ho<;>first |cases ho |skip
 . obtain⟨x,rfl,q1⟩:=r.uno;obtain⟨a,ys,rfl,ha,ra⟩:=q1.lst;rename_i es;cases q:y0 es with
   |none=>rw[q]at ho;cases ho
   |some ns=>
    rw[q]at ho;cases ho
    rw[Td]
    exact⟨ns,by rw[<-T5 q ra];exact Vk (s _ _ ha),k _ H (.pure s (.mkInt _))⟩
 . obtain⟨x,rfl,q1⟩:=r.uno;obtain⟨a,ys,rfl,ha,ra⟩:=q1.tup;rename_i es;cases q:y0 es with
   |none=>rw[q]at ho;cases ho
   |some ns=>
    rw[q]at ho;cases ho
    rw[Td]
    exact⟨ns,by rw[<-T5 q ra];exact Vj (s _ _ ha),k _ H (.pure s (.mkInt _))⟩
theorem Qj:B9 K false R0 Gz:=by
 intro H0 H xs ds z Q s r ho k;unfold R0 at ho;split at ho<;>first |cases ho |skip
 obtain⟨x,rfl,q1⟩:=r.uno;obtain⟨a,ys,rfl,ha,ra⟩:=q1.lst;rename_i es;cases q:J8 es with
 |none=>rw[q]at ho;cases ho
 |some ns=>
  rw[q]at ho;cases ho
  rw[wc]
  exact⟨ns,by rw[<-Ma q ra];exact .inl (s _ _ ha),k _ H (.pure s (.mkBl _))⟩
theorem kF:B9 K false Mz Gy:=by
 intro H0 H xs ds z Q s r ho k;unfold Mz at ho;split at ho<;>first |cases ho |skip
 obtain⟨x,rfl,q1⟩:=r.uno;obtain⟨a,ys,rfl,ha,ra⟩:=q1.lst;rename_i es;cases q:J8 es with
 |none=>rw[q]at ho;cases ho
 |some ns=>
  rw[q]at ho;cases ho
  rw[wb]
  exact⟨ns,by rw[<-Ma q ra];exact .inl (s _ _ ha),k _ H (.pure s (.mkBl _))⟩
theorem Qi:B9 K false U7 Om:=by
 intro H0 H xs ds z Q s r ho k;unfold U7 at ho;split at ho<;>first |cases ho |skip
 . obtain⟨x,rfl,q1⟩:=r.uno;cases q1.int;exact k _ H (.pure s (.mkInt _))
 . obtain⟨x,rfl,q1⟩:=r.uno;cases q1.bl;exact k _ H (.pure s (.mkInt _))
def Su(K:Frag):List V->Hp->VK->Prop:=fun xs H Q=>∃p ys,xs=[.ref p]/\((SqL K H p ys/\∀l,H l=none->Q (.ref l) (upd H l (.tup ys)))\/(SqT K H p ys/\Q (.ref p) H))
theorem Ey:CallR X (.type "tuple") (Su X.K):=z94
theorem Ew:B9 K false J7 (Su K):=by
 intro H0 H xs ds z Q s r ho k;unfold J7 at ho;split at ho<;>first |cases ho |skip
 . obtain⟨x,rfl,q1⟩:=r.uno;obtain⟨a,ys,rfl,ha,ra⟩:=q1.lst;refine⟨a,ys,rfl,.inl ⟨.of (s _ _ ha),fun l hl=>k _ _ (.val (Same.upd_new hl) (.new s hl) (.mkTup t9 (ra.mono (Same.upd_new (s.none hl)))))⟩⟩
 . obtain⟨x,rfl,q1⟩:=r.uno;obtain⟨a,ys,rfl,ha,ra⟩:=q1.tup;exact⟨a,ys,rfl,.inr ⟨.of (s _ _ ha),k _ H (.pure s (.mkTup ha ra))⟩⟩
end
noncomputable def x3{α:Type}(xs:List α)(lo hi:Option Int):List α:=(xs.drop (HT.sIx xs.length 0 lo)).take (HT.sIx xs.length xs.length hi - HT.sIx xs.length 0 lo)
def dSl:D->Option Int->Option Int->Option D
 | .lst ds,lo,hi=>some (.lst (x3 ds lo hi))
 | .scr ns,lo,hi=>some (.lst ((x3 ns lo hi).map .int))
 |_,_,_=>none
noncomputable def TOd(K:Frag)(EX:XW)(f:DE->R (Option Int)):TO:=fun U H Q=>Same EX.hb H/\∃ρ H0,Same H0 H/\RE K H0 ρ U/\Rk EX.at (f ρ) fun o=>∀H',Same H H'->Q o H'
noncomputable def oNo:DE->R (Option Int):=fun _=>.ok none
def oSo(f:DE->R D):DE->R (Option Int):=fun ρ=>(f ρ).bind fun d=>R.of (match d with | .int i=>some (some i) |_=>none)
def eSl(o:D->Option Int->Option Int->Option D)(f:DE->R D)(fl fh:DE->R (Option Int)):DE->R D:=fun ρ=>(f ρ).bind fun d=>(fl ρ).bind fun lo=>(fh ρ).bind fun hi=>R.of (o d lo hi)
def SlD(K:Frag)(fr:Bool)(o:D->Option Int->Option Int->Option D)(r:V->Option Int->Option Int->Hp->VK->Prop):Prop:=∀(H0 H:Hp)(x:V)(d z:D)(lo hi:Option Int)(Q:VK),Same H0 H->RD K H0 d x->o d lo hi=some z->(∀v H',Out K fr H0 H z v H'->Q v H')->r x lo hi H Q
section
variable {X:Cx}{K:Frag}{EX:XW}{fr:Bool}{U:St}{H:Hp}{Q:VK}
structure QO(X:Cx)(EX:XW)(e:Option Expr)(f:DE->R (Option Int)):Prop where
 h:PO X e (TOd X.K EX f)
theorem PO.imp(h:PO X e t)(hi:∀U H Q,t' U H Q->t U H Q):PO X e t':=fun pins s U H Q I q=>h pins s U H Q I (hi U H Q q)
theorem Xm:QO X EX none oNo:=⟨po_none.imp fun U H Q ⟨sx,ρ,H0,s,e,h⟩=>h H (Same.refl _)⟩
theorem Cz(he:QE X EX false e f):QO X EX (some e) (oSo f):=⟨(wu he.h).imp fun U H Q ⟨sx,ρ,H0,s,e,h⟩=>by
 unfold oSo at h;rw[Rk.bind]at h;refine TEd.go sx s e h fun d h v H1 aq s1 e1 r1=>?_
 obtain⟨o,ho,h⟩:=h.of;cases d<;>dsimp only at ho<;>first |cases ho |skip
 cases r1.int;exact⟨_,rfl,h H1 s1⟩⟩
theorem y4o(hs:SlD K fr o r)(h:TEd K EX fr (eSl o f fl fh) U H Q):tSl r (TEd K EX false f) (TOd K EX fl) (TOd K EX fh) U H Q:=by
 obtain⟨sx,ρ,H0,s,e,h⟩:=h;unfold eSl at h;rw[Rk.bind]at h;refine TEd.go sx s e h fun d h v H1 aq s1 e1 r1=>?_
 rw[Rk.bind]at h;refine⟨sx.trans s1,ρ,aq,e1.2.1,e.mono e1.1,h.mono fun lo h H2 s2=>?_⟩;rw[Rk.bind]at h;refine⟨(sx.trans s1).trans s2,ρ,aq,e1.2.1.trans s2,e.mono e1.1,h.mono fun hi h H3 s3=>?_⟩;obtain⟨z,hz,h⟩:=h.of;exact hs aq H3 v d z lo hi Q (e1.2.1.trans (s2.trans s3)) r1 hz fun w H4 o=>h w H4 (o.after (s1.trans (s2.trans s3)) (e1.grow (s2.trans s3)))
theorem RDs.cut(r:RDs K H ds xs)(lo hi:Option Int):RDs K H (x3 ds lo hi) (N3 xs lo hi):=by unfold x3 N3;rw[<-r.length];exact(r.drop _).take _
theorem Ss:SlD K true dSl (Yi K):=by
 intro H0 H x d z lo hi Q s r ho k;cases d<;>simp only[dSl]at ho<;>first |cases ho |skip
 . obtain⟨a,xs,rfl,ha,ra⟩:=r.lst;refine⟨a,xs,rfl,.of (s _ _ ha),fun p hp=>k _ _ (.new s hp fun H' hH=>?_)⟩;simp only[OB];exact⟨_,hH,ra.cut lo hi⟩
 . rename_i ns;obtain⟨a,rfl,ha⟩:=(r.mono s).scr;refine⟨a,_,rfl,ha,fun p hp=>k _ _ (.new s hp fun H' hH=>?_)⟩;simp only[OB];have e:=(RDs.ofInts (K:=K) (H:=H0) ns).cut lo hi;refine⟨_,hH,?_⟩;have e2:∀ns:List Int,x3 (ns.map D.int) lo hi=(x3 ns lo hi).map D.int:=fun ns=>by unfold x3;rw[oQ,List.map_take,List.map_drop]
   rw[e2]at e;exact e
theorem My{o:D->Option Int->Option Int->Option D}{r:V->Option Int->Option Int->Hp->VK->Prop}{e:Expr}{lo hi:Option Expr}{pos p2:Pos}{f:DE->R D}{fl fh:DE->R (Option Int)}(hr:SlR X r)(hs:SlD X.K fr o r)(he:QE X EX false e f)(hl:QO X EX lo fl)(hu:QO X EX hi fh) :
 QE X EX fr (.Subscript e (.Slice lo hi none p2) pos) (eSl o f fl fh):=⟨(xZ hr he.h hl.h hu.h).imp fun _ _ _ q=>y4o hs q⟩
end
def iL(f:DE->R D):DE->R (List D):=fun ρ=>(f ρ).bind fun d=>R.of (items d)
noncomputable def zD(lo:Int)(n:Nat):List D:=(List.range n).map fun (i:Nat)=>D.int (lo+i)
def x8(fs:DE->R (List D)):DE->R (List D):=fun ρ=>(fs ρ).bind fun ds=>R.of (match ds with
 | [.int j]=>if -(2 ^ 62)<=j/\j<2 ^ 62 then some (zD 0 j.toNat) else none
 |_=>none)
def Aw(fs:DE->R (List D)):DE->R (List D):=fun ρ=>(fs ρ).bind fun ds=>R.of (match ds with
 | [.int i,.int j]=>if -(2 ^ 62)<=i/\i<2 ^ 62/\-(2 ^ 62)<=j/\j<2 ^ 62 then some (zD i (j - i).toNat) else none
 |_=>none)
def iEn(fs:DE->R (List D)):DE->R (List D):=fun ρ=>(fs ρ).bind fun ds=>R.of (match ds with
 | [.lst es]=>some (((zD 0 es.length).zip es).map fun p=>D.tup [p.1,p.2])
 |_=>none)
section
variable {X:Cx}{K:Frag}{EX:XW}{H0:Hp}
theorem Dy(hS:∀H,Same H0 H->S H)(r:RDs K H0 ds xs):U9 K (ItS S xs) H0 ds:=by have hl:=r.length;refine⟨fun i d e H H1 s1 s2=>⟨⟨hS H (s1.trans s2),by rw[<-hl];exact(NW.mp e).1⟩,fun x H' ⟨e1,e2⟩=>?_⟩,fun H s=>⟨hS H s,by rw[hl];exact ζ _⟩⟩;subst e1;obtain⟨x',q1,q2⟩:=r.get' e;rw[q1]at e2;cases e2;exact⟨Same.refl _,H1,.refl s2,q2.mono s1⟩
theorem Do(lo:Int)(n:Nat):RDs K H0 (zD lo n) (A9 lo n):=by
 have:∀l:List Nat,RDs K H0 (l.map fun (i:Nat)=>D.int (lo+i)) (l.map fun (i:Nat)=>V.int (lo+i)):=by
  intro l;induction l with
  |nil=>simp[RDs]
  |cons a l ih=>exact .cons (.mkInt _) ih
 exact this _
theorem N8(hl:QE X EX false l f):QI X EX false tg l (iL f):=⟨(kZ hl.h).imp fun U H Q ⟨sx,ρ,H0,s,e,h⟩=>by
 unfold iL at h;rw[Rk.bind]at h;refine TEd.go sx s e h fun d h v H1 aq s1 e1 r1=>?_
 obtain⟨ds,hd,h⟩:=h.of;cases d<;>simp only[items]at hd<;>first |cases hd |skip
 . obtain⟨a,xs,rfl,ha,ra⟩:=r1.tup;exact xT (e1.2.1 _ _ ha) (h _ H1 aq s1 e1 (Dy (fun H s=>s _ _ ha) ra))
 . obtain⟨a,xs,rfl,ha,ra⟩:=r1.lst;exact xU (.inl (e1.2.1 _ _ ha)) (h _ H1 aq s1 e1 (Dy (fun H s=>.inl (s _ _ ha)) ra))⟩
theorem Q9(hg:Gl X "range")(hm:X.mg "range"=none)(ha:QA X EX [a] fs)(hs:starEach [a] X.env=[(false,eval a X.env)]:=by rfl):QI X EX true tg (.Call (.Name "range" p) [a] [] pos) (x8 fs):=⟨(Zg hg hm ha.h hs).imp fun U H Q ⟨sx,ρ,H0,s,e,h⟩=>by
 unfold x8 at h;rw[Rk.bind]at h;refine TAd.go sx s e h fun ds h vs H1 aq s1 e1 r1=>?_
 obtain⟨es,hd,h⟩:=h.of;split at hd<;>first |cases hd |skip
 obtain⟨x,rfl,q1⟩:=r1.uno;cases q1.int;split at hd<;>cases hd;rename_i hb;exact⟨hb,h _ H1 aq s1 e1 (Dy (fun _ _=>trivial) (Do _ _))⟩⟩
theorem Mx(hg:Gl X "range")(hm:X.mg "range"=none)(ha:QA X EX [a,b] fs)(hs:starEach [a,b] X.env=[(false,eval a X.env),(false,eval b X.env)]:=by rfl)(iC:starEach [b] X.env=[(false,eval b X.env)]:=by rfl) :
  QI X EX true tg (.Call (.Name "range" p) [a,b] [] pos) (Aw fs):=⟨(Zf hg hm ha.h hs iC).imp fun U H Q ⟨sx,ρ,H0,s,e,h⟩=>by
 unfold Aw at h
 rw[Rk.bind]at h
 refine TAd.go sx s e h fun ds h vs H1 aq s1 e1 r1=>?_
 obtain⟨es,hd,h⟩:=h.of
 split at hd<;>first |cases hd |skip
 obtain⟨x,y,rfl,q1,q2⟩:=r1.duo
 cases q1.int;cases q2.int
 split at hd<;>cases hd
 rename_i hb
 exact⟨hb,h _ H1 aq s1 e1 (Dy (fun _ _=>trivial) (Do _ _))⟩⟩
theorem Qh(hS:∀H,Same H0 H->S H)(r:RDs K H0 ds xs)(r':RDs K H0 es ys):U9 K (ItP S (xs.zip ys)) H0 ((ds.zip es).map fun p=>D.tup [p.1,p.2]):=by
 have hl:=r.length;have AU:=r'.length;have hz:((ds.zip es).map fun p=>D.tup [p.1,p.2]).length=(xs.zip ys).length:=by rw[oQ,QL,QL,hl,AU]
 refine⟨fun i d e H H1 s1 s2=>⟨⟨hS H (s1.trans s2),by rw[<-hz];exact(NW.mp e).1⟩,fun x H' y=>?_⟩,fun H s=>⟨hS H s,hz⟩⟩;obtain⟨T,a,b,rfl,hT,rfl,ep⟩:=y;obtain⟨ea,eb⟩:=PP.mp ep;obtain⟨da,ga,ra⟩:=r.get ea;obtain⟨db,gb,rb⟩:=r'.get eb;have gz:(ds.zip es)[i]?=some (da,db):=PP.mpr ⟨ga,gb⟩;rw[NS,gz]at e;cases e;refine⟨Same.upd_new hT,upd H1 T (.tup [a,b]),.new s2 hT,.mkTup t9 ?_⟩;have sm:=Same.upd_new (o:=.tup [a,b]) (s2.none hT);exact .cons (ra.mono (s1.trans sm)) (.cons (rb.mono (s1.trans sm)) .nil)
theorem y4p(hg:Gl X "enumerate")(hm:X.mg "enumerate"=none)(ha:QA X EX [a] fs)(hs:starEach [a] X.env=[(false,eval a X.env)]:=by rfl) :
  QI X EX false (.Tuple bq k am) (.Call (.Name "enumerate" p) [a] [] pos) (iEn fs):=⟨(wf hg hm ha.h hs).imp fun U H Q ⟨sx,ρ,H0,s,e,h⟩=>by
 unfold iEn at h
 rw[Rk.bind]at h
 refine TAd.go sx s e h fun ds h vs H1 aq s1 e1 r1=>?_
 obtain⟨es,hd,h⟩:=h.of
 split at hd<;>first |cases hd |skip
 obtain⟨x,rfl,q1⟩:=r1.uno
 obtain⟨l,xs,rfl,hl,rl⟩:=q1.lst
 refine⟨xs,.inl (e1.2.1 _ _ hl),h _ H1 aq s1 e1 ?_⟩
 rw[rl.length]
 exact Qh (fun H s=>.inl (s _ _ hl)) (Do _ _) rl⟩
end
section
variable {X:Cx}{sc:Scope}{caps:List Str}{ix:List Nat}{aH iter:Expr}{aC:List Expr}{pos px py am:Pos}{x y:Str}{kt:Nat}{kp:Bool}{EX:XW}{fi:DE->R (List D)}{t:DE->R Bool}{f:DE->R D}
noncomputable def p7:DE->R Bool:=fun _=>.ok true
inductive PTq (X:Cx) (sc:Scope) (N:List Str):List Expr->(DE->R Bool)->Prop where
 |nil:PTq X sc N [] p7
 |one {c:Expr} {t:DE->R Bool} (h:∀fp s H,QT (n5 X sc N fp s H) F0 c t):PTq X sc N [c] t
theorem PTq.run(h:PTq X sc N aC t):∃tt,(∀fp s H,PTs (n5 X sc N fp s H) aC tt)/\∀U H Q,TTd X.K F0 t U H Q->tt U H Q:=by
 cases h with
 |nil=>exact⟨_,fun _ _ _=>.nil,fun U H Q ⟨sx,ρ,H0,s,e,h⟩=>h H (Same.refl _)⟩
 |one h=>exact⟨_,fun fp s H=>.one (h fp s H).h,fun _ _ _ q=>q⟩
theorem K3(C:CompOk X sc caps ix)(hN:([x]++caps).Nodup)(hx:sc.names.lookup x=some .local)(hi:QI X EX kp (.Name x px) iter fi)(ht:PTq X sc ([x]++caps) aC t)(he:∀fp s H,QE (n5 X sc ([x]++caps) fp s H) F0 false aH f)
  (hs:∀x,foldedSetIterable iter X.env x=pure x:=by intro _;rfl):QE X EX true (.ListComp aH [⟨.Name x px,iter,aC,0⟩] sc pos) (o6 fi b1 ix t f):=by
 obtain⟨tt,h1,h2⟩:=ht.run
 refine⟨(xS C hN hx hi.h h1 (fun fp s H=>(he fp s H).h) hs).imp fun _ _ _ q=>Dz Xu h2 q⟩
theorem y4q(C:CompOk X sc caps ix)(hN:([x,y]++caps).Nodup)(hx:sc.names.lookup x=some .local)(hy:sc.names.lookup y=some .local)(hi:QI X EX kp (.Tuple [.Name x px,.Name y py] kt am) iter fi)(ht:PTq X sc ([x,y]++caps) aC t)
  (he:∀fp s H,QE (n5 X sc ([x,y]++caps) fp s H) F0 false aH f) (hs:∀x,foldedSetIterable iter X.env x=pure x:=by intro _;rfl):QE X EX true (.ListComp aH [⟨.Tuple [.Name x px,.Name y py] kt am,iter,aC,0⟩] sc pos) (o6 fi (bT 2) ix t f):=by
 obtain⟨tt,h1,h2⟩:=ht.run
 refine⟨(xQ C hN hx hy hi.h h1 (fun fp s H=>(he fp s H).h) hs).imp fun _ _ _ q=>Dz Xs h2 q⟩
theorem Vh(h:∀U H Q,FI U H Q->te U H Q)(q:N4 FI g De U H):N4 te g De U H:=h _ _ _ q
theorem y4r{fr:Bool}{m:List Bool}{v:Str}{k:Nat}{bC pv:Pos}(ft:X.N.Nodup)(hk:X.N[k]?=some v)(hv:X.env.scope.names.lookup v=some .local)(C:CompOk X sc caps ix)(hN:([x]++caps).Nodup)(hx:sc.names.lookup x=some .local)(hi:QI X EX kp (.Name x px) iter fi)
  (ht:PTq X sc ([x]++caps) aC t) (he:∀fp s H,QE (n5 X sc ([x]++caps) fp s H) F0 false aH f)
  (dj:swapsWith (.ListComp aH [⟨.Name x px,iter,aC,0⟩] sc pos) (some (.Name v pv)) bC.line X.env=pure true:=by rfl) (hs:∀x,foldedSetIterable iter X.env x=pure x:=by intro _;rfl) :
  QS X EX fr (.Assign [.Name v pv] (.ListComp aH [⟨.Name x px,iter,aC,0⟩] sc pos) bC) (g7 true k m (o6 fi b1 ix t f)):=by
 obtain⟨tt,h1,h2⟩:=ht.run
 refine⟨(xR ft hk hv C hN hx hi.h h1 (fun fp s H=>(he fp s H).h) dj hs).imp fun _ _ _ q=>Vh (fun _ _ _ q=>Dz Xu h2 q) (Gw q)⟩
theorem y4s{fr:Bool}{m:List Bool}{v:Str}{k:Nat}{bC pv:Pos}(ft:X.N.Nodup)(hk:X.N[k]?=some v)(hv:X.env.scope.names.lookup v=some .local)(C:CompOk X sc caps ix)(hN:([x,y]++caps).Nodup)(hx:sc.names.lookup x=some .local)(hy:sc.names.lookup y=some .local)
  (hi:QI X EX kp (.Tuple [.Name x px,.Name y py] kt am) iter fi) (ht:PTq X sc ([x,y]++caps) aC t) (he:∀fp s H,QE (n5 X sc ([x,y]++caps) fp s H) F0 false aH f)
  (dj:swapsWith (.ListComp aH [⟨.Tuple [.Name x px,.Name y py] kt am,iter,aC,0⟩] sc pos) (some (.Name v pv)) bC.line X.env=pure true:=by rfl) (hs:∀x,foldedSetIterable iter X.env x=pure x:=by intro _;rfl) :
  QS X EX fr (.Assign [.Name v pv] (.ListComp aH [⟨.Tuple [.Name x px,.Name y py] kt am,iter,aC,0⟩] sc pos) bC) (g7 true k m (o6 fi (bT 2) ix t f)):=by
 obtain⟨tt,h1,h2⟩:=ht.run
 refine⟨(xP ft hk hv C hN hx hy hi.h h1 (fun fp s H=>(he fp s H).h) dj hs).imp fun _ _ _ q=>Vh (fun _ _ _ q=>Dz Xs h2 q) (Gw q)⟩
end
section
variable {X:Cx}{EX:XW}{fr cE:Bool}{st:Stmt}{sts:List Stmt}{a c e:Expr}{es:List Expr}{f:DE->R D}{fs:DE->R (List D)}{t:DE->R Bool}{g g1 g2:DS->SR}{pos p:Pos}{m:List Bool}
theorem A4:QB X EX fr [] sNx:=⟨pss_nil.imp fun _ _ _ q=>y4h q⟩
theorem g9(h:QS X EX fr st g):QB X EX fr [st] g:=⟨wA h.h⟩
theorem g8(h1:QS X EX fr st g1)(h2:QB X EX fr sts g2):QB X EX fr (st::sts) (e9 g1 g2):=⟨(yd h1.h h2.h).imp fun _ _ _ q=>y04 q⟩
theorem z8(hc:QT X EX c t)(ha:QB X EX fr x g1)(hb:QB X EX fr y g2):QS X EX fr (.If c x y pos) (sIf t g1 g2):=⟨(Zq hc.h ha.h hb.h).imp fun _ _ _ q=>y05 q⟩
theorem j8(he:QE X EX fr e f):QS X EX fr (.Return (some e) pos) (i5 m f):=⟨(Qz he.h).imp fun _ _ _ q=>y06 q⟩
theorem Jk(hN:X.N[i]?=some x:=by rfl)(hv:Vis X.env.scope x:=by first |exact .inl rfl |exact .inr (.inl rfl) |exact .inr (.inr rfl))(hd:(x==("__debug__":Str))=false:=by decide)
 (br:(x==("__classdict__":Str))=false:=by decide):QS X EX true (.Return (some (.Name x p)) pos) (W7 i):=⟨(Qz (pw i hN hv hd br)).imp fun _ _ _ q=>kP q⟩
theorem Jj(he:QE X EX false e f)(hs:swapsWith e none pos.line X.env=pure false:=by rfl):QS X EX fr (.Expr e pos) (J5 f):=⟨(Tk he.h hs).imp fun _ _ _ q=>kN q⟩
theorem y0w(hN:X.N.Nodup)(hi:X.N[i]?=some x)(hx:Loc X.env.scope x)(he:QE X EX cE e f)(hs:swapsWith e (some (.Name x cH)) pos.line X.env=pure false:=by rfl)(hf:X.fn x=true\/X.env.scope.names.lookup x=some .local) :
 QS X EX fr (.Assign [.Name x cH] e pos) (g7 cE i m f):=⟨(qt hN hi hx he.h hs hf).imp fun _ _ _ q=>Gw q⟩
theorem g_n(hN:X.N.Nodup)(hi:X.N[i]?=some x)(hx:Loc X.env.scope x)(hf:X.fn x=true\/X.env.scope.names.lookup x=some .local:=by exact .inl rfl):QG X (.Name x pos) (.n i):=⟨(Kv hN hi hx hf).imp fun _ _ _ _ q=>y4i q⟩
theorem Ji:QGs X [] []:=⟨xO⟩
theorem Y1(hN:X.N.Nodup)(hi:X.N[i]?=some x)(hx:Loc X.env.scope x)(hr:QGs X ts is)(hf:X.fn x=true\/X.env.scope.names.lookup x=some .local:=by exact .inl rfl)
 (hs:(assignEach (.Name x pos::ts) X.env).map (·.2)=assign (.Name x pos) X.env::(assignEach ts X.env).map (·.2):=by rfl):QGs X (.Name x pos::ts) (i::is):=⟨yE (Kv hN hi hx hf) hr.h hs⟩
theorem g_t(hc:X.calm=true)(h:QGs X ts is)(hn:(assignEach ts X.env).length=is.length:=by rfl)(aL:(assignEach ts X.env).findIdx? (·.1)=none:=by rfl):QG X (.Tuple ts k pos) (.t is):=⟨(wd hc h.h hn aL).imp fun _ _ _ _ q=>y4j q⟩
theorem P8(hp:PassesOwn (model X.prog X.w) X.A X.env X.xe)(hc:X.calm=true)(hi:QI X EX kp tg iter fi)(hg:QG X tg tt)(hb:QB X EX fr body g)
 (hs:∀x,foldedSetIterable iter X.env x=pure x:=by intro _;rfl):QS X EX fr (.For tg iter body [] pos) (B7 kp m fi tt g):=⟨(wj hp hc hi.h hg.h hb.h hs).imp fun _ _ _ q=>y0b q⟩
theorem Sr(hp:PassesOwn (model X.prog X.w) X.A X.env X.xe)(hc:QT X EX c t)(hb:QB X EX fr body g):QS X EX fr (.While c body [] pos) (Bs n t g):=⟨(yc hp hc.h hb.h).imp fun _ _ _ q=>vU q⟩
noncomputable def Q8:D->List D->Option D
 | .lst ds,[d]=>if ds.length<100000 then some (.lst (ds++[d])) else none
 |_,_=>none
theorem Cf{K:Frag}:TyD K "list":=fun H0 H a d ob h=>by cases d<;>simp[isT]at h;simp only[OB]at ob;obtain⟨xs,hx,_⟩:=ob;exact .inl ⟨rfl,xs,.of hx⟩
theorem Bq{K:Frag}:Nj K Q8 Th:=by
 intro H0 H a d d' ds vs Q s h0 ob r hm k;unfold Q8 at hm;split at hm<;>first |cases hm |skip
 split at hm<;>cases hm;rename_i es e hl;simp only[OB]at ob;obtain⟨xs,hx,rx⟩:=ob;obtain⟨y,rfl,q1⟩:=r.uno;refine⟨a,xs,y,rfl,rfl,hx,by rw[<-rx.length];exact Fh hl,k _ _ ?_⟩;simp only[OB];exact⟨_,t9,rx.append (.one q1)⟩
theorem Bj{T id:String}{name:Str}{i:Nat}{x:Str}{xp apos cpos:Pos}{mt:D->List D->Option D}{rr:V->List V->Hp->VK->Prop}(pa:PlainAttrs T)(slot:Slot T name id)(gF:typeOf (.builtin id)=pure (.type "method_descriptor"))(hm:MtM X id rr)(od:Nj X.K mt rr)(hT:TyD X.K T)
 (ho:PE X (.Name x xp) (G9 i)) (ha:QA X EX (e::es) fs)
 (bH:attributeBase (.Name x xp) name X.env (eval (.Name x xp) X.env)=eval (.Name x xp) X.env:=by rfl)
 (gj:((backTo cpos (starEach (e::es) X.env)).all (fun x=>!x.1)&&(backToKw cpos (keywordEach [] X.env)).all (fun x=>x.1.isSome)
  && decide ((e::es).length+([]:List Keyword).length+(if([]:List Keyword).isEmpty then 0 else 1)<30))=true:=by rfl)
 (fc:(apos.endLine==cpos.line)=true:=by rfl) (hs:starEach (e::es) X.env=(false,eval e X.env)::starEach es X.env:=by rfl) (dQ:(backTo cpos (starEach es X.env)).any (·.1)=false:=by rfl)
 (dj:swapsWith (.Call (.Attribute (.Name x xp) name apos) (e::es) [] cpos) none pos.line X.env=pure false:=by rfl) :
 QS X EX fr (.Expr (.Call (.Attribute (.Name x xp) name apos) (e::es) [] cpos) pos) (P5 T mt i m fs):=⟨(Tk (Zl pa slot gF hm ho ha.h bH gj fc hs dQ) dj).imp fun _ _ _ q=>y08 od hT q⟩
end
theorem fnD{P:Program}{w:World}{K:Frag}{mg:Str->Option Value}{base:Heap}{x qual:Str}{st:Stmt}{f:Addr}{fd:FuncData}{N ps:List Str}{k n kk:Nat}{fr:Bool}{g:DS->SR}(F:Fun K x qual st f fd)(S:FnScope N ps (g3 st))(fT:ps.length=n)(hN:N.length=n+kk)
  (bj:∀(cdv:Value)(A:Around)(outer:List Env)(s:Shared)(H:Hp)(E:XK),Room k (A.deeper (envOfC qual (g3 st) s.heap.objs.size f cdv)) ->
   QB (J0 (CX1 P w) P w K mg base N qual (g3 st) f cdv A outer s H E) ⟨H,xNm K mg E⟩ fr (i9 st) g):FnOk P w K mg base (CX1 P w) (k+1) f fd ps (spD K mg fr (mOf fr n kk g) n):=by
 have ah:∀{vs:List V}{H:Hp}{Q:VK}{E:XK},spD K mg fr (mOf fr n kk g) n vs H Q E->vs.length=n:=fun {vs H Q E} h=>by obtain⟨ds,H0,s,r,hn,_⟩:=h;rw[<-r.length];exact hn
 refine F.okX S (fun vs H Q E h=>by rw[ah h,fT]) (fun cdv A outer s H vs Q E hr h=>⟨_,(bj cdv A outer s H E hr).h,?_⟩)
 have e:D1 N vs=vs.map some++List.replicate kk none:=by unfold D1;rw[ah h,hN,Nat.add_sub_cancel_left]
 rw[e]
 exact Qn h
noncomputable def spL(K:Frag)(fr:Bool)(m:List D->R D)(n:Nat):Sp:=fun vs H Q _=>∃ds H0,Same H0 H/\RDs K H0 ds vs/\ds.length=n/\Rk (fun _=>False) (m ds) fun d=>∀v H',Out K fr H0 H d v H'->Q v H'
theorem spL.spD{K:Frag}{fr:Bool}{m:List D->R D}{n:Nat}{vs:List V}{H:Hp}{Q:VK}{E:XK}{mg:Str->Option Value}(h:spL K fr m n vs H Q E):L2.spD K mg fr m n vs H Q E:=by
 obtain⟨ds,H0,s,r,hn,h⟩:=h;refine⟨ds,H0,s,r,hn,?_⟩;cases q:m ds with
 |ok d=>rw[q]at h;exact h
 |er x=>rw[q]at h;exact h.elim
 |st=>rw[q]at h;exact h.elim
theorem kE{K:Frag}{H:Hp}{a:Addr}{ns:List Int}{m:List D->R D}{fr:Bool}(hO:Di H)(hS:SqL K H a (ns.map V.int))(h:m [.scr ns]=.ok (.bl true)):spL K fr m 1 [.ref a] H (fun v _=>v=.bl true) fun _ _ _=>False:=by
 refine⟨[.scr ns],H,Same.refl _,.one ?_,rfl,?_⟩
 . simp only[RD];refine⟨a,rfl,?_⟩;rcases hS with (hS |hS) |hS
   . rcases hO a with z |⟨o,xs,z⟩<;>rw[z]at hS<;>cases hS
   . exact .inl hS
   . exact .inr hS
 . rw[h];exact fun v H' o=>by obtain⟨_,aa,_,r⟩:=o.weak.rd;exact r.bl
end L2
namespace L2
open PySem PySem.Spec PyProof.Rows
open PySem.W (KasT kas_sort kas_rev kas_asc kas_desc kas_tail3 kas_descPart kas_count kas_place kas_bin)
section
variable {p:Array Nat}
abbrev g(p:Array Nat)(i:Nat):Nat:=p.getD i 0
end
end L2
namespace L2
open PySem PySem.Spec PyProof.Rows
open PySem.W (KasT kas_sort)
mutual
noncomputable def D.oi:D->Bool
 | .int _=>true
 | .tup ds=>ois ds
 |_=>false
noncomputable def ois:List D->Bool
 | []=>true
 |d::ds=>d.oi&&ois ds
end
mutual
noncomputable def ltT:D->D->Bool
 | .int i,.int j=>decide (i<j)
 | .int _,.tup _=>true
 | .tup ds,.tup es=>v4 ds es
 |_,_=>false
noncomputable def v4:List D->List D->Bool
 | [],[]=>false
 | [],_::_=>true
 |_::_,[]=>false
 |d::ds,e::es=>if eqD d e=true then v4 ds es else ltT d e
end
mutual
noncomputable def i4:D->D->Option Bool
 | .int i,.int j=>some (decide (i<j))
 | .tup ds,.tup es=>t7 ds es
 |_,_=>none
noncomputable def t7:List D->List D->Option Bool
 | [],[]=>some false
 | [],_::_=>some true
 |_::_,[]=>some false
 |d::ds,e::es=>if eqD d e=true then t7 ds es else i4 d e
end
mutual
theorem Jh:∀{d e:D}{b:Bool},i4 d e=some b->b=ltT d e
 | .int i,.int j,b,h=>by simp only[i4,Option.some.injEq]at h;simp only[ltT];exact h.symm
 | .tup ds,.tup es,b,h=>by simp only[i4]at h;simp only[ltT];exact Sq h
 | .non,e,b,h=>by simp[i4]at h
 | .bl _,e,b,h=>by simp[i4]at h
 | .str _,e,b,h=>by simp[i4]at h
 | .lst _,e,b,h=>by simp[i4]at h
 | .dk _ _,e,b,h=>by simp[i4]at h
 | .dt _ _,e,b,h=>by simp[i4]at h
 | .dn _ _,e,b,h=>by simp[i4]at h
 | .scr _,e,b,h=>by simp[i4]at h
 | .exc _ _,e,b,h=>by simp[i4]at h
 | .int _,.non,b,h=>by simp[i4]at h
 | .int _,.bl _,b,h=>by simp[i4]at h
 | .int _,.str _,b,h=>by simp[i4]at h
 | .int _,.lst _,b,h=>by simp[i4]at h
 | .int _,.tup _,b,h=>by simp[i4]at h
 | .int _,.dk _ _,b,h=>by simp[i4]at h
 | .int _,.dt _ _,b,h=>by simp[i4]at h
 | .int _,.dn _ _,b,h=>by simp[i4]at h
 | .int _,.scr _,b,h=>by simp[i4]at h
 | .int _,.exc _ _,b,h=>by simp[i4]at h
 | .tup _,.non,b,h=>by simp[i4]at h
 | .tup _,.bl _,b,h=>by simp[i4]at h
 | .tup _,.int _,b,h=>by simp[i4]at h
 | .tup _,.str _,b,h=>by simp[i4]at h
 | .tup _,.lst _,b,h=>by simp[i4]at h
 | .tup _,.dk _ _,b,h=>by simp[i4]at h
 | .tup _,.dt _ _,b,h=>by simp[i4]at h
 | .tup _,.dn _ _,b,h=>by simp[i4]at h
 | .tup _,.scr _,b,h=>by simp[i4]at h
 | .tup _,.exc _ _,b,h=>by simp[i4]at h
theorem Sq:∀{ds es:List D}{b:Bool},t7 ds es=some b->b=v4 ds es
 | [],[],b,h=>by simp only[t7,Option.some.injEq]at h;simp only[v4];exact h.symm
 | [],_::_,b,h=>by simp only[t7,Option.some.injEq]at h;simp only[v4];exact h.symm
 |_::_,[],b,h=>by simp only[t7,Option.some.injEq]at h;simp only[v4];exact h.symm
 |d::ds,e::es,b,h=>by
  simp only[t7]at h;simp only[v4];split at h
  . rename_i q;rw[ξ q];exact Sq h
  . rename_i q;rw[ψ q];exact Jh h
end
mutual
theorem V9:∀{d e:D},d.oi=true->eqD d e=true->e.oi=true->d=e
 | .int i,.int j,_,h,_=>by simp only[eqD,OY]at h;rw[h]
 | .tup ds,.tup es,p,h,q=>by simp only[eqD]at h;simp only[D.oi]at p q;rw[Qg p h q]
 | .int i,.tup _,_,h,_=>by simp[eqD]at h
 | .tup _,.int _,_,h,_=>by simp[eqD]at h
 | .int _,.non,_,_,q=>by simp[D.oi]at q
 | .int _,.bl _,_,_,q=>by simp[D.oi]at q
 | .int _,.str _,_,_,q=>by simp[D.oi]at q
 | .int _,.lst _,_,_,q=>by simp[D.oi]at q
 | .int _,.dk _ _,_,_,q=>by simp[D.oi]at q
 | .int _,.dt _ _,_,_,q=>by simp[D.oi]at q
 | .int _,.dn _ _,_,_,q=>by simp[D.oi]at q
 | .int _,.scr _,_,_,q=>by simp[D.oi]at q
 | .int _,.exc _ _,_,_,q=>by simp[D.oi]at q
 | .tup _,.non,_,_,q=>by simp[D.oi]at q
 | .tup _,.bl _,_,_,q=>by simp[D.oi]at q
 | .tup _,.str _,_,_,q=>by simp[D.oi]at q
 | .tup _,.lst _,_,_,q=>by simp[D.oi]at q
 | .tup _,.dk _ _,_,_,q=>by simp[D.oi]at q
 | .tup _,.dt _ _,_,_,q=>by simp[D.oi]at q
 | .tup _,.dn _ _,_,_,q=>by simp[D.oi]at q
 | .tup _,.scr _,_,_,q=>by simp[D.oi]at q
 | .tup _,.exc _ _,_,_,q=>by simp[D.oi]at q
 | .non,_,p,_,_=>by simp[D.oi]at p
 | .bl _,_,p,_,_=>by simp[D.oi]at p
 | .str _,_,p,_,_=>by simp[D.oi]at p
 | .lst _,_,p,_,_=>by simp[D.oi]at p
 | .dk _ _,_,p,_,_=>by simp[D.oi]at p
 | .dt _ _,_,p,_,_=>by simp[D.oi]at p
 | .dn _ _,_,p,_,_=>by simp[D.oi]at p
 | .scr _,_,p,_,_=>by simp[D.oi]at p
 | .exc _ _,_,p,_,_=>by simp[D.oi]at p
theorem Qg:∀{ds es:List D},ois ds=true->r8 ds es=true->ois es=true->ds=es
 | [],[],_,_,_=>rfl
 | [],_::_,_,h,_=>by simp[r8]at h
 |_::_,[],_,h,_=>by simp[r8]at h
 |d::ds,e::es,p,h,q=>by simp only[r8,bI]at h;simp only[ois,bI]at p q;rw[V9 p.1 h.1 q.1,Qg p.2 h.2 q.2]
end
mutual
theorem Ej:∀{d:D},d.oi=true->eqD d d=true
 | .int i,_=>by simp[eqD]
 | .tup ds,p=>by simp only[eqD];exact Uf (by simpa only [D.oi] using p)
 | .non,p=>by simp[D.oi]at p
 | .bl _,p=>by simp[D.oi]at p
 | .str _,p=>by simp[D.oi]at p
 | .lst _,p=>by simp[D.oi]at p
 | .dk _ _,p=>by simp[D.oi]at p
 | .dt _ _,p=>by simp[D.oi]at p
 | .dn _ _,p=>by simp[D.oi]at p
 | .scr _,p=>by simp[D.oi]at p
 | .exc _ _,p=>by simp[D.oi]at p
theorem Uf:∀{ds:List D},ois ds=true->r8 ds ds=true
 | [],_=>rfl
 |d::ds,p=>by simp only[ois,bI]at p;simp only[r8,Ej p.1,Uf p.2,OW]
end
mutual
theorem Dx:∀{d e:D},d.oi=true->e.oi=true->ltT d e=false->ltT e d=false->d=e
 | .int i,.int j,_,_,h,h'=>by
  simp only[ltT,NQ]at h h';have:i=j:=by lia
  rw[this]
 | .tup ds,.tup es,p,q,h,h'=>by simp only[ltT]at h h';simp only[D.oi]at p q;rw[So p q h h']
 | .int _,.tup _,_,_,h,_=>by simp[ltT]at h
 | .tup _,.int _,_,_,_,h=>by simp[ltT]at h
 | .int _,.non,_,q,_,_=>by simp[D.oi]at q
 | .int _,.bl _,_,q,_,_=>by simp[D.oi]at q
 | .int _,.str _,_,q,_,_=>by simp[D.oi]at q
 | .int _,.lst _,_,q,_,_=>by simp[D.oi]at q
 | .int _,.dk _ _,_,q,_,_=>by simp[D.oi]at q
 | .int _,.dt _ _,_,q,_,_=>by simp[D.oi]at q
 | .int _,.dn _ _,_,q,_,_=>by simp[D.oi]at q
 | .int _,.scr _,_,q,_,_=>by simp[D.oi]at q
 | .int _,.exc _ _,_,q,_,_=>by simp[D.oi]at q
 | .tup _,.non,_,q,_,_=>by simp[D.oi]at q
 | .tup _,.bl _,_,q,_,_=>by simp[D.oi]at q
 | .tup _,.str _,_,q,_,_=>by simp[D.oi]at q
 | .tup _,.lst _,_,q,_,_=>by simp[D.oi]at q
 | .tup _,.dk _ _,_,q,_,_=>by simp[D.oi]at q
 | .tup _,.dt _ _,_,q,_,_=>by simp[D.oi]at q
 | .tup _,.dn _ _,_,q,_,_=>by simp[D.oi]at q
 | .tup _,.scr _,_,q,_,_=>by simp[D.oi]at q
 | .tup _,.exc _ _,_,q,_,_=>by simp[D.oi]at q
 | .non,_,p,_,_,_=>by simp[D.oi]at p
 | .bl _,_,p,_,_,_=>by simp[D.oi]at p
 | .str _,_,p,_,_,_=>by simp[D.oi]at p
 | .lst _,_,p,_,_,_=>by simp[D.oi]at p
 | .dk _ _,_,p,_,_,_=>by simp[D.oi]at p
 | .dt _ _,_,p,_,_,_=>by simp[D.oi]at p
 | .dn _ _,_,p,_,_,_=>by simp[D.oi]at p
 | .scr _,_,p,_,_,_=>by simp[D.oi]at p
 | .exc _ _,_,p,_,_,_=>by simp[D.oi]at p
theorem So:∀{ds es:List D},ois ds=true->ois es=true->v4 ds es=false->v4 es ds=false->ds=es
 | [],[],_,_,_,_=>rfl
 | [],_::_,_,_,h,_=>by simp[v4]at h
 |_::_,[],_,_,_,h=>by simp[v4]at h
 |d::ds,e::es,p,q,h,h'=>by
  simp only[ois,bI]at p q;simp only[v4]at h h';by_cases w:eqD d e=true
  . have:=V9 p.1 w q.1;subst this;rw[ξ w]at h;rw[ξ w]at h';rw[So p.2 q.2 h h']
  . have w':¬eqD e d=true:=fun z=>w (by rw[V9 q.1 z p.1];exact Ej p.1)
    rw[ψ w]at h;rw[ψ w']at h';have:=Dx p.1 q.1 h h';subst this;exact absurd (Ej p.1) w
end
mutual
theorem Jg:∀{d:D},d.oi=true->ltT d d=false
 | .int i,_=>by simp[ltT]
 | .tup ds,p=>by simp only[ltT];exact Sn (by simpa only [D.oi] using p)
 | .non,p=>by simp[D.oi]at p
 | .bl _,p=>by simp[D.oi]at p
 | .str _,p=>by simp[D.oi]at p
 | .lst _,p=>by simp[D.oi]at p
 | .dk _ _,p=>by simp[D.oi]at p
 | .dt _ _,p=>by simp[D.oi]at p
 | .dn _ _,p=>by simp[D.oi]at p
 | .scr _,p=>by simp[D.oi]at p
 | .exc _ _,p=>by simp[D.oi]at p
theorem Sn:∀{ds:List D},ois ds=true->v4 ds ds=false
 | [],_=>rfl
 |d::ds,p=>by simp only[ois,bI]at p;simp only[v4];rw[ξ (Ej p.1)];exact Sn p.2
end
mutual
theorem Dn:∀{d e f:D},d.oi=true->e.oi=true->f.oi=true->ltT d e=true->ltT e f=true->ltT d f=true
 | .int i,.int j,.int k,_,_,_,h,h'=>by
  simp only[ltT,NP]at h h'⊢
  lia
 | .int i,.int j,.tup _,_,_,_,h,h'=>by simp only[ltT]
 | .int i,.tup _,.tup _,_,_,_,h,h'=>by simp only[ltT]
 | .tup ds,.tup es,.tup fs,p,q,r,h,h'=>by simp only[ltT]at h h'⊢;simp only[D.oi]at p q r;exact Qf p q r h h'
 | .int i,.tup _,.int _,_,_,_,h,h'=>by simp[ltT]at h'
 | .tup _,.int _,_,_,_,_,h,h'=>by simp[ltT]at h
 | .tup _,.tup _,.int _,_,_,_,h,h'=>by simp[ltT]at h'
 | .non,_,_,p,_,_,_,_=>by simp[D.oi]at p
 | .bl _,_,_,p,_,_,_,_=>by simp[D.oi]at p
 | .str _,_,_,p,_,_,_,_=>by simp[D.oi]at p
 | .lst _,_,_,p,_,_,_,_=>by simp[D.oi]at p
 | .dk _ _,_,_,p,_,_,_,_=>by simp[D.oi]at p
 | .dt _ _,_,_,p,_,_,_,_=>by simp[D.oi]at p
 | .dn _ _,_,_,p,_,_,_,_=>by simp[D.oi]at p
 | .scr _,_,_,p,_,_,_,_=>by simp[D.oi]at p
 | .exc _ _,_,_,p,_,_,_,_=>by simp[D.oi]at p
 |_,.non,_,_,p,_,_,_=>by simp[D.oi]at p
 |_,.bl _,_,_,p,_,_,_=>by simp[D.oi]at p
 |_,.str _,_,_,p,_,_,_=>by simp[D.oi]at p
 |_,.lst _,_,_,p,_,_,_=>by simp[D.oi]at p
 |_,.dk _ _,_,_,p,_,_,_=>by simp[D.oi]at p
 |_,.dt _ _,_,_,p,_,_,_=>by simp[D.oi]at p
 |_,.dn _ _,_,_,p,_,_,_=>by simp[D.oi]at p
 |_,.scr _,_,_,p,_,_,_=>by simp[D.oi]at p
 |_,.exc _ _,_,_,p,_,_,_=>by simp[D.oi]at p
 |_,_,.non,_,_,p,_,_=>by simp[D.oi]at p
 |_,_,.bl _,_,_,p,_,_=>by simp[D.oi]at p
 |_,_,.str _,_,_,p,_,_=>by simp[D.oi]at p
 |_,_,.lst _,_,_,p,_,_=>by simp[D.oi]at p
 |_,_,.dk _ _,_,_,p,_,_=>by simp[D.oi]at p
 |_,_,.dt _ _,_,_,p,_,_=>by simp[D.oi]at p
 |_,_,.dn _ _,_,_,p,_,_=>by simp[D.oi]at p
 |_,_,.scr _,_,_,p,_,_=>by simp[D.oi]at p
 |_,_,.exc _ _,_,_,p,_,_=>by simp[D.oi]at p
theorem Qf:∀{ds es fs:List D},ois ds=true->ois es=true->ois fs=true->v4 ds es=true->v4 es fs=true->v4 ds fs=true
 | [],_,_::_,_,_,_,_,_=>by simp only[v4]
 |_,[],[],_,_,_,_,h=>by simp[v4]at h
 |_::_,[],_,_,_,_,h,_=>by simp[v4]at h
 |_,_::_,[],_,_,_,_,h=>by simp[v4]at h
 |d::ds,e::es,f::fs,p,q,r,h,h'=>by
  simp only[ois,bI]at p q r;simp only[v4]at h h'⊢;by_cases w:eqD d e=true
  . have:=V9 p.1 w q.1;subst this;rw[ξ w]at h;by_cases w2:eqD d f=true
    . rw[ξ w2]at h'⊢;exact Qf p.2 q.2 r.2 h h'
    . rw[ψ w2]at h'⊢;exact h'
  . rw[ψ w]at h;by_cases w2:eqD e f=true
    . have:=V9 q.1 w2 r.1;subst this;rw[ψ w];exact h
    . rw[ψ w2]at h';have h3:=Dn p.1 q.1 r.1 h h';by_cases w3:eqD d f=true
      . have:=V9 p.1 w3 r.1;subst this;rw[Jg p.1]at h3;cases h3
      . rw[ψ w3];exact h3
end
theorem Ce:∀{ds:List D}{i:Nat},ois ds=true->(ds.getD i (.int 0)).oi=true
 | [],i,_=>by simp[D.oi]
 |d::ds,0,h=>by simp only[ois,bI]at h;simpa using h.1
 |d::ds,i+1,h=>by simp only[ois,bI]at h;simpa using Ce (i:=i) h.2
def ltI(ds:List D)(i j:Nat):Bool:=ltT (ds.getD i (.int 0)) (ds.getD j (.int 0))
def M9(d:D):List D->List D
 | []=>[d]
 |e::r=>if ltT e d=true then e::M9 d r else d::e::r
def p9:List D->List D
 | []=>[]
 |d::r=>M9 d (p9 r)
theorem Lp(d:D):∀l:List D,(M9 d l).Perm (d::l)
 | []=>.refl _
 |e::r=>by
  unfold M9;split
  . exact((Lp d r).cons e).trans (.swap d e r)
  . exact .refl _
theorem K0:∀l:List D,(p9 l).Perm l
 | []=>.refl _
 |d::r=>(Lp d (p9 r)).trans ((K0 r).cons d)
theorem ois_mem:∀{ds:List D},ois ds=true↔∀d∈ds,d.oi=true
 | []=>by simp[ois]
 |d::ds=>by simp[ois,ois_mem (ds:=ds)]
def Srt(l:List D):Prop:=l.Pairwise fun a b=>ltT b a=false
theorem Ue:∀{l:List D},d.oi=true->ois l=true->Srt l->Srt (M9 d l)
 | [],_,_,_=>by simp[M9,Srt]
 |e::r,hd,hl,hs=>by
  simp only[ois,bI]at hl;obtain⟨h1,h2⟩:=RW.mp hs;unfold M9;split
  . rename_i aD;refine RW.mpr ⟨fun x hx=>?_,Ue hd hl.2 h2⟩;rcases tB.mp ((Lp d r).mem_iff.mp hx) with rfl |hx
    . cases hq:ltT x e with
      |false=>rfl
      |true=>
       have:=Dn hl.1 hd hl.1 aD hq
       rw[Jg hl.1]at this;cases this
    . exact h1 x hx
  . rename_i aD;have aD:ltT e d=false:=by simpa using aD
    refine RW.mpr ⟨fun x hx=>?_,hs⟩;rcases tB.mp hx with rfl |hx
    . exact aD
    . have FJ:=(ois_mem.mp hl.2) x hx;cases hq:ltT x d with
      |false=>rfl
      |true=>
       have h3:=h1 x hx
       cases hy:ltT d e with
       |true=>rw[Dn FJ hd hl.1 hq hy]at h3;cases h3
       |false=>
        rw[Dx hd hl.1 hy aD]at hq
        rw[hq]at h3;cases h3
theorem Y6(p:l.Perm l')(h:ois l'=true):ois l=true:=ois_mem.mpr fun d hd=>(ois_mem.mp h) d (p.mem_iff.mp hd)
theorem Cn:∀{l:List D},ois l=true->Srt (p9 l)
 | [],_=>.nil
 |d::r,h=>by simp only[ois,bI]at h;exact Ue h.1 (Y6 (K0 r) h.2) (Cn h.2)
theorem Ev:∀{l l':List D},ois l=true->l.Perm l'->Srt l->Srt l'->l=l'
 | [],l',_,p,_,_=>by rw[p.nil_eq]
 |a::r,[],_,p,_,_=>by have:=p.length_eq;simp at this
 |a::r,b::r',h,p,s,s'=>by
  have h':=h;simp only[ois,bI]at h;obtain⟨h1,h2⟩:=RW.mp s;obtain⟨h3,h4⟩:=RW.mp s';have hb:b∈a::r:=p.mem_iff.mpr NN;have ha:a∈b::r':=p.mem_iff.mp NN;have FK:=(ois_mem.mp h') b hb;have e:a=b:=by
   rcases tB.mp hb with z |z
   . exact z.symm
   . rcases tB.mp ha with w |w
     . exact w
     . exact Dx h.1 FK (h3 a w) (h1 b z)
  subst e;rw[Ev h.2 (List.perm_cons a |>.mp p) h2 h4]
end L2
namespace L2
open PySem PySem.Spec PyProof.Rows
open PySem.W (KasT kas_sort kas_rev kas_asc kas_desc kas_tail3 kas_descPart kas_count kas_place kas_bin)
def InP{α:Type}(n:Nat)(P:α->Prop):KasT α->Prop
 | .ret a=>P a
 | .ask i j k=>i<n/\j<n/\∀b,InP n P (k b)
theorem InP.bind:∀{t:KasT α},InP n P t->(∀a,P a->InP n P' (f a))->InP n P' (t.bind f)
 | .ret a,h,hf=>hf a h
 | .ask i j k,h,hf=>⟨h.1,h.2.1,fun b=>InP.bind (h.2.2 b) hf⟩
def RcLt(A:Around)(s:Shared)(x y:Value)(b:Bool):Prop:=∀(prog:Program)(w:World)(E:Value->Shared->Prop)(Q:Value->Shared->Prop),Q (.bool b) s->wpAny (model prog w) A (richCompare .Lt x y) Q E s
inductive LexR (A:Around) (s:Shared):List Value->List Value->Bool->Prop
 |nn:LexR A s [] [] false
 |nc {w ws}:LexR A s [] (w::ws) true
 |cn {v vs}:LexR A s (v::vs) [] false
 |eq {v w vs ws b} (h:SeqAt.EqAt A s v w true) (r:LexR A s vs ws b):LexR A s (v::vs) (w::ws) b
 |lt {v w vs ws b} (h:SeqAt.EqAt A s v w false) (r:RcLt A s v w b):LexR A s (v::vs) (w::ws) b
section
open PySem.SeqAt
open PySem.AutoSeq1 (wpAny_loadPart')
open PySem.MeetsSeq PySem.MeetsSeq2 PySem.MeetsSeq3
theorem zi(l b:Addr)(items aE:Array Value)(n n2:Nat)(dd iK:Option Addr)(sl eT:Array (Option Value))(r:Bool) :
  Meets (Builtin.«tuple.__lt__» ⟨[.ref l,.ref b],[]⟩)
   (fun A R s=>s.heap.get? l=some { cls:=.type "tuple",dict:=dd,data:=.seq items n,slots:=sl }/\s.heap.get? b=some { cls:=.type "tuple",dict:=iK,data:=.seq aE n2,slots:=eT } /\
    LexR A.in1 s items.toList aE.toList r/\R (.ok (.ret (.bool r))) s):=
 .of_wp fun prog w A R s h=>by
  obtain⟨hp,g,d,tk,os⟩:=s;obtain⟨hl,hb,hL,h⟩:=h;have f2:=AutoSeq1.sub_tuple_tuple
  wp_walk using NJ hl,NJ hb,wpAny_forIn_list _ (fun rest b s'=>b.1=none/\s'=⟨hp,g,d,tk,os⟩/\∃(vs ws:List Value)(r':Bool),rest=vs.zip ws /\
   LexR A.in1 ⟨hp,g,d,tk,os⟩ vs ws r'/\vs.length+aE.size=ws.length+items.size/\R (.ok (.ret (.bool r'))) ⟨hp,g,d,tk,os⟩) _
  case turn=>
   rintro⟨y,x⟩ rest b s' ⟨dL,rfl,vs,ws,r',hz,nJ,ah,hR⟩
   cases nJ with
   |nn=>rw[List.zip_nil_left]at hz;cases hz
   |nc=>rw[List.zip_nil_left]at hz;cases hz
   |cn=>rw[List.zip_nil_right]at hz;cases hz
   |eq he hr=>
    rw[OM]at hz
    injection hz with nK f'
    injection nK with hy hx
    subst hy hx
    simp only[NM]at ah
    refine χ (he prog w _ _ ?_)
    wp_walk
    exact⟨rfl,rfl,_,_,_,f',hr,by lia,hR⟩
   |lt he hr=>
    rw[OM]at hz
    injection hz with nK f'
    injection nK with hy hx
    subst hy hx
    refine χ (he prog w _ _ ?_)
    have FL:=hr prog w
    wp_walk using FL
    exact⟨_,rfl,by simpa using hR⟩
  case fin=>
   rintro⟨b1,b2⟩ s' ⟨dL,rfl,vs,ws,r',hz,nJ,ah,hR⟩
   simp only at dL
   subst dL
   have hv:r'=decide (items.size<aE.size):=by
    cases nJ with
    |nn=>simp only[TR]at ah;exact(NO (by lia)).symm
    |nc=>simp only[TR,NM]at ah;exact(decide_eq_true (by lia)).symm
    |cn=>simp only[TR,NM]at ah;exact(NO (by lia)).symm
    |eq _ _=>rw[OM]at hz;cases hz
    |lt _ _=>rw[OM]at hz;cases hz
   rw[hv]at hR
   wp_walk
   exact⟨_,rfl,by simpa [Builtin.Tuple.tupleCompareSizes] using hR⟩
  case h=>exact⟨rfl,rfl,items.toList,aE.toList,r,rfl,hL,by simp;lia,h⟩
theorem RcLt.tuples{A:Around}{s:Shared}{l b:Addr}{items aE:Array Value}{r:Bool}(hl:s.heap.IsTuple l items)(hb:s.heap.IsTuple b aE)(hL:LexR A.in1 s items.toList aE.toList r)(hu:A.units<cLine):RcLt A s (.ref l) (.ref b) r:=fun prog w E Q h=>by
 obtain⟨⟨cls,dd,data,sl⟩,ho,hc,n,hd⟩:=id hl;obtain⟨⟨LJ,iK,data2,eT⟩,el,fA,n2,dZ⟩:=id hb;simp only at hc hd fA dZ;subst hc hd fA dZ;exact richCompare_meets_room (op:=.Lt) ⟨_,ho,rfl⟩ ⟨_,el,rfl⟩ PySem.F.slot_tuple_lt PySem.F.entry_tuple_lt (PySem.F.args_tuple_lt_2 _ _) (zi l b items aE n n2 dd iK sl eT r)
  ⟨ho,el,hL,show Value.bool r≠Value.notImplemented/\Q (.bool r) s from⟨(fun x=>nomatch x),h⟩⟩ hu
end
mutual
theorem Bi:∀{d:D},d.oi=true->d.pl=true
 | .int _,_=>rfl
 | .tup ds,h=>by simp only[D.pl];exact Qe (by simpa only [D.oi] using h)
 | .non,p=>by simp[D.oi]at p
 | .bl _,p=>by simp[D.oi]at p
 | .str _,p=>by simp[D.oi]at p
 | .lst _,p=>by simp[D.oi]at p
 | .dk _ _,p=>by simp[D.oi]at p
 | .dt _ _,p=>by simp[D.oi]at p
 | .dn _ _,p=>by simp[D.oi]at p
 | .scr _,p=>by simp[D.oi]at p
 | .exc _ _,p=>by simp[D.oi]at p
theorem Qe:∀{ds:List D},ois ds=true->pls ds=true
 | [],_=>rfl
 |d::ds,h=>by simp only[ois,bI]at h;simp only[pls,Bi h.1,Qe h.2,OW]
end
section
variable {X:Cx}{pins:List (Addr×Obj)}{U:St}{H:Hp}{s:Shared}
theorem Qd(I:Inv X pins U H s)(hu:A.units+n<cLine)(lt:∀{d e:D}{x y:V}{u v:Value}{b:Bool},d.oi=true->e.oi=true->d.dep<=n->RD X.K H d x->RD X.K H e y->RelV x u->RelV y v->i4 d e=some b->RcLt A s u v b) :
  ∀{ds es:List D}{xs ys:List V}{us vs:List Value}{b:Bool},ois ds=true->ois es=true->i8 ds<=n->RDs X.K H ds xs->RDs X.K H es ys->Vals xs us->Vals ys vs->t7 ds es=some b->LexR A s us vs b
 | [],[],_,_,_,_,b,_,_,_,r1,r2,q1,q2,h=>by simp only[RDs]at r1 r2;subst r1;subst r2;cases q1;cases q2;simp only[t7,Option.some.injEq]at h;subst h;exact .nn
 | [],e::es,_,_,_,_,b,_,_,_,r1,r2,q1,q2,h=>by simp only[RDs]at r1 r2;subst r1;obtain⟨y,ys,rfl,_,_⟩:=r2;cases q1;cases q2;simp only[t7,Option.some.injEq]at h;subst h;exact .nc
 |d::ds,[],_,_,_,_,b,_,_,_,r1,r2,q1,q2,h=>by simp only[RDs]at r1 r2;subst r2;obtain⟨y,ys,rfl,_,_⟩:=r1;cases q1;cases q2;simp only[t7,Option.some.injEq]at h;subst h;exact .cn
 |d::ds,e::es,_,_,_,_,b,p1,p2,hd,r1,r2,q1,q2,h=>by
  simp only[RDs]at r1 r2;obtain⟨x,xs,rfl,rx,fB⟩:=r1;obtain⟨y,ys,rfl,ry,fC⟩:=r2;simp only[ois,bI]at p1 p2;simp only[i8]at hd;cases q1 with
  |cons a1 a2=>
   cases q2 with
   |cons b1 b2=>
    have eq:=Bt (A:=A) I n (Bi p1.1) (Bi p2.1) (by lia) hu rx ry a1 b1
    simp only[t7]at h
    split at h
    . rename_i w;rw[w]at eq;exact .eq eq (Qd I hu lt p1.2 p2.2 (by lia) fB fC a2 b2 h)
    . rename_i w;rw[show eqD d e=false by simpa using w]at eq;exact .lt eq (lt p1.1 p2.1 (by lia) rx ry a1 b1 h)
theorem Vg(h:i4 d e=some b):(∃i j,d=.int i/\e=.int j/\b=decide (i<j))\/∃ds es,d=.tup ds/\e=.tup es/\t7 ds es=some b:=by
 cases d with
 |int i=>cases e with
  |int j=>exact .inl ⟨_,_,rfl,rfl,(Option.some.inj h).symm⟩
  |_=>exact nomatch h
 |tup ds=>cases e with
  |tup es=>exact .inr ⟨_,_,rfl,rfl,h⟩
  |_=>exact nomatch h
 |_=>exact nomatch h
theorem kD(I:Inv X pins U H s):∀(n:Nat){A:Around}{d e:D}{x y:V}{u v:Value}{b:Bool},A.units+n<cLine->d.oi=true->e.oi=true->d.dep<=n->RD X.K H d x->RD X.K H e y->RelV x u->RelV y v->i4 d e=some b->RcLt A s u v b:=by
 intro n;induction n with
 |zero=>
  intro A d e x y u v b hu p1 p2 hd rx ry ru rv h
  rcases Vg h with⟨i,j,rfl,rfl,rfl⟩ |⟨ds,es,rfl,rfl,h⟩
  . cases rx.int;cases ry.int;obtain⟨t,rfl⟩:=ru;obtain⟨t',rfl⟩:=rv;exact fun prog w E Q q=>HT.rcLt_int A s _ _ _ _ prog w E Q q
  . simp only[D.dep]at hd;lia
 |succ n ih=>
  intro A d e x y u v b hu p1 p2 hd rx ry ru rv h
  rcases Vg h with⟨i,j,rfl,rfl,rfl⟩ |⟨ds,es,rfl,rfl,h⟩
  . cases rx.int;cases ry.int;obtain⟨t,rfl⟩:=ru;obtain⟨t',rfl⟩:=rv;exact fun prog w E Q q=>HT.rcLt_int A s _ _ _ _ prog w E Q q
  . obtain⟨a,xs,rfl,ha,ra⟩:=rx.tup;obtain⟨c,ys,rfl,hc,rc⟩:=ry.tup;cases ru;cases rv;obtain⟨its,r1,t1⟩:=I.tupA ha;obtain⟨aA,r2,t2⟩:=I.tupA hc;simp only[D.dep]at hd;simp only[D.oi]at p1 p2;have gQ:A.in1.units+n<cLine:=by show A.units+1+n<cLine;lia
    exact RcLt.tuples t1 t2 (Qd I gQ (fun {d e x y u v b} q1 q2 q3 q4 q5 q6 q7 q8=>ih gQ q1 q2 q3 q4 q5 q6 q7 q8) p1 p2 (by lia) ra rc r1 r2 h) (by lia)
end
end L2
namespace L2
open PySem PySem.Spec PyProof.Rows
section
variable {prog:Program}{w:World}{A:Around}{E:Value->Shared->Prop}{s:Shared}
theorem Vz(ho:s.heap.get? a=some (seqObj "list" vs.toArray n))(hs:vs.length<2)
  (h:P (.done (.ret .none)) { s with heap:=sortedHeap s.heap a vs ((pairsOf vs).map (·.2)) }):wpAny (model prog w) A (Builtin.«list.sort» ⟨[.ref a],[]⟩) P E s:=by
 rw[list_sort_plain]
 have ha:a<s.heap.objs.size:=Φ ho
 refine χ (listItems_at ho rfl ?_)
 refine χ (listUpdate_at ho rfl ?_)
 obtain⟨e1,eU⟩:∃e1,(s.heap.update a (Obj.mapSeq fun _=>#[])).get? a=some (seqObj "list" #[] e1):=⟨_,get?_update_seq ho (fun _=>#[])⟩
 refine χ (seqEpoch_at eU rfl ?_)
 refine χ (wpAny_newTuple ?_)
 refine χ (TY ?_)
 refine NZ ?_
 have AV:(((s.heap.update a (Obj.mapSeq fun _=>#[])).push (seqObj "tuple" vs.toArray 0)).push (seqObj "list" #[] 0)).get? a=some (seqObj "list" #[] e1):=by rw[Heap.get?_push_ne _ _ _ (by rw[size_push',TX];exact NI (UF ha)),Heap.get?_push_ne _ _ _ (by rw[TX];exact NI ha)];exact eU
 show wpAny (model prog w) A _ P E { s with heap:=((s.heap.update a (Obj.mapSeq fun _=>#[])).push (seqObj "tuple" vs.toArray 0)).push (seqObj "list" #[] 0) }
 dsimp only
 have hsz:vs.toArray.size=vs.length:=by simp
 have h2:vs.toArray.size<2:=by rw[hsz];exact hs
 rw[ξ h2,ξ h2]
 refine χ (ω ?_)
 rw[StateT.run_pure]
 refine χ (ω ?_)
 dsimp only
 refine χ (seqEpoch_at AV rfl ?_)
 refine χ (listUpdate_at AV rfl ?_ (hsz2:=by rw[Array.size_map];show(pairsOf vs).size<=_;rw[pairsOf_size,UB];lia))
 simp only[bne_self_eq_false,OD,PY]
 exact ω h
theorem zW(hl:s.heap.IsList l vs.toArray)(hs:vs.length<2)
  (h:Q (.ref (s.heap.objs.size+1)) { s with heap:=sortedAll s.heap vs ((pairsOf vs).map (·.2)) }):wpAny (model prog w) A (call (.builtin "sorted") [.ref l]) Q E s:=by
 refine SU kind_sorted plain_sorted entry_sorted (args_sorted1 _) ?_
 unfold Builtin.«sorted»
 refine χ (m:=checkCount "sorted" 1 1 _) (ω ?_)
 refine χ (collect_list hl ?_ (by rw[UB];omega))
 refine χ (TY ?_ (by rw[UB];omega))
 have hsz:((s.heap.push (seqObj "list" #[] 0)).update s.heap.objs.size (Obj.mapSeq (·++vs.toArray))).objs.size=s.heap.objs.size+1:=by rw[TX,size_push']
 have gy:(((s.heap.push (seqObj "list" #[] 0)).update s.heap.objs.size (Obj.mapSeq (·++vs.toArray))).push (seqObj "list" vs.toArray 0)).get? (s.heap.objs.size+1)=some (seqObj "list" vs.toArray 0):=by rw[<-hsz];exact Ξ _ rfl
 show wpAny _ _ _ _ _ { s with heap:=((s.heap.push (seqObj "list" #[] 0)).update s.heap.objs.size (Obj.mapSeq (·++vs.toArray))).push (seqObj "list" vs.toArray 0) }
 rw[hsz]
 refine χ (NZ (QF slot_list_sort ⟨_,gy,rfl⟩ entry_list_sort (Vz gy hs ⟨_,rfl,?_⟩) (args_list_sort _)))
 exact ω ⟨_,rfl,h⟩
end
noncomputable def isI:D->Bool
 | .int _=>true
 |_=>false
noncomputable def z7:D->Bool
 | .tup (.int _::_)=>true
 |_=>false
noncomputable def G7:D->Bool
 | .tup (.tup _::_)=>true
 |_=>false
def Jf(ds:List D):Bool:=decide (ds.length<64)&&ois ds&&decide (i8 ds<=20)&&ds.all (fun d=>ds.all fun e=>(i4 d e).isSome)&&(ds.all isI||ds.all z7||ds.all G7)
def Sm:List D->Option D
 | [.lst ds]=>if Jf ds=true then some (.lst (p9 ds)) else none
 |_=>none
theorem RDs.pick{K:Frag}{H:Hp}{ds:List D}{ys:List V}(r:RDs K H ds ys):∀{is:List Nat},(∀i∈is,i<ys.length)->RDs K H (is.map fun i=>ds.getD i (.int 0)) (is.map fun i=>ys.getD i .non)
 | [],_=>by simp[RDs]
 |i::is,h=>by
  have hi:=h i NN;have hy:ys[i]?=some ys[i]:=by simp[hi]
  obtain⟨d,h1,h2⟩:=r.get hy;simp only[NL];refine .cons ?_ (RDs.pick r fun j hj=>h j (IR _ hj));rw[io,io,h1,hy];exact h2
section
variable {X:Cx}{pins:List (Addr×Obj)}{U:St}{H:Hp}{s:Shared}
theorem Vals.pick(r:Vals ys its):∀{is:List Nat},(∀i∈is,i<ys.length)->Vals (is.map fun i=>ys.getD i .non) (is.map fun i=>its.getD i Value.none)
 | [],_=>.nil
 |i::is,h=>by
  have hi:=h i NN;have hy:ys[i]?=some ys[i]:=by simp[hi]
  obtain⟨u,h1,h2⟩:=r.get hy;simp only[NL];refine .cons ?_ (Vals.pick r fun j hj=>h j (IR _ hj));rw[io,io,h1,hy];exact h2
theorem Ki(I:Inv X pins U H s)(hu:A.units+20<cLine)(q:Q r s) :
  ∀{ds es:List D}{xs ys:List V}{us vs:List Value}(i:Nat),(b=true->i=0->(∃k r,ds=.int k::r)/\∃k r,es=.int k::r)->ois ds=true->ois es=true->i8 ds<=20->RDs X.K H ds xs->RDs X.K H es ys->Vals xs us->Vals ys vs->t7 ds es=some r ->
   fin=decide (us.length<vs.length)->PySem.W.KatLex X.prog X.w A b fin Q (us.zip vs) i s
 | [],[],_,_,_,_,i,_,_,_,_,r1,r2,q1,q2,h,hf=>by simp only[RDs]at r1 r2;subst r1;subst r2;cases q1;cases q2;simp only[t7,Option.some.injEq]at h;subst h;simp at hf;subst hf;exact q
 | [],e::es,_,_,_,_,i,_,_,_,_,r1,r2,q1,q2,h,hf=>by simp only[RDs]at r1 r2;subst r1;obtain⟨y,ys,rfl,_,_⟩:=r2;cases q1;cases q2;simp only[t7,Option.some.injEq]at h;subst h;simp at hf;subst hf;exact q
 |d::ds,[],_,_,_,_,i,_,_,_,_,r1,r2,q1,q2,h,hf=>by simp only[RDs]at r1 r2;subst r2;obtain⟨y,ys,rfl,_,_⟩:=r1;cases q1;cases q2;simp only[t7,Option.some.injEq]at h;subst h;simp at hf;subst hf;exact q
 |d::ds,e::es,_,_,_,_,i,hb,p1,p2,hd,r1,r2,q1,q2,h,hf=>by
  simp only[RDs]at r1 r2;obtain⟨x,xs,rfl,rx,fB⟩:=r1;obtain⟨y,ys,rfl,ry,fC⟩:=r2;simp only[ois,bI]at p1 p2;simp only[i8]at hd;cases q1 with
  |cons a1 a2=>
   cases q2 with
   |cons b1 b2=>
    have eq:=Bt (A:=A) I 20 (Bi p1.1) (Bi p2.1) (by lia) hu rx ry a1 b1
    rw[OM]
    refine PySem.W.kat_cons (eq X.prog X.w _ _ ?_)
    simp only[t7]at h
    simp only[NM,Nat.add_lt_add_iff_right]at hf
    split at h
    . rename_i w;rw[w];exact PySem.W.kat_yes (Ki I hu q (i+1) (fun _ z=>by lia) p1.2 p2.2 (by lia) fB fC a2 b2 h hf)
    . rename_i w;rw[show eqD d e=false by simpa using w];refine PySem.W.kat_no ?_;by_cases fV:(b&&i==0)=true
      . rw[fV];simp only[bI,OY]at fV;obtain⟨⟨k1,s1,e1⟩,k2,s2,e2⟩:=hb fV.1 fV.2;cases e1;cases e2;cases rx.int;cases ry.int;obtain⟨t,rfl⟩:=a1;obtain⟨t',rfl⟩:=b1;refine oneLt_int ?_;simp only[i4,Option.some.injEq]at h;rw[h];exact q
      . rw[show(b&&i==0)=false by simpa using fV];exact PySem.W.kat_one _ _ (kD I 20 hu p1.1 p2.1 (by lia) rx ry a1 b1 h X.prog X.w _ _ q)
theorem Je(I:Inv X pins U H s)(T:Bool):∀{ds:List D}{xs:List V}{us:List Value},(∀d∈ds,(if T=true then G7 d else z7 d)=true)->RDs X.K H ds xs->Vals xs us ->
  ∃fs:List Value,PySem.W.KatTups s.heap us fs/\fs.length=ds.length/\∀v∈fs,Looks M s.heap (typeOf v) (.type (if T=true then "tuple" else "int"))
 | [],_,_,_,r,q=>by simp only[RDs]at r;subst r;cases q;exact⟨[],trivial,rfl,fun v hv=>by cases hv⟩
 |d::ds,_,_,h,r,q=>by
  simp only[RDs]at r;obtain⟨x,xs,rfl,rx,fB⟩:=r;cases q with
  |cons q1 q2=>
   obtain⟨fs,h1,h2,h3⟩:=Je (M:=M) I T (fun d hd=>h d (IR _ hd)) fB q2
   have hd:=h d NN
   cases T with
   |false=>
    rw[ψ η]at hd
    cases d<;>simp only[z7]at hd<;>first |cases hd |skip
    rename_i es
    cases es with
    |nil=>simp at hd
    |cons e es=>
     cases e<;>simp at hd
     obtain⟨a,ys,rfl,ha,ra⟩:=rx.tup
     cases q1
     obtain⟨its,rv,t⟩:=I.tupA ha
     simp only[RDs]at ra
     obtain⟨y,ys,rfl,ry,fC⟩:=ra
     cases ry.int
     cases rv with
     |cons v1 v2=>
      obtain⟨tk,rfl⟩:=v1
      obtain⟨o,ho,hc,n,nL⟩:=t
      refine⟨_::fs,PySem.W.KatTups.cons ho hc nL rfl h1,by simp[h2],fun v hv=>?_⟩
      rcases tB.mp hv with rfl |hv
      . exact .now
      . exact h3 v hv
   |true=>
    rw[ξ rfl]at hd
    cases d<;>simp only[G7]at hd<;>first |cases hd |skip
    rename_i es
    cases es with
    |nil=>simp at hd
    |cons e es=>
     cases e<;>simp at hd
     obtain⟨a,ys,rfl,ha,ra⟩:=rx.tup
     cases q1
     obtain⟨its,rv,t⟩:=I.tupA ha
     simp only[RDs]at ra
     obtain⟨y,ys,rfl,ry,fC⟩:=ra
     obtain⟨a2,ME,rfl,FM,MF⟩:=ry.tup
     cases rv with
     |cons v1 v2=>
      cases v1
      obtain⟨aA,MG,o2,el,fA,_⟩:=I.tupA FM
      obtain⟨o,ho,hc,n,nL⟩:=t
      refine⟨_::fs,PySem.W.KatTups.cons ho hc nL rfl h1,by simp[h2],fun v hv=>?_⟩
      rcases tB.mp hv with rfl |hv
      . have lk:Looks M s.heap (typeOf (.ref a2)) o2.cls:=(PySem.W.Looks.ld el).andThen .now;rw[fA]at lk;exact lk
      . exact h3 v hv
theorem Vals.getD(r:Vals ys its)(h:i<ys.length):RelV (ys.getD i .non) (its.getD i Value.none):=by
 have hy:ys[i]?=some ys[i]:=by simp[h]
 obtain⟨u,h1,h2⟩:=r.get hy;rw[io,io,h1,hy];exact h2
theorem RDs.getD(r:RDs X.K H ds ys)(h:i<ys.length):RD X.K H (ds.getD i (.int 0)) (ys.getD i .non):=by
 have hy:ys[i]?=some ys[i]:=by simp[h]
 obtain⟨d,h1,h2⟩:=r.get hy;rw[io,io,h1,hy];exact h2
theorem A8{α:Type}{l:List α}{i:Nat}{d:α}(h:i<l.length):l.getD i d∈l:=by rw[io,NG h];exact List.getElem_mem h
end
section
variable {X:Cx}{K:Frag}
noncomputable def M8(n:Int)(ns:List Int):Int:=ns.foldl (fun a b=>if b > a then b else a) n
noncomputable def M7(n:Int)(ns:List Int):Int:=ns.foldl (fun a b=>if b<a then b else a) n
theorem Sk:∀(ns:List Int)(n:Int),M8 n ns∈n::ns/\∀a∈n::ns,a<=M8 n ns
 | [],n=>by simp[M8]
 |b::ns,n=>by
  have ih:=Sk ns (if b > n then b else n);show M8 (if b > n then b else n) ns∈_/\∀a∈_,a<=M8 (if b > n then b else n) ns;generalize M8 (if b > n then b else n) ns=M at ih;obtain⟨h1,h2⟩:=ih;constructor
  . rcases tB.mp h1 with z |z
    . rw[z];split<;>simp
    . simp[z]
  . intro a ha;have h3:=h2 _ NN;rcases tB.mp ha with rfl |ha
    . split at h3<;>lia
    . rcases tB.mp ha with rfl |ha
      . split at h3<;>lia
      . exact h2 a (IR _ ha)
theorem Sj:∀(ns:List Int)(n:Int),M7 n ns∈n::ns/\∀a∈n::ns,M7 n ns<=a
 | [],n=>by simp[M7]
 |b::ns,n=>by
  have ih:=Sj ns (if b<n then b else n);show M7 (if b<n then b else n) ns∈_/\∀a∈_,M7 (if b<n then b else n) ns<=a;generalize M7 (if b<n then b else n) ns=M at ih;obtain⟨h1,h2⟩:=ih;constructor
  . rcases tB.mp h1 with z |z
    . rw[z];split<;>simp
    . simp[z]
  . intro a ha;have h3:=h2 _ NN;rcases tB.mp ha with rfl |ha
    . split at h3<;>lia
    . rcases tB.mp ha with rfl |ha
      . split at h3<;>lia
      . exact h2 a (IR _ ha)
def Gs:List D->Option D
 | [.lst ds]=>match y0 ds with
  |some (n::ns)=>some (.int (M8 n ns))
  |_=>none
 |_=>none
def Gr:List D->Option D
 | [.lst ds]=>match y0 ds with
  |some (n::ns)=>some (.int (M7 n ns))
  |_=>none
 |_=>none
def Oc:List V->Hp->VK->Prop:=fun xs H Q=>∃p n ns,xs=[.ref p]/\H p=some (.lst ((n::ns).map V.int))/\Q (.int (M8 n ns)) H
def Ob:List V->Hp->VK->Prop:=fun xs H Q=>∃p n ns,xs=[.ref p]/\H p=some (.lst ((n::ns).map V.int))/\Q (.int (M7 n ns)) H
theorem kC(hc:X.calm=true):CallR X (.builtin "max") Oc:=by
 intro pins s U H xs us Q I r h;obtain⟨p,n,ns,rfl,hp,q⟩:=h;obtain⟨u,rfl,ru⟩:=w8 r;cases ru;obtain⟨its,rv,pl,_⟩:=I.list (.of hp);obtain⟨m,hn,_⟩:=id I.loc;refine max_list_N (I.ok.hd hc) (Att.fr_all hn) (T4 (g:=Att.noObjs s.heap) (L:=X.env.locals)) pl.isList (Co rv) (by simp) fun h' M t tk F N hM bS=>?_
 obtain⟨a1,a2⟩:=Sk ns n;have e:M=M8 n ns:=Int.le_antisymm (a2 M hM) (bS _ a1);exact⟨.int M,H,I.frn hn F N,⟨t,rfl⟩,by rw[e];exact q⟩
theorem kB(hc:X.calm=true):CallR X (.builtin "min") Ob:=by
 intro pins s U H xs us Q I r h;obtain⟨p,n,ns,rfl,hp,q⟩:=h;obtain⟨u,rfl,ru⟩:=w8 r;cases ru;obtain⟨its,rv,pl,_⟩:=I.list (.of hp);obtain⟨m,hn,_⟩:=id I.loc;refine min_list_N (I.ok.hd hc) (Att.fr_all hn) (T4 (g:=Att.noObjs s.heap) (L:=X.env.locals)) pl.isList (Co rv) (by simp) fun h' M t tk F N hM bS=>?_
 obtain⟨a1,a2⟩:=Sj ns n;have e:M=M7 n ns:=Int.le_antisymm (bS _ a1) (a2 M hM);exact⟨.int M,H,I.frn hn F N,⟨t,rfl⟩,by rw[e];exact q⟩
theorem vL:B9 K false Gs Oc:=by
 intro H0 H xs ds z Q s r ho k;unfold Gs at ho;split at ho<;>first |cases ho |skip
 split at ho<;>cases ho;rename_i es n ns hq;obtain⟨x,rfl,q1⟩:=r.uno;obtain⟨a,ys,rfl,ha,ra⟩:=q1.lst;have e:=T5 hq ra;subst e;exact⟨a,n,ns,rfl,s _ _ ha,k _ H (.pure s (.mkInt _))⟩
theorem vK:B9 K false Gr Ob:=by
 intro H0 H xs ds z Q s r ho k;unfold Gr at ho;split at ho<;>first |cases ho |skip
 split at ho<;>cases ho;rename_i es n ns hq;obtain⟨x,rfl,q1⟩:=r.uno;obtain⟨a,ys,rfl,ha,ra⟩:=q1.lst;have e:=T5 hq ra;subst e;exact⟨a,n,ns,rfl,s _ _ ha,k _ H (.pure s (.mkInt _))⟩
end
theorem Si{K:Frag}{h:Heap}{C:Addr}{bmB:List Value}{newId:String}(X:K.In h)(q:PySem.W.excIn K C bmB newId=true) :
  ∃bm N nm qn bs hdct sn sub ab col dd k0 k1 k2 k3 k5 mN,h.get? C=some (excClassObj nm qn C N bs bm hdct sn sub ab col dd k0 k1 k2 k3 k5 newId)/\h.Ns N mN/\mN "__init__"=none/\OwnTail h bmB bm:=by
 unfold PySem.W.excIn at q
 split at q<;>try cases q
 rename_i dd cd sl ho
 split at q<;>try cases q
 rename_i C' bm k0 k1 k2 k3 n k5 hm hs
 simp only[bI,OY,QK]at q
 obtain⟨⟨⟨⟨⟨e1,e2⟩,eM⟩,ht⟩,hok⟩,iM⟩:=q
 subst e1 e2
 have ho:=X _ _ ho
 cases cd
 dsimp only at hm eM hok iM
 subst hm eM
 have nM:sl=#[k0,k1,k2,k3,some (.builtin n),k5]:=by cases sl;simp only at hs;rw[hs]
 rw[nM]at ho
 exact⟨bm,_,_,_,_,_,_,_,_,_,dd,k0,k1,k2,k3,k5,_,ho,.of_isNs (PySem.W.isNs_of_in X hok),PySem.W.nsMap_none_of_in X hok iM,PySem.W.tail_of_in X ht⟩
noncomputable def Jd(K:Frag)(C:Addr)(bmB:List Value)(newId:String):Bool:=match K.lookup C with
 |some ⟨.type "type",_,.cls cd,sl⟩=>(match cd.mro,sl.toList with
  | .ref C'::bm,[_,_,_,_,some (.builtin n),_]=>C'==C&&n==newId&&!cd.hasDel&&PySem.W.tailIn K bmB bm&&cd.hasDict
  |_,_=>false)
 |_=>false
theorem xJ{K:Frag}{h:Heap}{C:Addr}{bmB:List Value}{newId:String}(X:K.In h)(q:Jd K C bmB newId=true) :
  ∃bm N nm qn bs sn sub ab col dd k0 k1 k2 k3 k5,h.get? C=some (excClassObj nm qn C N bs bm true sn sub ab col dd k0 k1 k2 k3 k5 newId)/\OwnTail h bmB bm:=by
 unfold Jd at q
 split at q<;>try cases q
 rename_i dd cd sl ho
 split at q<;>try cases q
 rename_i C' bm k0 k1 k2 k3 n k5 hm hs
 simp only[bI,OY,QK]at q
 obtain⟨⟨⟨⟨e1,e2⟩,eM⟩,ht⟩,cw⟩:=q
 subst e1 e2
 have ho:=X _ _ ho
 cases cd
 dsimp only at hm eM cw
 subst hm eM cw
 have nM:sl=#[k0,k1,k2,k3,some (.builtin n),k5]:=by cases sl;simp only at hs;rw[hs]
 rw[nM]at ho
 exact⟨bm,_,_,_,_,_,_,_,_,dd,k0,k1,k2,k3,k5,ho,PySem.W.tail_of_in X ht⟩
def XCl(K:Frag)(C:Addr)(bmB:List Value)(newId:String):Prop:=PySem.W.excIn K C bmB newId=true\/Jd K C bmB newId=true
theorem Sh{K:Frag}{h:Heap}{C:Addr}{bmB:List Value}{newId:String}(X:K.In h)(q:XCl K C bmB newId) :
  ∃bm N nm qn bs hdct sn sub ab col dd k0 k1 k2 k3 k5,h.get? C=some (excClassObj nm qn C N bs bm hdct sn sub ab col dd k0 k1 k2 k3 k5 newId)/\OwnTail h bmB bm:=by
 rcases q with q |q
 . obtain⟨bm,N,nm,qn,bs,hdct,sn,sub,ab,col,dd,k0,k1,k2,k3,k5,mN,hC,_,_,T⟩:=Si X q;exact⟨bm,N,nm,qn,bs,hdct,sn,sub,ab,col,dd,k0,k1,k2,k3,k5,hC,T⟩
 . obtain⟨bm,N,nm,qn,bs,sn,sub,ab,col,dd,k0,k1,k2,k3,k5,hC,T⟩:=xJ X q;exact⟨bm,N,nm,qn,bs,true,sn,sub,ab,col,dd,k0,k1,k2,k3,k5,hC,T⟩
section
variable {X:Cx}{x:Str}{C:Addr}{bmB:List Value}{B newId fI:String}{np cpos pos:Pos}{e:Expr}{es:List Expr}{t:TA}{EX:XW}{fr:Bool}{fs:DE->R (List D)}
theorem xI(FB:ExcBaseFacts B newId fI bmB)(cy:X.calm=true)(hg:Gl X x)(hm:X.mg x=some (.ref C))(hq:PySem.W.excIn X.K C bmB newId=true)(ha:PA X (e::es) t)(E:Hp->Prop)
  (hE:∀(pins:List (Addr×Obj))(U:St)(H:Hp)(s:Shared)(a:Addr)(s':Shared)(args:List Value),Inv X pins U H s->Heap.MadeExcOf s.heap s'.heap a (.ref C) args->s'.os=s.os->AllBare s'.gens->E H->X.xe (.ref a) s')
  (aF:(x==("__debug__":Str))=false:=by decide) (he:starEach (e::es) X.env=(false,eval e X.env)::starEach es X.env:=by rfl) (hpl:(backTo cpos (starEach es X.env)).any (·.1)=false:=by rfl) :
  PS X (.Raise (some (.Call (.Name x np) (e::es) [] cpos)) none pos) (fun _ U H=>t U H fun vs H1=>vs.length<=sizeLine/\E H1):=by
 intro pins s U H D I h
 obtain⟨bm,N,nm,qn,bs,hdct,sn,sub,ab,col,dd,k0,k1,k2,k3,k5,mN,hC,hN,iM,T⟩:=Si I.ok.mod.kin hq
 refine wpAny_Raise_call_subT (C:=C) (nm:=nm) (q:=qn) (N:=N) (bs:=bs) (bm:=bm) (hdct:=hdct) (sn:=sn) (sub:=sub) (ab:=ab) (col:=col) (dd:=dd) (k0:=k0) (k1:=k1) (k2:=k2) (k3:=k3) (k5:=k5)
  FB (mN:=mN) (T.hasType FB.hasBase) (I.ok.hd cy) (by rw[he];show(false||(backTo cpos (starEach es X.env)).any (·.1))=false;rw[hpl];rfl) iM (Ci I hg hm ⟨rfl,?_⟩ aF)
 have go:=ha cpos pins s U H _ I h
 rw[he]at go⊢
 refine Calls.evalArgs_plain (OG go (fun us s2 ⟨vs,H1,I1,r,hl,FN⟩=>⟨rfl,by rw[<-r.length];exact hl,I1.bk _ _ hC,hN.keeps I1.bk,T.keeps I1.bk,fun h' a hx=>?_⟩) fun _ _ y=>y)
 exact hE pins U H1 s2 a _ us I1 hx rfl I1.bare FN
def O3(c:String)(fs:DE->R (List D)):DS->SR:=fun ρ=>(fs (see ρ)).toS fun ds=>if ds.length<=1000 then .er ⟨c,[]⟩ else .st
theorem vJ{K:Frag}{De:Ends}{U:St}{H:Hp}{c:String}(h:TSd K EX fr (O3 c fs) De U H):TAd K EX fs U H fun vs H1=>vs.length<=sizeLine/\EX.p ⟨c,[]⟩ H1:=by
 obtain⟨Hc,Hb,H0,ρ,sb,R,h⟩:=h;unfold O3 at h;rw[SK.toS]at h;refine⟨sb.trans R.sb,see ρ,HeOf (List.replicate ρ.length true) ρ U H0 H,R.heH _,by rw[<-Cg];exact R.re _,h.mono fun ds z vs H' aa s e r=>?_⟩;split at z
 . rename_i hl;exact⟨En (by rw[<-r.length];exact hl),z H' ((sb.trans R.sb).trans s)⟩
 . exact z.elim
theorem Kh{c:String}(L:Lnd X EX)(FB:ExcBaseFacts B newId fI bmB)(cy:X.calm=true)(hg:Gl X (c:Str))(hm:X.mg (c:Str)=some (.ref C))(hq:PySem.W.excIn X.K C bmB newId=true)(ha:QA X EX (e::es) fs)
  (aF:(((c:Str))==("__debug__":Str))=false:=by decide) (he:starEach (e::es) X.env=(false,eval e X.env)::starEach es X.env:=by rfl) (hpl:(backTo cpos (starEach es X.env)).any (·.1)=false:=by rfl) :
  QS X EX fr (.Raise (some (.Call (.Name (c:Str) np) (e::es) [] cpos)) none pos) (O3 c fs):=
 ⟨(xI FB cy hg hm hq ha.h (fun H=>EX.p ⟨c,[]⟩ H) (fun pins U H s a s' args I hx ho hb hp=>L.md pins U H H s a C none s' ⟨c,[]⟩ I (.of hx) (I.hok.kept hx.keeps) (Un.kept hx.keeps) (I.hok.none hx.new) ho hb hm hp (.inl rfl)) aF he hpl).imp fun _ _ _ q=>vJ q⟩
end
theorem yA{M:Model}{A:Around}{E:Value->Shared->Prop}{nm FO q qD:Str}{C N DD ND:Addr}{bs bm FP nN:List Value}{hdct mL:Bool}{sn FQ:List Str}{sub pE:List Value}{ab FR:Bool}{col pF:Option Bool}{dd FS:Option Addr}{k0 k1 k2 k3 k5 j0 j1 j2 j3 j5:Option Value}{newId pG:String}
  {h:Heap} {g:Array GenState} {d:Drawn} {t:Nat} {os:OsState} {e:Addr} {oe:Obj} {Q:Bool->Shared->Prop}
  (hC:h.get? C=some (excClassObj nm q C N bs bm hdct sn sub ab col dd k0 k1 k2 k3 k5 newId)) (hD:h.get? DD=some (excClassObj FO qD DD ND FP nN mL FQ pE FR pF FS j0 j1 j2 j3 j5 pG)) (he:h.get? e=some oe) (eI:oe.cls=.ref C)
  (bH:nN.contains (.type "BaseException")=true) (hq:Q ((Value.ref C::bm).contains (.ref DD)) ⟨h,g,d,t,os⟩):wpAny M A (excMatches (.ref e) (.ref DD)) Q E ⟨h,g,d,t,os⟩:=by
 have FT:(Value.ref DD::nN).contains (.type "BaseException")=true:=by rw[List.contains_cons,bH,Bool.or_true]
 have f:=tc_notTuple
 unfold excMatches
 repeat (first | (with_reducible refine RT he ?_;rw[eI]) |with_reducible refine RT hD ?_ | (with_reducible refine wpAny_isSubtype_exc hD ?_;rw[FT]) |with_reducible refine wpAny_isSubtype_exc hC ?_ |wp_step)
 cases hb:(Value.ref C::bm).contains (.ref DD)<;>(rw[hb]at hq;wp_walk;exact hq)
section
variable {X:Cx}{pins:List (Addr×Obj)}{U:List (Option V)}{H1 H2:Hp}{s1 s2:Shared}{h' B:Heap}{C a T:Addr}{a0:Value}{od:Option Addr}
noncomputable def E8(a C:Addr)(od:Option Addr):HO:=.ext fun h=>∃ob,h.get? a=some ob/\ob.cls=.ref C/\(∃vs,ob.data=.fields vs)/\ob.dict=od
theorem xH(I:Inv X pins U H1 s1)(x:XOut X.prog X.w X.stack H1 s1 C a od H2 s2)(na:s1.heap.get? a=none)(nT:s1.heap.get? T=none)(ha:H2 a=none)(hT:H2 T=none)
  (keep:∀b o,s2.heap.get? b=some o->b≠a->b≠T->b∉frs X.stack->h'.get? b=some o) (up:s2.heap.UpToSlots h') (bL:Heap.FlyingW B X.stack a (.ref C) a0 h') (cw:w6 a od h') :
  Inv X pins U (upd H2 a (E8 a C od)) { s2 with heap:=h' }/\Same H2 (upd H2 a (E8 a C od)):=by
 have F2:=I.stack2 x.un
 have cz:∀b∈frs X.stack,∀o,s2.heap.get? b=some o->∃sl,h'.get? b=some { o with slots:=sl }:=fun b hb o e=>by obtain⟨_,o',aS,hd⟩:=F2.mem hb;rw[e]at aS;cases aS;exact up b o e hd
 have ne:∀b o,s1.heap.get? b=some o->b≠a/\b≠T:=fun b o e=>⟨fun z=>(by rw[z,na]at e;cases e),fun z=>(by rw[z,nT]at e;cases e)⟩
 have gR:∀b o,H2 b=some o->b≠a/\b≠T:=fun b o e=>⟨fun z=>(by rw[z,ha]at e;cases e),fun z=>(by rw[z,hT]at e;cases e)⟩
 have dR:∀b∈frs X.stack,H2 b=none:=fun b hb=>by obtain⟨_,o,ho,_⟩:=I.stack.mem hb;exact x.un.free b o ho (I.stkFree b hb) (by simp)
 obtain⟨oe,vs,he,hc,hd,_⟩:=bL.first
 have un:Un (frs X.stack) [] H1 (upd H2 a (E8 a C od)) s1.heap h':=by
  refine⟨fun b o e n hb hx=>?_,fun b o e n hb hx=>?_,fun b o e n hx=>?_,fun b o e hx=>?_,fun b xs e=>?_,fun b o u e=>?_,fun b ps e=>?_⟩
  . exact keep b o (x.un.keep b o e n hb hx) (ne b o e).1 (ne b o e).2 hb
  . obtain⟨sl,e1⟩:=x.un.slot b o e n hb hx;obtain⟨eT,e2⟩:=cz b hb _ e1;exact⟨eT,e2⟩
  . rw[i6 (ne b o e).1];exact x.un.free b o e n hx
  . obtain⟨o1,e1⟩:=x.un.there b o e hx;by_cases hb:b∈frs X.stack
    . obtain⟨sl,e2⟩:=cz b hb _ e1;exact⟨_,e2⟩
    . exact⟨o1,keep b o1 e1 (ne b o e).1 (ne b o e).2 hb⟩
  . have:=x.un.tups b xs e;rw[i6 (gR b _ this).1];exact this
  . have:=x.un.frzs b o u e;rw[i6 (gR b _ this).1];exact this
  . obtain⟨m,this⟩:=x.un.tbls b ps e;exact⟨m,by rw[i6 (gR b _ this).1];exact this⟩
 have hok:HOk X.prog X.w (upd H2 a (E8 a C od)) h':=fun b o e=>by
  by_cases hb:b=a
  . subst hb;rw[t9]at e;cases e;exact⟨⟨oe,he,hc,⟨vs,hd⟩,cw _ he⟩,⟨oe,he⟩,fun h1 h2 ⟨ob,z1,z2⟩ k=>⟨ob,k _ z1,z2⟩⟩
  . rw[i6 hb]at e;refine(x.hok b o e).stay (fun c v hc q=>?_) (fun c q=>by rw[i6 (gR c _ q).1];exact q) fun c xs q=>by rw[i6 (gR c _ q).1];exact q
    have nO:H2 c≠none:=by
     rcases hc with rfl |hc
     . rw[e];exact fun z=>nomatch z
     . rw[hc];exact fun z=>nomatch z
    refine keep c v q (fun z=>nO (z ▸ ha)) (fun z=>nO (z ▸ hT)) fun z=>nO (dR c z)
 exact⟨I.call' (s':={ s2 with heap:=h' }) (ch:=[]) x.os un hok x.bare (fun _ z=>nomatch z),Same.upd_new ha⟩
end
section
variable {X:Cx}{pins:List (Addr×Obj)}{U:List (Option V)}{H:Hp}{s:Shared}
theorem Ei(I:Inv X pins U H s)(hN:X.N.Nodup)(hi:X.N[i]?=some n)(hk:X.env.scope.names.lookup n=some .local)
  (h:∀s',Inv X pins (U.set i none) H s'->Q () s'):wpAny M A (do bindName X.env n .none;unbindBehindTheSuite X.env n pos) Q E s:=by
 obtain⟨m,hn,hl⟩:=id I.loc
 have eI:(X.env.scope.kind==.class||(X.env.scope.kind==.module&&X.env.locals != X.env.globals))=false:=by rw[I.ok.kind];rfl
 obtain⟨oL,_,_,gy,_⟩:=id hn
 refine wpAny_nameGoes_keeps hk hn eI fun h' v mS hs=>h _ ?_
 have hok:HOk X.prog X.w H h':=fun b ob e=>by
  refine(I.hok b ob e).stay (fun c w' hc q=>(hs.2 c ?_).trans q) (fun _ q=>q) fun _ _ q=>q
  rintro rfl;rcases hc with rfl |hc
  . rw[I.free]at e;cases e
  . rw[I.free]at hc;cases hc
 have eP:∀b o,X.s₀.heap.get? b=some o->b≠X.env.locals:=fun b o e=>NI (NH (Φ e) I.ok.above)
 refine⟨I.ok,I.os,I.bare,⟨fun b o e n hb hx=>?_,fun b o e n hb hx=>?_,I.base.free,fun b o e hx=>?_,I.base.tups,I.base.frzs,I.base.tbls⟩,⟨_,mS,fun j y v' e1 e2 e3=>?_⟩,fun y c e=>?_,I.free,I.freeC,fun p hp=>?_,hok,by simpa using I.len⟩
 . exact(hs.2 b (eP b o e)).trans (I.base.keep b o e n hb hx)
 . obtain⟨sl,e1⟩:=I.base.slot b o e n hb hx;exact⟨sl,(hs.2 b (eP b o e)).trans e1⟩
 . obtain⟨o',e1⟩:=I.base.there b o e hx;exact⟨o',(hs.2 b (eP b o e)).trans e1⟩
 . have hj:j≠i:=fun z=>by
    subst z
    by_cases aD:j<U.length
    . rw[PH aD]at e2;cases e2
    . rw[OV (by simpa using aD)]at e2;cases e2
   rw[OJ (PN hj)]at e2
   have gH:y≠n:=fun z=>by subst z;exact hj (Lk hN e1 hi)
   obtain⟨u,r,l⟩:=hl j y v' e1 e2 e3
   refine⟨u,r,?_⟩
   rcases l with⟨k,l⟩ |⟨k,c,e,ob,z,zd⟩
   . exact .inl ⟨k,(by show(if y=n then v else m y)=some u;rw[ψ gH];exact l)⟩
   . exact .inr ⟨k,c,e,ob,(hs.2 c (I.cne y c e)).trans z,zd⟩
 . obtain⟨v,ob,z,zd⟩:=I.cell y c e;exact⟨v,ob,(hs.2 c (I.cne y c e)).trans z,zd⟩
 . obtain⟨e,n,ne,nf,d⟩:=I.pin p hp;exact⟨(hs.2 p.1 ne).trans e,n,ne,nf,d⟩
abbrev Cx.held(X:Cx)(e:Value):Cx:={ X with A:=X.A.mark (some e),calm:=false,xe:=fun _ _=>False }
theorem Inv.held(I:Inv X pins U H s)(e:Value):Inv (X.held e) pins U H s:=
 ⟨⟨I.ok.mod,I.ok.kind,I.ok.glob,I.ok.blt,I.ok.above,I.ok.inj,I.ok.has,I.ok.cab,(fun z=>nomatch z),I.ok.frames,I.ok.stk,I.ok.exf,I.ok.bs,I.ok.bsz,I.ok.noex,I.ok.exfs,I.ok.funs,I.ok.frf⟩,I.os,I.bare,I.base,I.loc,I.cell,I.free,I.freeC,I.pin,I.hok,I.len⟩
theorem Inv.unheld(ok:X.Ok)(I:Inv (X.held e) pins U H s):Inv X pins U H s:=
 ⟨ok,I.os,I.bare,I.base,I.loc,I.cell,I.free,I.freeC,I.pin,I.hok,I.len⟩
theorem xG(G:g4 X.prog X.w X.K X.mg X.base x ps k sp)(hr:Room j X.A)(hg:Gl X x)(ha:PA X.nox (e::es) t)(I:Inv X pins U H s)(h:t U H fun vs H1=>Same H H1/\sp vs H1 Q E)(eg:k<=j:=by omega)(aF:(x==("__debug__":Str))=false:=by decide)
  (he:starEach (e::es) X.env=(false,eval e X.env)::starEach es X.env:=by rfl) (hpl:(backTo pos (starEach es X.env)).any (·.1)=false:=by rfl) :
  wpAny (model X.prog X.w) X.A (eval (.Call (.Name x p) (e::es) [] pos) X.env) (EP X pins U Q) (fun ev s'=>∃H1 s1,Same H H1/\Inv X pins U H1 s1/\CX1 X.prog X.w X.stack H1 s1 E ev s') s:=by
 obtain⟨f,fd,F,b,m,kp⟩:=G
 refine wpAny_Call_Name_kw (Ci I hg m ?_ aF)
 have I':Inv X.nox pins U H s:=⟨⟨I.ok.mod,I.ok.kind,I.ok.glob,I.ok.blt,I.ok.above,I.ok.inj,I.ok.has,I.ok.cab,I.ok.hd,I.ok.frames,I.ok.stk,I.ok.exf,I.ok.bs,I.ok.bsz,I.ok.noex,I.ok.exfs,I.ok.funs,I.ok.frf⟩,I.os,I.bare,I.base,I.loc,I.cell,I.free,I.freeC,I.pin,I.hok,I.len⟩
 refine PySem.W.callWith_K (h₀:=X.base) I.ok.mod.kin kp (OG (ha pos pins s U H _ I' h) (fun us s1 ⟨vs,H1,I1,r,sH,q⟩=>⟨I1.kIn,?_⟩) fun _ _ z=>z.elim) he hpl
 have I1:Inv X pins U H1 s1:=⟨I.ok,I1.os,I1.bare,I1.base,I1.loc,I1.cell,I1.free,I1.freeC,I1.pin,I1.hok,I1.len⟩
 have hl:us.length=ps.length:=by rw[<-r.length];exact F.len _ _ _ _ q
 have hb:=b s1 us I1.kIn (by rw[RZ];exact hl)
 rw[RZ]at hb
 refine wpAny_call (UJ (F.run X.A X.stack s1 H1 ⟨us,[]⟩ us vs Q E (hr.mono eg) I1.env0 hb r q) fun r s' hq=>?_)
 cases r with
 |error e=>exact⟨H1,s1,sH,I1,hq⟩
 |ok fl=>
  cases fl with
  |ret u=>exact I1.after hq
  |next=>exact False.elim hq
  |brk=>exact False.elim hq
  |cont=>exact False.elim hq
end
structure Lnd5(X:Cx)(pins:List (Addr×Obj))(U:St)(H1:Hp)(s1:Shared)(C a:Addr)(od:Option Addr)(H2:Hp)(s2:Shared)(B:Heap)(T:Addr)(a0:Value)(h5:Heap):Prop where
 I:Inv X pins U H1 s1
 x:XOut X.prog X.w X.stack H1 s1 C a od H2 s2
 na:s1.heap.get? a=none
 nT:s1.heap.get? T=none
 ha:H2 a=none
 hT:H2 T=none
 keep:∀b o,s2.heap.get? b=some o->b≠a->b≠T->b∉frs X.stack->B.get? b=some o
 up:s2.heap.UpToSlots h5
 fl:Heap.FlyingW B X.stack a (.ref C) a0 h5
 dc:w6 a od h5
section
variable {X:Cx}{EX:XW}{fr:Bool}{pins:List (Addr×Obj)}{U:St}{H1 H2:Hp}{s1 s2:Shared}{C a T:Addr}{B h5:Heap}{a0:Value}{od:Option Addr}
theorem Lnd5.inv(L:Lnd5 X pins U H1 s1 C a od H2 s2 B T a0 h5):Inv X pins U (upd H2 a (E8 a C od)) { s2 with heap:=h5 }/\Same H2 (upd H2 a (E8 a C od)):=
 xH L.I L.x L.na L.nT L.ha L.hT (fun b o e h1 h2 h3=>L.fl.1 b o (L.keep b o e h1 h2 h3)) L.up L.fl L.dc
theorem Lnd5.again(L:Lnd5 X pins U H1 s1 C a od H2 s2 B T a0 h5)(h:∀h6,Lnd5 X pins U H1 s1 C a od H2 s2 B T a0 h6->Q () { s2 with heap:=h6 }) :
  wpAny (model X.prog X.w) A (setFlight (.ref a) none) Q E { s2 with heap:=h5 }:=
 OG (Fl (E:=E) (E':=E) (.flight _ _) (lands_againW (Q:=fun _ s=>∃h',s={ s2 with heap:=h' }/\Heap.FlyingW B X.stack a (.ref C) a0 h'/\h5.UpToSlots h') (s:={ s2 with heap:=h5 }) L.fl fun h' fl up=>⟨h',rfl,fl,up⟩) (Wl (s:={ s2 with heap:=h5 }) L.fl.2.2.2 L.dc)) (fun _ s ⟨⟨h',e,fl,up⟩,d⟩=>by subst e;exact h h' ⟨L.I,L.x,L.na,L.nT,L.ha,L.hT,L.keep,L.up.trans up,fl,d⟩) fun _ _ z=>z.1
theorem vI(I:Inv X pins U H1 s1)(aL:X.stack=X.env::X.outer)(hf:X.env.frame=some X.env.locals)(x:XOut X.prog X.w X.stack H1 s1 C a od H2 s2)
  (h:∀B T a0 h5,Lnd5 X pins U H1 s1 C a od H2 s2 B T a0 h5->Q () { s2 with heap:=h5 }):wpAny (model X.prog X.w) X.A (noteFrame (.ref a) X.env) (fun _ s'=>wpAny (model X.prog X.w) X.A (setFlight (.ref a) none) Q E s') E s2:=by
 obtain⟨oe,vs,T,oT,ts,a0,he,hc,h0,hd,h1,fx,hT,bK,h3,na,nT,ha,iJ,gP,iI⟩:=id x.fly
 have F2:=I.stack2 x.un
 have fz:∀env∈X.stack,∀b,env.frame=some b->b∈a::T::frs X.stack:=fun env he b hb=>IR _ (IR _ (PX.mpr ⟨env,he,hb⟩))
 have bE:X.A.frames=some (X.env::X.outer):=by rw[<-aL];exact I.ok.frames
 have bL:Heap.FlyingW (hideAll s2.heap (a::T::frs X.stack)) (X.env::X.outer) a (.ref C) a0 s2.heap:=⟨fun b o q=>of_hideAll _ q,hideAll_none _ (.head _),aL ▸ PySem.W.funFrames_hide F2 fz,oe,vs,T,oT,ts,he,⟨hc,h0⟩,hd,h1,hideAll_none _ (.tail _ (.head _)),fx,hT,bK,h3⟩
 refine Sy (od:=od) bE hf bL (fun o ho=>by rw[he]at ho;cases ho;exact gP) fun h4 hh FU d4=>?_
 refine Kk (s:={ s2 with heap:=h4 }) hh d4 fun h5 fl FV d5=>h (hideAll s2.heap (a::T::frs X.stack)) T a0 h5 ⟨I,x,na,nT,ha,iJ,fun b o q h1 h2 h3=>hideAll_get _ q fun z=>?_,FU.trans FV,(by rw[<-aL]at fl;exact fl),d5⟩
 rcases tB.mp z with rfl |z
 . exact h1 rfl
 . rcases tB.mp z with rfl |z
   . exact h2 rfl
   . exact h3 z
theorem Oa(s:Same H H1)(e:H1 b=none):H b=none:=by
 cases q:H b with
 |none=>rfl
 |some o=>rw[s b o q]at e;cases e
theorem _root_.L2.Fly.newd(f:Fly h0 H' C a od h):∀dx,od=some dx->h0.get? dx=none:=by obtain⟨_,_,_,_,_,_,_,_,_,_,_,_,_,_,_,_,_,_,_,_,h⟩:=f;exact h
abbrev HD:=Ex->DS->SR
structure QY(X:Cx)(fr:Bool)(sts:List Stmt)(g:DS->SR):Prop where
 h:∀(pins:List (Addr×Obj))(s:Shared)(U:St)(H:Hp)(De:Ends)(Hc Hb H0:Hp)(ρ:DS)(P:Ex->Hp->Prop),Inv X pins U H s->RS X.K Hc Hb H0 ρ U H->SK X.K ⟨H,P⟩ fr Hc Hb De (g ρ) ->
  wpAny (model X.prog X.w) X.A (execs sts X.env) (SP X pins De) (fun ev s'=>∃H1 s1 x C a od H2,ev=.ref a/\Same H H1/\Inv X pins U H1 s1/\XOut X.prog X.w X.stack H1 s1 C a od H2 s'/\X.mg (Str.ofString (Ex.cls x))=some (.ref C)/\P x H2/\XFs X.K x od H2) s
structure QH(X:Cx)(EX:XW)(fr:Bool)(hs:List ExceptHandler)(hd:HD):Prop where
 h:∀(pins:List (Addr×Obj))(U:St)(H1:Hp)(s1:Shared)(C a:Addr)(od:Option Addr)(H2:Hp)(s2:Shared)(B:Heap)(T:Addr)(a0:Value)(h5:Heap)(De:Ends)(Hc Hb H0:Hp)(ρ:DS)(x:Ex)(E:Value->Shared->Prop)(H:Hp),Same H H2->(∀dx,od=some dx->H dx=none)->XFs X.K x od H2->Lnd5 X pins U H1 s1 C a od H2 s2 B T a0 h5->X.mg (Str.ofString x.cls)=some (.ref C) ->
  RS X.K Hc Hb H0 ρ U H->SK X.K EX fr Hc Hb De (hd x ρ)->wpAny (model X.prog X.w) X.A (handleBy (.ref a) X.env hs) (SP X pins De) E { s2 with heap:=h5 }
noncomputable def Cy(g:DS->SR)(hd:HD):DS->SR:=fun ρ=>match g ρ with
 | .er x=>hd x ρ
 |r=>r
theorem y0x{body:List Stmt}{h₀:ExceptHandler}{hs:List ExceptHandler}{g:DS->SR}{hd:HD}{pos:Pos}(aL:X.stack=X.env::X.outer)(hf:X.env.frame=some X.env.locals)(hb:QY X fr body g)(hh:QH X EX fr (h₀::hs) hd):QS X EX fr (.Try body (h₀::hs) [] [] pos) (Cy g hd):=by
 refine⟨fun pins s U H De I h=>?_⟩;obtain⟨Hc,Hb,H0,ρ,sb,R,h⟩:=h;refine wpAny_Try_except (OG (hb.h pins s U H De Hc Hb H0 ρ (fun x H'=>Same H H'/\SK X.K EX fr Hc Hb De (hd x ρ)) I R ?_) (fun f ae hq=>?_) fun ev s' ⟨H1,s1,x,C,a,od,H2,e,sH,I1,xo,hm,⟨sm,hk⟩,xf⟩=>?_)
 . unfold Cy at h;cases q:g ρ with
   |nx ay=>rw[q]at h;exact h
   |bk ay=>rw[q]at h;exact h
   |ct ay=>rw[q]at h;exact h
   |rt d=>rw[q]at h;exact h
   |er x=>rw[q]at h;exact fun H' s'=>⟨s',h⟩
   |st=>rw[q]at h;exact h
 . cases f with
   |next=>exact TC hq
   |brk=>exact hq
   |cont=>exact hq
   |ret u=>exact hq
 . subst e;exact vI I1 aL hf xo fun B T a0 h5 L=>hh.h pins U H1 s1 C a od H2 s' B T a0 h5 De Hc Hb H0 ρ x X.xe H sm (fun dx e=>Oa sH (I1.hok.none (xo.fly.newd dx e))) xf L hm R hk
end
noncomputable def R.kn{α:Type}(k:String->Bool)(r:R α):R α:=match r with
 | .er x=>if k x.cls=true then .er x else .st
 |r=>r
def U6(k:String->Bool)(m:List D->R D)(fs:DE->R (List D)):DE->R D:=fun ρ=>(fs ρ).noE.bind fun ds=>(m ds).kn k
theorem SK.ex{K:Frag}{EX iG:XW}{fr:Bool}{Hc Hb:Hp}{De:Ends}{r:SR}(h:SK K EX fr Hc Hb De r)(he:∀x,EX.at x->iG.at x):SK K iG fr Hc Hb De r:=by
 cases r with
 |er x=>exact he x h
 |nx ρ=>exact h
 |bk ρ=>exact h
 |ct ρ=>exact h
 |rt d=>exact h
 |st=>exact h
section
variable {X:Cx}{fr gS:Bool}{k:String->Bool}{fs:DE->R (List D)}{mm:List D->R D}{n:Nat}{m:List Bool}
theorem xF{K:Frag}{mg:Str->Option Value}{Hc Hb H0 H:Hp}{ρ:DS}{U:St}{P:Ex->Hp->Prop}{kk:D->Prop}{Q:VK}(hl:∀ds,ds.length≠n->mm ds=.st)(hk:∀c,k c=true->∃C,mg (Str.ofString c)=some (.ref C))(R:RS K Hc Hb H0 ρ U H)
  (h:Rk (XW.at ⟨H,P⟩) (U6 k mm fs (vis m ρ)) kk) (hQ:∀d,kk d->∀v H',Out K gS (HeOf m ρ U H0 H) H d v H'->Q v H'):TAd K F0 fs U H fun vs H1=>Same H H1/\spD K mg gS mm n vs H1 Q (eOf K ⟨H,P⟩ mg):=by
 unfold U6 at h
 rw[Rk.bind]at h
 refine⟨F0.same _,vis m ρ,HeOf m ρ U H0 H,R.heH m,R.re m,(Rk.noE h).mono fun ds h vs H1 aq s1 e1 r1=>⟨s1,ds,aq,e1.2.1,r1,?_,?_⟩⟩
 . apply OH;intro hn;rw[hl ds hn]at h;exact h
 . cases q:mm ds with
   |ok d=>rw[q]at h;exact fun v H' o=>hQ d h v H' (o.after s1 e1)
   |st=>rw[q]at h;exact h
   |er x=>
    rw[q]at h
    unfold L2.R.kn at h
    dsimp only at h
    split at h
    . rename_i hx;obtain⟨C,hC⟩:=hk _ hx;exact fun H' s'=>⟨C,hC,fun od xf=>⟨x,h H' (s1.trans s'),hC,xf⟩⟩
    . exact h.elim
theorem xE(h:∃H1 s1,Same H H1/\Inv X pins U H1 s1/\CX1 X.prog X.w X.stack H1 s1 (eOf X.K ⟨H,P⟩ X.mg) ev s') :
  ∃H1 s1 x C a od H2,ev=.ref a/\Same H H1/\Inv X pins U H1 s1/\XOut X.prog X.w X.stack H1 s1 C a od H2 s'/\X.mg (Str.ofString (Ex.cls x))=some (.ref C)/\P x H2/\XFs X.K x od H2:=by
 obtain⟨H1,s1,sH,I,C,a,od,H2,e,xo,x,hp,hm,xf⟩:=h
 exact⟨H1,s1,x,C,a,od,H2,e,sH,I,xo,hm,hp,xf⟩
theorem kz{pins:List (Addr×Obj)}{De:Ends}{st:Stmt}{s:Shared}{E:Value->Shared->Prop}(h:wpAny (model X.prog X.w) X.A (exec st X.env) (SP X pins De) E s):wpAny (model X.prog X.w) X.A (execs [st] X.env) (SP X pins De) E s:=by
 refine wpAny_execs_cons (thn h fun f s1 q=>?_);cases f with
 |next=>exact TC q
 |ret v=>exact q
 |brk=>exact q
 |cont=>exact q
variable {x:Str}{p cpos pos:Pos}{e:Expr}{es:List Expr}{ps:List Str}{kl j AW:Nat}{gg:DS->SR}
theorem ku(hk:∀c,k c=true->∃C,X.mg (Str.ofString c)=some (.ref C))(G:g4 X.prog X.w X.K X.mg X.base x ps kl (spD X.K X.mg gS (mOf gS n AW gg) n))(hr:Room j X.A)(hg:Gl X x)(ha:QA X.nox F0 (e::es) fs)(eg:kl<=j:=by omega)(aF:(x==("__debug__":Str))=false:=by decide)
  (he:starEach (e::es) X.env=(false,eval e X.env)::starEach es X.env:=by rfl) (hpl:(backTo cpos (starEach es X.env)).any (·.1)=false:=by rfl) (hs:swapsWith (.Call (.Name x p) (e::es) [] cpos) none pos.line X.env=pure false:=by rfl) :
  QY X fr [.Expr (.Call (.Name x p) (e::es) [] cpos) pos] (J5 (U6 k (mOf gS n AW gg) fs)):=by
 refine⟨fun pins s U H De Hc Hb H0 ρ P I R h=>?_⟩
 unfold J5 at h
 rw[SK.toS,<-Cg]at h
 refine kz (wpAny_Expr_any (OG (xG (Q:=fun _ H'=>De.nx U H') G hr hg ha.h I (xF Kl hk R h fun d z v H' o=>z U H' H0 (R.grow o.1)) eg aF he hpl) (fun v s1 ⟨y,H1,I1,r1,q1⟩=>⟨U,H1,I1,q1⟩) fun ev s' z=>xE z) I.quiet hs)
end
noncomputable def Xl:HD:=fun _ _=>.st
noncomputable def SR.gone(i:Nat):SR->SR
 | .nx ρ=>.nx (ρ.set i .em)
 | .bk ρ=>.bk (ρ.set i .em)
 | .ct ρ=>.ct (ρ.set i .em)
 | .rt d=>.rt d
 |_=>.st
def hAs(tb:String->Option Bool)(i:Nat)(g:DS->SR)(r:HD):HD:=fun x ρ=>match tb x.cls with
 |some true=>(g (ρ.set i (.im (.exc x.cls x.fs)))).gone i
 |some false=>r x ρ
 |none=>.st
noncomputable def SR.noE:SR->SR
 | .er _=>.st
 |r=>r
theorem RS.gone{K:Frag}{Hc Hb H0 H:Hp}{ρ:DS}{U:St}(R:RS K Hc Hb H0 ρ U H)(i:Nat):RS K Hc Hb H0 (ρ.set i .em) (U.set i none) H:=by
 have ne:∀(j:Nat)(z:Sl),(ρ.set i Sl.em)[j]?=some z->z≠.em->j≠i/\ρ[j]?=some z:=fun j z e hz=>by
  by_cases hj:j=i
  . subst hj;by_cases hl:j<ρ.length
    . rw[PH hl]at e;cases e;exact absurd rfl hz
    . rw[OV (by simpa using hl)]at e;cases e
  . rw[OJ (PN hj)]at e;exact⟨hj,e⟩
 refine⟨R.sb,R.ext,by simpa using R.len,fun j d e=>?_,fun j d e=>?_,fun j k d e a h1 h2 h3 h4=>?_⟩
 . obtain⟨hj,e⟩:=ne j _ e (by simp);rw[OJ (PN hj)];exact R.im j d e
 . obtain⟨hj,e⟩:=ne j _ e (by simp);rw[OJ (PN hj)];exact R.ow j d e
 . obtain⟨hj,e1⟩:=ne j _ h1 (by simp);obtain⟨hk,e2⟩:=ne k _ h2 (by simp);rw[OJ (PN hj)]at h3;rw[OJ (PN hk)]at h4;exact R.ap j k d e a e1 e2 h3 h4
noncomputable def gD(De:Ends)(i:Nat):Ends:={ nx:=fun U H=>De.nx (U.set i none) H,rt:=De.rt,bk:=fun U H=>De.bk (U.set i none) H,ct:=fun U H=>De.ct (U.set i none) H }
theorem SK.gone{K:Frag}{EX:XW}{fr:Bool}{Hc Hb:Hp}{De:Ends}{i:Nat}{r:SR}(h:SK K EX fr Hc Hb De (r.gone i)):SK K F0 fr Hc Hb (gD De i) r:=by
 cases r with
 |nx ρ=>exact fun U H H0 R=>h _ H H0 (R.gone i)
 |bk ρ=>exact fun U H H0 R=>h _ H H0 (R.gone i)
 |ct ρ=>exact fun U H H0 R=>h _ H H0 (R.gone i)
 |rt d=>exact h
 |er x=>exact h.elim
 |st=>exact h.elim
theorem SK.noE{K:Frag}{EX:XW}{fr:Bool}{Hc Hb:Hp}{De:Ends}{r:SR}(h:SK K EX fr Hc Hb De r.noE):SK K F0 fr Hc Hb De r:=by
 cases r with
 |nx ρ=>exact h
 |bk ρ=>exact h
 |ct ρ=>exact h
 |rt d=>exact h
 |er x=>exact h.elim
 |st=>exact h.elim
theorem Out.exc{K:Frag}{He H H2:Hp}{x:Ex}{a C:Addr}{od:Option Addr}(e1:nsIn K mainGlobals (Str.ofString x.cls)=some (some (.ref C)))(h0:Same He H)(s:Same H H2)(ha:H2 a=none)(nd:∀dx,od=some dx->H dx=none)(xf:XFs K x od H2):Out K false He H (.exc x.cls x.fs) (.ref a) (upd H2 a (E8 a C od)):=by
 have sm:Same H2 (upd H2 a (E8 a C od)):=Same.upd_new ha;rcases xf with e |⟨dx,ns,ob,h1,h2,h3⟩
 . have e2:Ext He H He H2:=⟨Same.refl _,h0.trans s,fun _ _ z=>z⟩;exact .val (s.trans sm) (e2.trans s (.new (h0.trans s) ha)) (by simp only[RD];exact⟨a,od,_,rfl,⟨C,e1,rfl⟩,t9,.inl e⟩)
 . have hd:=nd dx h1;have nP:He dx=none:=Oa h0 hd;have e2:Ext He H (upd He dx (.frz ob (.xd ((Fw x.cls).zip (ns.map V.int))))) H2:=by
    refine⟨Same.upd_new nP,fun b o q=>?_,fun b q1 q2=>?_⟩
    . by_cases hb:b=dx
      . subst hb;rw[t9]at q;rw[h2];exact q
      . rw[i6 hb]at q;exact s _ _ (h0 _ _ q)
    . rw[i6 (fun z=>q1 (by rw[z];exact hd))];exact q2
   have aM:dx≠a:=fun z=>by rw[z,ha]at h2;cases h2
   exact .val (s.trans sm) (e2.trans s (.new e2.2.1 ha)) (by simp only[RD];exact⟨a,od,_,rfl,⟨C,e1,rfl⟩,t9,.inr ⟨dx,ns,ob,h1,by rw[i6 aM,t9],h3⟩⟩)
structure Tbl(K:Frag)(cn:String)(Dd:Addr)(bmB:List Value)(newId:String)(tb:String->Option Bool):Prop where
 dn:nsIn K mainGlobals (Str.ofString cn)=some (some (.ref Dd))
 dq:XCl K Dd bmB newId
 cs:∀c b,tb c=some b->∃C,nsIn K mainGlobals (Str.ofString c)=some (some (.ref C))/\XCl K C bmB newId/\mroIn K C (.ref Dd)=some b
theorem kr{K:Frag}{h:Heap}{C:Addr}{v:Value}{b:Bool}{nm q:Str}{N:Addr}{bs bm:List Value}{hdct:Bool}{sn:List Str}{sub:List Value}{ab:Bool}{col:Option Bool}{dd:Option Addr}{k0 k1 k2 k3 k5:Option Value}{newId:String}(X:K.In h)
  (hC:h.get? C=some (excClassObj nm q C N bs bm hdct sn sub ab col dd k0 k1 k2 k3 k5 newId)) (hm:mroIn K C v=some b):(Value.ref C::bm).contains v=b:=by
 obtain⟨cd,e1,e2⟩:=Option.bind_eq_some_iff.mp hm
 unfold PySem.W.clsIn at e1
 split at e1<;>cases e1
 rename_i ho
 have:=(X _ _ ho).symm.trans hC
 unfold excClassObj at this
 cases this
 split at e2
 . cases e2
 . exact Option.some.inj e2
section
variable {X:Cx}{EX:XW}{fr:Bool}{cn:String}{Dd:Addr}{bmB:List Value}{newId:String}{tb:String->Option Bool}{cp lN:Pos}{lO:Stmt}{suite:List Stmt}{rest:List ExceptHandler}{g:DS->SR}{hd:HD}{n:Str}{i:Nat}
theorem y0y:QH X EX fr [] Xl:=⟨fun _ _ _ _ _ _ _ _ _ _ _ _ _ _ _ _ _ _ _ _ _ _ _ _ _ _ _ h=>h.elim⟩
theorem kq{pins:List (Addr×Obj)}{U:St}{H1:Hp}{s1:Shared}{C a:Addr}{od:Option Addr}{H2:Hp}{s2:Shared}{B:Heap}{T:Addr}{a0:Value}{h5:Heap}{x:Ex}{b:Bool}{R:Result->Shared->Prop}(Tb:Tbl X.K cn Dd bmB newId tb)(bH:bmB.contains (.type "BaseException")=true)(hg:Gl X (Str.ofString cn))(L:Lnd5 X pins U H1 s1 C a od H2 s2 B T a0 h5)
  (gT:X.mg (Str.ofString x.cls)=some (.ref C)) (hb:tb x.cls=some b) (h:R (.ok (if b then .brk else .next)) { s2 with heap:=h5 }) (aF:(Str.ofString cn==("__debug__":Str))=false) :
  codeAny (model X.prog X.w) (X.A.mark (some (.ref a))) (.handlers (.ref a) [.ExceptHandler (some (.Name (Str.ofString cn) cp)) none [] lN] X.env) R { s2 with heap:=h5 }:=by
 obtain⟨I5,sm⟩:=L.inv
 have hm:X.mg (Str.ofString cn)=some (.ref Dd):=mg_of L.I.ok.mod.kin L.I.ok.mod.glob Tb.dn
 obtain⟨C',e1,e2,e3⟩:=Tb.cs _ _ hb
 have gU:=mg_of L.I.ok.mod.kin L.I.ok.mod.glob e1
 rw[gT]at gU
 cases gU
 obtain⟨oe,vs,he,hc,bW,_⟩:=L.fl.first
 have KI:X.K.In h5:=I5.kIn
 obtain⟨bm,N,nm,qn,bs,hdct,sn,sub,ab,col,dd,k0,k1,k2,k3,k5,hC,TL⟩:=Sh KI e2
 obtain⟨MJ,N2,MK,ML,MM,CZ,MN,LK,MO,LM,iK,j0,j1,j2,j3,j5,hD,FW⟩:=Sh KI Tb.dq
 refine codeAny_handlers_test (Ci (X:=X.held (.ref a)) (I5.held _) hg hm ?_ aF)
 exact yA hC hD he hc (FW.hasType bH) (by rw[kr KI hC e3];exact h)
theorem y4t(Tb:Tbl X.K cn Dd bmB newId tb)(bH:bmB.contains (.type "BaseException")=true)(hg:Gl X (Str.ofString cn))(hN:X.N.Nodup)(hi:X.N[i]?=some n)(hk:X.env.scope.names.lookup n=some .local)(hs:∀e,QB (X.held e) F0 fr (lO::suite) g)(hr:QH X EX fr rest hd)(aF:(Str.ofString cn==("__debug__":Str))=false:=by decide) :
  QH X EX fr (.ExceptHandler (some (.Name (Str.ofString cn) cp)) (some n) (lO::suite) lN::rest) (hAs tb i g hd):=by
 refine⟨fun pins U H1 s1 C a od H2 s2 B T a0 h5 De Hc Hb H0 ρ x E H sH nd xf L gT R h=>?_⟩
 unfold hAs at h
 refine wpAny_handleBy_cons ?_ (by intro q;cases q)
 cases hb:tb x.cls with
 |none=>rw[hb]at h;exact h.elim
 |some b=>
  rw[hb]at h
  refine kq Tb bH hg L gT hb ?_ aF
  cases b with
  |false=>exact hr.h pins U H1 s1 C a od H2 s2 B T a0 h5 De Hc Hb H0 ρ x E H sH nd xf L gT R h
  |true=>
   refine codeAny_handlers_suite_as (L.again fun h6 L6=>?_)
   obtain⟨I6,sm⟩:=L6.inv
   refine Fc I6 hN hi (.inl hk) (v:=.ref a) rfl (fun s3 I3=>?_) (.inr hk)
   obtain⟨C',e1,e2,e3⟩:=Tb.cs _ _ hb
   have gU:=mg_of L.I.ok.mod.kin L.I.ok.mod.glob e1
   rw[gT]at gU
   cases gU
   have o:Out X.K false (HeOf [] ρ U H0 H) H (.exc x.cls x.fs) (.ref a) (upd H2 a (E8 a C od)):=.exc e1 (R.heH []) sH L.ha nd xf
   obtain⟨aV,R',FX⟩:=R.out o
   have R3:=R'.put FX i
   refine OG ((hs (.ref a)).h pins s3 _ _ (gD De i) (I3.held (.ref a)) ⟨Hc,Hb,aV,_,F0.same _,R3,h.gone⟩) (fun f s4 q=>?_) fun _ _ z=>z.elim
   cases f with
   |next=>obtain⟨af,H',I',q⟩:=q;exact Ei (I'.unheld L.I.ok) hN hi hk fun s5 I5=>⟨_,H',I5,q⟩
   |brk=>obtain⟨af,H',I',q⟩:=q;exact Ei (I'.unheld L.I.ok) hN hi hk fun s5 I5=>⟨_,H',I5,q⟩
   |cont=>obtain⟨af,H',I',q⟩:=q;exact Ei (I'.unheld L.I.ok) hN hi hk fun s5 I5=>⟨_,H',I5,q⟩
   |ret u=>obtain⟨v,af,H',I',rv,q⟩:=q;exact Ei (I'.unheld L.I.ok) hN hi hk fun s5 I5=>⟨v,_,H',I5,rv,q⟩
end
end L2
namespace L2
open PySem PySem.Spec PyProof.Rows
open PySem.Calls
section
variable {prog:Program}{w:World}{A:Around}{E:Value->Shared->Prop}{h:Heap}{g:Array GenState}{d:Drawn}{t:Nat}{os:OsState}{K:Frag}{C a:Addr}{o:Obj}
theorem Bh(L:Looks M h m r)(q:Q r ⟨h,g,d,t,os⟩):wpAny M A m Q E ⟨h,g,d,t,os⟩:=L A Q E _ (fun _ _ z=>z) q
theorem y0z{R:Result->Shared->Prop}(X:K.In h)(hx:h.get? a=some o)(hc:o.cls=.ref C)(hm:mroIn K C (.type "object")=some true)(hq:R (.ok (.ret (.ref C))) ⟨h,g,d,t,os⟩) :
  codeAny (model prog w) A (.call (.builtin "getset_descriptor.__get__") ⟨[.builtin "object.__class__",.ref a,.ref C],[]⟩) R ⟨h,g,d,t,os⟩:=by
 have AX:(⟨h,g,d,t,os⟩:Shared).TypeIs (.builtin "object.__class__") "getset_descriptor":=TV
 have L1:Looks (model prog w) h (isSubtype (.ref C) (.type (".".intercalate ("object.__class__".cutAt '.').dropLast))) true:=by rw[PySem.F.owner_object_class];exact PySem.W.looks_mroIn X hm
 refine codeAny_call_builtin PySem.F.slot_gs_get.plain PySem.F.entry_gs_get (PySem.F.slot_gs_get.check _ _ _ _ _ _ _ _ AX (PySem.F.args_gs_get _ _ _) ?_)
 repeat (any_goals (first |assumption | (with_reducible refine RT hx ?_;rw[hc]) |with_reducible refine Bh L1 ?_ |wp_step))
 refine⟨Code.quiet_builtin _ (by decide +kernel),RQ PySem.F.entry_object_class ?_⟩
 repeat (any_goals (first |assumption | (with_reducible refine RT hx ?_;rw[hc]) |wp_step))
theorem vH(X:K.In h)(hx:h.get? a=some o)(hc:o.cls=.ref C)(hm:mroIn K C (.type "object")=some true)(cN:PySem.W.findIn K (.ref C) "__class__"=some (some (.builtin "object.__class__")))(hq:Q (.done (.ret (.ref C))) ⟨h,g,d,t,os⟩) :
  wpAny (model prog w) A (Builtin.«object.__getattribute__» ⟨[.ref a,.str "__class__" tk],[]⟩) Q E ⟨h,g,d,t,os⟩:=by
 have AX:(⟨h,g,d,t,os⟩:Shared).TypeIs (.builtin "object.__class__") "getset_descriptor":=TV
 have L2:=PySem.W.looks_findIn (M:=model prog w) X cN
 have f5:=TV
 have f6:=PySem.F.slot_gs_get.lookup
 have f7:=PySem.F.slot_gs_set.lookup
 repeat (any_goals (first |assumption | (with_reducible refine RT hx ?_;rw[hc]) |with_reducible refine Bh L2 ?_ |wp_step))
 refine y0z X hx hc hm ?_
 repeat (any_goals (first |assumption |wp_step))
theorem vG(X:K.In h)(hx:h.get? a=some o)(hc:o.cls=.ref C)(hB:mroIn K C (.type "BaseException")=some true)(hq:Q () ⟨h,g,d,t,os⟩):wpAny M A (checkBuiltinCall "BaseException.__getattribute__" ⟨[.ref a,mM],[]⟩) Q E ⟨h,g,d,t,os⟩:=by
 have hk:builtinKind "BaseException.__getattribute__"=some .slot:=by decide +kernel
 have il:splitId "BaseException.__getattribute__"=some ("BaseException","__getattribute__"):=by decide +kernel
 have ha:=PySem.F.args_bexc_ga (.ref a) mM;have L1:=PySem.W.looks_mroIn (M:=M) X hB;simp only[checkBuiltinCall,hk,il];refine χ ?_
 . unfold isInstance;repeat (first | (with_reducible refine RT hx ?_;rw[hc]) |with_reducible refine Bh L1 ?_ |wp_step)
   exact hq
theorem ko{tk:Tok}{R:Result->Shared->Prop}(X:K.In h)(hx:h.get? a=some o)(hc:o.cls=.ref C)(hm:mroIn K C (.type "object")=some true)(hB:mroIn K C (.type "BaseException")=some true)(cN:PySem.W.findIn K (.ref C) "__class__"=some (some (.builtin "object.__class__")))(hq:R (.ok (.ret (.ref C))) ⟨h,g,d,t,os⟩) :
  codeAny (model prog w) A (.call (.builtin "BaseException.__getattribute__") ⟨[.ref a,.str "__class__" tk],[]⟩) R ⟨h,g,d,t,os⟩:=
 codeAny_call_builtin PySem.F.attr_ValueError.ga.plain PySem.F.entry_bexc_ga (vG X hx hc hB (vH X hx hc hm cN hq))
theorem y4u(X:K.In h)(hx:h.get? a=some o)(hc:o.cls=.ref C)(hm:mroIn K C (.type "object")=some true)(hB:mroIn K C (.type "BaseException")=some true)(cN:PySem.W.findIn K (.ref C) "__class__"=some (some (.builtin "object.__class__")))
  (nQ:PySem.W.findIn K (.ref C) "__getattribute__"=some (some (.builtin "BaseException.__getattribute__"))) (nR:PySem.W.findIn K (.ref C) "__getattr__"=some none) (hq:Q (.ref C) ⟨h,g,d,t,os⟩):wpAny (model prog w) A (getAttrBy (.ref a) (.str "__class__" tk) false) Q E ⟨h,g,d,t,os⟩:=by
 have L1:=PySem.W.looks_findIn (M:=model prog w) X nQ
 have L2:=PySem.W.looks_findIn (M:=model prog w) X nR
 have f3:=(PySem.F.attr_ValueError).ga.bind (.ref a)
 have nS:(Value.builtin "BaseException.__getattribute__"==Value.builtin "object.__getattribute__")=false:=by decide +kernel
 have nU:(onTheHeap (Value.ref C)&&Value.builtin "BaseException.__getattribute__"==Value.builtin "object.__getattribute__")=false:=by rw[nS];rfl
 repeat (any_goals (first |assumption | (with_reducible refine RT hx ?_;rw[hc]) |with_reducible refine Bh L1 ?_ |with_reducible refine Bh L2 ?_ |wp_step))
 refine ko X hx hc hm hB cN ?_
 repeat (any_goals (first |assumption |wp_step))
theorem vF(X:K.In h)(hx:h.get? a=some o)(hc:o.cls=.ref C)(hm:mroIn K C (.type "object")=some true)(hB:mroIn K C (.type "BaseException")=some true)(cN:PySem.W.findIn K (.ref C) "__class__"=some (some (.builtin "object.__class__")))
  (nQ:PySem.W.findIn K (.ref C) "__getattribute__"=some (some (.builtin "BaseException.__getattribute__"))) (nR:PySem.W.findIn K (.ref C) "__getattr__"=some none) (hq:Q (some (.ref C)) ⟨h,g,d,t+1,os⟩):wpAny (model prog w) A (getAttr? (.ref a) "__class__") Q E ⟨h,g,d,t,os⟩:=by
 unfold getAttr? getAttrBy?
 repeat (any_goals (first |assumption |with_reducible apply y4u X hx hc hm hB cN nQ nR |wp_step))
end
structure XF(K:Frag)(C:Addr):Prop where
 ob:mroIn K C (.type "object")=some true
 be:mroIn K C (.type "BaseException")=some true
 cl:PySem.W.findIn K (.ref C) "__class__"=some (some (.builtin "object.__class__"))
 ga:PySem.W.findIn K (.ref C) "__getattribute__"=some (some (.builtin "BaseException.__getattribute__"))
 gt:PySem.W.findIn K (.ref C) "__getattr__"=some none
theorem XF.cls{K:Frag}{C:Addr}(F:XF K C):∃c' d' cd sl,K.lookup C=some ⟨c',d',.cls cd,sl⟩:=by obtain⟨cd,e1,e2⟩:=Option.bind_eq_some_iff.mp F.ob;unfold PySem.W.clsIn at e1;split at e1<;>cases e1;rename_i ho;exact⟨_,_,_,_,ho⟩
theorem Le{K:Frag}{C a:Addr}(F:XF K C):PySem.W.KitX K (.ref a) (.ref C) (fun h=>∃ob,h.get? a=some ob/\ob.cls=.ref C) where
 ty:=fun M h X ⟨o,h1,h2⟩=>h2 ▸ (PySem.W.Looks.ld h1).andThen .now
 it:=fun _ _ X _=>by obtain⟨c',d',cd,sl,ho⟩:=F.cls;intro A' Q' E' s' k q;unfold isType loadHead;exact χ (wpAny_loadPart (k _ _ (X _ _ ho)) (ω q))
 ne:=fun h tp dd its n sl X FY=>by
  obtain⟨c',d',cd,sl,ho⟩:=F.cls;refine Bool.eq_false_iff.mpr fun q=>?_
  have e:C=tp:=Value.ref.inj (OY.mp q);subst e;have z:=(X _ _ ho).symm.trans FY;cases z
 ca:=fun {prog w A E Q s} X ⟨o,hx,hc⟩ k=>by obtain⟨h,g,d,t,os⟩:=s;exact vF X hx hc F.ob F.be F.cl F.ga F.gt k
def Cw(K:Frag):List V->Hp->VK->Prop:=fun xs H Q=>match xs with
 | [.ref a,.ref p]=>∃C od b,H a=some (E8 a C od)/\XF K C/\(kitOne K (.ref C) (.ref p)=some b\/∃Ds:List Addr,H p=some (.tup (Ds.map V.ref))/\kitAny K (.ref C) (Ds.map Value.ref)=some b)/\Q (.bl b) H
 | [.ref a,.ty T]=>∃C od b,H a=some (E8 a C od)/\XF K C/\kitOne K (.ref C) (.type T)=some b/\Q (.bl b) H
 |_=>False
theorem Vf:∀{Ds:List Addr}{us:List Value},Vals (Ds.map V.ref) us->us=Ds.map Value.ref
 | [],_,.nil=>rfl
 |_::_,_,.cons r t=>by rw[Vf t,show _=_ from r];rfl
theorem Nz:CallR X (.builtin "isinstance") (Cw X.K):=by
 intro pins s U H xs us Q I r h;unfold Cw at h;split at h
 . rename_i a p;obtain⟨C,od,b,ha,F,hk,q⟩:=h;cases r with
   |cons r1 r=>cases r with
    |cons r2 r=>
     cases r
     cases (show _=_ from r1)
     cases (show _=_ from r2)
     obtain⟨⟨ob,o1,o2,_⟩,_⟩:=I.hok a _ ha
     rcases hk with hk |⟨Ds,hp,hk⟩
     . exact kia_one (Le F) I.kIn ⟨ob,o1,o2⟩ hk (fun z=>by cases z) fun tk=>⟨.bl b,H,I.tok tk,rfl,q⟩
     . obtain⟨_,its,rv,ot,n,t1,⟨t2,t3⟩,_⟩:=I.hok p _ hp;obtain⟨oc,od,nV,osl⟩:=ot;dsimp only at t1 t3;subst t1 t3;rw[Vf rv]at n;exact PySem.W.kia_tup (Le F) I.kIn ⟨ob,o1,o2⟩ n hk (fun z=>by cases z) fun tk=>⟨.bl b,H,I.tok tk,rfl,q⟩
 . rename_i a T;obtain⟨C,od,b,ha,F,hk,q⟩:=h;cases r with
   |cons r1 r=>cases r with
    |cons r2 r=>
     cases r
     cases (show _=_ from r1)
     cases (show _=_ from r2)
     obtain⟨⟨ob,o1,o2,_⟩,_⟩:=I.hok a _ ha
     exact kia_one (Le F) I.kIn ⟨ob,o1,o2⟩ hk (fun z=>by cases z) fun tk=>⟨.bl b,H,I.tok tk,rfl,q⟩
 . exact h.elim
noncomputable def E7(tb:String->Option Bool):D->Option D
 | .exc c _=>(tb c).map .bl
 |_=>none
structure Bel(K:Frag)(y:Value)(tb:String->Option Bool):Prop where
 h:∀c b,tb c=some b->∃C,nsIn K mainGlobals (Str.ofString c)=some (some (.ref C))/\XF K C/\kitOne K (.ref C) y=some b
structure BelT(K:Frag)(Ds:List Addr)(tb:String->Option Bool):Prop where
 h:∀c b,tb c=some b->∃C,nsIn K mainGlobals (Str.ofString c)=some (some (.ref C))/\XF K C/\kitAny K (.ref C) (Ds.map Value.ref)=some b
theorem RD.exc{K:Frag}{H:Hp}{c:String}{fs:List D}{v:V}(r:RD K H (.exc c fs) v):∃a C od,v=.ref a/\nsIn K mainGlobals (Str.ofString c)=some (some (.ref C))/\H a=some (E8 a C od)/\XFs K ⟨c,fs⟩ od H:=by simp only[RD]at r;obtain⟨a,od,o,e,⟨C,h1,h2⟩,h3,h4⟩:=r;subst h2;exact⟨a,C,od,e,h1,h3,h4⟩
section
variable {X:Cx}{EX:XW}{a b:Expr}{bs:List Expr}{pos p am:Pos}{x:Str}{f:DE->R D}{tb:String->Option Bool}{Ds:List Addr}
theorem y10{K:Frag}{U:St}{H:Hp}{Q:VK}{y:V}{yv:Value}(hy:(∃Dd,y=.ref Dd/\yv=.ref Dd)\/∃T,y=.ty T/\yv=.type T)(B:Bel K yv tb)(h:TEd K EX false (eUn (E7 tb) f) U H Q):tCB (Cw K) (Q2 (TEd K EX false f) (Q2 (tC y) Ba)) U H Q:=by
 obtain⟨sx,ρ,H0,s,e,h⟩:=h;unfold eUn at h;rw[Rk.bind]at h;refine TEd.go sx s e h fun d h v H1 aq s1 e1 r1=>?_
 obtain⟨z,hz,h⟩:=h.of;cases d<;>simp only[E7]at hz<;>first |cases hz |skip
 rename_i c _;obtain⟨b,hb,rfl⟩:=OT.mp hz;obtain⟨a,C,od,rfl,hn,ha,_⟩:=r1.exc;obtain⟨C',h1,h2,h3⟩:=B.h c b hb;rw[hn]at h1;cases h1;have q:=h (.bl b) H1 (.val s1 e1 (by simp only[RD]));rcases hy with⟨Dd,rfl,rfl⟩ |⟨T,rfl,rfl⟩
 . exact⟨C,od,b,e1.2.1 _ _ ha,h2,.inl h3,q⟩
 . exact⟨C,od,b,e1.2.1 _ _ ha,h2,h3,q⟩
theorem Gq(hg:Gl X x)(hm:X.mg x=none)(hv:bootBuiltins x=some (.builtin "isinstance"))(ha:QE X EX false a f)(hb:PE X b (tC y))(hy:(∃Dd,y=.ref Dd/\yv=.ref Dd)\/∃T,y=.ty T/\yv=.type T)(B:Bel X.K yv tb)(hn:x≠"__name__":=by decide)(aF:(x==("__debug__":Str))=false:=by decide)
 (he:starEach [a,b] X.env=(false,eval a X.env)::starEach [b] X.env:=by rfl) (hpl:(backTo pos (starEach [b] X.env)).any (·.1)=false:=by rfl) (hs:starEach [b] X.env=(false,eval b X.env)::starEach [] X.env:=by rfl) :
 QE X EX false (.Call (.Name x p) [a,b] [] pos) (eUn (E7 tb) f):=⟨(Cm Nz hg hm hv (O4 ha.h (O4 hb pa_nil hs) he) hn aF he hpl).imp fun _ _ _ q=>y10 hy B q⟩
inductive PDs (X:Cx):List Expr->List Addr->Prop where
 |nil:PDs X [] []
 |cons {e:Expr} {es:List Expr} {Dd:Addr} {Ds:List Addr} (h:PE X e (tC (.ref Dd))) (r:PDs X es Ds) (hs:starEach (e::es) X.env=(false,eval e X.env)::starEach es X.env):PDs X (e::es) (Dd::Ds)
noncomputable def tVs(vs:List V):TA:=fun _ H Q=>Q vs H
theorem PDs.pa(h:PDs X es Ds):PA X es (tVs (Ds.map V.ref)):=by
 induction h with
 |nil=>exact pa_nil.imp fun _ _ _ q=>q
 |cons h r hs ih=>exact(O4 h ih hs).imp fun _ _ _ q=>q
theorem km{K:Frag}{U:St}{H:Hp}{Q:VK}(hl:Ds.length<=1000)(B:BelT K Ds tb)(h:TEd K EX false (eUn (E7 tb) f) U H Q):tCB (Cw K) (Q2 (TEd K EX false f) (Q2 (Fy (tVs (Ds.map V.ref))) Ba)) U H Q:=by
 obtain⟨sx,ρ,H0,s,e,h⟩:=h;unfold eUn at h;rw[Rk.bind]at h;refine TEd.go sx s e h fun d h v H1 aq s1 e1 r1=>?_
 obtain⟨z,hz,h⟩:=h.of;cases d<;>simp only[E7]at hz<;>first |cases hz |skip
 rename_i c _;obtain⟨b,hb,rfl⟩:=OT.mp hz;obtain⟨a,C,od,rfl,hn,ha,_⟩:=r1.exc;obtain⟨C',h1,h2,h3⟩:=B.h c b hb;rw[hn]at h1;cases h1;have FZ:=e1.2.1 _ _ ha;refine⟨En (by rw[oQ];exact hl),fun p hp=>?_⟩;have su:Same H1 (upd H1 p (.tup (Ds.map V.ref))):=Same.upd_new hp;exact⟨C,od,b,su _ _ FZ,h2,.inr ⟨Ds,t9,h3⟩,h (.bl b) _ (.val (s1.trans su) (e1.grow su) (by simp only[RD]))⟩
theorem kj(hg:Gl X x)(hm:X.mg x=none)(hv:bootBuiltins x=some (.builtin "isinstance"))(ha:QE X EX false a f)(hb:PDs X bs Ds)(hl:Ds.length<=1000)(B:BelT X.K Ds tb)(hn:x≠"__name__":=by decide)(aF:(x==("__debug__":Str))=false:=by decide)
 (he:starEach [a,.Tuple bs kt am] X.env=(false,eval a X.env)::starEach [.Tuple bs kt am] X.env:=by rfl) (hpl:(backTo pos (starEach [.Tuple bs kt am] X.env)).any (·.1)=false:=by rfl) (hs:starEach [.Tuple bs kt am] X.env=(false,eval (.Tuple bs kt am) X.env)::starEach [] X.env:=by rfl) :
 QE X EX false (.Call (.Name x p) [a,.Tuple bs kt am] [] pos) (eUn (E7 tb) f):=⟨(Cm Nz hg hm hv (O4 ha.h (O4 (Qv hb.pa) pa_nil hs) he) hn aF he hpl).imp fun _ _ _ q=>km hl B q⟩
end
end L2
namespace L2
open PySem PySem.Spec PyProof.Rows
section
open PySem.AutoSeq1 (wpAny_loadPart')
end
end L2
namespace L2
open PySem PySem.Spec PyProof.Rows
section
open PySem.AutoSeq1 (wpAny_loadPart')
end
end L2
namespace L2
open PySem PySem.Spec PyProof.Rows
theorem Un.drop(u:Un fs [] H H' h h')(hn:h.get? e=none)(he:H e=none):Un fs [] H (fun b=>if b=e then none else H' b) h h' where
 keep:=u.keep
 slot:=u.slot
 free:=fun b o q n hx=>by
  show(if b=e then none else H' b)=none;split
  . rfl
  . exact u.free b o q n hx
 there:=u.there
 tups:=fun b xs q=>by show(if b=e then none else H' b)=_;rw[ψ (fun z=>by rw[z,he]at q;cases q)];exact u.tups b xs q
 frzs:=fun b o v q=>by show(if b=e then none else H' b)=_;rw[ψ (fun z=>by rw[z,he]at q;cases q)];exact u.frzs b o v q
 tbls:=fun b ps q=>by obtain⟨m,z⟩:=u.tbls b ps q;refine⟨m,?_⟩;show(if b=e then none else H' b)=_;rw[ψ (fun y=>by rw[y,he]at q;cases q)];exact z
end L2
namespace L2
open PySem PySem.Spec PyProof.Rows
open PySem.Calls
open Builtin Builtin.ObjectAttr
section
open PySem.AutoSeq1 (wpAny_loadPart')
end
end L2
namespace L2
open PySem PySem.Spec PyProof.Rows
noncomputable def SR.thn(r:SR)(g:DS->SR):SR:=match r with
 | .nx ay=>g ay
 |r=>r
noncomputable def SR.out(fr:Bool)(r:SR):R D:=match r with
 | .rt d=>.ok d
 | .nx _=>if fr=true then .st else .ok .non
 | .er x=>.er x
 |_=>.st
theorem Sg(g1 g2:DS->SR)(ρ:DS):e9 g1 g2 ρ=(g1 ρ).thn g2:=rfl
theorem wK(ρ:DS)(g:DS->SR):(SR.nx ρ).thn g=g ρ:=rfl
theorem zv0(d:D)(g:DS->SR):(SR.rt d).thn g=.rt d:=rfl
theorem zv1(x:Ex)(g:DS->SR):(SR.er x).thn g=.er x:=rfl
theorem zv2(ρ:DS)(g:DS->SR):(SR.bk ρ).thn g=.bk ρ:=rfl
theorem zv3(ρ:DS)(g:DS->SR):(SR.ct ρ).thn g=.ct ρ:=rfl
theorem zv4(g:DS->SR):(SR.st).thn g=.st:=rfl
theorem zq4(c:Prop)[Decidable c](a b:SR)(g:DS->SR):(if c then a else b).thn g=if c then a.thn g else b.thn g:=by split<;>rfl
theorem ki(fr:Bool)(n k:Nat)(g:DS->SR)(ds:List D):mOf fr n k g ds=if ds.length=n then(g (ds.map .im++List.replicate k .em)).out fr else .st:=rfl
theorem zv6(fr:Bool)(d:D):(SR.rt d).out fr=.ok d:=rfl
theorem zv7(ρ:DS):(SR.nx ρ).out false=.ok .non:=rfl
theorem zv8(fr:Bool)(x:Ex):(SR.er x).out fr=.er x:=rfl
theorem zv9(fr:Bool):(SR.st).out fr=.st:=rfl
theorem zq5(fr:Bool)(c:Prop)[Decidable c](a b:SR):(if c then a else b).out fr=if c then a.out fr else b.out fr:=by split<;>rfl
theorem zva(m:List Bool)(f:DE->R D)(ρ:DS):i5 m f ρ=(f (vis m ρ)).toS fun d=>.rt d:=rfl
theorem zvb(fr:Bool)(i:Nat)(m:List Bool)(f:DE->R D)(ρ:DS):g7 fr i m f ρ=(f (vis m ρ)).toS fun d=>.nx (N1 fr i d (t6 (keeps fr d) m ρ)):=rfl
theorem y11(t:DE->R Bool)(g1 g2:DS->SR)(ρ:DS):sIf t g1 g2 ρ=(t (see ρ)).toS fun b=>if b=true then g1 ρ else g2 ρ:=rfl
theorem zvc(a:α)(k:α->SR):R.toS (.ok a) k=k a:=rfl
theorem zvd(x:Ex)(k:α->SR):R.toS (.er x:R α) k=.er x:=rfl
theorem zve(k:α->SR):R.toS (.st:R α) k=.st:=rfl
theorem zq6(c:Prop)[Decidable c](a b:R α)(k:α->SR):R.toS (if c then a else b) k=if c then R.toS a k else R.toS b k:=by split<;>rfl
theorem zq7(x:Ex)(k:α->R β):R.bind (.er x:R α) k=.er x:=rfl
theorem wJ(a:α):(R.ok a).noE=.ok a:=rfl
theorem y12(m:List Bool):vis m []=[]:=by cases m<;>rfl
theorem y13(s:Sl)(r:DS):vis [] (s::r)=s.see false::vis [] r:=rfl
theorem y14(b:Bool)(m:List Bool)(s:Sl)(r:DS):vis (b::m) (s::r)=s.see b::vis m r:=rfl
theorem y15:see []=[]:=rfl
theorem y16(s:Sl)(r:DS):see (s::r)=s.see true::see r:=rfl
theorem zvf(b:Bool):Sl.see b .em=none:=rfl
theorem zvg(b:Bool)(d:D):Sl.see b (.im d)=some d:=rfl
theorem zq8(d:D):Sl.see true (.ow d)=some d:=rfl
theorem zq9(d:D):Sl.see false (.ow d)=none:=rfl
theorem wI(m:List Bool)(ρ:DS):t6 true m ρ=ρ:=rfl
theorem zu(fr:Bool)(i:Int):keeps fr (.int i)=true:=by cases fr<;>rfl
theorem zqa(fr:Bool)(i:Bool):keeps fr (.bl i)=true:=by cases fr<;>rfl
theorem zlc(fr:Bool):keeps fr .non=true:=by cases fr<;>rfl
theorem zld(fr:Bool)(x:PySem.Str):keeps fr (.str x)=true:=by cases fr<;>rfl
theorem zle(fr:Bool)(ds:List D):keeps fr (.tup ds)=m8 ds:=by cases fr<;>simp only[keeps,D.noL,D.shal,QN,OD,PY]
theorem zt(ds:List D):keeps true (.lst ds)=m8 ds:=rfl
theorem zvh:m8 []=true:=by simp only[m8]
theorem zvi(d:D)(r:List D):m8 (d::r)=(d.noL&&m8 r):=by simp only[m8]
theorem yz(i:Int):(D.int i).noL=true:=by simp only[D.noL]
theorem zvj(i:Bool):(D.bl i).noL=true:=by simp only[D.noL]
theorem zqb(i:PySem.Str):(D.str i).noL=true:=by simp only[D.noL]
theorem zqc:(D.non).noL=true:=by simp only[D.noL]
theorem zqd(ds:List D):(D.tup ds).noL=m8 ds:=by simp only[D.noL]
theorem zqe(ds:List D):(D.lst ds).noL=false:=by simp only[D.noL]
theorem y17(i:Nat)(d:D)(ρ:DS):N1 false i d ρ=ρ.set i (.im d):=rfl
theorem y18(i:Nat)(d:D)(ρ:DS):N1 true i d ρ=ρ.set i (.ow d):=rfl
theorem y19(ρ:DE):sel [] ρ=[]:=rfl
theorem y1a(j:Nat)(r:List Nat)(ρ:DE):sel (j::r) ρ=(ρ[j]?).getD none::sel r ρ:=rfl
theorem y4v(d:D)(r:DE):d6 0 (some d::r)=.ok d:=rfl
theorem y4w(i:Nat)(d:Option D)(r:DE):d6 (i+1) (d::r)=d6 i r:=rfl
theorem y1b(g:Int->Int->D)(i j:Int):dI g (.int i) (.int j)=some (g i j):=rfl
theorem Qc(C:Int->Int->Prop)[∀i j,Decidable (C i j)](g:Int->Int->D)(i j:Int):dIC C g (.int i) (.int j)=if C i j then some (g i j) else none:=rfl
theorem y1c(b:Bool):asB (.bl b)=some b:=rfl
theorem zng(b:Bool):o9 (.bl b)=some b:=rfl
theorem zvk(ds:List D):o9 (.lst ds)=some (!ds.isEmpty):=rfl
theorem zvl(i:Int):o9 (.int i)=some (i != 0):=rfl
theorem Cd(i j:Int):(i==j)=decide (i=j):=by rw[TU];simp
theorem zvm(i j:Int):dEq (.int i) (.int j)=some (.bl (decide (i=j))):=by unfold dEq;rw[ξ (by simp[D.pl,D.dep])];simp only[eqD,Cd]
theorem zvn(i j:Int):dNe (.int i) (.int j)=some (.bl (!decide (i=j))):=by unfold dNe;rw[ξ (by simp[D.pl,D.dep])];simp only[eqD,Cd]
theorem zvo(i j:Bool):dEq (.bl i) (.bl j)=some (.bl (i==j)):=by unfold dEq;rw[ξ (by simp[D.pl,D.dep])];simp only[eqD]
theorem zvp(a b c e:Int):dEq (.tup [.int a,.int b]) (.tup [.int c,.int e])=some (.bl (decide (a=c)&&decide (b=e))):=by unfold dEq;rw[ξ (by simp[D.pl,D.dep,pls,i8])];simp only[eqD,r8,Cd,Bool.and_true]
theorem zvq(a b c e:Int):dNe (.tup [.int a,.int b]) (.tup [.int c,.int e])=some (.bl (!(decide (a=c)&&decide (b=e)))):=by unfold dNe;rw[ξ (by simp[D.pl,D.dep,pls,i8])];simp only[eqD,r8,Cd,Bool.and_true]
theorem wH(a:D)(r:List D):dIx (.tup (a::r)) (.int 0)=some a:=by simp only[dIx,dOr,D6,Xy]
theorem wG(a b:D)(r:List D):dIx (.tup (a::b::r)) (.int 1)=some b:=by simp only[dIx,dOr,D6,Xx]
theorem zvr(a b c:D)(r:List D):dIx (.tup (a::b::c::r)) (.int 2)=some c:=by simp only[dIx,dOr,D6,show atI (a::b::c::r) 2=some c from Ep (j:=2) rfl]
theorem Sf(a:D)(r:List D):dIx (.lst (a::r)) (.int 0)=some a:=by simp only[dIx,dOr,D6,Xy]
theorem zvs(a b:D)(r:List D):dIx (.lst (a::b::r)) (.int 1)=some b:=by simp only[dIx,dOr,D6,Xx]
theorem Qb{ds:List D}{j:Nat}{d:D}(h:ds[j]?=some d):dIx (.lst ds) (.int (j:Int))=some d:=by simp only[dIx,dOr,D6,Ep h]
theorem zvt(ns:List Int):C3 [.scr ns]=some (.int ns.length):=rfl
theorem wF(ns:List D):C3 [.lst ns]=some (.int ns.length):=rfl
theorem zvu(ns:List D):C3 [.tup ns]=some (.int ns.length):=rfl
theorem y1d(b c:Bool):(if b=true then R.ok true else R.ok c)=R.ok (b||c):=by cases b<;>rfl
theorem zvv(b c:Bool):(if b=true then R.ok c else R.ok false)=R.ok (b&&c):=by cases b<;>rfl
theorem zvw(b c:Bool):(if b=true then R.ok (D.bl true) else R.ok (D.bl c))=R.ok (D.bl (b||c)):=by cases b<;>rfl
theorem zqf(b c:Bool):(if b=true then R.ok (D.bl c) else R.ok (D.bl false))=R.ok (D.bl (b&&c)):=by cases b<;>rfl
theorem zvx(i:Int):p8 "int" (.int i)=some (.bl true):=by simp[p8,D9,J4,G8]
theorem zvy(i:Int):p8 "bool" (.int i)=some (.bl false):=by simp[p8,D9,J4,G8]
theorem zvz(i:Bool):p8 "bool" (.bl i)=some (.bl true):=by simp[p8,D9,J4,G8]
theorem Se(ds:List D):p8 "tuple" (.tup ds)=some (.bl true):=by simp[p8,D9,J4,G8]
theorem wE(ds:List D):p8 "list" (.lst ds)=some (.bl true):=by simp[p8,D9,J4,G8]
theorem zw0(tg:Tg)(g:DS->SR)(ρ:DS):C5 tg g [] ρ=.nx ρ:=rfl
noncomputable def SR.itr(r:SR)(k:DS->SR):SR:=match r with
 | .nx aB=>k aB
 | .ct aB=>k aB
 | .bk aB=>.nx aB
 | .rt d=>.rt d
 | .er x=>.er x
 | .st=>.st
theorem zw1(ρ:DS)(k:DS->SR):(SR.nx ρ).itr k=k ρ:=rfl
theorem zw2(ρ:DS)(k:DS->SR):(SR.ct ρ).itr k=k ρ:=rfl
theorem zw3(ρ:DS)(k:DS->SR):(SR.bk ρ).itr k=.nx ρ:=rfl
theorem zw4(d:D)(k:DS->SR):(SR.rt d).itr k=.rt d:=rfl
theorem zqg(c:Prop)[Decidable c](a b:SR)(g:DS->SR):(if c then a else b).itr g=if c then a.itr g else b.itr g:=by split<;>rfl
theorem zqh(bn:D->Option (List D))(t:DE->R Bool)(f:DE->R D)(cs:DE):J3 bn t f cs []=.ok []:=rfl
theorem zqi(f:DE->R D)(cs:DE)(d:D)(ds:List D):J3 b1 p7 f cs (d::ds)=(f (some d::cs)).noE.bind fun y=>(J3 b1 p7 f cs ds).bind fun ys=>.ok (y::ys):=rfl
theorem Fg{bn:D->Option (List D)}{f:DE->R D}{cs:DE}{α:Type}{en:α->D}{bs:α->List D}{g:α->D}(xs:List α)(hb:∀x∈xs,bn (en x)=some (bs x))(hf:∀x∈xs,f ((bs x).map some++cs)=.ok (g x)):J3 bn p7 f cs (xs.map en)=.ok (xs.map g):=by
 induction xs with
 |nil=>rfl
 |cons x xs ih=>
  simp only[NL,J3,hb x (by simp),p7,R.of_some,R.bind_ok,wJ,QN,hf x (by simp),ih (fun y hy=>hb y (by simp[hy])) (fun y hy=>hf y (by simp[hy]))]
theorem xD{tg:Tg}{g:DS->SR}{α:Type}{en:α->D}(P:List α->DS->Prop)(xs:List α)(ρ:DS)(h0:P xs ρ)(hs:∀x r ρ,P (x::r) ρ->∃cq aB,R6 tg (en x) ρ=some cq/\(g cq=.nx aB\/g cq=.ct aB)/\P r aB):∃ay,C5 tg g (xs.map en) ρ=.nx ay/\P [] ay:=by
 induction xs generalizing ρ with
 |nil=>exact⟨ρ,rfl,h0⟩
 |cons x r ih=>
  obtain⟨cq,aB,e1,e2,q⟩:=hs x r ρ h0
  obtain⟨ay,e',p'⟩:=ih aB q
  refine⟨ay,?_,p'⟩
  rcases e2 with e2 |e2<;>simp only[NL,C5,e1,e2,e']
noncomputable def L(ns:List Int):D:=.lst (ns.map .int)
theorem Ld(f:α->D)(xs:List α)(h:∀x∈xs,(f x).noL=true):m8 (xs.map f)=true:=by
 induction xs with
 |nil=>simp only[QR,m8]
 |cons a r ih=>simp only[NL,m8,h a (by simp),ih fun x hx=>h x (by simp[hx]),OW]
theorem zw5(ns:List Int):keeps true (L ns)=true:=by unfold L;rw[zt];exact Ld _ _ fun x _=>yz x
theorem y1e(ns:List Int):C3 [L ns]=some (.int ns.length):=by unfold L;rw[wF,oQ]
theorem zw6(ns:List Int):Gu [L ns]=some (L ns):=rfl
theorem y1f(ns:List Int):p8 "list" (L ns)=some (.bl true):=wE _
theorem zqj(ns:List Int):items (L ns)=some (ns.map .int):=rfl
theorem y4x(h0:0<=x)(h1:x.toNat<ns.length):dIx (L ns) (.int x)=some (.int (ns.getD x.toNat 0)):=by
 have e:(ns.map D.int)[x.toNat]?=some (.int (ns.getD x.toNat 0)):=by rw[NS,NG h1,io,NG h1];rfl
 have:=Qb e;rwa [show((x.toNat:Nat):Int)=x by lia]at this
theorem y4y(ns:List Int)(lo hi:Option Int):dSl (L ns) lo hi=some (L (x3 ns lo hi)):=by simp only[L,dSl,x3,oQ,List.map_take,List.map_drop]
theorem zw7(ns:List Int)(lo hi:Option Int):dSl (.scr ns) lo hi=some (L (x3 ns lo hi)):=rfl
theorem y1g(ns:List Int):N0 [L ns]=some (.int ns.sum):=by simp only[L,N0,Wa,NV]
theorem all_map(xs:List α)(f:α->Bool):R0 [.lst (xs.map fun x=>D.bl (f x))]=some (.bl (xs.all f)):=by
 have:xs.map (fun x=>D.bl (f x))=(xs.map f).map D.bl:=by rw[QU];rfl
 rw[this];simp only[R0,Wj,NV,List.all_map];rfl
theorem V8(ns:List Int):(L ns).dep<=1/\(L ns).pl=true:=by
 have:∀ns:List Int,i8 (ns.map D.int)=0/\pls (ns.map D.int)=true:=fun ns=>by
  induction ns with
  |nil=>simp only[QR,i8,pls,and_self]
  |cons a r ih=>simp only[NL,i8,pls,D.dep,D.pl,ih.1,ih.2,OW,Nat.max_self,and_self]
 simp only[L,D.dep,D.pl,this];exact⟨by lia,trivial⟩
theorem Jc:∀(a b:List Int),r8 (a.map D.int) (b.map D.int)=decide (a=b)
 | [],[]=>by simp[r8]
 | [],_::_=>by simp[r8]
 |_::_,[]=>by simp[r8]
 |x::a,y::b=>by simp only[NL,r8,eqD,Jc a b,List.cons.injEq,Bool.decide_and,Cd]
theorem y4z(a b:List Int):dEq (L a) (L b)=some (.bl (decide (a=b))):=by unfold dEq;rw[ξ ⟨(V8 a).2,(V8 b).2,by have:=(V8 a).1;lia⟩];simp only[L,eqD,Jc]
theorem y50(a b:List Int):dNe (L a) (L b)=some (.bl (!decide (a=b))):=by unfold dNe;rw[ξ ⟨(V8 a).2,(V8 b).2,by have:=(V8 a).1;lia⟩];simp only[L,eqD,Jc]
theorem xC{tg:Tg}{g:DS->SR}(n:Nat)(en:Nat->D)(P:Nat->DS->Prop)(ρ:DS)(h0:P 0 ρ)
  (hs:∀i,i<n->∀ρ,P i ρ->∃cq aB,R6 tg (en i) ρ=some cq/\(g cq=.nx aB\/g cq=.ct aB)/\P (i+1) aB) :
  ∃ay,C5 tg g ((List.range n).map en) ρ=.nx ay/\P n ay:=by
 have key:∀k s ρ,s+k=n->P s ρ->∃ay,C5 tg g ((List.range' s k).map en) ρ=.nx ay/\P n ay:=by
  intro k;induction k with
  |zero=>intro s ρ e h;exact⟨ρ,rfl,by rwa [<-e]⟩
  |succ k ih=>
   intro s ρ e h
   obtain⟨cq,aB,e1,e2,q⟩:=hs s (by lia) ρ h
   obtain⟨ay,e',p'⟩:=ih (s+1) aB (by lia) q
   refine⟨ay,?_,p'⟩
   rw[List.range'_succ,NL]
   rcases e2 with e2 |e2<;>simp only[C5,e1,e2,e']
 rw[List.range_eq_range']
 exact key n 0 ρ (by lia) h0
theorem xB(n:Nat)(g:Nat->D):((zD 0 ((List.range n).map g).length).zip ((List.range n).map g)).map (fun p=>D.tup [p.1,p.2])=(List.range n).map fun (i:Nat)=>D.tup [.int (i:Int),g i]:=by
 simp only[zD,oQ,SD];have:∀(l:List Nat),((l.map fun (i:Nat)=>D.int (0+i)).zip (l.map g)).map (fun p=>D.tup [p.1,p.2])=l.map fun (i:Nat)=>D.tup [.int (i:Int),g i]:=fun l=>by
  induction l with
  |nil=>rfl
  |cons a r ih=>simp only[Int.zero_add]at ih⊢;simp only[NL,OM,ih]
 exact this _
theorem kh(xs:List α)(d:α):xs=(List.range xs.length).map fun i=>xs.getD i d:=by
 apply UI;intro i;by_cases h:i<xs.length
 . rw[NS,List.getElem?_range h,NV,io,NG h];rfl
 . rw[OV (by lia),OV (by simp;lia)]
theorem y1h(ns:List Int):isT "list" (L ns)=true:=by simp only[L,isT,beq_self_eq_true]
theorem zw9(m:List Bool)(ρ:DS):t6 false m ρ=frz m ρ:=rfl
theorem y1i(ρ:DS):frz [] ρ=ρ:=by cases ρ<;>rfl
theorem y1j(m:List Bool):frz m []=[]:=by cases m<;>rfl
theorem y1k(b:Bool)(m:List Bool)(s:Sl)(r:DS):frz (b::m) (s::r)=s.frz b::frz m r:=rfl
theorem zwa(b:Bool)(d:D):Sl.frz b (.im d)=.im d:=rfl
theorem zwb(b:Bool):Sl.frz b .em=.em:=rfl
theorem zqk(d:D):Sl.frz false (.ow d)=.ow d:=rfl
theorem zql(d:D):Sl.frz true (.ow d)=.im d:=rfl
theorem S3(h:0<j):v9 (.int i) (.int j)=some (.int (i % j)):=by unfold v9;rw[Qc,ξ h]
theorem Gp(h:0<j/\j<1073741824):R4 (.int i) (.int j)=some (.int (i / j)):=by unfold R4;rw[Qc,ξ (show R5 i j from h)]
theorem zwc(i:Int):R.of (match D.int i with | .int i=>some (some i) |_=>none)=R.ok (some i):=rfl
theorem vE(hj:-100000<=j/\j<=100000):-(2 ^ 62)<=j/\j<2 ^ 62:=by lia
theorem Ny(j:Int)(hj:-100000<=j/\j<=100000)(h:fs ρ=.ok [.int j]):x8 fs ρ=.ok (zD 0 j.toNat):=by unfold x8;rw[h,R.bind_ok];show R.of (if _ then _ else _)=_;rw[ξ (vE hj)];rfl
theorem zqo(ds:List D):items (.lst ds)=some ds:=rfl
theorem zqp(ds:List D):items (.tup ds)=some ds:=rfl
theorem Qa(lo:Int)(n:Nat):(zD lo n).length=n:=by simp[zD]
theorem zV(ds:List D):keeps false (.lst ds)=false:=by simp only[keeps,D.noL,OD,PY]
theorem zqq(ns:List Int):keeps false (L ns)=false:=zV _
noncomputable def T2(p:Int×Int):D:=.tup [.int p.1,.int p.2]
noncomputable def T3(p:Int×Int×Int):D:=.tup [.int p.1,.int p.2.1,.int p.2.2]
theorem Ve(h:ois l'=true)(p:l.Perm l'):p9 l=p9 l':=
 Ev (Y6 ((K0 l).trans p) h) (((K0 l).trans p).trans (K0 l').symm) (Cn (Y6 p h)) (Cn h)
noncomputable def U5{α:Type}(lt:α->α->Bool)(d:α):List α->List α
 | []=>[d]
 |e::r=>if lt e d=true then e::U5 lt d r else d::e::r
def R9{α:Type}(lt:α->α->Bool):List α->List α
 | []=>[]
 |d::r=>U5 lt d (R9 lt r)
section
variable {α:Type}(f:α->D)
theorem Ud(d:α):∀l:List α,M9 (f d) (l.map f)=(U5 (fun a b=>ltT (f a) (f b)) d l).map f
 | []=>rfl
 |e::r=>by
  simp only[NL,M9,U5];split
  . rw[NL,Ud d r]
  . rfl
theorem Vd:∀l:List α,p9 (l.map f)=(R9 (fun a b=>ltT (f a) (f b)) l).map f
 | []=>rfl
 |d::r=>by simp only[NL,p9,R9,Vd r,Ud]
variable (lt:α->α->Bool)
theorem Vc(d:α):∀l:List α,(U5 lt d l).Perm (d::l)
 | []=>.refl _
 |e::r=>by
  unfold U5;split
  . exact((Vc d r).cons e).trans (.swap d e r)
  . exact .refl _
theorem Vy:∀l:List α,(R9 lt l).Perm l
 | []=>.refl _
 |d::r=>(Vc lt d (R9 lt r)).trans ((Vy r).cons d)
end
def so2(ls:List (Int×Int)):List (Int×Int):=R9 (fun a b=>ltT (T2 a) (T2 b)) ls
def so3(ls:List (Int×Int×Int)):List (Int×Int×Int):=R9 (fun a b=>ltT (T3 a) (T3 b)) ls
theorem Eh(ls:List (Int×Int)):p9 (ls.map T2)=(so2 ls).map T2:=Vd _ _
theorem xA(ls:List (Int×Int)):(so2 ls).Perm ls:=Vy _ _
theorem X1(xs:List α)(f:α->D)(p:D->Bool)(h:∀x,p (f x)=true):(xs.map f).all p=true:=by rw[KB];intro d hd;obtain⟨x,_,rfl⟩:=OO.mp hd;exact h x
theorem Jb(xs:List α)(f:α->D)(h:∀x,(f x).oi=true):ois (xs.map f)=true:=
 ois_mem.mpr fun d hd=>by obtain⟨x,_,rfl⟩:=OO.mp hd;exact h x
theorem Kg(xs:List α)(f:α->D)(n:Nat)(h:∀x,(f x).dep<=n):i8 (xs.map f)<=n:=by
 induction xs with
 |nil=>simp only[QR,i8,OI]
 |cons a r ih=>simp only[NL,i8];have:=h a;lia
theorem kg(xs:List α)(f:α->D)(h:∀x,(f x).pl=true):pls (xs.map f)=true:=by
 induction xs with
 |nil=>simp only[QR,pls]
 |cons a r ih=>simp only[NL,pls,h a,ih,OW]
theorem Go(p:Int×Int):(T2 p).oi=true:=by simp[T2,D.oi,ois]
theorem Ja(p:Int×Int):(T2 p).dep<=1:=by simp[T2,D.dep,i8]
theorem y1l(p:Int×Int):(T2 p).pl=true:=by simp[T2,D.pl,pls]
theorem wD(p:Int×Int):(T2 p).noL=true:=by simp[T2,D.noL,m8]
theorem wC(p:Int×Int×Int):(T3 p).noL=true:=by simp[T3,D.noL,m8]
theorem Pz(p q:Int×Int):(i4 (T2 p) (T2 q)).isSome=true:=by simp only[T2,i4,t7];repeat (first |rfl |split)
theorem yy(ls:List (Int×Int))(h:ls.length<64):Jf (ls.map T2)=true:=by unfold Jf;rw[oQ,decide_eq_true h,Jb _ _ Go,decide_eq_true (KM (Kg ls T2 1 Ja) (by decide)),X1 ls T2 (fun d=>(ls.map T2).all fun e=>(i4 d e).isSome) (fun x=>X1 _ _ _ fun y=>Pz x y),X1 ls T2 z7 (fun x=>rfl)];simp
theorem sorted_T2(ls:List (Int×Int))(h:ls.length<64):Sm [.lst (ls.map T2)]=some (.lst ((so2 ls).map T2)):=by simp only[Sm,yy ls h,QN,Eh]
theorem kf(h:T2 p=T2 q):p=q:=by obtain⟨a,b⟩:=p;obtain⟨a',b'⟩:=q;simp only[T2,D.tup.injEq,List.cons.injEq,D.int.injEq,and_true]at h;simp only[Prod.mk.injEq];exact h
theorem Uc{α β:Type}{f:α->β}(hf:∀x y,f x=f y->x=y):∀{a b:List α},a.map f=b.map f->a=b
 | [],[],_=>rfl
 | [],_::_,h=>by simp at h
 |_::_,[],h=>by simp at h
 |x::a,y::b,h=>by simp only[NL,List.cons.injEq]at h;rw[hf _ _ h.1,Uc hf h.2]
theorem xz(p:a.Perm b):so2 a=so2 b:=by have:=Ve (Jb b T2 Go) (p.map T2);rw[Eh,Eh]at this;exact Uc (fun _ _=>kf) this
theorem y1m(ds:List D):isT "list" (.lst ds)=true:=by simp only[isT,beq_self_eq_true]
theorem y1n(b:Bool):U7 [.bl b]=some (.int (if b then 1 else 0)):=rfl
theorem y1o(i:Int):U7 [.int i]=some (.int i):=rfl
theorem zwg(ds:List D):Gu [.tup ds]=some (.lst ds):=rfl
theorem zwh(ds:List D):Gu [.lst ds]=some (.lst ds):=rfl
theorem zqs(ds:List D):J7 [.lst ds]=some (.tup ds):=rfl
theorem zqt(ds:List D):J7 [.tup ds]=some (.tup ds):=rfl
theorem zr(ls:List (Int×Int)):m8 (ls.map T2)=true:=Ld _ _ fun x _=>wD x
theorem zlk(ls:List (Int×Int×Int)):m8 (ls.map T3)=true:=Ld _ _ fun x _=>wC x
theorem Ub(hp:d.pl=true)(hd:d.dep<=20):dNe d d=some (.bl false):=by unfold dNe;rw[ξ ⟨hp,hp,hd⟩,Fa d hp];rfl
theorem xy(hp:d.pl=true)(hd:d.dep<=20):dEq d d=some (.bl true):=by unfold dEq;rw[ξ ⟨hp,hp,hd⟩,Fa d hp]
theorem zwi(t:Int×Int×Int):N0 [T3 t]=some (.int (t.1+(t.2.1+(t.2.2+0)))):=by simp only[T3,N0,y0,NV,List.sum_cons,List.sum_nil]
theorem zwj(t:Int×Int):N0 [T2 t]=some (.int (t.1+(t.2+0))):=by simp only[T2,N0,y0,NV,List.sum_cons,List.sum_nil]
theorem zwk(t:Int×Int×Int):p8 "tuple" (T3 t)=some (.bl true):=Se _
theorem zwl(t:Int×Int):p8 "tuple" (T2 t)=some (.bl true):=Se _
theorem zwm(t:Int×Int):C3 [T2 t]=some (.int 2):=rfl
theorem y1p(t:Int×Int):dIx (T2 t) (.int 0)=some (.int t.1):=wH _ _
theorem y1q(t:Int×Int):dIx (T2 t) (.int 1)=some (.int t.2):=wG _ _ _
theorem zlm(t:Int×Int×Int):items (T3 t)=some [.int t.1,.int t.2.1,.int t.2.2]:=rfl
theorem Py(a b:List (Int×Int))(h:a.length+b.length<=100000):z9 (.lst (a.map T2)) (.lst (b.map T2))=some (.lst ((a++b).map T2)):=by simp only[z9,oQ,h,QN,RH]
theorem Px(hg:Gl X x)(hm:X.mg x=none)(hv:bootBuiltins x=some (.builtin "isinstance"))(ha:QE X EX false a f)(hb:PDs X bs Ds)(hl:Ds.length<=1000)(B:BelT X.K Ds tb)(hn:x≠"__name__":=by decide)(aF:(x==("__debug__":Str))=false:=by decide)
 (he:starEach [a,.Tuple bs kt am] X.env=(false,eval a X.env)::starEach [.Tuple bs kt am] X.env:=by rfl) (hpl:(backTo pos (starEach [.Tuple bs kt am] X.env)).any (·.1)=false:=by rfl) (hs:starEach [.Tuple bs kt am] X.env=(false,eval (.Tuple bs kt am) X.env)::starEach [] X.env:=by rfl) :
 QE X EX false (.Call (.Name x p) [a,.Tuple bs kt am] [] pos) (eUn (E7 tb) f):=kj hg hm hv ha hb hl B hn aF he hpl hs
structure FunD(K:Frag)(x qual:Str)(st:Stmt)(dV:Value)(f:Addr)(fd:FuncData):Prop where
 ex:∃(oc:Value)(od:Option Addr)(kV doc pm:Value)(an:Option Addr)(cdv ct:Value)(osl:Array (Option Value)),
  fd=PySem.W.fnOf x qual (j4 st) (i9 st) (g3 st) dV kV doc pm an cdv ct/\K.lookup f=some ⟨oc,od,.func fd,osl⟩/\codeIn K cdv qual=true
 kp:keepIn K (.ref f)=true
def Xk(P:Program)(w:World)(K:Frag)(mg:Str->Option Value)(base:Heap)(x:Str)(ps:List Str)(k:Nat)(sp:Sp)(i:Int):Prop:=
 ∃f fd t,FnOk P w K mg base (CX1 P w) k f fd ps sp/\Binds K fd ps [.int i t]/\mg x=some (.ref f)/\keepIn K (.ref f)=true
section
variable {P:Program}{w:World}{K:Frag}{mg:Str->Option Value}{base:Heap}
theorem FunD.okX{x qual:Str}{st:Stmt}{dV:Value}{f:Addr}{fd:FuncData}{N ps:List Str}{k:Nat}{sp:Sp}{CX:CXT}(F:FunD K x qual st dV f fd)(S:FnScope N ps (g3 st))(len:∀vs H Q E,sp vs H Q E->vs.length=ps.length)
  (bj:∀(cdv:Value)(A:Around)(outer:List Env)(s:Shared)(H:Hp)(vs:List V)(Q:VK)(E:XK),Room k (A.deeper (envOfC qual (g3 st) s.heap.objs.size f cdv))->sp vs H Q E ->
   ∃t,PSs (J0 CX P w K mg base N qual (g3 st) f cdv A outer s H E) (i9 st) t/\t { nx:=fun _ H'=>Q .non H',rt:=Q } (D1 N vs) H):FnOk P w K mg base CX (k+1) f fd ps sp:=by
 obtain⟨oc,od,kV,doc,pm,an,cdv,ct,osl,rfl,lk,br⟩:=F.ex
 refine Hk lk br S len fun A outer s H vs Q E hr cL=>?_
 exact bj cdv A outer s H vs Q E hr cL
theorem y51{x qual:Str}{st:Stmt}{dV:Value}{f:Addr}{fd:FuncData}{N ps:List Str}{k n kk:Nat}{fr:Bool}{g:DS->SR}(F:FunD K x qual st dV f fd)(S:FnScope N ps (g3 st))(fT:ps.length=n)(hN:N.length=n+kk)
  (bj:∀(cdv:Value)(A:Around)(outer:List Env)(s:Shared)(H:Hp)(E:XK),Room k (A.deeper (envOfC qual (g3 st) s.heap.objs.size f cdv)) ->
   QB (J0 (CX1 P w) P w K mg base N qual (g3 st) f cdv A outer s H E) ⟨H,xNm K mg E⟩ fr (i9 st) g):FnOk P w K mg base (CX1 P w) (k+1) f fd ps (spD K mg fr (mOf fr n kk g) n):=by
 have ah:∀{vs:List V}{H:Hp}{Q:VK}{E:XK},spD K mg fr (mOf fr n kk g) n vs H Q E->vs.length=n:=fun {vs H Q E} h=>by obtain⟨ds,H0,s,r,hn,_⟩:=h;rw[<-r.length];exact hn
 refine F.okX S (fun vs H Q E h=>by rw[ah h,fT]) (fun cdv A outer s H vs Q E hr h=>⟨_,(bj cdv A outer s H E hr).h,?_⟩)
 have e:D1 N vs=vs.map some++List.replicate kk none:=by unfold D1;rw[ah h,hN,Nat.add_sub_cancel_left]
 rw[e]
 exact Qn h
theorem FunD.binds{x qual:Str}{st:Stmt}{f T:Addr}{fd:FuncData}{ps:List Str}{ds:List Value}{dv:Value}{oc:Value}{od:Option Addr}{n:Nat}{sl:Array (Option Value)}(F:FunD K x qual st (.ref T) f fd)(t:K.lookup T=some ⟨oc,od,.seq #[dv] n,sl⟩)(m:Nat)(hm:m+ds.length=ps.length)
  (h:∀(kV doc pm:Value)(an:Option Addr)(cdv ct:Value)(us:List Value),us.length=m->∃k,bindArgs (PySem.W.fnOf x qual (j4 st) (i9 st) (g3 st) (.ref T) kV doc pm an cdv ct) ⟨us,[]⟩=seqItems? (.ref T) >>= k/\k (some #[dv])=pure (ps.zip (us++ds))):Binds K fd ps ds:=by
 obtain⟨MP,MQ,kV,doc,pm,an,cdv,ct,osl,rfl,lk,br⟩:=F.ex
 intro s us hK hl
 obtain⟨k,e1,e2⟩:=h kV doc pm an cdv ct us (by rw[θ]at hl;lia)
 exact PySem.W.binds_K hK rfl t rfl e1 e2
theorem vD{x qual:Str}{st:Stmt}{f:Addr}{oc dV:Value}{od an:Option Addr}{osl:Array (Option Value)}{kV doc pm cdv ct:Value}(l:K.lookup f=some ⟨oc,od,.func (PySem.W.fnOf x qual (j4 st) (i9 st) (g3 st) dV kV doc pm an cdv ct),osl⟩)
 (c:codeIn K cdv qual=true) (k:keepIn K (.ref f)=true):FunD K x qual st dV f (PySem.W.fnOf x qual (j4 st) (i9 st) (g3 st) dV kV doc pm an cdv ct):=⟨⟨oc,od,kV,doc,pm,an,cdv,ct,osl,rfl,l,c⟩,k⟩
end
def Nx(i j:Int):Prop:=0<j/\j<2 ^ 200
instance (i j:Int):Decidable (Nx i j):=by unfold Nx;infer_instance
noncomputable def hid(as:List Addr)(H:Hp):Hp:=fun b=>if b∈as then none else H b
mutual
noncomputable def D.ob:D->Bool
 | .int _=>true
 | .bl _=>true
 | .tup ds=>obs ds
 |_=>false
noncomputable def obs:List D->Bool
 | []=>true
 |d::ds=>d.ob&&obs ds
end
mutual
noncomputable def C2:D->D->Option Bool
 | .int i,.int j=>some (decide (i<j))
 | .bl a,.bl b=>some (decide (b2i a<b2i b))
 | .tup ds,.tup es=>A3 ds es
 |_,_=>none
noncomputable def A3:List D->List D->Option Bool
 | [],[]=>some false
 | [],_::_=>some true
 |_::_,[]=>some false
 |d::ds,e::es=>if eqD d e=true then A3 ds es else C2 d e
end
mutual
theorem Gn:∀{d:D},d.ob=true->d.pl=true
 | .int _,_=>rfl
 | .bl _,_=>rfl
 | .tup ds,h=>by simp only[D.pl];exact Pw (by simpa only [D.ob] using h)
 | .non,p=>by simp[D.ob]at p
 | .str _,p=>by simp[D.ob]at p
 | .lst _,p=>by simp[D.ob]at p
 | .dk _ _,p=>by simp[D.ob]at p
 | .dt _ _,p=>by simp[D.ob]at p
 | .dn _ _,p=>by simp[D.ob]at p
 | .scr _,p=>by simp[D.ob]at p
 | .exc _ _,p=>by simp[D.ob]at p
theorem Pw:∀{ds:List D},obs ds=true->pls ds=true
 | [],_=>rfl
 |d::ds,h=>by simp only[obs,bI]at h;simp only[pls,Gn h.1,Pw h.2,OW]
end
section
variable {X:Cx}{pins:List (Addr×Obj)}{U:St}{H:Hp}{s:Shared}
theorem Pv(I:Inv X pins U H s)(hu:A.units+n<cLine)(lt:∀{d e:D}{x y:V}{u v:Value}{b:Bool},d.ob=true->e.ob=true->d.dep<=n->RD X.K H d x->RD X.K H e y->RelV x u->RelV y v->C2 d e=some b->RcLt A s u v b) :
  ∀{ds es:List D}{xs ys:List V}{us vs:List Value}{b:Bool},obs ds=true->obs es=true->i8 ds<=n->RDs X.K H ds xs->RDs X.K H es ys->Vals xs us->Vals ys vs->A3 ds es=some b->LexR A s us vs b
 | [],[],_,_,_,_,b,_,_,_,r1,r2,q1,q2,h=>by simp only[RDs]at r1 r2;subst r1;subst r2;cases q1;cases q2;simp only[A3,Option.some.injEq]at h;subst h;exact .nn
 | [],e::es,_,_,_,_,b,_,_,_,r1,r2,q1,q2,h=>by simp only[RDs]at r1 r2;subst r1;obtain⟨y,ys,rfl,_,_⟩:=r2;cases q1;cases q2;simp only[A3,Option.some.injEq]at h;subst h;exact .nc
 |d::ds,[],_,_,_,_,b,_,_,_,r1,r2,q1,q2,h=>by simp only[RDs]at r1 r2;subst r2;obtain⟨y,ys,rfl,_,_⟩:=r1;cases q1;cases q2;simp only[A3,Option.some.injEq]at h;subst h;exact .cn
 |d::ds,e::es,_,_,_,_,b,p1,p2,hd,r1,r2,q1,q2,h=>by
  simp only[RDs]at r1 r2;obtain⟨x,xs,rfl,rx,fB⟩:=r1;obtain⟨y,ys,rfl,ry,fC⟩:=r2;simp only[obs,bI]at p1 p2;simp only[i8]at hd;cases q1 with
  |cons a1 a2=>
   cases q2 with
   |cons b1 b2=>
    have eq:=Bt (A:=A) I n (Gn p1.1) (Gn p2.1) (by lia) hu rx ry a1 b1
    simp only[A3]at h
    split at h
    . rename_i w;rw[w]at eq;exact .eq eq (Pv I hu lt p1.2 p2.2 (by lia) fB fC a2 b2 h)
    . rename_i w;rw[show eqD d e=false by simpa using w]at eq;exact .lt eq (lt p1.1 p2.1 (by lia) rx ry a1 b1 h)
theorem Vx(h:C2 d e=some b):(∃i j,d=.int i/\e=.int j/\b=decide (i<j))\/(∃p q,d=.bl p/\e=.bl q/\b=decide (b2i p<b2i q))\/∃ds es,d=.tup ds/\e=.tup es/\A3 ds es=some b:=by
 cases d with
 |int i=>cases e with
  |int j=>exact .inl ⟨_,_,rfl,rfl,(Option.some.inj h).symm⟩
  |_=>exact nomatch h
 |bl p=>cases e with
  |bl q=>exact .inr (.inl ⟨_,_,rfl,rfl,(Option.some.inj h).symm⟩)
  |_=>exact nomatch h
 |tup ds=>cases e with
  |tup es=>exact .inr (.inr ⟨_,_,rfl,rfl,h⟩)
  |_=>exact nomatch h
 |_=>exact nomatch h
theorem ke(I:Inv X pins U H s):∀(n:Nat){A:Around}{d e:D}{x y:V}{u v:Value}{b:Bool},A.units+n<cLine->d.ob=true->e.ob=true->d.dep<=n->RD X.K H d x->RD X.K H e y->RelV x u->RelV y v->C2 d e=some b->RcLt A s u v b:=by
 have low:∀{A:Around}{d e:D}{x y:V}{u v:Value}{b:Bool},RD X.K H d x->RD X.K H e y->RelV x u->RelV y v->((∃i j,d=.int i/\e=.int j/\b=decide (i<j))\/(∃p q,d=.bl p/\e=.bl q/\b=decide (b2i p<b2i q)))->RcLt A s u v b:=by
  intro A d e x y u v b rx ry ru rv h;rcases h with⟨i,j,rfl,rfl,rfl⟩ |⟨p,q,rfl,rfl,rfl⟩
  . cases rx.int;cases ry.int;obtain⟨t,rfl⟩:=ru;obtain⟨t',rfl⟩:=rv;exact fun prog w E Q q=>HT.rcLt_int A s _ _ _ _ prog w E Q q
  . cases rx.bl;cases ry.bl;obtain rfl:_=Value.bool p:=ru;obtain rfl:_=Value.bool q:=rv;exact fun prog w E Q q=>PyProof.Rows.lt_bool q
 intro n;induction n with
 |zero=>
  intro A d e x y u v b hu p1 p2 hd rx ry ru rv h
  rcases Vx h with z |z |⟨ds,es,rfl,rfl,h⟩
  . exact low rx ry ru rv (.inl z)
  . exact low rx ry ru rv (.inr z)
  . simp only[D.dep]at hd;lia
 |succ n ih=>
  intro A d e x y u v b hu p1 p2 hd rx ry ru rv h
  rcases Vx h with z |z |⟨ds,es,rfl,rfl,h⟩
  . exact low rx ry ru rv (.inl z)
  . exact low rx ry ru rv (.inr z)
  . obtain⟨a,xs,rfl,ha,ra⟩:=rx.tup;obtain⟨c,ys,rfl,hc,rc⟩:=ry.tup;cases ru;cases rv;obtain⟨its,r1,t1⟩:=I.tupA ha;obtain⟨aA,r2,t2⟩:=I.tupA hc;simp only[D.dep]at hd;simp only[D.ob]at p1 p2;have gQ:A.in1.units+n<cLine:=by show A.units+1+n<cLine;lia
    exact RcLt.tuples t1 t2 (Pv I gQ (fun {d e x y u v b} q1 q2 q3 q4 q5 q6 q7 q8=>ih gQ q1 q2 q3 q4 q5 q6 q7 q8) p1 p2 (by lia) ra rc r1 r2 h) (by lia)
end
section
variable {prog:Program}{w:World}{A:Around}{R:Result->Shared->Prop}{I:Addr}{fp wr:List Addr}{n:Nat}{P:Nat->Value->Prop}{St:Nat->Heap->Prop}
def Gm(prog:Program)(w:World)(A:Around)(P:Nat->Value->Prop)(bt:Nat->Nat->Bool)(G:Shared->Prop):Prop:=
 ∀(i j:Nat)(vi vj:Value)(s:Shared)(Q E:Value->Shared->Prop),G s->P i vi->P j vj->Q (Value.bool (bt i j)) s->wpAny (model prog w) A (richCompare .Lt vi vj) Q E s
theorem y1r(kw:List (Str×Value))(W:Walks prog w A.in1 I fp wr n P St)(bt:Nat->Nat->Bool)(S:Addr)(nf:S∉fp)(G:Shared->Prop)(hG:∀(s:Shared)(h':Heap)(tk:Nat),G s->(∀b o,b∉wr->b≠S->s.heap.get? b=some o->h'.get? b=some o)->G { s with heap:=h',toks:=tk })(cm:Gm prog w A.in1 P bt G) :
  ∀(k j:Nat)(s:Shared)(vb:Value)(c:Nat),G s->n - (j+1)=k->j+1<=n->St (j+1) s.heap->P (argBest bt j) vb->s.heap.get? S=some { cls:=.type "list",dict:=none,data:=.seq #[vb,vb] c,slots:=#[] } ->
  (∀v h' tk,P (argBest bt (n - 1)) v->(∀b o,b∉wr->b≠S->s.heap.get? b=some o->h'.get? b=some o)->R (.ok (.ret v)) { s with heap:=h',toks:=tk })->codeAny (model prog w) A (.builtin "min.loop" ⟨[.ref I,.none,.ref S],kw⟩) R s:=by
 have nw:S∉wr:=fun h=>nf (W.sub _ h)
 have nm:(toString "min"++toString ".loop":String)="min.loop":=by decide
 intro k
 induction k with
 |zero=>
  intro j s vb c gs ek ej st pb eS fin
  have jn:j+1=n:=by omega
  refine RQ PySem.F.entry_min_loop ?_
  rw[RV PD _]
  show wpAny _ A.in1 (seqItems? (.ref S) >>= _) _ _ _
  refine χ (TM eS rfl ?_)
  show wpAny _ A.in1 (tryCatch (pyNext (.ref I)) _ >>= _) _ _ _
  refine χ (wpAny_tryCatch (W.done s _ _ (jn ▸ st) fun h' tk kp=>?_))
  have eV:=kp S _ nw eS
  show wpAny _ A.in1 (updateSeq S (fun _=>#[]) >>= _) _ _ _
  refine χ ?_
  refine wpAny_updateSeq eV rfl (χ (wpAny_letGo (ω ?_)))
  exact fin vb _ tk (by rw[<-jn];exact pb) fun b o dM cF e=>(OK _ _ (PN cF)).trans (kp b o dM e)
 |succ k ih=>
  intro j s vb c gs ek ej st pb eS fin
  have jl:j+1<n:=by omega
  refine RQ PySem.F.entry_min_loop ?_
  rw[RV PD _]
  show wpAny _ A.in1 (seqItems? (.ref S) >>= _) _ _ _
  refine χ (TM eS rfl ?_)
  show wpAny _ A.in1 (tryCatch (pyNext (.ref I)) _ >>= _) _ _ _
  refine χ (wpAny_tryCatch (W.item (j+1) s _ _ jl st fun v h' tk pv st' kp=>?_))
  have eV:=kp S _ nw eS
  have gV:=hG s h' tk gs fun b o hb _ e=>kp b o hb e
  show wpAny _ A.in1 (tryCatch (holding [v,v] (richCompare .Lt v vb >>= _)) _ >>= _) _ _ _
  refine χ (wpAny_tryCatch (NZ (χ (cm (j+1) (argBest bt j) v vb _ _ _ gV pv pb ?_))))
  refine χ (NZ (QV ?_))
  refine χ (wpAny_letGo (ω ?_))
  cases hb:bt (j+1) (argBest bt j) with
  |true=>
   rw[ξ rfl]
   refine χ ?_
   refine wpAny_updateSeq eV rfl (χ (wpAny_letGo ?_))
   rw[nm]
   refine ω ⟨UA PD _,ih (j+1) _ v _ (hG _ _ tk gV fun b o _ cF e=>(OK _ _ (PN cF)).trans e) (by omega) jl (W.frame _ _ _ st' fun b nW o e=>?_) (by simp only[argBest,hb,QN];exact pv) (OZ _ eV rfl) fun v' ck cY gW eW=>?_⟩
   . exact(OK _ _ (fun z:S=b=>nf (by rw[z];exact nW))).trans e
   . exact fin v' ck cY gW fun b o dM cF e=>eW b o dM cF ((OK _ _ (PN cF)).trans (kp b o dM e))
  |false=>
   rw[ψ η]
   refine χ (wpAny_letGo ?_)
   rw[nm]
   exact ω ⟨UA PD _,ih (j+1) _ vb c gV (by omega) jl st' (by simp only[argBest,hb,OD,PY];exact pb) eV fun v' ck cY gW eW=>fin v' ck cY gW fun b o dM cF e=>eW b o dM cF (kp b o dM e)⟩
theorem xx(kw:List (Str×Value))(W:Walks prog w A.in1 I fp wr n P St)(bt:Nat->Nat->Bool)(S:Addr)(nf:S∉fp)(G:Shared->Prop)(hG:∀(s:Shared)(h':Heap)(tk:Nat),G s->(∀b o,b∉wr->b≠S->s.heap.get? b=some o->h'.get? b=some o)->G { s with heap:=h',toks:=tk })(cm:Gm prog w A.in1 P bt G)(n0:0<n)(gs:G s)(st:St 0 s.heap)
  (eS:s.heap.get? S=some { cls:=.type "list",dict:=none,data:=.seq #[] c,slots:=#[] }) (fin:∀v h' tk,P (argBest bt (n - 1)) v->(∀b o,b∉wr->b≠S->s.heap.get? b=some o->h'.get? b=some o)->R (.ok (.ret v)) { s with heap:=h',toks:=tk }) :
  codeAny (model prog w) A (.builtin "min.loop" ⟨[.ref I,.none,.ref S],kw⟩) R s:=by
 have nw:S∉wr:=fun h=>nf (W.sub _ h)
 have nm:(toString "min"++toString ".loop":String)="min.loop":=by decide
 refine RQ PySem.F.entry_min_loop ?_
 rw[RV PD _]
 show wpAny _ A.in1 (seqItems? (.ref S) >>= _) _ _ _
 refine χ (TM eS rfl ?_)
 show wpAny _ A.in1 (tryCatch (pyNext (.ref I)) _ >>= _) _ _ _
 refine χ (wpAny_tryCatch (W.item 0 s _ _ n0 st fun v h' tk pv st' kp=>?_))
 have eV:=kp S _ nw eS
 have gV:=hG s h' tk gs fun b o hb _ e=>kp b o hb e
 show wpAny _ A.in1 (updateSeq S (fun _=>#[v,v]) >>= _) _ _ _
 refine χ ?_
 refine wpAny_updateSeq eV rfl ?_
 rw[nm]
 refine ω ⟨UA PD _,y1r kw W bt S nf G hG cm _ 0 _ v _ (hG _ _ tk gV fun b o _ cF e=>(OK _ _ (PN cF)).trans e) rfl n0 (W.frame _ _ _ st' fun b nW o e=>?_) pv (OZ _ eV rfl) fun v' ck cY gW eW=>?_⟩
 . exact(OK _ _ (fun z:S=b=>nf (by rw[z];exact nW))).trans e
 . exact fin v' ck cY gW fun b o dM cF e=>eW b o dM cF ((OK _ _ (PN cF)).trans (kp b o dM e))
end
theorem vC(a:Value):argsOk "min" ⟨[a],[]⟩:=by unfold argsOk;kernel_rfl
section
variable {prog:Program}{w:World}{A:Around}{E:Value->Shared->Prop}{s:Shared}
theorem vB{l:Addr}{items:Array Value}{Q:Value->Shared->Prop}{bt:Nat->Nat->Bool}(hh:A.handled=none)(hl:s.heap.IsList l items)(n0:0<items.size)
  (cm:Gm prog w A.in1 (fun i v=>items[i]?=some v) bt (fun s'=>∃h' tk,s'={ s with heap:=h',toks:=tk }/\∀b o,s.heap.get? b=some o->h'.get? b=some o))
  (fin:∀v h' tk,items[argBest bt (items.size - 1)]?=some v->(∀b o,s.heap.get? b=some o->h'.get? b=some o)->Q v { s with heap:=h',toks:=tk }) :
  wpAny (model prog w) A (call (.builtin "min") [.ref l]) Q E s:=by
 have nm:(toString "min"++toString ".loop":String)="min.loop":=by decide
 have iN:l<s.heap.objs.size:=by obtain⟨o,e,_⟩:=hl;exact Φ e
 refine kmk_tree PySem.F.kind_min PySem.F.plain_min PySem.F.entry_min (vC _) ?_
 show wpAny _ A.in1 (Builtin.Builtins.bindParams "min" ["key","default"] 0 ⟨[],[]⟩ >>= _) _ _ s
 refine χ (wpAny_of_eq (show Builtin.Builtins.bindParams "min" ["key","default"] 0 ⟨[],[]⟩=pure [none,none] from rfl) ?_)
 refine χ (ω ?_)
 refine χ (wpAny_pyIter_list hl ?_)
 refine χ (QZ ?_)
 obtain⟨h2,iO⟩:∃h2,h2=s.heap.push { cls:=Value.type "list_iterator",data:=Data.fields #[Value.ref l,Value.int 0 0] }:=⟨_,rfl⟩
 have sz:h2.objs.size=s.heap.objs.size+1:=by rw[iO];simp[Heap.push]
 have aW:∀b o,s.heap.get? b=some o->h2.get? b=some o:=fun b o e=>by rw[iO];exact Ψ _ e
 have lI:l≠s.heap.objs.size:=NI iN
 have W:=Walks.list (prog:=prog) (w:=w) (A:=A.in1) hh s.heap.objs.size l lI items
 have st:h2.IsListIter s.heap.objs.size l 0/\h2.IsList l items:=by obtain⟨o,e,c,n,d⟩:=hl;exact⟨⟨_,by rw[iO];exact Ξ _ rfl,rfl,rfl⟩,⟨o,aW _ _ e,c,n,d⟩⟩
 rw[<-iO]
 have nf:h2.objs.size∉[s.heap.objs.size,l]:=fun hm=>by
  simp only[tB,RA,or_false]at hm;rcases hm with e |e
  . exact absurd (show(h2.objs.size:Nat)=s.heap.objs.size from e) (by lia)
  . exact absurd (show(h2.objs.size:Nat)=l from e) (Nat.ne_of_gt (NH iN (by rw[sz];exact UG _)))
 rw[nm]
 refine ω ⟨UA PD _,?_⟩
 refine xx [] W bt h2.objs.size nf (fun s'=>∃h' tk,s'={ s with heap:=h',toks:=tk }/\∀b o,s.heap.get? b=some o->h'.get? b=some o) ?_ cm n0 ⟨_,_,rfl,fun b o e=>Ψ _ (aW b o e)⟩ (W.frame _ _ _ st fun b _ o e=>Ψ _ e) (Ξ _ rfl) fun v h' tk pv kp=>fin v h' tk pv ?_
 . rintro _ ck cY ⟨h',tk,rfl,k1⟩ kp;refine⟨ck,cY,rfl,fun b o e=>kp b o ?_ ?_ (k1 b o e)⟩
   . simp only[PV];exact NI (Φ e)
   . exact NI (NH (Φ e) (by rw[sz];exact UG _))
 . intro b o e;have hb:=Φ e;exact kp b o (by simp only[PV];exact NI hb) (NI (NH hb (by rw[sz];exact UG _))) (Ψ _ (aW b o e))
end
def Q7(ds:List D)(i j:Nat):Bool:=(C2 (ds.getD i (.int 0)) (ds.getD j (.int 0))).getD false
def V7(ds:List D):Bool:=decide (0<ds.length)&&obs ds&&decide (i8 ds<=20)&&ds.all (fun d=>ds.all fun e=>(C2 d e).isSome)
def Xj(ds:List D):D:=ds.getD (argBest (Q7 ds) (ds.length - 1)) (.int 0)
def R8:List D->Option D
 | [.lst ds]=>if V7 ds=true then some (Xj ds) else none
 |_=>none
def Nw(K:Frag):List V->Hp->VK->Prop:=fun xs H Q=>∃(p:Addr)(ys:List V)(ds:List D),xs=[.ref p]/\H p=some (.lst ys)/\RDs K H ds ys/\V7 ds=true/\Q (ys.getD (argBest (Q7 ds) (ds.length - 1)) .non) H
theorem Kf(bt:Nat->Nat->Bool):∀k,argBest bt k<=k
 | 0=>ζ _
 |k+1=>by have:=Kf bt k;simp only[argBest];split<;>lia
theorem Ke:∀{ds:List D}{d:D},obs ds=true->d∈ds->d.ob=true
 |_::_,_,h,.head _=>by simp only[obs,bI]at h;exact h.1
 |_::_,_,h,.tail _ m=>by simp only[obs,bI]at h;exact Ke h.2 m
theorem Ua:∀{ds:List D}{d:D},d∈ds->d.dep<=i8 ds
 |_::_,_,.head _=>by simp only[i8];lia
 |_::_,_,.tail _ m=>by have:=Ua m;simp only[i8];lia
theorem kd{K:Frag}{H:Hp}{ds:List D}{ys:List V}(r:RDs K H ds ys){i:Nat}(h:i<ys.length):RD K H (ds.getD i (.int 0)) (ys.getD i .non):=by
 have hy:ys[i]?=some ys[i]:=by simp[h]
 obtain⟨d,h1,h2⟩:=r.get hy;rw[io,io,h1,hy];exact h2
theorem vA{K:Frag}:B9 K false R8 (Nw K):=by
 intro H0 H xs ds z Q s r ho k;unfold R8 at ho;split at ho<;>first |cases ho |skip
 rename_i es;split at ho<;>cases ho;rename_i hq;obtain⟨x,rfl,q1⟩:=r.uno;obtain⟨a,ys,rfl,ha,ra⟩:=q1.lst;have iP:=hq;unfold V7 at hq;simp only[bI,NP]at hq;have hb:=Kf (Q7 es) (es.length - 1);have ah:=ra.length;exact⟨a,ys,es,rfl,s _ _ ha,ra.mono s,iP,k _ H (.pure s (kd ra (by omega)))⟩
section
variable {X:Cx}{pins:List (Addr×Obj)}{U:St}{H:Hp}{s:Shared}
theorem kc(hc:X.calm=true)(hu:X.A.units+64<cLine):CallR X (.builtin "min") (Nw X.K):=by
 intro pins s U H xs us Q I r h;obtain⟨p,ys,ds,rfl,hp,rd,hok,q⟩:=h;obtain⟨u,rfl,ru⟩:=w8 r;cases ru;obtain⟨its,rv,pl,hz⟩:=I.list (.of hp);obtain⟨m,hn,_⟩:=id I.loc;unfold V7 at hok;simp only[bI,NP]at hok;obtain⟨⟨⟨h0,du⟩,lP⟩,eN⟩:=hok;have eX:=rd.length;have fq:=rv.length;have hb:=Kf (Q7 ds) (ds.length - 1);have IK:∀{h':Heap}{tk:Nat},(∀b o,s.heap.get? b=some o->h'.get? b=some o)->Inv X pins U H { s with heap:=h',toks:=tk }:=fun {h' tk} kp=>
  I.frn (tk:=tk) hn ((Att.fr_all hn).grownK kp) ((T4 (g:=Att.noObjs s.heap) (L:=X.env.locals)).grown kp)
 have cM:∀{i:Nat}{v:Value},its.toArray[i]?=some v->i<ys.length/\RelV (ys.getD i .non) v:=fun {i v} e=>by
  have hi:i<its.length:=by rw[List.getElem?_toArray]at e;exact(NW.mp e).1
  have e':its.getD i Value.none=v:=by rw[List.getElem?_toArray]at e;rw[io,e];rfl
  exact⟨by lia,by rw[<-e'];exact rv.getD (by lia)⟩
 refine vB (bt:=Q7 ds) (I.ok.hd hc) pl.isList (by simp only[LL];lia) ?_ ?_
 . rintro i j vi vj _ Q' E' ⟨h',tk,rfl,kp⟩ pi pj hQ;obtain⟨i1,i2⟩:=cM pi;obtain⟨j1,j2⟩:=cM pj;have r1:=rd.getD (X:=X) i1;have r2:=rd.getD (X:=X) j1;have m1:ds.getD i (.int 0)∈ds:=A8 (by lia);have m2:ds.getD j (.int 0)∈ds:=A8 (by lia);have hs:=KB.mp (KB.mp eN _ m1) _ m2;obtain⟨b,dL⟩:=SI.mp hs;have eb:Q7 ds i j=b:=by unfold Q7;rw[dL];rfl
   rw[eb]at hQ;exact ke (IK kp) 20 (by show X.A.units+1+20<cLine;lia) (Ke du m1) (Ke du m2) (by have:=Ua m1;lia) r1 r2 i2 j2 dL X.prog X.w E' Q' hQ
 . intro v h' tk pv kp;simp only[LL]at pv;rw[show its.length=ds.length by lia]at pv;obtain⟨_,v2⟩:=cM pv;exact⟨_,H,IK kp,v2,q⟩
end
mutual
noncomputable def nkD:D->Option NK
 | .int n=>some (.i n)
 | .tup ds=>(Q6 ds).map .t
 |_=>none
noncomputable def Q6:List D->Option (List NK)
 | []=>some []
 |d::ds=>match nkD d,Q6 ds with
  |some k,some ks=>some (k::ks)
  |_,_=>none
end
mutual
theorem Pu{K:Frag}{H:Hp}:∀{d:D}{k:NK}{x:V},nkD d=some k->RD K H d x->NKr H k x
 | .int n,k,x,e,r=>by simp only[nkD,Option.some.injEq]at e;subst e;cases r.int;simp only[NKr]
 | .tup ds,k,x,e,r=>by simp only[nkD,OT]at e;obtain⟨ks,e,rfl⟩:=e;obtain⟨a,xs,rfl,ha,ra⟩:=r.tup;simp only[NKr];exact⟨a,xs,rfl,ha,Kd e ra⟩
 | .non,_,_,e,_=>by simp[nkD]at e
 | .bl _,_,_,e,_=>by simp[nkD]at e
 | .str _,_,_,e,_=>by simp[nkD]at e
 | .lst _,_,_,e,_=>by simp[nkD]at e
 | .dk _ _,_,_,e,_=>by simp[nkD]at e
 | .dt _ _,_,_,e,_=>by simp[nkD]at e
 | .dn _ _,_,_,e,_=>by simp[nkD]at e
 | .scr _,_,_,e,_=>by simp[nkD]at e
 | .exc _ _,_,_,e,_=>by simp[nkD]at e
theorem Kd{K:Frag}{H:Hp}:∀{ds:List D}{ks:List NK}{xs:List V},Q6 ds=some ks->RDs K H ds xs->NKrs H ks xs
 | [],ks,xs,e,r=>by simp only[Q6,Option.some.injEq]at e;subst e;simp only[RDs]at r;subst r;simp only[NKrs]
 |d::ds,ks,xs,e,r=>by
  simp only[RDs]at r;obtain⟨x,r,rfl,r1,r2⟩:=r;simp only[Q6]at e;split at e
  . rename_i k MS e1 e2;cases e;simp only[NKrs];exact⟨x,_,rfl,Pu e1 r1,Kd e2 r2⟩
  . cases e
end
noncomputable def putQ(qs:List (NK×Addr))(k:NK)(b:Addr):List (NK×Addr):=if k∈qs.map (·.1) then qs else qs++[(k,b)]
noncomputable def z3(qs:List (NK×Addr))(vs:List Value):List (NK×Addr×Value):=(qs.zip vs).map fun q=>(q.1.1,q.1.2,q.2)
theorem Hz:∀(qs:List (NK×Addr))(vs:List Value),qs.length=vs.length->(z3 qs vs).map (·.1)=qs.map (·.1)
 | [],_,_=>rfl
 |q::qs,[],h=>by simp at h
 |q::qs,v::vs,h=>by have:=Hz qs vs (by simpa using h);simp only[z3,OM,NL]at this⊢;rw[this]
theorem Pt(qs:List (NK×Addr))(vs:List Value)(h:qs.length=vs.length):(z3 qs vs).length=qs.length:=by simp only[z3,oQ,QL];lia
theorem vz(xs:List (NK×Addr×α))(k:NK):((xs.find? fun x=>decide (x.1=k)).map (·.2)).isSome=decide (k∈xs.map (·.1)):=by
 rw[Option.isSome_map,TU,List.find?_isSome,NP,OO];constructor
 . rintro⟨x,hx,e⟩;exact⟨x,hx,by simpa using e⟩
 . rintro⟨x,hx,e⟩;exact⟨x,hx,by simpa using e⟩
theorem jZ(qs:List (NK×Addr))(vs:List Value)(h:qs.length=vs.length)(k:NK)(b:Addr)(u:Value):storedH (z3 qs vs) k b u=z3 (putQ qs k b) (E9 (qs.map (·.1)) vs k u)/\(putQ qs k b).length=(E9 (qs.map (·.1)) vs k u).length:=by
 unfold storedH putQ E9;have e:=vz (z3 qs vs) k;rw[Hz qs vs h]at e;rw[show(atKey (z3 qs vs) k).isSome=decide (k∈qs.map (·.1)) from e];by_cases hk:k∈qs.map (·.1)
 . rw[ξ (decide_eq_true hk),ξ hk,ξ hk];have go:∀(qs:List (NK×Addr))(vs:List Value),qs.length=vs.length->(z3 qs vs).map (putAt k u)=z3 qs (List.zipWith (fun k' d'=>if k'=k then u else d') (qs.map (·.1)) vs)/\qs.length=(List.zipWith (fun k' d'=>if k'=k then u else d') (qs.map (·.1)) vs).length:=by
    intro qs;induction qs with
    |nil=>intro vs _;exact⟨rfl,rfl⟩
    |cons q qs ih=>
     intro vs h
     cases vs with
     |nil=>simp at h
     |cons v vs=>
      obtain⟨i1,i2⟩:=ih vs (by simpa using h)
      simp only[z3,OM,NL,List.zipWith_cons_cons,NM]at i1 i2⊢
      refine⟨?_,by lia⟩
      rw[i1]
      congr 1
      unfold putAt
      by_cases z:q.1=k
      . simp only[ξ z]
      . simp only[ψ z]
   exact go qs vs h
 . rw[ψ (by simpa using hk),ψ hk,ψ hk];refine⟨?_,by simp;lia⟩;unfold z3;rw[List.zip_append h,RH];rfl
section
variable {X:Cx}{pins:List (Addr×Obj)}{U:St}{H:Hp}{s:Shared}
theorem yx{ks:List NK}{k:NK}{v:V}{u:Value}(ru:RelV v u){xs:List V}{vs:List Value}(r:Vals xs vs):Vals (E9 ks xs k v) (E9 ks vs k u):=by
 unfold E9;split
 . have go:∀(ks:List NK)(xs:List V)(vs:List Value),Vals xs vs->Vals (List.zipWith (fun k' d'=>if k'=k then v else d') ks xs) (List.zipWith (fun k' d'=>if k'=k then u else d') ks vs):=by
    intro ks
    induction ks with
    |nil=>intro xs vs _;exact .nil
    |cons k' ks ih=>
     intro xs vs r
     cases r with
     |nil=>exact .nil
     |cons a1 a2=>
      simp only[List.zipWith_cons_cons]
      refine .cons ?_ (ih _ _ a2)
      split
      . exact ru
      . exact a1
   exact go ks xs vs r
 . exact r.append (.cons ru .nil)
theorem Sd(I:Inv X pins U H s)(e:H a=some (.ext (dnP a qs xs ob)))(n:DN H a qs):s.heap.get? a=some ob/\∃vs,Vals xs vs/\qs.length=vs.length/\Heap.DictOfH (deepKind X.prog X.w) s.heap a (z3 qs vs):=by obtain⟨p,_,_⟩:=(show ObjOk X.prog X.w H s.heap a (.ext (dnP a qs xs ob)) from I.hok a _ e);obtain⟨p3,vs,es,ep,p1,p2,p4,p5,p6⟩:=p;refine⟨p3,vs,p1,p2,ob,es,ep,p3,p4,p5,p6,fun x hx=>?_,by rw[Hz qs vs p2];exact n.1⟩;obtain⟨q,hq,rfl⟩:=OO.mp hx;have iP:=(List.of_mem_zip hq).1;exact⟨Dq I (n.2.1 _ iP).1 rfl,(n.2.1 _ iP).2⟩
end
def Nv:Bb:=fun o i v H Q=>∃(a:Addr)(qs:List (NK×Addr))(xs:List V)(k:NK)(b:Addr)(ob:Obj),o=.ref a/\i=.ref b/\H a=some (.ext (dnP a qs xs ob))/\DN H a qs/\NKr H k (.ref b)/\k.dep<=8/\qs.length<sizeLine/\∀nZ,Q (upd H a (.ext (dnP a (putQ qs k b) (E9 (qs.map (·.1)) xs k v) nZ)))
theorem y1s(hu:X.A.units+64<cLine):Yr X Nv:=by
 intro pins s U H o i v ov iv u Q I ro ri rv h;obtain⟨a,qs,xs,k,b,ob,rfl,rfl,e,n,hk,hd,hl,q⟩:=h;cases ro;cases ri;obtain⟨_,vs,p1,p2,dd⟩:=Sd I e n;have hz:(z3 qs vs).length<=sizeLine:=by rw[Pt qs vs p2];lia
 refine wpAny_setItem_heap (knd:=deepKind X.prog X.w) (hsz:=hz) (by show X.A.units+1+8<cLine;lia) ⟨Dq I hk rfl,hd⟩ dd fun h' AY hs=>?_
 obtain⟨e1,e2⟩:=jZ qs vs p2 k b u;rw[e1]at AY;obtain⟨o',es,ep,d1,d2,d3,d4,_⟩:=AY;refine⟨_,?_,q o'⟩;exact wq I (by rw[e];exact True.intro) hs ⟨o',d1⟩ ⟨⟨d1,_,es,ep,yx rv p1,e2,d2,d3,d4⟩,⟨o',d1⟩,dnP.stay⟩
def dSetN:D->D->D->Option D
 | .dn ks ds,.tup es,v=>match nkD (.tup es) with
  |some k=>if ks.length<100000/\k.dep<=8 then some (.dn (Gv ks k) (E9 ks ds k v)) else none
  |none=>none
 |_,_,_=>none
theorem vy{K:Frag}:Xv K dSetN Nv:=by
 intro H0 H a d d' dk dv y v Q s h0 ob rk rv hm k;cases d<;>simp only[dSetN]at hm<;>first |cases hm |skip
 cases dk<;>simp only[dSetN]at hm<;>first |cases hm |skip
 rename_i ks ds es;split at hm
 . rename_i kk iz;split at hm
   . rename_i hl;cases hm;simp only[OB]at ob;obtain⟨qs,xs,GA,hx,hk,n,rx⟩:=ob;have GB:=rk;obtain⟨b,ys,rfl,hb,rb⟩:=rk.tup;have nk:=Pu iz GB;have ah:qs.length=ks.length:=by rw[<-hk,oQ]
     have mono:∀a ys,H0 a=some (.tup ys)->H a=some (.tup ys):=fun c ys q=>s _ _ q
     refine⟨a,qs,xs,kk,b,GA,rfl,rfl,hx,n.tk mono,NKr.mono mono nk,hl.2,by rw[ah];exact Fh hl.1,fun nZ=>k _ ?_⟩;simp only[OB];refine⟨_,_,nZ,t9,?_,?_,by rw[hk];exact vR kk rv rx⟩
     . unfold putQ Gv;rw[hk];split
       . exact hk
       . rw[RH,hk];rfl
     . obtain⟨n1,n2,n3,n4⟩:=n;unfold putQ;split
       . exact⟨n1,n2,n3,n4⟩
       . rename_i hn;refine⟨?_,fun q hq=>?_,n3,?_⟩
         . rw[RH,NL,QR];exact List.nodup_append.mpr ⟨n1,by simp,fun x hx y hy e=>hn (by rw[PV.mp hy]at e;have e':x=kk:=e;rw[<-e'];exact hx)⟩
         . rcases OF.mp hq with z |z
           . exact n2 q z
           . rw[PV.mp z];exact⟨nk,hl.2⟩
         . have:=Fh hl.1;rw[θ,List.length_singleton];lia
   . cases hm
 . cases hm
section
variable {X:Cx}{EX:XW}{fr:Bool}{m:List Bool}{pos:Pos}{e:Expr}{fk fv:DE->R D}
theorem jY(hu:X.A.units+64<cLine)(ho:PE X o (G9 i))(hk:QE X EX false ix fk)(hv:QE X EX false e fv)
 (ha:∀v,assign (.Subscript o ix am) X.env v=(do
  let ov <-holding [v] (eval o X.env)
  let iv <-holding [v,ov] (eval ix X.env)
  standAt am
  holding [v,ov,iv] (setItem ov iv v)
  release [v,ov,iv] []):=by intro _;rfl) (hs:swapsWithSole [.Subscript o ix am] e pos.line X.env=pure false:=by rfl) (hw:swappedStores [.Subscript o ix am] e X.env=pure none:=by rfl)
 (h1:(assignEach [.Subscript o ix am] X.env).map (·.2)=[assign (.Subscript o ix am) X.env]:=by rfl):QS X EX fr (.Assign [.Subscript o ix am] e pos) (Bd dSetN i m fk fv):=⟨(qu hv.h (qw ho hk.h (y1s hu) ha) hs hw h1).imp fun _ _ _ q=>y0a vy q⟩
noncomputable def Gk:DE->R D:=fun _=>.ok (.dn [] [])
theorem pe_dnewN:PE X (.Dict [] [] pos) (fun _ H Q=>∀p ob,H p=none->(p==sysModules)=false->Q (.ref p) (upd H p (.ext (dnP p [] [] ob)))):=fun pins s U H Q I h=>
 wpAny_Dict_empty ⟨.ref s.heap.objs.size,_,I.laid (a:=s.heap.objs.size) (o:=.ext (dnP s.heap.objs.size [] [] { cls:=.type "dict",data:=.dict #[] })) (t':=s.toks) (fun _ _ q=>Ψ _ q) (ζ _) ⟨⟨Ξ _ rfl,[],#[],0,.nil,rfl,⟨rfl,rfl,rfl⟩,rfl,rfl⟩,⟨_,Ξ _ rfl⟩,dnP.stay⟩,rfl,h _ _ (I.hok.fresh (ζ _)) (beq_eq_false_iff_ne.mpr (PN (NI I.big)))⟩
theorem jX:QE X EX true (.Dict [] [] pos) Gk:=⟨pe_dnewN.imp fun U H Q ⟨sx,ρ,H0,s,e,h⟩ p ob hp hq=>h _ _ (.new s hp fun H' hH=>by simp only[OB];exact⟨[],[],ob,hH,rfl,⟨List.nodup_nil,fun q hq=>(by simp at hq),hq,OI _⟩,.nil⟩)⟩
end
def V6(i j:Int):Prop:=Builtin.Int.intBits i<=2 ^ 20/\Builtin.Int.intBits j<=2 ^ 20
instance (i j:Int):Decidable (V6 i j):=by unfold V6;infer_instance
def Dm:D->D->Option D:=dIC V6 fun i j=>.int (i * j)
theorem Kc{K:Frag}:OpD K false Dm (cIC V6 fun i j=>.int (i * j)):=W5 fun _ _ _=>.mkInt _
theorem op_mulG:OpR X (binaryOp .Mult) (rI V6 fun i j=>.int (i * j)):=opI fun _ _ _ _ _ _ _ hc q=>mul_int q (IntMulOk.of_bits hc.1 hc.2)
theorem Hy:OpR X (binaryOp .Mult) (cIC V6 fun i j=>.int (i * j)):=op_mulG.cIC
section
open PySem.SeqAt
open PySem.AutoSeq1 (wpAny_loadPart')
open PySem.MeetsSeq PySem.MeetsSeq2 PySem.MeetsSeq3
end
end L2
namespace L2
open PySem PySem.Spec PyProof.Rows
section
def Mw:D->Option Int->Option Int->Option D
 | .tup ds,lo,hi=>if ¬(HT.sIx ds.length 0 lo=0/\HT.sIx ds.length ds.length hi=ds.length) then some (.tup (x3 ds lo hi)) else none
 |_,_,_=>none
theorem jW{K:Frag}:SlD K false Mw (Ym K):=by
 intro H0 H x d z lo hi Q s r ho k;cases d<;>simp only[Mw]at ho<;>first |cases ho |skip
 split at ho<;>cases ho;rename_i hw;obtain⟨a,xs,rfl,ha,ra⟩:=r.tup;have hl:=ra.length;refine⟨a,xs,rfl,.of (s _ _ ha),by rw[<-hl];exact hw,fun p hp=>k _ _ (.val (Same.upd_new hp) (.new s hp) ?_)⟩;simp only[RD];exact⟨p,N3 xs lo hi,rfl,t9,(ra.cut lo hi).mono (Same.upd_new (s.none hp))⟩
end
noncomputable def C8(es:Array DictEntry)(ep:Nat):Obj:={ cls:=.type "dict",data:=.dict es ep }
noncomputable def G4(d:Addr)(i n ep:Nat):Obj:={ cls:=.type "dict_keyiterator",data:=.fields #[.ref d,.int i 0,.int n 0,.int ep 0] }
section
open PySem.SeqAt
open PySem.AutoSeq1 (wpAny_loadPart')
theorem jV(d:Addr)(es:Array DictEntry)(ep:Nat)(hd:(d==sysModules)=false) :
  Meets (Builtin.«dict.__iter__» ⟨[.ref d],[]⟩) (fun _ R s=>s.heap.get? d=some (C8 es ep)/\R (.ok (.ret (.ref s.heap.objs.size))) { s with heap:=s.heap.push (G4 d 0 es.size ep) }):=
 .of_wp fun prog w A R s h=>by
  obtain⟨hp,g,dr,tk,os⟩:=s;obtain⟨hl,h⟩:=h;unfold C8 at hl
  wp_walk using NJ hl
  exact⟨_,rfl,h⟩
theorem jU(it d:Addr)(es:Array DictEntry)(ep i:Nat)(hi:i<es.size) :
  Meets (Builtin.«dict_keyiterator.__next__» ⟨[.ref it],[]⟩) (fun _ R s=>s.heap.get? it=some (G4 d i es.size ep)/\s.heap.get? d=some (C8 es ep) /\
   R (.ok (.ret es[i].key)) { s with heap:=s.heap.update it (Obj.mapFields (·.setIfInBounds 1 (rawInt ((i:Int)+1)))) }):=
 .of_wp fun prog w A R s h=>by
  obtain⟨hp,g,dr,tk,os⟩:=s;obtain⟨hl,hd,h⟩:=h;unfold C8 at hd;unfold G4 at hl;have hsz:(((es.size:Int) != (es.size:Int))=true)=False:=by simp
  have GC:(((ep:Int) != (ep:Int))=true)=False:=by simp
  have fD:(if(i:Int)<0 then none else es[((i:Nat):Int).toNat]?)=some es[i]:=by rw[ψ (by lia)];simp[hi]
  wp_walk using NJ hl,NJ hd
  rw[fD]
  wp_walk using NJ hl,NJ hd
  exact⟨_,rfl,h⟩
theorem y1u(it d:Addr)(es:Array DictEntry)(ep i:Nat)(hi:es.size<=i) :
  Meets (Builtin.«dict_keyiterator.__next__» ⟨[.ref it],[]⟩) (fun A R s=>s.heap.get? it=some (G4 d i es.size ep)/\s.heap.get? d=some (C8 es ep)/\A.in1.handled=none /\
   ∀h' e,(∀c o,c≠it->s.heap.get? c=some o->h'.get? c=some o)->(∃o,h'.get? e=some o/\o.cls=.type "StopIteration")->R (.error (.ref e)) { s with heap:=h' }):=
 .of_wp fun prog w A R s h=>by
  obtain⟨hp,g,dr,tk,os⟩:=s;obtain⟨hl,hd,hh,h⟩:=h;unfold C8 at hd;unfold G4 at hl;have hsz:(((es.size:Int) != (es.size:Int))=true)=False:=by simp
  have GC:(((ep:Int) != (ep:Int))=true)=False:=by simp
  have fD:(if(i:Int)<0 then none else es[((i:Nat):Int).toNat]?)=none:=by rw[ψ (by omega)];simp[hi]
  wp_walk using NJ hl,NJ hd
  rw[fD]
  wp_walk using NJ hl,NJ hd
  unfold raiseNew;refine χ (wpAny_handled ?_);rw[hh];refine χ (ω (wpAny_throw (h _ _ (fun c o hc e=>?_) ⟨_,Ξ _ rfl,rfl⟩)));refine Ψ _ (Ψ _ ?_);rw[OP _ _ _ _ hc];exact e
end
section
variable {prog:Program}{w:World}{A:Around}{E:Value->Shared->Prop}{s:Shared}{d it:Addr}{es:Array DictEntry}{ep i:Nat}
theorem yw(lo:(d==sysModules)=false)(hm:s.heap.get? d=some (C8 es ep))(hQ:Q (.ref s.heap.objs.size) { s with heap:=s.heap.push (G4 d 0 es.size ep) }) :
  wpAny (model prog w) A (pyIter (.ref d)) Q E s:=
 wpAny_pyIter_slot ⟨_,hm,rfl⟩ F.slot_dict_iter (call_meets F.slot_dict_iter ⟨_,hm,rfl⟩ F.entry_dict_iter (F.args_dict_iter_1 _) (jV d es ep lo)
  ⟨hm,⟨"dict_keyiterator",_,⟨_,Ξ _ rfl,rfl⟩,RB.lookup,hQ⟩⟩)
theorem xw{h:Heap}(hi:h.get? it=some (G4 d i es.size ep)):(h.update it (Obj.mapFields (·.setIfInBounds 1 (rawInt ((i:Int)+1))))).get? it=some (G4 d (i+1) es.size ep):=by rw[OZ _ hi rfl];simp[G4,Obj.mapFields,rawInt]
theorem yu(aU:s.heap.get? it=some (G4 d i es.size ep))(hm:s.heap.get? d=some (C8 es ep))(hi:i<es.size)
  (hQ:Q (some es[i].key) { s with heap:=s.heap.update it (Obj.mapFields (·.setIfInBounds 1 (rawInt ((i:Int)+1)))) }):wpAny (model prog w) A (pyNext (.ref it)) Q E s:=by
 unfold pyNext
 exact χ (TZ (PC (name:=Str.ofString "__next__") ⟨_,aU,rfl⟩ RB
  (call_meets RB ⟨_,aU,rfl⟩ F.entry_dict_keyiterator_next (F.args_dict_keyiterator_next_1 _) (jU it d es ep i hi) ⟨aU,hm,ω hQ⟩)))
theorem xv(hh:A.handled=none)(aU:s.heap.get? it=some (G4 d i es.size ep))(hm:s.heap.get? d=some (C8 es ep))(hi:es.size<=i)
  (hQ:∀h',(∀c o,c≠it->s.heap.get? c=some o->h'.get? c=some o)->Q none { s with heap:=h' }):wpAny (model prog w) A (pyNext (.ref it)) Q E s:=by
 unfold pyNext
 refine χ (TZ (PC (name:=Str.ofString "__next__") ⟨_,aU,rfl⟩ RB
  (call_meets RB ⟨_,aU,rfl⟩ F.entry_dict_keyiterator_next (F.args_dict_keyiterator_next_1 _) (y1u it d es ep i hi) ⟨aU,hm,hh,fun h' e kp he=>?_⟩)))
 obtain⟨o,ho,hc⟩:=he
 exact χ (wpAny_isInstance (T:="StopIteration") (b:=true) ⟨o,ho,hc⟩ isSubtype_stop (ω (hQ h' kp)))
theorem zh(hh:A.handled=none)(I:Addr)(aM:d≠I) :
  Walks prog w A I [I,d] [I] es.size (fun i v=>∃e,es[i]?=some e/\v=e.key) (fun i h=>h.get? I=some (G4 d i es.size ep)/\h.get? d=some (C8 es ep)) where
 sub:=fun b hb=>by simp at hb;simp[hb]
 frame:=fun _ _ _ st kp=>⟨kp I (by simp) _ st.1,kp d (by simp) _ st.2⟩
 item:=fun i s Q E hi st k=>yu st.1 st.2 hi (k _ _ s.toks ⟨es[i],by simp[hi],rfl⟩ ⟨xw st.1,by rw[OP _ _ _ _ aM];exact st.2⟩ fun b o hb e=>by rw[OP _ _ _ _ (fun z=>hb (by simp[z]))];exact e)
 done:=fun s Q E st k=>xv hh st.1 st.2 (ζ _) fun h' kp=>k h' s.toks fun b o hb e=>kp b o (fun z=>hb (by simp[z])) e
 self:=fun _ _ _ _ st k=>wpAny_pyIter_keyiter ⟨_,st.1,rfl,rfl⟩ k
theorem xu(lo:(d==sysModules)=false):PySem.W.KdlSrc prog w "dict" d d es.size (fun i v=>∃e,es[i]?=some e/\v=e.key) (fun h=>h.get? d=some (C8 es ep)) where
 type:=fun _ hm=>⟨_,hm,rfl⟩
 there:=fun _ hm=>⟨Φ hm,Φ hm⟩
 keep:=fun _ _ hm kp=>kp d (.inl rfl) _ hm
 notList:=by decide
 notTuple:=by decide
 hint:=fun _ _ _ _ hm hq=>PySem.W.kdl_hint_dict ⟨_,hm,rfl⟩ hq
 iter:=fun _ _ hh hm=>⟨_,_,(fun _ _ hq=>yw lo hm hq),zh hh _ (NI (Φ hm)),Ξ _ rfl,Ψ _ hm⟩
end
mutual
noncomputable def t5:NK->D
 | .i n=>.int n
 | .t ks=>.tup (Bp ks)
noncomputable def Bp:List NK->List D
 | []=>[]
 |k::ks=>t5 k::Bp ks
end
mutual
theorem Nu{K:Frag}{H:Hp}:∀{k:NK}{x:V},NKr H k x->RD K H (t5 k) x
 | .i n,x,h=>by simp only[NKr]at h;subst h;simp only[t5,RD]
 | .t ks,x,h=>by simp only[NKr]at h;obtain⟨a,xs,rfl,ha,hs⟩:=h;simp only[t5,RD];exact⟨a,xs,rfl,ha,Ps hs⟩
theorem Ps{K:Frag}{H:Hp}:∀{ks:List NK}{xs:List V},NKrs H ks xs->RDs K H (Bp ks) xs
 | [],xs,h=>by simp only[NKrs]at h;subst h;simp only[Bp,RDs]
 |k::ks,xs,h=>by simp only[NKrs]at h;obtain⟨x,r,rfl,h1,h2⟩:=h;simp only[Bp,RDs];exact⟨x,r,rfl,Nu h1,Ps h2⟩
end
end L2
namespace L2
open PySem PySem.Spec PyProof.Rows
noncomputable def C0(l:Addr)(i:Nat):Obj:={ cls:=.type "tuple_iterator",data:=.fields #[.ref l,.int i 0] }
abbrev up1(i:Nat):Obj->Obj:=Obj.mapFields (·.setIfInBounds 1 (rawInt ((i:Int)+1)))
def y1v(i:Addr)(x:Value)(f:Obj->Obj)(A:Around)(s:Shared):Prop:=∀(prog:Program)(w:World)(E:Value->Shared->Prop)(Q:Value->Shared->Prop),Q x { s with heap:=s.heap.update i f }->wpAny (model prog w) A (Builtin.SmallTypes.nextOf (.ref i)) Q E s
def y1w(i:Addr)(A:Around)(s:Shared):Prop:=∀(prog:Program)(w:World)(E:Value->Shared->Prop)(Q:Value->Shared->Prop),
 (∀h' e,(∀c o,c≠i->s.heap.get? c=some o->h'.get? c=some o)->(∃o,h'.get? e=some o/\o.cls=.type "StopIteration")->E (.ref e) { s with heap:=h' })->wpAny (model prog w) A (Builtin.SmallTypes.nextOf (.ref i)) Q E s
section
open PySem.SeqAt
open PySem.AutoSeq1 (wpAny_loadPart')
theorem yt(it l:Addr)(items:Array Value)(i n:Nat)(dd:Option Addr)(sl:Array (Option Value))(x:Value)(hx:items[i]?=some x) :
  Meets (Builtin.«tuple_iterator.__next__» ⟨[.ref it],[]⟩) (fun _ R s=>s.heap.get? it=some (C0 l i)/\s.heap.get? l=some { cls:=.type "tuple",dict:=dd,data:=.seq items n,slots:=sl }/\R (.ok (.ret x)) { s with heap:=s.heap.update it (up1 i) }):=
 .of_wp fun prog w A R s h=>by
  obtain⟨hp,g,dr,tk,os⟩:=s;obtain⟨hl,hd,h⟩:=h;unfold C0 at hl;have fD:items[((i:Nat):Int).toNat]?=some x:=by simpa using hx
  wp_walk using NJ hl,NJ hd
  rw[fD]
  wp_walk using NJ hl,NJ hd
  exact⟨_,rfl,h⟩
theorem xt(it l:Addr)(items:Array Value)(i n:Nat)(dd:Option Addr)(sl:Array (Option Value))(hx:items[i]?=none) :
  Meets (Builtin.«tuple_iterator.__next__» ⟨[.ref it],[]⟩) (fun A R s=>s.heap.get? it=some (C0 l i)/\s.heap.get? l=some { cls:=.type "tuple",dict:=dd,data:=.seq items n,slots:=sl }/\A.in1.handled=none /\
   ∀h' e,(∀c o,c≠it->s.heap.get? c=some o->h'.get? c=some o)->(∃o,h'.get? e=some o/\o.cls=.type "StopIteration")->R (.error (.ref e)) { s with heap:=h' }):=
 .of_wp fun prog w A R s h=>by
  obtain⟨hp,g,dr,tk,os⟩:=s;obtain⟨hl,hd,hh,h⟩:=h;unfold C0 at hl;have fD:items[((i:Nat):Int).toNat]?=none:=by simpa using hx
  wp_walk using NJ hl,NJ hd
  rw[fD]
  wp_walk using NJ hl,NJ hd
  unfold raiseNew;refine χ (wpAny_handled ?_);rw[hh];refine χ (ω (wpAny_throw (h _ _ (fun c o hc e=>?_) ⟨_,Ξ _ rfl,rfl⟩)));refine Ψ _ (Ψ _ ?_);rw[OP _ _ _ _ hc];exact e
theorem yr{it l:Addr}{items:Array Value}{i:Nat}{x:Value}{A:Around}{s:Shared}(aU:s.heap.get? it=some (C0 l i))(hl:s.heap.IsTuple l items)(hx:items[i]?=some x):y1v it x (up1 i) A s:=fun prog w E Q q=>by obtain⟨⟨cl,dd,da,sl⟩,ho,hc,n,hd⟩:=hl;simp only at hc hd;subst hc hd;unfold Builtin.SmallTypes.nextOf;exact χ (PC (name:=Str.ofString "__next__") ⟨_,aU,rfl⟩ SL (call_meets SL ⟨_,aU,rfl⟩ F.entry_tuple_iterator_next (F.args_tuple_iterator_next_1 _) (yt it l items i n dd sl x hx) ⟨aU,ho,ω q⟩))
theorem xr{it l:Addr}{items:Array Value}{i:Nat}{A:Around}{s:Shared}(hh:A.handled=none)(aU:s.heap.get? it=some (C0 l i))(hl:s.heap.IsTuple l items)(hx:items[i]?=none):y1w it A s:=fun prog w E Q q=>by obtain⟨⟨cl,dd,da,sl⟩,ho,hc,n,hd⟩:=hl;simp only at hc hd;subst hc hd;unfold Builtin.SmallTypes.nextOf;exact χ (PC (name:=Str.ofString "__next__") ⟨_,aU,rfl⟩ SL (call_meets SL ⟨_,aU,rfl⟩ F.entry_tuple_iterator_next (F.args_tuple_iterator_next_1 _) (xt it l items i n dd sl hx) ⟨aU,ho,hh,q⟩))
end
end L2
namespace L2
open PySem PySem.Spec PyProof.Rows
section
open PySem.SeqAt
open PySem.AutoSeq1 (wpAny_loadPart')
end
end L2
namespace L2
open PySem PySem.Spec PyProof.Rows
section
open PySem.SeqAt
open PySem.AutoSeq1 (wpAny_loadPart')
end
section
open PySem.SeqAt
open PySem.AutoSeq1 (wpAny_loadPart')
end
end L2
namespace L2
open PySem PySem.Spec PyProof.Rows
def Bg(g:Int->Int->Int)(i:Nat)(m:List Bool)(fv:DE->R D):DS->SR:=fun ρ=>match ρ[i]? with
 |some (.im (.int a))=>(fv (vis m ρ)).toS fun d=>match d with
  | .int b=>.nx (ρ.set i (.im (.int (g a b))))
  |_=>.st
 |_=>.st
section
variable {X:Cx}{K:Frag}{EX:XW}{fr:Bool}{m:List Bool}{De:Ends}{U:St}{H:Hp}
theorem jT{g:Int->Int->Int}{i:Nat}{fv:DE->R D}(h:TSd K EX fr (Bg g i m fv) De U H):Yq i (TEd K EX false fv) (ipI g) De U H:=by
 obtain⟨Hc,Hb,H0,ρ,sb,I,h⟩:=h;unfold Bg at h;split at h
 . rename_i a q;obtain⟨v,e1,rv⟩:=I.im i (.int a) q;cases rv.int;refine⟨.int a,e1,?_⟩;rw[SK.toS]at h;refine I.te sb h fun d h y H1 nu I1 ap=>?_
   split at h
   . rename_i b;cases ap.rd.int;rw[zu,wI]at I1;exact⟨a,b,rfl,rfl,h _ H1 nu (I1.put (fr:=false) (d:=.int (g a b)) (v:=.int (g a b)) (by unfold Apt;rw[ψ η];exact .mkInt _) i)⟩
   . exact h.elim
 . exact h.elim
theorem Pr{g:Int->Int->Int}{i:Nat}{x:Str}{e:Expr}{op:Operator}{pos cH:Pos}{fv:DE->R D}(hp:PIp X op (ipI g))(hN:X.N.Nodup)(hi:X.N[i]?=some x)(hx:Loc X.env.scope x)(hv:QE X EX false e fv)(hf:X.fn x=true\/X.env.scope.names.lookup x=some .local:=by first |exact .inl rfl |exact .inr rfl |assumption) :
 QS X EX fr (.AugAssign (.Name x cH) op e pos) (Bg g i m fv):=⟨(qr hN hi hx hv.h hp hf).imp fun _ _ _ q=>jT q⟩
end
def P7(i j:Int):Prop:=0<j/\j.natAbs<2 ^ 9000
noncomputable instance (i j:Int):Decidable (P7 i j):=Classical.propDecidable _
theorem y1x(h:P7 i j):Builtin.divisionGoesByPylong i j=false:=by
 unfold Builtin.divisionGoesByPylong;have h0:j.natAbs≠0:=by have:=h.1;lia
 have h2:j.natAbs.log2<9000:=(Nat.log2_lt h0).mpr h.2;have h3:(j==0)=false:=by simp;have:=h.1;lia
 simp only[h3,OD,PY];rw[NO (by lia),Bool.false_and]
def dDivH:D->D->Option D:=dIC P7 fun i j=>.int (i / j)
section
variable {X:Cx}{K:Frag}
theorem op_fdivH:OpR X (binaryOp .FloorDiv) (rI P7 fun i j=>.int (i / j)):=opI fun i j _ _ _ _ _ hc q=>by have h1:(0:Int)<j:=hc.1;exact floordiv_int (by lia) (by rw[Int.fdiv_eq_ediv_of_nonneg i (by lia)];exact q) (.inl (y1x hc))
theorem vx:OpR X (binaryOp .FloorDiv) (cIC P7 fun i j=>.int (i / j)):=op_fdivH.cIC
theorem vw:OpD K false dDivH (cIC P7 fun i j=>.int (i / j)):=W5 fun _ _ _=>.mkInt _
end
section
open PySem.SeqAt
open PySem.AutoSeq1 (wpAny_loadPart')
end
end L2
namespace L2
open PySem PySem.Spec PyProof.Rows
theorem jS(I:Inv X pins U H s)(e:H a=some (.ext (dnP a qs xs ob)))(n:DN H a qs) :
  ∃vs es ep,ob=C8 es ep/\s.heap.get? a=some (C8 es ep)/\Vals xs vs/\qs.length=vs.length/\es.toList=(z3 qs vs).map dnE:=by
 obtain⟨g0,vs,p1,p2,o,es,ep,d1,d2,d3,d4,_⟩:=Sd I e n
 rw[g0]at d1;cases d1
 have eo:ob=C8 es ep:=by obtain⟨cl,di,da,sl⟩:=ob;obtain⟨q1,q2,q3⟩:=d2;simp only at q1 q2 q3 d3;subst q1 q2 q3 d3;rfl
 exact⟨vs,es,ep,eo,by rw[g0,eo],p1,p2,d4⟩
theorem Cb{K:Frag}{H0:Hp}:∀{qs:List (NK×Addr)},(∀q∈qs,NKr H0 q.1 (.ref q.2))->RDs K H0 (qs.map fun q=>t5 q.1) (qs.map fun q=>V.ref q.2)
 | [],_=>.nil
 |q::qs,h=>.cons (Nu (h q (by simp))) (Cb fun p hp=>h p (by simp[hp]))
def Keep(h h':Heap):Prop:=∀b o,h.get? b=some o->h'.get? b=some o
theorem Keep.trans(x:Keep a b)(y:Keep b c):Keep a c:=fun q o e=>y q o (x q o e)
theorem Keep.tuple(x:Keep h h')(t:h.IsTuple a its):h'.IsTuple a its:=let ⟨o,e,c⟩:=t;⟨o,x a o e,c⟩
theorem Keep.list(x:Keep h h')(t:h.IsList a its):h'.IsList a its:=let ⟨o,e,c⟩:=t;⟨o,x a o e,c⟩
section
open HT
open PySem.SeqAt
open PySem.AutoSeq1 (wpAny_loadPart')
open PySem.MeetsSeq PySem.MeetsSeq2 PySem.MeetsSeq3
end
end L2
namespace L2
open PySem PySem.Spec PyProof.Rows
structure FnAt(K:Frag)(x:Str)(st:Stmt)(f:Addr):Prop where
 ns:nsIn K mainGlobals x=some (some (.ref f))
 fn:∃fd,Fun K x x st f fd
section
variable {P:Program}{w:World}{K:Frag}{mg:Str->Option Value}{base h:Heap}{x:Str}{st:Stmt}{f:Addr}{ps:List Str}{k:Nat}{sp:Sp}
def BP:List Str->(List Value->Prop)->Prop
 | [],P=>P []
 |_::r,P=>∀u,BP r fun us=>P (u::us)
theorem BP.all(h:BP ps Q)(us:List Value)(hl:us.length=ps.length):Q us:=by
 induction ps generalizing Q us with
 |nil=>rw[List.eq_nil_of_length_eq_zero hl];exact h
 |cons p r ih=>
  cases us with
  |nil=>cases hl
  |cons u us=>exact ih (h u) us (Nat.succ.inj hl)
theorem got(X:K.In h)(G:h.Ns mainGlobals mg)(A:FnAt K x st f)(ok:∀{fd},Fun K x x st f fd->FnOk P w K mg base (CX1 P w) k f fd ps sp)
  (hb:∀(kV doc pm:Value)(an:Option Addr)(cdv ct:Value),BP ps fun us=>bindArgs (PySem.W.fnOf x x (j4 st) (i9 st) (g3 st) .none kV doc pm an cdv ct) ⟨us,[]⟩=pure (ps.zip us):=by (repeat intro _);exact rfl):g4 P w K mg base x ps k sp:=by
 obtain⟨fd,F⟩:=A.fn
 exact⟨f,fd,ok F,F.binds fun kV doc pm an cdv ct=>(hb kV doc pm an cdv ct).all,mg_of X G A.ns,F.kp⟩
theorem fsc(a:sc.kind=.function:=by rfl)(b:sc.isCoroutine=false:=by rfl)(c:sc.isGenerator=false:=by rfl)(d:N.Nodup:=by decide +kernel)(e:N.take ps.length=ps:=by rfl)
 (f:∀x∈ps,sc.names.lookup x=some .local\/sc.names.lookup x=some .cell:=by decide +kernel) (g:∀y∈sc.names,y.2≠.free:=by decide +kernel):FnScope N ps sc:=⟨a,b,c,d,e,f,g⟩
end
section
variable {X:Cx}{EX:XW}{fr cE:Bool}{a b e:Expr}{f g:DE->R D}{pos p:Pos}{m:List Bool}{j:Nat}
theorem qI(hr:Room j X.A)(ha:QE X EX false a f)(hb:QE X EX false b g)(hs:Kt b:=by exact fun _ _=>rfl):QE X EX false (.Subscript a b pos) (eOp dIx f g):=y4n (y4m hr.units) y0l ha hb hs
theorem qL(hm:X.mg "len"=none)(ha:QE X EX false e f)(hg:Gl X "len":=by rfl)(he:starEach [e] X.env=(false,eval e X.env)::starEach [] X.env:=by rfl)(hpl:(backTo pos (starEach [] X.env)).any (·.1)=false:=by rfl) :
 QE X EX false (.Call (.Name "len" p) [e] [] pos) (eCB C3 (d7 f d9)):=C4 kI kH hg hm PySem.boot_len (d8 ha e7 he) (he:=he) (hpl:=hpl)
theorem sA(i:Nat)(hN:X.N.Nodup)(he:QE X EX cE e f)(hi:X.N[i]?=some x:=by rfl)(hx:Loc X.env.scope x:=by first |exact .inl rfl |exact .inr rfl)(hs:swapsWith e (some (.Name x cH)) pos.line X.env=pure false:=by rfl)(hf:X.fn x=true\/X.env.scope.names.lookup x=some .local:=by exact .inl rfl) :
 QS X EX fr (.Assign [.Name x cH] e pos) (g7 cE i m f):=y0w hN hi hx he hs hf
theorem tE(hr:Room j X.A)(ha:QE X EX false a f)(hb:QE X EX false b g)(hm:behindInMarks .Eq b=false):QT X EX (.Compare a [.Eq] [b] pos) (i7 asB (eOp dEq f g)):=N9 (W3 hr.units) W2 ha hb hm
theorem tN(hr:Room j X.A)(ha:QE X EX false a f)(hb:QE X EX false b g)(hm:behindInMarks .NotEq b=false):QT X EX (.Compare a [.NotEq] [b] pos) (i7 asB (eOp dNe f g)):=N9 (Oh hr.units) Og ha hb hm
end
def L9(fr:Bool)(n k:Nat)(g:(List D->R D)->DS->SR):Nat->List D->R D
 | 0=>fun _=>.st
 |d+1=>mOf fr n k (g (L9 fr n k g d))
theorem Tz{fr:Bool}{n k:Nat}{g:(List D->R D)->DS->SR}:∀(d:Nat)(ds:List D),ds.length≠n->L9 fr n k g d ds=.st
 | 0,_,_=>rfl
 |_+1,ds,h=>Kl ds h
section
variable {X:Cx}{EX:XW}{x:Str}{e:Expr}{es:List Expr}{fs:DE->R (List D)}{p pos:Pos}{fr:Bool}
theorem Nt(hl:∀ds,ds.length≠n->M ds=.st)(L:Lnd X EX)(G:g4 X.prog X.w X.K X.mg X.base x ps k (spD X.K X.mg fr M n))(hr:Room j X.A)(hg:Gl X x)(ha:QA X EX (e::es) fs)(eg:k<=j:=by omega)(aF:(x==("__debug__":Str))=false:=by decide)
  (he:starEach (e::es) X.env=(false,eval e X.env)::starEach es X.env:=by rfl) (hpl:(backTo pos (starEach es X.env)).any (·.1)=false:=by rfl):QE X EX fr (.Call (.Name x p) (e::es) [] pos) (g6 M fs):=
 ⟨(Sx G L.on hr hg ha.h eg aF he hpl).imp fun _ _ _ q=>Qo hl (fun x H z=>by obtain⟨C,hC⟩:=L.nm x H z;exact⟨C,hC,fun od xf=>⟨x,z,hC,xf⟩⟩) q⟩
end
theorem vv{P:Program}{w:World}{K:Frag}{mg:Str->Option Value}{base h:Heap}{x:Str}{st:Stmt}{f:Addr}{ps:List Str}{b n k:Nat}{fr:Bool}{g:(List D->R D)->DS->SR}(X:K.In h)(G:h.Ns mainGlobals mg)(A:FnAt K x st f)
  (ok:∀{d:Nat},g4 P w K mg base x ps (b+d) (spD K mg fr (L9 fr n k g d) n)->∀fd,Fun K x x st f fd->FnOk P w K mg base (CX1 P w) (b+d+1) f fd ps (spD K mg fr (L9 fr n k g (d+1)) n)) (d:Nat)
  (hb:∀(kV doc pm:Value)(an:Option Addr)(cdv ct:Value),BP ps fun us=>bindArgs (PySem.W.fnOf x x (j4 st) (i9 st) (g3 st) .none kV doc pm an cdv ct) ⟨us,[]⟩=pure (ps.zip us):=by (repeat intro _);exact rfl):g4 P w K mg base x ps (b+d) (spD K mg fr (L9 fr n k g d) n):=by
 induction d with
 |zero=>exact got X G A (fun {fd} _=>⟨fun vs H Q E ⟨_,_,_,_,_,z⟩=>z.elim,fun _ _ _ _ _ _ _ _ _ _ _ _ _ ⟨_,_,_,_,_,z⟩=>z.elim⟩) hb
 |succ d ih=>exact got X G A (fun {fd} F=>ok ih fd F) hb
section
open PySem.AutoSeq1 (wpAny_loadPart')
abbrev enO(i:Addr):Obj:={ cls:=.type "enumerate",data:=.fields #[.none,.bool false,.ref i,rawInt 0,.none,.none] }
abbrev eH(h:Heap)(l:Addr):Heap:=(h.push (C0 l 0)).push (enO h.objs.size)
theorem zG(l:Addr)(items:Array Value)(ot:Obj)(hc:ot.cls=.type "tuple")(n:Nat)(hd:ot.data=.seq items n) :
  Meets (Builtin.«enumerate.__new__» ⟨[.type "enumerate",.ref l],[]⟩) (fun _ R s=>s.heap.get? l=some ot/\R (.ok (.ret (.ref (s.heap.push (C0 l 0)).objs.size))) { s with heap:=eH s.heap l }):=by
 refine .of_wp fun prog w A R s z=>?_
 have se:=sub_enumerate
 have tt:s.heap.IsTuple l items:=⟨_,z.1,hc,n,hd⟩
 have k:=z.2
 have t1:=z.1
 obtain⟨oc,od,nV,osl⟩:=ot
 dsimp only at hc hd
 subst hc hd
 obtain⟨hp,g,dr,tk,os⟩:=s
 wp_walk using NJ t1
 refine wpAny_stack_any fun fr=>?_
 refine ω ?_
 split
 . rename_i c _ _ _ _ _;generalize (c==Value.type "enumerate")=bb;cases bb<;>(wp_walk using NJ t1,wpAny_pyIter_tuple tt;exact⟨_,rfl,k⟩)
 . wp_walk using NJ t1,wpAny_pyIter_tuple tt
   exact⟨_,rfl,k⟩
theorem zg{prog:Program}{w:World}{A:Around}{E:Value->Shared->Prop}{s:Shared}{l:Addr}{items:Array Value}{Q:Value->Shared->Prop}(hL:s.heap.IsTuple l items)
  (h:∀h',IsEnum h' (s.heap.objs.size+1) s.heap.objs.size 0 .none->h'.get? s.heap.objs.size=some (C0 l 0)->h'.objs.size=s.heap.objs.size+2->(∀b o,s.heap.get? b=some o->h'.get? b=some o)->Q (.ref (s.heap.objs.size+1)) { s with heap:=h' }):wpAny (model prog w) A (call (.type "enumerate") [.ref l]) Q E s:=by
 obtain⟨ot,hl,hc,n,hd⟩:=hL
 have z1:(s.heap.push (C0 l 0)).objs.size=s.heap.objs.size+1:=Heap.size_push ..
 have e2:(eH s.heap l).get? (s.heap.objs.size+1)=some (enO s.heap.objs.size):=z1 ▸ Ξ (s.heap.push (C0 l 0)) (o:=enO s.heap.objs.size) rfl
 have e1:(eH s.heap l).get? s.heap.objs.size=some (C0 l 0):=Ψ _ (Ξ _ rfl)
 refine callType_new F.called_enumerate (by decide) (F.typeCall_enumerate_1 _) (F.newCall_enumerate_1 _) (fun v=>F.args_object_init_2 v _) F.entry_enumerate_new (zG l items ot hc n hd) ⟨hl,?_⟩
 show _/\_
 rw[z1]
 exact⟨⟨_,e2,rfl⟩,h _ e2 e1 (by rw[Heap.size_push,z1]) fun b o q=>Ψ _ (Ψ _ q)⟩
theorem Lo(hh:A.handled=none)(it l:Addr)(aM:l≠it)(items:Array Value) :
  Draws prog w A it [it,l] items.size (fun i v=>items[i]?=some v) (fun i h=>h.get? it=some (C0 l i)/\h.IsTuple l items) where
 live:=fun _ _ st=>⟨_,st.1⟩
 frame:=fun _ _ _ st hk=>⟨hk it (by simp) _ st.1,let ⟨o,ho,r⟩:=st.2;⟨o,hk l (by simp) o ho,r⟩⟩
 item:=fun i s Q E hi st hQ=>by refine yr st.1 st.2 (x:=items[i]) (by simp[hi]) prog w E Q ?_;have hs:Heap.SameBut it s.heap (s.heap.update it (up1 i)):=RX ..;refine hQ _ _ s.toks (by simp[hi]) ⟨?_,let ⟨o,ho,r⟩:=st.2;⟨o,(hs.2 l aM).trans ho,r⟩⟩ hs;rw[OZ _ st.1 rfl];simp[C0,Obj.mapFields,rawInt]
 done:=fun s Q E st hE=>xr hh st.1 st.2 (by simp) prog w E Q fun h' e k hs=>hE h' e (fun b o hb q=>k b o hb q) hs
end
theorem xq{prog:Program}{w:World}{A:Around}{E:Value->Shared->Prop}{s:Shared}{e it:Addr}{fp:List Addr}{n i:Nat}{P:Nat->Value->Prop}{St:Nat->Heap->Prop}{Q:Option Value->Shared->Prop}(D:Draws prog w A.in1 it fp n P St)(cu:e≠it)(GD:e∉fp)(hi:i<n)
  (he:∃aW,IsEnum s.heap e it i aW) (h1:St i s.heap)
  (q:∀T ag h' tk,(∃t x,P i x/\ag=#[.int i t,x])->s.heap.objs.size<=T->IsTp h' T ag->((∃x,IsEnumOut h' e it ((i:Int)+1) x T)/\St (i+1) h'/\T≠e/\T≠it)->(∀c o,c∉[e,it]->s.heap.get? c=some o->h'.get? c=some o)->Q (some (.ref T)) { s with heap:=h',toks:=tk }) :
  wpAny (model prog w) A (pyNext (.ref e)) Q E s:=by
 obtain⟨aW,he⟩:=he
 have gt:∀{c:Addr}{o:Obj},s.heap.get? c=some o->s.heap.objs.size≠c:=fun e z=>absurd (Φ e) (by rw[z];exact PB _)
 have n1:s.heap.objs.size≠it:=by obtain⟨_,e⟩:=D.live _ _ h1;exact gt e
 refine wpAny_pyNext_enum_itemD D he h1 hi cu GD fun x h' tk p r1 r2 r3 _ kp=>?_
 have kl:∀c o,c∉[e,it]->s.heap.get? c=some o->h'.get? c=some o:=fun c o hc e=>by simp only[tB,RA,or_false,not_or]at hc;exact kp c o hc.1 hc.2 e
 exact q s.heap.objs.size #[.int i tk,x] h' (tk+1) ⟨_,_,p,rfl⟩ (ζ _) (.mk' r3) ⟨⟨_,r1⟩,r2,gt he,n1⟩ kl
theorem zf{P:Program}{w:World}{K:Frag}{bq:List Expr}{k:Nat}{pos:Pos}{e it l:Addr}{xs:List V}(cu:e≠it)(bS:l≠e)(dH:l≠it) :
  Turn P w K (.Tuple bq k pos) (ItP (fun H=>Rd H l (.tup xs)) ((A9 0 xs.length).zip xs)) [e,it] e (fun i h=>(∃aW,IsEnum h e it i aW)/\h.get? it=some (C0 l i)) where
 mem:=by simp
 obj:=fun i h ⟨⟨aW,he⟩,h1⟩ c hc=>by
  have aT:c=e\/c=it:=by simpa using hc
  rcases aT with rfl |rfl
  . exact⟨_,he,fun v z=>by cases z⟩
  . exact⟨_,h1,fun v z=>by cases z⟩
 keep:=fun i h h' ⟨⟨aW,he⟩,h1⟩ kp=>⟨⟨aW,kp e (by simp) _ he⟩,kp it (by simp) _ h1⟩
 item:=by
  intro X hP hw hK hc i pins s U H E I hf st hg;subst hP hw hK;obtain⟨hS,aD⟩:=hg;obtain⟨he,h1⟩:=st;obtain⟨its,r,p1,z1⟩:=I.tuple (.inl hS);have W:=WalksT.enumerateD (prog:=X.prog) (w:=X.w) (A:=X.A) (Lo (A:=X.A.in1) (I.ok.hd hc) it l dH its.toArray) e cu (by simp[cu,PN bS]) (by simp);have DD:=Lo (prog:=X.prog) (w:=X.w) (A:=X.A.in1) (I.ok.hd hc) it l dH its.toArray;have mX:=r.length;have mY:i<xs.length:=by rw[QL,T0]at aD;lia
  have mZ:i<its.toArray.size:=by simp only[LL];lia
  refine xq DD cu (by simp[cu,PN bS]) mZ he ⟨h1,p1⟩ fun T ag h' tk ng hT ht hM hk=>⟨.ref T,rfl,?_⟩
  refine W.go bq k pos i T _ _ _ hM fun ck cW eL=>?_
  obtain⟨t,x,hx,rfl⟩:=ng;obtain⟨a,ea⟩:∃a,xs[i]?=some a:=⟨xs[i],by simp⟩;obtain⟨u1,q1,nh⟩:=r.get ea;have bJ:its[i]?=some x:=by simpa using hx
  rw[q1]at bJ;cases bJ;obtain⟨oT,nj,nq,nT,bK⟩:=ht;have gl:IsTp ck T ([.int (i:Nat) t,x]:List Value).toArray:=⟨oT,eL T oT (W.apart i T _ hM) nj,nq,nT,bK⟩;have sub:∀c∈[e,it],B0 X pins H c:=fun c aT=>hf c aT
  have I2:=I.turnedT (tk:=tk) (xs:=[.int (i:Nat),a]) (its:=[.int (i:Nat) t,x]) sub (fun c o gK z=>eL c o gK (hk c o gK z)) hT gl (.cons ⟨_,rfl⟩ (.cons nh .nil)) Qs;have HT:H T=none:=I.hok.fresh hT;refine⟨.ref T,upd H T (.tup [.int (i:Nat),a]),I2,rfl,⟨T,.int (i:Nat),a,rfl,HT,rfl,?_⟩,⟨cW.1,cW.2.1⟩,fun c aT=>?_⟩
  . rw[PP];refine⟨?_,ea⟩;rw[Ks 0 _ _ mY];simp
  . rw[i6]
    . exact(hf c aT).1
    . intro ec;have hh:∃o,s.heap.get? c=some o:=by
       have gm:c=e\/c=it:=by simpa using aT
       obtain⟨aW,dG⟩:=he;rcases gm with z |z<;>subst z
       . exact⟨_,dG⟩
       . exact⟨_,h1⟩
      obtain⟨o,ho⟩:=hh;exact absurd (NH (Φ ho) hT) (by rw[ec];exact PB _)
 done:=by
  intro X hP hw hK hc i pins s U H E I hf st hg;subst hP hw hK;obtain⟨hS,gn⟩:=hg;obtain⟨he,h1⟩:=st;obtain⟨its,r,p1,z1⟩:=I.tuple (.inl hS);have W:=WalksT.enumerateD (prog:=X.prog) (w:=X.w) (A:=X.A) (Lo (A:=X.A.in1) (I.ok.hd hc) it l dH its.toArray) e cu (by simp[cu,PN bS]) (by simp);have mX:=r.length;have hi:its.toArray.size=i:=by rw[QL,T0]at gn;simp only[LL];lia
  rw[<-hi]at h1 he;exact W.done s _ _ ⟨he,h1,p1⟩ fun h' tk hk=>⟨rfl,I.turnedN (fun c aT=>hf c aT) (fun b o hb=>hk b o (fun z=>hb z))⟩
 self:=fun A i s Q E st h=>by obtain⟨⟨aW,he⟩,_⟩:=st;exact wpAny_pyIter_enum he h
section
variable {X:Cx}{a:Expr}{ta:TA}{p pos am:Pos}{bq:List Expr}{k:Nat}{EX:XW}{fs:DE->R (List D)}
def jR(ta:TA):TI:=fun U H R=>ta U H fun vs H1=>match vs with
 | [.ref l]=>∃xs,Rd H1 l (.tup xs)/\R (ItP (fun H=>Rd H l (.tup xs)) ((A9 0 xs.length).zip xs)) H1
 |_=>False
theorem xn(hg:Gl X "enumerate")(hm:X.mg "enumerate"=none)(ha:PA X [a] ta)(hs:starEach [a] X.env=[(false,eval a X.env)]:=by rfl) :
  PI X (.Tuple bq k am) (.Call (.Name "enumerate" p) [a] [] pos) (jR ta):=by
 intro pins s U H R I h
 refine Call_ (S9 I hg hm boot_enumerate (QP (thn (ha pos pins s U H _ I h) fun us s1 ⟨vs,H1,I1,r1,q1⟩=>?_) hs rfl))
 dsimp only at q1
 split at q1
 . rename_i l;obtain⟨xs,e1,q⟩:=q1;obtain⟨u,rfl,ru⟩:=w8 r1;cases ru;obtain⟨pB,EM,p1,_⟩:=I1.tuple (.inl e1);have gL:l<s1.heap.objs.size:=by obtain⟨o,ho,_⟩:=id p1;exact Φ ho
   refine zg p1 fun h' he hi hsz hk=>?_
   refine wpAny_pyIter_enum he ⟨s1.heap.objs.size+1,[s1.heap.objs.size+1,s1.heap.objs.size],_,_,H1,rfl,I1.kept (t':=s1.toks) hk,zf (Nat.succ_ne_self _) (NI (UF gL)) (NI gL),⟨⟨_,he⟩,hi⟩,fun c hc=>?_,q⟩;have aT:s1.heap.objs.size<=c:=by
    have:c=s1.heap.objs.size+1\/c=s1.heap.objs.size:=by simpa using hc
    rcases this with z |z<;>rw[z]<;>first |exact Nat.le_add_right _ _ |exact ζ _
   exact I1.fpOk aT (I1.hok.fresh aT)
 . exact q1.elim
def Mv(fs:DE->R (List D)):DE->R (List D):=fun ρ=>(fs ρ).bind fun ds=>R.of (match ds with
 | [.tup es]=>some (((zD 0 es.length).zip es).map fun p=>D.tup [p.1,p.2])
 |_=>none)
theorem y1z(hg:Gl X "enumerate")(hm:X.mg "enumerate"=none)(ha:QA X EX [a] fs)(hs:starEach [a] X.env=[(false,eval a X.env)]:=by rfl) :
  QI X EX false (.Tuple bq k am) (.Call (.Name "enumerate" p) [a] [] pos) (Mv fs):=⟨(xn hg hm ha.h hs).imp fun U H Q ⟨sx,ρ,H0,s,e,h⟩=>by
 unfold Mv at h
 rw[Rk.bind]at h
 refine TAd.go sx s e h fun ds h vs H1 aq s1 e1 r1=>?_
 obtain⟨es,hd,h⟩:=h.of
 split at hd<;>first |cases hd |skip
 obtain⟨x,rfl,q1⟩:=r1.uno
 obtain⟨l,xs,rfl,hl,rl⟩:=q1.tup
 refine⟨xs,.inl (e1.2.1 _ _ hl),h _ H1 aq s1 e1 ?_⟩
 rw[rl.length]
 exact Qh (fun H s=>.inl (s _ _ hl)) (Do _ _) rl⟩
end
end L2
namespace L2
open PySem PySem.Spec PyProof.Rows
end L2
namespace HT
open PySem PySem.Spec PyProof.Rows L2
end HT
namespace L2
open PySem PySem.Spec PyProof.Rows
noncomputable def K7:List Int->List Int->Bool
 | [],[]=>true
 | [],_::_=>true
 |_::_,[]=>false
 |x::xs,y::ys=>if x=y then K7 xs ys else decide (x<=y)
def U4(m r:Bool):List (Value×Value)->Prop
 | []=>r=m
 |p::ps=>∃a t c u,p=(.int a t,.int c u)/\if a=c then U4 m r ps else r=decide (a<=c)
theorem xm(h:IntsAre vs ns):∀{ws:List Value}{ms:List Int},IntsAre ws ms->∀m,m=decide (vs.length<=ws.length)->U4 m (K7 ns ms) (vs.zip ws):=by
 induction h with
 |nil=>intro ws ms g m hm;cases g<;>simp[U4,K7,hm]
 |cons a t _ ih=>
  intro ws ms g m hm
  cases g with
  |nil=>simp[U4,K7,hm]
  |cons c u g'=>
   refine⟨a,t,c,u,rfl,?_⟩
   have:=ih g' m (by rw[hm];simp)
   by_cases e:a=c
   . rw[ξ e,show K7 (a::_) (c::_)=_ from ξ e];exact this
   . rw[ψ e];simp[K7,e]
theorem xl(A:Around)(s:Shared)(a:Int)(t:Tok)(c:Int)(u:Tok)(prog:Program)(w:World)(E:Value->Shared->Prop)(Q:Value->Shared->Prop)(h:Q (.bool (decide (a<=c))) s) :
  wpAny (model prog w) A (richCompare .LtE (.int a t) (.int c u)) Q E s:=
 (PyProof.Rows.le_int h:wpAny (model prog w) A (compareOp .LtE (.int a t) (.int c u)) Q E s)
section
open HT
open PySem.SeqAt
open PySem.AutoSeq1 (wpAny_loadPart')
open PySem.MeetsSeq PySem.MeetsSeq2 PySem.MeetsSeq3
theorem z9p(l b:Addr)(o o2:Obj)(items aE:Array Value)(n n2:Nat)(r:Bool)(h1:o.cls=.type "tuple")(h2:o2.cls=.type "tuple")(e1:o.data=.seq items n)(e2:o2.data=.seq aE n2)
  (hr:U4 (decide (items.size<=aE.size)) r (items.toList.zip aE.toList)) :
  Meets (Builtin.«tuple.__le__» ⟨[.ref l,.ref b],[]⟩) (fun _ R s=>(s.heap.get? l=some o/\s.heap.get? b=some o2)/\R (.ok (.ret (.bool r))) s):=
 .of_wp fun prog w A R s ⟨⟨q1,q2⟩,k⟩=>by
  cases o;cases o2;cases h1;cases h2;cases e1;cases e2;have tt:=AutoSeq1.sub_tuple_tuple
  wp_walk using NJ q1,NJ q2,wpAny_forIn_list _ (fun rest b s'=>(b.1=none/\s'=s)/\U4 (decide (items.size<=aE.size)) r rest) _
  case turn=>
   rintro p rest b s' ⟨⟨hb,rfl⟩,a,t,c,u,rfl,hp⟩
   obtain⟨e,he,lQ⟩:=yb A.in1 s' a t c u
   refine χ (he prog w _ _ ?_)
   by_cases q:a=c
   . cases lQ.mpr q;rw[ξ q]at hp
     wp_walk
     exact⟨⟨rfl,rfl⟩,hp⟩
   . have:e=false:=by cases e with |false=>rfl |true=>exact absurd (lQ.mp rfl) q
     cases this;rw[ψ q]at hp;have lt:=xl A.in1 s' a t c u prog w
     wp_walk using lt
     exact⟨_,rfl,by subst hp;simpa using k⟩
  case fin=>
   rintro⟨x,y⟩ s' ⟨⟨hx,rfl⟩,hp⟩
   cases hx
   cases hp
   wp_walk
   refine⟨_,rfl,?_⟩
   simpa [Builtin.Tuple.tupleCompareSizes] using k
  case h=>exact⟨⟨rfl,rfl⟩,hr⟩
end
theorem ze(hl:IsTup s.heap l vs)(hb:IsTup s.heap b ws)
  (hi:IntsAre vs.toList ns) (hj:IntsAre ws.toList ms) (hu:A.units<cLine) (h:Q (.bool (K7 ns ms)) s):wpAny (model prog w) A (compareOp .LtE (.ref l) (.ref b)) Q E s:=by
 obtain⟨o,ho,c1,_,d1⟩:=hl
 obtain⟨o2,el,c2,_,d2⟩:=hb
 have t:=z9p l b o o2 vs ws _ _ _ c1 c2 d1 d2 (xm hi hj _ (by simp))
 exact richCompare_meets_room (op:=.LtE) ⟨o,ho,c1⟩ ⟨o2,el,c2⟩ PySem.F.slot_tuple_le PySem.F.entry_tuple_le (PySem.F.args_tuple_le_2 _ _) t ⟨⟨ho,el⟩,⟨(fun x=>nomatch x),h⟩⟩ hu
def Xi(K:Frag):R2:=fun x y H Q=>∃a b ns ms,x=.ref a/\y=.ref b/\SqT K H a (ns.map V.int)/\SqT K H b (ms.map V.int)/\Q (.bl (K7 ns ms)) H
theorem y20(hu:X.A.units+64<cLine):OpR X (compareOp .LtE) (Xi X.K):=by intro pins s U H x y v u Q I rx ry h;obtain⟨a,b,ns,ms,rfl,rfl,ha,hb,q⟩:=h;cases rx;cases ry;obtain⟨its,r1,p1,_⟩:=I.tuple ha;obtain⟨aA,r2,p2,_⟩:=I.tuple hb;have i1:IntsAre its.toArray.toList ns:=Co r1;have i2:IntsAre aA.toArray.toList ms:=Co r2;exact ze p1 p2 i1 i2 (by omega) ⟨.bl (K7 ns ms),H,I,rfl,q⟩
def Mu:D->D->Option D
 | .tup ds,.tup es=>match y0 ds,y0 es with
  |some ns,some ms=>some (.bl (K7 ns ms))
  |_,_=>none
 |_,_=>none
theorem jQ{K:Frag}:OpD K false Mu (Xi K):=by
 intro H0 H x y d e z Q s rx ry ho k;unfold Mu at ho;split at ho<;>first | (cases ho;done) |skip
 split at ho<;>first | (cases ho;done) |skip
 rename_i ns ms h1 h2;cases ho;obtain⟨a,xs,rfl,ha,ra⟩:=rx.tup;obtain⟨b,ys,rfl,hb,rb⟩:=ry.tup;have e1:=T5 h1 ra;have e2:=T5 h2 rb;subst e1 e2;exact⟨a,b,ns,ms,rfl,rfl,.of (s _ _ ha),.of (s _ _ hb),k _ H (.pure s (.mkBl _))⟩
end L2
namespace L2
open PySem PySem.Spec PyProof.Rows
noncomputable def stp(N i:Nat):Nat:=(i * 5+1) % N
def K2(N:Nat):Nat->Nat->Nat
 | 0,i=>i
 |m+1,i=>K2 N m (stp N i)
theorem Eu(N:Nat):∀a b i,K2 N (a+b) i=K2 N b (K2 N a i)
 | 0,b,i=>by rw[PF];rfl
 |a+1,b,i=>by rw[show a+1+b=(a+b)+1 by omega];exact Eu N a b _
def Mt(N:Nat):Nat->Nat->List Nat
 | 0,_=>[]
 |m+1,i=>i::Mt N m (stp N i)
theorem Sc:∀{m i},j∈Mt N m i->∃k,k<m/\K2 N k i=j
 | 0,i,h=>by cases h
 |m+1,i,h=>by
  rcases tB.mp h with rfl |h
  . exact⟨0,by omega,rfl⟩
  . obtain⟨k,hk,e⟩:=Sc h;exact⟨k+1,by omega,e⟩
def Full(N:Nat):Prop:=(∀j,j<N->∃k,k<N/\K2 N k 0=j)/\K2 N N 0=0
theorem Kb(h:((List.range N).all fun j=>(Mt N N 0).contains j)=true)(h0:K2 N N 0=0):Full N:=
 ⟨fun j hj=>Sc (by have:=KB.mp h j (OE.mpr hj);simpa using this),h0⟩
theorem y23:Full 8:=Kb (by decide +kernel) (by decide +kernel)
theorem Pq:Full 32:=Kb (by decide +kernel) (by decide +kernel)
theorem Sb:Full 128:=Kb (by decide +kernel) (by decide +kernel)
theorem Full.all(F:Full N)(hi:i<N)(hj:j<N):∃k,k<N/\K2 N k i=j:=by
 obtain⟨a,ha,ea⟩:=F.1 i hi;obtain⟨b,hb,eb⟩:=F.1 j hj;by_cases h:a<=b
 . refine⟨b - a,by omega,?_⟩;rw[<-ea,<-Eu,show a+(b - a)=b by omega,eb]
 . refine⟨b+N - a,by omega,?_⟩;rw[<-ea,<-Eu,show a+(b+N - a)=N+b by omega,Eu,F.2,eb]
noncomputable def lps(mask:Nat):Nat->Nat×Nat->Nat×Nat
 | 0,p=>p
 |m+1,p=>lps mask m (SetTable.leap mask p.1 p.2)
theorem Sa(mask:Nat):∀a b p,lps mask (a+b) p=lps mask b (lps mask a p)
 | 0,b,p=>by rw[PF];rfl
 |a+1,b,p=>by rw[show a+1+b=(a+b)+1 by omega];exact Sa mask a b _
theorem Vw(mask:Nat):∀m i q,q<32 ^ m->∃i',lps mask m (i,q)=(i',0)/\(i<mask+1->i'<mask+1)
 | 0,i,q,h=>⟨i,by rw[Nat.pow_zero]at h;rw[show q=0 by omega];rfl,id⟩
 |m+1,i,q,h=>by rw[Nat.pow_succ]at h;obtain⟨i',e,hi⟩:=Vw mask m ((i * 5+1+q / 32) % (mask+1)) (q / 32) (by omega);exact⟨i',e,fun _=>hi (Nat.mod_lt _ (by omega))⟩
theorem Rz(mask:Nat):∀m i,lps mask m (i,0)=(K2 (mask+1) m i,0)
 | 0,i=>rfl
 |m+1,i=>by show lps mask m ((i * 5+1+0 / 32) % (mask+1),0 / 32)=_;rw[Nat.zero_div,TW];exact Rz mask m (stp (mask+1) i)
theorem Vb(F:Full (mask+1))(hi:i<mask+1)(hq:q<32 ^ 13)(hj:j<mask+1):∃m,m<mask+14/\(lps mask m (i,q)).1=j:=by obtain⟨i',e,bd⟩:=Vw mask 13 i q hq;obtain⟨k,hk,ek⟩:=F.all (bd hi) hj;exact⟨13+k,by omega,by rw[Sa,e,Rz,ek]⟩
theorem Ry(h:Int):SetTable.bits h<32 ^ 13:=by
 unfold SetTable.bits;have h1:0<=h % (2 ^ 64:Int):=SO _ (by decide);have h2:h % (2 ^ 64:Int)<2 ^ 64:=SQ _ (by decide);have h3:(32:Nat) ^ 13=36893488147419103232:=by decide
 have h4:(2:Int) ^ 64=18446744073709551616:=by decide
 omega
theorem Va(mask i:Nat):SetTable.runEnd mask i - i<=9:=by unfold SetTable.runEnd;split<;>omega
section
variable {t:SetTable}
noncomputable def adv(t:SetTable):Nat->SetTable.Probe->SetTable.Probe
 | 0,p=>p
 |k+1,p=>adv t k (t.advance p)
theorem Ca(t:SetTable):∀a b p,adv t (a+b) p=adv t b (adv t a p)
 | 0,b,p=>by rw[PF];rfl
 |a+1,b,p=>by rw[show a+1+b=(a+b)+1 by omega];exact Ca t a b _
noncomputable def E6(t:SetTable)(p:Nat×Nat)(dm:Option Nat):SetTable.Probe:={ j:=p.1,more:=SetTable.runEnd t.mask p.1 - p.1,i:=p.1,perturb:=p.2,dummy:=dm }
theorem Ka:∀(r:Nat)(p:SetTable.Probe),p.more=r->adv t (r+1) p=E6 t (SetTable.leap t.mask p.i p.perturb) p.dummy
 | 0,p,h=>by show t.advance p=_;unfold SetTable.advance E6;rw[ψ (by omega)]
 |r+1,p,h=>by
  have e:t.advance p={ p with j:=p.j+1,more:=r }:=by unfold SetTable.advance;rw[ξ (by omega),h];rfl
  show adv t (r+1) (t.advance p)=_;rw[e,Ka r _ rfl]
theorem Rx(dm:Option Nat):∀(m:Nat)(p:Nat×Nat),∃k,k<=10 * m/\adv t k (E6 t p dm)=E6 t (lps t.mask m p) dm
 | 0,p=>⟨0,by omega,rfl⟩
 |m+1,p=>by obtain⟨k,hk,e⟩:=Rx dm m (SetTable.leap t.mask p.1 p.2);have h9:=Va t.mask p.1;refine⟨SetTable.runEnd t.mask p.1 - p.1+1+k,by omega,?_⟩;rw[Ca,Ka (SetTable.runEnd t.mask p.1 - p.1) (E6 t p dm) rfl];exact e
theorem Lc(h:Int):t.probeStart h=E6 t (SetTable.bits h % (t.mask+1),SetTable.bits h) none:=rfl
theorem zF(F:Full (t.mask+1))(h:Int)(hj:j<t.mask+1):∃d,d<10 * SetTable.turns t.mask/\(adv t d (t.probeStart h)).j=j:=by obtain⟨m,hm,e⟩:=Vb F (i:=SetTable.bits h % (t.mask+1)) (Nat.mod_lt _ (by omega)) (Ry h) hj;obtain⟨k,hk,e2⟩:=Rx (t:=t) none m (SetTable.bits h % (t.mask+1),SetTable.bits h);refine⟨k,by unfold SetTable.turns;omega,?_⟩;rw[Lc,e2];exact e
theorem vt(hd:t.dummies=#[])(j:Nat):(t.slot j=.empty)\/∃i,t.slot j=.live i/\i<t.place.size:=by
 unfold SetTable.slot;by_cases h:(t.place[SetTable.below t.place j]?==some j)=true
 . refine .inr ⟨_,ξ h,?_⟩;have:=OY.mp h;exact(NY.mp this).1
 . refine .inl ?_;simp only[ψ h];rw[hd];rfl
theorem Rw:∀{xs ys:List Nat},xs.Nodup->(∀x∈xs,x∈ys)->xs.length<=ys.length
 | [],_,_,_=>OI _
 |x::xs,ys,hn,h=>by
  rw[TQ]at hn;have hx:=h x (by simp);have:=Rw (xs:=xs) (ys:=ys.erase x) hn.2 fun z hz=>(List.mem_erase_of_ne (fun e=>hn.1 (by rw[<-e];exact hz))).mpr (h z (by simp[hz]))
  rw[List.length_erase_of_mem hx]at this;have h0:0<ys.length:=List.length_pos_of_mem hx;rw[NM];omega
theorem yq(hd:t.dummies=#[])(h:t.place.size<=t.mask):∃j,j<t.mask+1/\t.slot j=.empty:=by
 have:∃j,j<t.mask+1/\j∉t.place.toList:=by
  apply OH;intro z;have:=Rw (xs:=List.range (t.mask+1)) (ys:=t.place.toList) List.nodup_range fun x hx=>OH fun y=>z ⟨x,OE.mp hx,y⟩
  rw[SD,gc]at this;omega
 obtain⟨j,hj,hn⟩:=this;refine⟨j,hj,?_⟩;unfold SetTable.slot;have hb:(t.place[SetTable.below t.place j]?==some j)=false:=by
  cases e:(t.place[SetTable.below t.place j]?==some j) with
  |false=>rfl
  |true=>
   have:=Array.mem_of_getElem? (OY.mp e)
   exact absurd (Array.mem_toList_iff.mpr this) hn
 simp only[hb];rw[hd];rfl
end
def Tok(t:SetTable)(n:Nat):Prop:=t.place.size=n/\t.dummies=#[]/\((t.mask=7/\n<5)\/(t.mask=31/\n<19)\/(t.mask=127/\n<77))
section
variable {t:SetTable}{n:Nat}
theorem Tok.full(h:Tok t n):Full (t.mask+1):=by
 rcases h.2.2 with⟨e,_⟩ |⟨e,_⟩ |⟨e,_⟩<;>rw[e]
 . exact y23
 . exact Pq
 . exact Sb
theorem Tok.le(h:Tok t n):t.place.size<=t.mask:=by obtain⟨h1,_,h3⟩:=h;omega
theorem Tok.fits(h:Tok t n):t.fits n=true:=by have:=h.le;obtain⟨h1,h2,h3⟩:=h;unfold SetTable.fits SetTable.fill;rw[h2,h1,bI,OY,NP];exact⟨rfl,by show n+0<=_;omega⟩
theorem Tok.way(h:Tok t n):t.gaveWay=false:=by unfold SetTable.gaveWay;rcases h.2.2 with⟨e,_⟩ |⟨e,_⟩ |⟨e,_⟩<;>rw[e]<;>rfl
end
theorem Uz(ho:owner.getD j0 (some 0)=none):∀(m ao i q:Nat),(lps mask m (i,q)).1=j0->m<ao ->
  ∃j,SetTable.layClean.free mask owner ao i q=some j/\owner.getD j (some 0)=none
 |m,ao+1,i,q,hm,hf=>by
  unfold SetTable.layClean.free;cases e:(List.range (SetTable.runEnd mask i+1 - i)).find? fun k=>(owner.getD (i+k) (some 0)).isNone with
  |some k=>
   have:=List.find?_some e
   exact⟨i+k,rfl,by simpa using this⟩
  |none=>
   cases m with
   |zero=>
    have hi:i=j0:=hm
    have:=List.find?_eq_none.mp e 0 (OE.mpr (by unfold SetTable.runEnd;split<;>omega))
    rw[TW,hi,ho]at this
    exact absurd rfl this
   |succ m=>exact Uz ho m ao _ _ hm (by omega)
def L8(N:Nat)(owner:Array (Option Nat))(k:Nat):Prop:=owner.size=N/\owner.toList.countP Option.isSome=k/\∀v,some v∈owner.toList->v<k
theorem Lb(F:Full (mask+1))(I:L8 (mask+1) owner k)(hk:k<mask+1)(h:Int) :
  ∃j,SetTable.layClean.free mask owner (SetTable.turns mask) (SetTable.bits h % (mask+1)) (SetTable.bits h)=some j/\L8 (mask+1) (owner.setIfInBounds j (some k)) (k+1):=by
 obtain⟨hs,hc,hv⟩:=I
 have:∃j0,j0<mask+1/\owner.getD j0 (some 0)=none:=by
  apply OH;intro z;have:owner.toList.countP Option.isSome=owner.toList.length:=List.countP_eq_length.mpr fun x hx=>by
   obtain⟨j,hj,ej⟩:=NR.mp hx;cases x with
   |some v=>rfl
   |none=>
    refine absurd ⟨j,?_,?_⟩ z
    . rw[gc]at hj;omega
    . rw[gc]at hj;rw[NX,KF hj];simpa using ej
  rw[gc]at this;omega
 obtain⟨j0,h0,e0⟩:=this
 obtain⟨m,hm,em⟩:=Vb F (i:=SetTable.bits h % (mask+1)) (Nat.mod_lt _ (by omega)) (Ry h) h0
 obtain⟨j,ej,en⟩:=Uz e0 m (SetTable.turns mask) _ _ em (by unfold SetTable.turns;omega)
 have hj:j<owner.size:=by apply OH;intro z;rw[NX,TB (by omega)]at en;cases en
 have GF:owner.toList[j]'(by simpa using hj)=none:=by rw[NX,KF hj]at en;simpa using en
 refine⟨j,ej,by simpa using hs,?_,fun v h=>?_⟩
 . rw[PK,List.countP_set (by simpa using hj),GF,hc];simp
 . rw[PK]at h;rcases List.mem_or_eq_of_mem_set h with h |h
   . have:=hv v h;omega
   . injection h with h;omega
theorem Ty(F:Full (mask+1)):∀(hs:List Int)(owner:Array (Option Nat))(k:Nat),L8 (mask+1) owner k->k+hs.length<=mask ->
  ∃az,hs.foldl (fun (acc:Option (Array (Option Nat)×Nat)) h=>do
   let (owner,k) <-acc
   let j <-SetTable.layClean.free mask owner (SetTable.turns mask) (SetTable.bits h % (mask+1)) (SetTable.bits h)
   pure (owner.setIfInBounds j (some k),k+1)) (some (owner,k))=some (az,k+hs.length)/\L8 (mask+1) az (k+hs.length)
 | [],owner,k,I,_=>⟨owner,rfl,I⟩
 |h::hs,owner,k,I,hk=>by
  rw[NM]at hk;obtain⟨j,ej,I'⟩:=Lb F I (by omega) h;obtain⟨az,e,I2⟩:=Ty F hs _ (k+1) I' (by omega);refine⟨az,?_,?_⟩
  . rw[RI,NM,show k+(hs.length+1)=k+1+hs.length by omega,<-e];congr 1;show(SetTable.layClean.free mask owner (SetTable.turns mask) (SetTable.bits h % (mask+1)) (SetTable.bits h) >>= fun j=>pure (owner.setIfInBounds j (some k),k+1))=_;rw[ej];rfl
  . rw[NM,show k+(hs.length+1)=k+1+hs.length by omega];exact I2
section
variable {prog:Program}{w:World}{A:Around}{E:Value->Shared->Prop}{s:Shared}
theorem Jz:∀(m:Nat){k:NK}{v:Value}{Q:Bool->Shared->Prop},k.dep<=m->NKv s.heap k v->Q false s->wpAny (model prog w) A (ofAClassStatement m v) Q E s
 |m,.i n,v,Q,hd,p,q=>by simp only[NKv]at p;obtain⟨t,rfl⟩:=p;cases m<;>exact ω q
 | 0,.t ks,v,Q,hd,p,q=>by simp only[NK.dep]at hd;omega
 |m+1,.t ks,v,Q,hd,p,q=>by
  simp only[NKv]at p;obtain⟨a,its,rfl,⟨o,e,c,n,d⟩,p2⟩:=p;simp only[NK.dep]at hd;rw[ofAClassStatement.eq_2];refine χ (wpAny_typeOf (T:="tuple") ⟨o,e,c⟩ ?_);refine χ (ω ?_);dsimp only;refine χ (TM e d ?_);dsimp only;refine χ ?_;have go:∀(ks:List NK)(vs:List Value)(Q':Option Bool×Unit->Shared->Prop),E2 ks<=m->NKvs s.heap ks vs->Q' (none,()) s ->
    wpAny (model prog w) A (forIn vs ((none,()):Option Bool×Unit) fun y __s=>do
     let __do_lift <-ofAClassStatement m y
     if __do_lift=true then pure (ForInStep.done (some true,()))
      else pure (ForInStep.yield (none,()))) Q' E s:=by
   intro ks
   induction ks with
   |nil=>
    intro vs Q' _ p hq
    simp only[NKvs]at p;subst p
    exact ω hq
   |cons k ks ih=>
    intro vs Q' hd p hq
    simp only[NKvs]at p
    obtain⟨v,r,rfl,p1,p2⟩:=p
    simp only[E2]at hd
    rw[SN]
    refine χ (χ (Jz m (by omega) p1 ?_))
    refine ω ?_
    exact ih r Q' (by omega) p2 hq
  rw[<-UD];refine go ks its.toList _ (by omega) p2 ?_;exact ω q
theorem La:∀(m:Nat){k:NK}{v:Value}{Q:Bool->Shared->Prop},k.dep<=m->NKv s.heap k v->Q true s->wpAny (model prog w) A (hashByValue m v) Q E s
 |m,.i n,v,Q,hd,p,q=>by simp only[NKv]at p;obtain⟨t,rfl⟩:=p;cases m<;>exact ω q
 | 0,.t ks,v,Q,hd,p,q=>by simp only[NK.dep]at hd;omega
 |m+1,.t ks,v,Q,hd,p,q=>by
  simp only[NKv]at p;obtain⟨a,its,rfl,⟨o,e,c,n,d⟩,p2⟩:=p;simp only[NK.dep]at hd;unfold hashByValue;refine χ (wpAny_specialOf (T:="tuple") ⟨o,e,c⟩ F.slot_tuple_hash.lookup ?_);show wpAny (model prog w) A (seqItems? (.ref a) >>= _) _ _ s;refine χ (TM e d ?_);refine χ ?_;have go:∀(ks:List NK)(vs:List Value)(Q':Option Bool×Unit->Shared->Prop),E2 ks<=m->NKvs s.heap ks vs->Q' (none,()) s ->
    wpAny (model prog w) A (forIn vs ((none,()):Option Bool×Unit) fun y __s=>do
     let __do_lift <-hashByValue m y
     if(!__do_lift)=true then pure (ForInStep.done (some false,()))
      else pure (ForInStep.yield (none,()))) Q' E s:=by
   intro ks
   induction ks with
   |nil=>
    intro vs Q' _ p hq
    simp only[NKvs]at p;subst p
    exact ω hq
   |cons k ks ih=>
    intro vs Q' hd p hq
    simp only[NKvs]at p
    obtain⟨v,r,rfl,p1,p2⟩:=p
    simp only[E2]at hd
    rw[SN]
    refine χ (χ (La m (by omega) p1 ?_))
    refine ω ?_
    exact ih r Q' (by omega) p2 hq
  show wpAny (model prog w) A (forIn its ((none,()):Option Bool×Unit) _) _ _ s;rw[<-UD];refine go ks its.toList _ (by omega) p2 ?_;exact ω q
theorem y24[Decidable c](h1:wpAny (model prog w) A m1 Q E s)(h2:wpAny (model prog w) A m2 Q E s):wpAny (model prog w) A (if c then m1 else m2) Q E s:=by
 split
 . exact h1
 . exact h2
theorem xk(dx:kx.dep<=8)(hx:NKv s.heap kx x)(q:Q false s)(l:List Value)(hl:∀y∈l,∃k:NK,k.dep<=8/\NKv s.heap k y):wpAny (model prog w) A (searchCouldBeSeen x l) Q E s:=by
 unfold searchCouldBeSeen;refine χ ?_;induction l with
 |nil=>exact ω (ω q)
 |cons y l ih=>
  obtain⟨k,dk,hk⟩:=hl y (by simp)
  have ih:=ih fun z hz=>hl z (by simp[hz])
  rw[SN]
  refine χ ?_
  refine y24 (ω ih) ?_
  . refine χ (Fb 8 dx hx ?_);refine χ (Fb 8 dk hk ?_);refine χ (Jz 8 dx hx ?_);refine χ (Jz 8 dk hk ?_);exact ω ih
end
theorem Tx(xs:Array α)(p:Nat)(x:α):(SetTable.insertAt xs p x).size=xs.size+1:=by unfold SetTable.insertAt;simp only[Array.size_append,Array.size_push,Array.size_extract];omega
theorem jP{t:SetTable}(hd:t.dummies=#[])(j:Nat):(t.put j).1.mask=t.mask/\(t.put j).1.place.size=t.place.size+1/\(t.put j).1.dummies=#[]:=by refine⟨rfl,Tx _ _ _,?_⟩;show(if SetTable.has t.dummies j=true then _ else t.dummies)=#[];rw[hd];rfl
section
theorem Hx(ho:h.get? a=some o)(hd:o.data=.set es ep t)(sb:∀b,b≠a->h'.get? b=h.get? b)(p:NKv h k v):NKv h' k v:=
 NKv.stay (fun b its z=>by
  obtain⟨ob,eb,cb,n,db⟩:=z;have aM:b≠a:=fun z=>by subst z;rw[ho]at eb;cases eb;rw[hd]at db;cases db
  exact⟨ob,(sb b aM).trans eb,cb,n,db⟩) p
theorem Rv{h:Heap}{a:Addr}{od:Option Addr}{es:Array (Int×Value)}{ep:Nat}{t:SetTable}{sl:Array (Option Value)}(ho:h.get? a=some ⟨.type "set",od,.set es ep t,sl⟩)(aQ:Array (Int×Value))(t1:SetTable) :
 (h.update a (Obj.putSet aQ t1)).get? a=some ⟨.type "set",od,.set aQ (ep+1) t1,sl⟩:=OZ _ ho rfl
end
def Ris(xs:Array Nat):Prop:=xs.toList.Pairwise (·<·)
theorem Ris.lt(R:Ris xs)(h:i<k)(hk:k<xs.size):xs[i]'(by omega)<xs[k]:=by have:=SH.mp R i k (by simpa using Nat.lt_trans h hk) (by simpa using hk) h;simpa using this
theorem Kz(R:Ris xs):∀(ao lo hi:Nat),hi - lo<=ao->lo<=hi->hi<=xs.size->(∀i (h:i<xs.size),i<lo->xs[i]<j)->(∀i (h:i<xs.size),hi<=i->j<=xs[i]) ->
  SetTable.below.go xs j ao lo hi<=xs.size/\(∀i (h:i<xs.size),i<SetTable.below.go xs j ao lo hi->xs[i]<j)/\∀i (h:i<xs.size),SetTable.below.go xs j ao lo hi<=i->j<=xs[i]
 | 0,lo,hi,h1,h2,h3,a,b=>by unfold SetTable.below.go;exact⟨by omega,a,fun i h z=>b i h (by omega)⟩
 |ao+1,lo,hi,h1,h2,h3,a,b=>by
  unfold SetTable.below.go;by_cases c:lo<hi
  . rw[ξ c];dsimp only;have hm:(lo+hi) / 2<xs.size:=by omega
    have e:xs.getD ((lo+hi) / 2) j=xs[(lo+hi) / 2]:=by rw[NX,KF hm];rfl
    rw[e];by_cases d:xs[(lo+hi) / 2]<j
    . rw[ξ d];refine Kz R ao _ hi (by omega) (by omega) h3 (fun i h z=>?_) b;by_cases q:i=(lo+hi) / 2
      . subst q;exact d
      . exact Nat.lt_trans (R.lt (show i<(lo+hi) / 2 by omega) hm) d
    . rw[ψ d];refine Kz R ao lo _ (by omega) (by omega) (by omega) a fun i h z=>?_
      by_cases q:i=(lo+hi) / 2
      . subst q;omega
      . have:=R.lt (show(lo+hi) / 2<i by omega) h;omega
  . rw[ψ c];exact⟨by omega,a,fun i h z=>b i h (by omega)⟩
theorem Et(R:Ris xs)(j:Nat):SetTable.below xs j<=xs.size/\(∀i (h:i<xs.size),i<SetTable.below xs j->xs[i]<j)/\∀i (h:i<xs.size),SetTable.below xs j<=i->j<=xs[i]:=
 Kz R _ 0 _ (by omega) (OI _) (ζ _) (fun i _ z=>absurd z (Nat.not_lt_zero _)) fun i h z=>absurd h (by omega)
noncomputable def K6(xs:Array Nat):Nat->Nat
 | 0=>0
 |i+1=>xs.getD i 0+1
theorem Tw(R:Ris xs):∀i,i<=xs.size->SetTable.below xs (K6 xs i)=i
 | 0,_=>by obtain⟨h1,h2,h3⟩:=Et R (K6 xs 0);apply OH;intro z;have:=h2 0 (by omega) (by omega);simp only[K6]at this;omega
 |i+1,hi=>by
  obtain⟨h1,h2,h3⟩:=Et R (K6 xs (i+1));have e:K6 xs (i+1)=xs[i]+1:=by show xs.getD i 0+1=_;rw[NX,KF (by omega)];rfl
  generalize SetTable.below xs (K6 xs (i+1))=r at h1 h2 h3;rw[e]at h2 h3;have a:¬r<i+1:=fun z=>by have:=h3 i (by omega) (by omega);omega
  have b:¬i+1<r:=fun z=>by have:=h2 (i+1) (by omega) z;have:=R.lt (show i<i+1 by omega) (show i+1<xs.size by omega);omega
  omega
theorem vq{t:SetTable}(R:Ris t.place){j:Nat}(he:t.slot j=.empty):Ris (t.put j).1.place:=by
 obtain⟨h1,h2,h3⟩:=Et R j;have aM:∀h:SetTable.below t.place j<t.place.size,t.place[SetTable.below t.place j]≠j:=fun h z=>by
  unfold SetTable.slot at he;have:(t.place[SetTable.below t.place j]?==some j)=true:=by rw[KF h,z];simp
  simp only[this,QN]at he;cases he
 show(SetTable.insertAt t.place (SetTable.below t.place j) j).toList.Pairwise _;generalize SetTable.below t.place j=p at h1 h2 h3 aM;rw[SW];have R':t.place.toList.Pairwise (·<·):=R;have e1:∀x∈t.place.toList.take p,x<j:=fun x hx=>by
  obtain⟨i,hi,rfl⟩:=NR.mp hx;have og:i<p/\i<t.place.size:=by rw[NT,gc]at hi;omega
  rw[RL];have:=h2 i og.2 og.1;simpa using this
 have e2:∀x∈t.place.toList.drop p,j<x:=fun x hx=>by
  obtain⟨i,hi,rfl⟩:=NR.mp hx;have og:i<t.place.size - p:=by simpa using hi
  rw[RM];have a:=h3 (p+i) (by omega) (by omega);have b:t.place[p+i]≠j:=fun z=>by
   by_cases q:i=0
   . subst q;exact aM (by omega) z
   . have:=R.lt (show p<p+i by omega) (show p+i<t.place.size by omega);have:=h3 p (by omega) (ζ _);omega
  have:j<t.place[p+i]:=by omega
  simpa using this
 refine RJ.mpr ⟨R'.sublist (List.take_sublist _ _),RW.mpr ⟨e2,R'.sublist (List.drop_sublist _ _)⟩,fun a ha b hb=>?_⟩;rcases tB.mp hb with rfl |hb
 . exact e1 a ha
 . exact Nat.lt_trans (e1 a ha) (e2 b hb)
theorem Pp:∀(l:List (Option Nat))(j:Nat),l[j]?=some none->((l.set j (some k)).filterMap id).Perm (k::l.filterMap id)
 | [],j,h=>by simp at h
 |x::l,0,h=>by simp only[List.getElem?_cons_zero,Option.some.injEq]at h;subst h;simp
 |x::l,j+1,h=>by
  rw[List.getElem?_cons_succ]at h;have ih:=Pp (k:=k) l j h;rw[List.set_cons_succ];cases x with
  |none=>simpa using ih
  |some y=>
   simp only[PL,id]
   exact(ih.cons y).trans (.swap _ _ _)
theorem Uy(F:Full (mask+1)):∀(hs:List Int)(owner:Array (Option Nat))(k:Nat),L8 (mask+1) owner k->(owner.toList.filterMap id).Perm (List.range k)->k+hs.length<=mask ->
  ∃az,hs.foldl (fun (acc:Option (Array (Option Nat)×Nat)) h=>do
   let (owner,k) <-acc
   let j <-SetTable.layClean.free mask owner (SetTable.turns mask) (SetTable.bits h % (mask+1)) (SetTable.bits h)
   pure (owner.setIfInBounds j (some k),k+1)) (some (owner,k))=some (az,k+hs.length)/\L8 (mask+1) az (k+hs.length)/\(az.toList.filterMap id).Perm (List.range (k+hs.length))
 | [],owner,k,I,P,_=>⟨owner,rfl,I,P⟩
 |h::hs,owner,k,I,P,hk=>by
  rw[NM]at hk;obtain⟨j,ej,I'⟩:=Lb F I (by omega) h;have hj:owner.toList[j]?=some none:=by
   have c1:=I.2.1;have c2:=I'.2.1;rw[PK]at c2;by_cases hb:j<owner.toList.length
   . rw[List.countP_set hb]at c2;cases q:owner.toList[j] with
     |none=>rw[NG hb,q]
     |some y=>
      rw[q]at c2
      simp only[Option.isSome_some,QN]at c2
      have:0<owner.toList.countP Option.isSome:=List.countP_pos_iff.mpr ⟨_,List.getElem_mem hb,by rw[q];rfl⟩
      omega
   . rw[List.set_eq_of_length_le (by omega)]at c2;omega
  have P':((owner.setIfInBounds j (some k)).toList.filterMap id).Perm (List.range (k+1)):=by rw[PK,List.range_succ];exact(Pp _ j hj).trans ((P.cons k).trans (List.perm_append_singleton _ _).symm)
  obtain⟨az,e,I2,P2⟩:=Uy F hs _ (k+1) I' P' (by omega);refine⟨az,?_,?_,?_⟩
  . rw[RI,NM,show k+(hs.length+1)=k+1+hs.length by omega,<-e];congr 1;show(SetTable.layClean.free mask owner (SetTable.turns mask) (SetTable.bits h % (mask+1)) (SetTable.bits h) >>= fun j=>pure (owner.setIfInBounds j (some k),k+1))=_;rw[ej];rfl
  . rw[NM,show k+(hs.length+1)=k+1+hs.length by omega];exact I2
  . rw[NM,show k+(hs.length+1)=k+1+hs.length by omega];exact P2
theorem vp(t:SetTable)(F:Full (mask+1))(hs:Array Int)(hl:hs.size<=mask)(hw:SetTable.sizeAbove cS - 1=mask) :
  ∃t' aI,t.relaid hs cS=some (t',aI)/\t'.mask=mask/\t'.place.size=hs.size/\t'.dummies=#[]/\aI.toList.Perm (List.range hs.size)/\Ris t'.place/\t'.led=t.led/\t'.plain=t.plain:=by
 have I0:L8 (mask+1) (Array.replicate (mask+1) none) 0:=⟨by simp,by simp[List.countP_replicate],fun v h=>by simp at h⟩
 have P0:((Array.replicate (mask+1) (none:Option Nat)).toList.filterMap id).Perm (List.range 0):=by simp
 obtain⟨owner,e,I,P⟩:=Uy F hs.toList _ 0 I0 P0 (by simpa using hl)
 rw[PF,gc]at e I P
 have e2:SetTable.layClean mask hs=some owner:=by unfold SetTable.layClean;rw[<-Array.foldl_toList,e];rfl
 have es:((List.range (mask+1)).filterMap fun j=>(owner.getD j none).map (j,·)).map (·.2)=owner.toList.filterMap id:=by
  have:owner.toList=(List.range (mask+1)).map fun j=>owner.getD j none:=by
   apply List.ext_getElem
   . rw[gc,oQ,SD,I.1]
   . intro i h1 h2;rw[List.getElem_map,List.getElem_range,NX,KF (by simpa using h1)];simp
  rw[this,List.filterMap_map,List.map_filterMap];congr 1;funext j;show Option.map _ (Option.map _ (owner.getD j none))=owner.getD j none;cases owner.getD j none<;>rfl
 have er:(((List.range (mask+1)).filterMap fun j=>(owner.getD j none).map (j,·)).map (·.1)).Pairwise (·<·):=by
  rw[List.map_filterMap];refine(List.pairwise_lt_range (n:=mask+1)).filterMap _ fun a b bX x hx y hy=>?_
  simp only[Option.map_map,Option.mem_def,OT,Function.comp]at hx hy;obtain⟨_,_,rfl⟩:=hx;obtain⟨_,_,rfl⟩:=hy;exact bX
 unfold SetTable.relaid SetTable.laid
 rw[hw,e2]
 have ah:((List.range (mask+1)).filterMap fun j=>(owner.getD j none).map (j,·)).length=hs.size:=by have:=PZ List.length es;rw[oQ,P.length_eq,SD]at this;exact this
 refine⟨_,_,rfl,rfl,?_,rfl,?_,?_,rfl,rfl⟩
 . simp only[LL,oQ];exact ah
 . show(((List.range (mask+1)).filterMap fun j=>(owner.getD j none).map (j,·)).map (·.2)).Perm _;rw[es];exact P
 . exact er
theorem vo{α:Type}(es:Array α)(aI:Array Nat)(h:aI.toList.Perm (List.range es.size)):(aI.filterMap (es[·]?)).toList.Perm es.toList:=by rw[Array.toList_filterMap,<-filterMap_getElem?_range es];exact h.filterMap _
noncomputable def iv:Value->Option Int
 | .int n _=>some n
 |_=>none
section
variable {prog:Program}{w:World}
def EnI(prog:Program)(w:World)(es:List (Int×Value))(ks:List Int):Prop:=es.map (fun e=>(e.1,iv e.2))=ks.map fun m=>((intKind prog w).hash m,some m)
theorem EnI.of(h:EnI prog w es ks)(hn:n∈ks):∃e∈es,∃u,e.2=.int n u:=by
 have:((intKind prog w).hash n,some n)∈es.map (fun e=>(e.1,iv e.2)):=by rw[h];exact OO.mpr ⟨n,hn,rfl⟩
 obtain⟨e,he,q⟩:=OO.mp this;obtain⟨e1,e2⟩:=e;simp only[Prod.mk.injEq]at q;cases e2<;>simp only[iv,reduceCtorEq,and_false]at q;rename_i m u;cases q.2;exact⟨_,he,u,rfl⟩
end
theorem Ky(e:t.mask=t'.mask):∀k p,adv t k p=adv t' k p
 | 0,p=>rfl
 |k+1,p=>by
  show adv t k (t.advance p)=adv t' k (t'.advance p);have:t.advance p=t'.advance p:=by unfold SetTable.advance;rw[e]
  rw[this];exact Ky e k _
theorem Vv{t t':SetTable}(e:t.mask=t'.mask)(h:Int):t.probeStart h=t'.probeStart h:=by unfold SetTable.probeStart;rw[e]
def Rc(t:SetTable)(O:Nat->Prop)(h:Int)(j:Nat):Prop:=∃d,d<10 * SetTable.turns t.mask/\(adv t d (t.probeStart h)).j=j/\∀d',d'<d->O (adv t d' (t.probeStart h)).j
theorem Rc.mono(r:Rc t O h j)(hO:∀j,O j->O' j):Rc t O' h j:=by obtain⟨d,h1,h2,h3⟩:=r;exact⟨d,h1,h2,fun d' hd=>hO _ (h3 d' hd)⟩
theorem Rc.mask(r:Rc t O h j)(e:t.mask=t'.mask):Rc t' O h j:=by obtain⟨d,h1,h2,h3⟩:=r;refine⟨d,by rw[<-e];exact h1,by rw[<-Vv e,<-Ky e];exact h2,fun d' hd=>?_⟩;rw[<-Vv e,<-Ky e];exact h3 d' hd
theorem Ru{t:SetTable}(R:Ris t.place){i j:Nat}(h:t.place[i]?=some j):t.slot j=.live i:=by
 obtain⟨hi,ej⟩:=NY.mp h;obtain⟨b1,b2,b3⟩:=Et R j;have e1:SetTable.below t.place j<=i:=by apply OH;intro z;have:=b2 i hi (by omega);omega
 have e2:SetTable.below t.place j=i:=by
  apply OH;intro z;have aD:SetTable.below t.place j<i:=by omega
  have h1:=b3 (SetTable.below t.place j) (by omega) (ζ _);have h2:=R.lt aD hi;omega
 unfold SetTable.slot;simp only[e2,h];rw[ξ (by simp)]
theorem Tv{t:SetTable}(R:Ris t.place)(hd:t.dummies=#[]){j:Nat}:t.slot j≠.empty↔j∈t.place.toList:=by
 constructor
 . intro h;unfold SetTable.slot at h;simp only at h;by_cases c:(t.place[SetTable.below t.place j]?==some j)=true
   . exact TF.mpr ⟨_,by rw[OC];exact OY.mp c⟩
   . rw[ψ c,hd]at h;exact absurd rfl h
 . intro h;obtain⟨i,hi⟩:=TF.mp h;rw[OC]at hi;rw[Ru R hi];intro z;cases z
theorem vn(hs:xs.size=ys.size)(p:Nat)(x:α)(y:β)(h:z∈(SetTable.insertAt xs p x).toList.zip (SetTable.insertAt ys p y).toList):z∈xs.toList.zip ys.toList\/z=(x,y):=by
 rw[SW,SW,List.zip_append (by simp[hs]),OF,OM,tB]at h;rcases h with h |h |h
 . rw[List.zip,<-List.take_zipWith]at h;exact .inl (SF h)
 . exact .inr h
 . rw[List.zip,<-List.drop_zipWith]at h;exact .inl (List.mem_of_mem_drop h)
def HI(t:SetTable)(es:Array (Int×Value)):Prop:=∀z∈t.place.toList.zip es.toList,Rc t (·∈t.place.toList) z.2.1 z.1
theorem HI.put(H:HI t es)(hs:t.place.size=es.size)(r:Rc t (·∈t.place.toList) h j):HI (t.put j).1 (SetTable.insertAt es (t.put j).2 (h,x)):=by
 intro z hz;have mono:∀i,i∈t.place.toList->i∈(t.put j).1.place.toList:=fun i hi=>by
  show i∈(SetTable.insertAt t.place (SetTable.below t.place j) j).toList;rw[SW,OF,tB];rw[<-RF (SetTable.below t.place j) t.place.toList,OF]at hi;rcases hi with hi |hi
  . exact .inl hi
  . exact .inr (.inr hi)
 rcases vn (xs:=t.place) (ys:=es) hs _ j (h,x) hz with hz |rfl
 . exact((H z hz).mono mono).mask rfl
 . exact(r.mono mono).mask rfl
theorem Po(t:SetTable):∀(k:Nat)(P:SetTable.Probe),k<=P.more->(adv t k P).j=P.j+k
 | 0,P,_=>rfl
 |k+1,P,h=>by
  show(adv t k (t.advance P)).j=_;have e:t.advance P={ P with j:=P.j+1,more:=P.more - 1 }:=by unfold SetTable.advance;rw[ξ (by omega)]
  rw[e,Po t k _ (by show k<=P.more - 1;omega)];show P.j+1+k=_;omega
def Occ(owner:Array (Option Nat))(x:Nat):Prop:=∃v,owner[x]?=some (some v)
theorem Tu(hm:t.mask=mask)(hs:owner.size=mask+1):∀(ao i q j:Nat),i<mask+1->SetTable.layClean.free mask owner ao i q=some j ->
  ∃d,d<10 * ao/\(adv t d (E6 t (i,q) none)).j=j/\∀d',d'<d->Occ owner (adv t d' (E6 t (i,q) none)).j
 | 0,i,q,j,hi,h=>by unfold SetTable.layClean.free at h;cases h
 |ao+1,i,q,j,hi,h=>by
  have r9:=Va mask i;have rm:∀k,k<=SetTable.runEnd mask i - i->i+k<=mask:=fun k hk=>by unfold SetTable.runEnd at hk;split at hk<;>omega
  have gX:∀k,k<=SetTable.runEnd mask i - i->(owner.getD (i+k) (some 0)).isNone=false->Occ owner (i+k):=fun k hk hz=>by
   have hb:i+k<owner.size:=by have:=rm k hk;omega
   rw[NX,KF hb,TH]at hz;unfold Occ;rw[KF hb];cases e:owner[i+k] with
   |none=>rw[e]at hz;cases hz
   |some v=>exact⟨v,rfl⟩
  have cM:∀k,k<=SetTable.runEnd mask i - i->(adv t k (E6 t (i,q) none)).j=i+k:=fun k hk=>Po t k _ (by show k<=SetTable.runEnd t.mask i - i;rw[hm];exact hk)
  have ge:i<=SetTable.runEnd mask i:=by unfold SetTable.runEnd;split<;>omega
  unfold SetTable.layClean.free at h;cases e:(List.range (SetTable.runEnd mask i+1 - i)).find? fun k=>(owner.getD (i+k) (some 0)).isNone with
  |some k=>
   rw[e]at h
   have hj:i+k=j:=by simpa using h
   obtain⟨e1,e2,e3⟩:=List.find?_range_eq_some.mp e
   have hk:k<=SetTable.runEnd mask i - i:=by have:=OE.mp e2;omega
   refine⟨k,by omega,by rw[cM k hk,hj],fun d' hd=>?_⟩
   rw[cM d' (by omega)]
   exact gX d' (by omega) (by have:=e3 d' hd;simpa using this)
  |none=>
   rw[e]at h
   have hn:=List.find?_eq_none.mp e
   obtain⟨d,k1,k2,k3⟩:=Tu hm hs ao _ _ j (Nat.mod_lt _ (by omega)) h
   have er:SetTable.runEnd t.mask i - i=SetTable.runEnd mask i - i:=by rw[hm]
   have run:=Ka (t:=t) (SetTable.runEnd mask i - i) (E6 t (i,q) none) er
   have lp:SetTable.leap t.mask i q=((i * 5+1+q / 32) % (mask+1),q / 32):=by rw[hm];rfl
   have lR:adv t (SetTable.runEnd mask i - i+1) (E6 t (i,q) none)=E6 t ((i * 5+1+q / 32) % (mask+1),q / 32) none:=by rw[run,<-lp];rfl
   refine⟨SetTable.runEnd mask i - i+1+d,by omega,by rw[Ca,lR];exact k2,fun d' hd=>?_⟩
   by_cases c:d'<SetTable.runEnd mask i - i+1
   . rw[cM d' (by omega)];refine gX d' (by omega) ?_;exact Bool.eq_false_iff.mpr (hn d' (OE.mpr (by omega)))
   . have:=k3 (d' - (SetTable.runEnd mask i - i+1)) (by omega);rw[<-lR,<-Ca,show SetTable.runEnd mask i - i+1+(d' - (SetTable.runEnd mask i - i+1))=d' by omega]at this;exact this
def LR(t:SetTable)(all:List Int)(owner:Array (Option Nat)):Prop:=∀j v,owner[j]?=some (some v)->∃h,all[v]?=some h/\Rc t (Occ owner) h j
theorem Ux(F:Full (mask+1))(hm:t.mask=mask)(all:List Int):∀(hs:List Int)(owner:Array (Option Nat))(k:Nat),all.drop k=hs->L8 (mask+1) owner k->LR t all owner->k+hs.length<=mask->∀az k',
  hs.foldl (fun (acc:Option (Array (Option Nat)×Nat)) h=>do
   let (owner,k) <-acc
   let j <-SetTable.layClean.free mask owner (SetTable.turns mask) (SetTable.bits h % (mask+1)) (SetTable.bits h)
   pure (owner.setIfInBounds j (some k),k+1)) (some (owner,k))=some (az,k')->LR t all az
 | [],owner,k,hd,I,L,_,az,k',e=>by simp only[List.foldl_nil,Option.some.injEq,Prod.mk.injEq]at e;rw[<-e.1];exact L
 |h::hs,owner,k,hd,I,L,hk,az,k',e=>by
  rw[NM]at hk;obtain⟨j,ej,I'⟩:=Lb F I (by omega) h;have eJ:all[k]?=some h:=by have:=PZ (fun l=>l[0]?) hd;simpa using this
  have bW:all.drop (k+1)=hs:=by have:=PZ (List.drop 1) hd;rw[List.drop_drop]at this;simpa using this
  obtain⟨d,d1,d2,d3⟩:=Tu hm I.1 _ _ _ j (Nat.mod_lt _ (by omega)) ej;have mono:∀x,Occ owner x->Occ (owner.setIfInBounds j (some k)) x:=fun x ⟨v,hv⟩=>by
   unfold Occ;by_cases c:j=x
   . subst c;obtain⟨hb,_⟩:=NY.mp hv;exact⟨k,by rw[Array.getElem?_setIfInBounds_self_of_lt hb]⟩
   . exact⟨v,by rw[Array.getElem?_setIfInBounds_ne c];exact hv⟩
  have L':LR t all (owner.setIfInBounds j (some k)):=fun x v hx=>by
   by_cases c:j=x
   . subst c;have hv:v=k:=by
      by_cases hb:j<owner.size
      . rw[Array.getElem?_setIfInBounds_self_of_lt hb]at hx;simpa using hx.symm
      . rw[TB (by simpa using hb)]at hx;cases hx
     subst hv;refine⟨h,eJ,d,by rw[hm];exact d1,?_,fun d' dZ=>mono _ ?_⟩
     . rw[Lc,hm];exact d2
     . rw[Lc,hm];exact d3 d' dZ
   . rw[Array.getElem?_setIfInBounds_ne c]at hx;obtain⟨h',e1,e2⟩:=L x v hx;exact⟨h',e1,e2.mono mono⟩
  refine Ux F hm all hs _ (k+1) bW I' L' (by omega) az k' ?_;rw[RI]at e;rw[<-e];congr 1;show _=(SetTable.layClean.free mask owner (SetTable.turns mask) (SetTable.bits h % (mask+1)) (SetTable.bits h) >>= fun j=>pure (owner.setIfInBounds j (some k),k+1));rw[ej];rfl
theorem Pn(es:Array α):∀(ps:List (Nat×Nat)),(∀p∈ps,∃e,es[p.2]?=some e)->∀z∈(ps.map (·.1)).zip ((ps.map (·.2)).filterMap (es[·]?)),∃p∈ps,z.1=p.1/\es[p.2]?=some z.2
 | [],_,z,hz=>by cases hz
 |p::ps,h,z,hz=>by
  obtain⟨e,he⟩:=h p NN;rw[NL,NL,List.filterMap_cons_some he,OM,tB]at hz;rcases hz with rfl |hz
  . exact⟨p,NN,rfl,he⟩
  . obtain⟨q,hq,h1,h2⟩:=Pn es ps (fun q hq=>h q (IR _ hq)) z hz;exact⟨q,IR _ hq,h1,h2⟩
theorem vm{t t':SetTable}{mask:Nat}(F:Full (mask+1))(es:Array (Int×Value))(hl:es.size<=mask){cS:Nat}(hw:SetTable.sizeAbove cS - 1=mask){aI:Array Nat}(er:t.relaid (es.map (·.1)) cS=some (t',aI)):HI t' (aI.filterMap (es[·]?)):=by
 have I0:L8 (mask+1) (Array.replicate (mask+1) none) 0:=⟨by simp,by simp[List.countP_replicate],fun v h=>by simp at h⟩;obtain⟨owner,e,I⟩:=Ty F (es.map (·.1)).toList _ 0 I0 (by simpa using hl);rw[PF,gc]at e I;have e2:SetTable.layClean mask (es.map (·.1))=some owner:=by unfold SetTable.layClean;rw[<-Array.foldl_toList,e];rfl
 unfold SetTable.relaid SetTable.laid at er;rw[hw,e2]at er;simp only[NV,Option.some.injEq,Prod.mk.injEq]at er;simp only[Option.bind_eq_bind,Option.bind_some,Option.pure_def,Option.some.injEq,Prod.mk.injEq]at er;obtain⟨rfl,rfl⟩:=er;obtain⟨ps,fT⟩:∃ps:List (Nat×Nat),ps=(List.range (mask+1)).filterMap fun j=>(owner.getD j none).map (j,·):=⟨_,rfl⟩
 have mem:∀j v,(j,v)∈ps↔owner[j]?=some (some v):=fun j v=>by
  rw[fT,PX];constructor
  . rintro⟨x,hx,e⟩;obtain⟨u,hu,e⟩:=OT.mp e;simp only[Prod.mk.injEq]at e;obtain⟨rfl,rfl⟩:=e;have hb:x<owner.size:=by rw[I.1];exact OE.mp hx
    rw[NX,KF hb,TH]at hu;rw[KF hb,hu]
  . intro e;obtain⟨hb,e'⟩:=NY.mp e;refine⟨j,OE.mpr (by rw[<-I.1];exact hb),?_⟩;rw[NX,e,TH,NV]
 rw[<-fT];generalize hT:({ mask:=mask,place:=(ps.map fun x=>x.1).toArray,dummies:=#[],finger:=t.finger,led:=t.led,moves:=t.movedTo mask,plain:=t.plain }:SetTable)=T;have tm:T.mask=mask:=by rw[<-hT]
 have tp:T.place.toList=ps.map (·.1):=by rw[<-hT]
 have L:=Ux F tm (es.map (·.1)).toList (es.map (·.1)).toList _ 0 rfl I0 (fun j v h=>by obtain⟨hb,e'⟩:=NY.mp h;simp at e') (by simpa using hl) owner _ e;intro z hz;rw[tp,Array.toList_filterMap]at hz;have ex:∀p∈ps,∃e,es[p.2]?=some e:=fun p hp=>by
  obtain⟨h,e1,_⟩:=L p.1 p.2 ((mem p.1 p.2).mp hp);have hb:p.2<es.size:=by have:=(NW.mp e1).1;simpa using this
  exact⟨es[p.2],KF hb⟩
 obtain⟨p,hp,z1,z2⟩:=Pn es ps ex z hz;obtain⟨h,e1,e3⟩:=L p.1 p.2 ((mem p.1 p.2).mp hp);have eh:h=z.2.1:=by rw[OC,Array.getElem?_map,z2]at e1;simpa using e1.symm
 rw[<-eh,z1];refine e3.mono fun x ⟨v,hv⟩=>?_
 rw[tp];exact OO.mpr ⟨(x,v),(mem x v).mpr hv,rfl⟩
theorem Gj(t:SetTable)(c:Nat)(p:SetTable.Probe):adv t (c+1) p=t.advance (adv t c p):=by rw[Ca];rfl
theorem Pm(h:p.dummy=none):∀c,(adv t c p).dummy=none
 | 0=>h
 |c+1=>by
  rw[Gj];have:=Pm (t:=t) h c;unfold SetTable.advance;split
  . exact this
  . exact this
theorem Rt{t:SetTable}{ha:Nat->Int}{h:Int}{p0:SetTable.Probe}(hd:t.dummies=#[])(hm:p0.dummy=none){D:Nat}(hE:t.slot (adv t D p0).j=.empty):∀(n c ao:Nat),D - c=n->c<=D->n<ao ->
  ∃c',c<=c'/\c'<=D/\(∀x,c<=x->x<c'->∃i,t.slot (adv t x p0).j=.live i/\ha i≠h) /\
   ((t.slot (adv t c' p0).j=.empty/\SetTable.probe.go t ha h ao (adv t c p0)=some (.empty (adv t c' p0).j none)) \/
    ∃i,t.slot (adv t c' p0).j=.live i/\i<t.place.size/\ha i=h/\c'<D/\SetTable.probe.go t ha h ao (adv t c p0)=some (.candidate (adv t c' p0).j i (adv t (c'+1) p0)))
 |n,c,0,hn,hc,hf=>by omega
 |n,c,ao+1,hn,hc,hf=>by
  have dm:=Pm (t:=t) hm c;rcases vt hd (adv t c p0).j with e |⟨i,e,hi⟩
  . refine⟨c,ζ _,hc,fun x h1 h2=>by omega,.inl ⟨e,?_⟩⟩;unfold SetTable.probe.go;rw[e,dm]
  . have aD:c<D:=by
     rcases SY c D with q |q
     . exact q
     . rw[show D=c by omega,e]at hE;cases hE
    by_cases hh:ha i=h
    . refine⟨c,ζ _,hc,fun x h1 h2=>by omega,.inr ⟨i,e,hi,hh,aD,?_⟩⟩;unfold SetTable.probe.go;rw[e];dsimp only;rw[ξ (by rw[hh];simp),Gj]
    . obtain⟨c',k1,k2,k3,k4⟩:=Rt (ha:=ha) (h:=h) hd hm hE (n - 1) (c+1) ao (by omega) (by omega) (by omega);have step:SetTable.probe.go t ha h (ao+1) (adv t c p0)=SetTable.probe.go t ha h ao (adv t (c+1) p0):=by
       rw[Gj]
       conv=>lhs;unfold SetTable.probe.go
       rw[e];dsimp only;rw[ψ (by rw[OY];exact hh)]
      refine⟨c',by omega,k2,fun x h1 h2=>?_,by rw[step];exact k4⟩;rcases SY c x with q |q
      . exact k3 x (by omega) h2
      . rw[show x=c by omega];exact⟨i,e,hh⟩
section
variable {prog:Program}{w:World}{A:Around}{E:Value->Shared->Prop}{s:Shared}
theorem Tt{a:Addr}{o:Obj}{es:Array (Int×Value)}{ep:Nat}{t:SetTable}{b:Addr}{kx:NK}(ho:s.heap.get? a=some o)(hd:o.data=.set es ep t)(T:Tok t es.size)(R:Ris t.place)(H:HI t es)(hx:NKv s.heap kx (.ref b))(dx:kx.dep<=8)(hu:A.units+8<cLine)
  (dA:∀e∈es.toList,∃(k:NK)(c:Addr),k.dep<=8/\e.1=k.hs/\e.2=.ref c/\NKv s.heap k e.2) {D:Nat} (hE:t.slot (adv t D (t.probeStart kx.hs)).j=.empty) (hD:D<10 * SetTable.turns t.mask) {Q:SetFound->Shared->Prop}
  (q1:(∃e∈es.toList,NKv s.heap kx e.2)->Q (.there none) s) (q2:∀j,(∀e∈es.toList,¬NKv s.heap kx e.2)->t.slot j=.empty->Rc t (·∈t.place.toList) kx.hs j->Q (.free j false) s) :
  ∀(ao c:Nat)(st:Option SetTable.Probe),D - c<ao->c<=D->st.getD (t.probeStart kx.hs)=adv t c (t.probeStart kx.hs)->(∀x,x<c->∃i,t.slot (adv t x (t.probeStart kx.hs)).j=.live i/\∀e,es[i]?=some e->¬NKv s.heap kx e.2) ->
   wpAny (model prog w) A (setSearchFrom a (.ref b) kx.hs true ao st) Q E s
 | 0,c,st,hf,hc,aL,hv=>by omega
 |ao+1,c,st,hf,hc,aL,hv=>by
  rw[setSearchFrom.eq_2];refine χ (QX ho hd T.fits ?_);dsimp only;rw[ψ (by rw[T.way];exact η)];have gp:=fun ha=>Rt (ha:=ha) (h:=kx.hs) T.2.1 (show(t.probeStart kx.hs).dummy=none from rfl) hE (D - c) c (10 * SetTable.turns t.mask) rfl hc (by omega)
  split
  . rename_i met e;rw[aL]at e;obtain⟨c',k1,k2,k3,k4⟩:=gp _;rcases k4 with⟨e1,e2⟩ |⟨i,e1,hi,hh,aD,e2⟩
    . have z:=e2.symm.trans e;injection z with z;subst z;have gX:∀x,x<c'->∃i,t.slot (adv t x (t.probeStart kx.hs)).j=.live i/\∀e,es[i]?=some e->¬NKv s.heap kx e.2:=fun x bJ=>by
       rcases SY x c with q |q
       . exact hv x q
       . obtain⟨i,j1,j2⟩:=k3 x q bJ;refine⟨i,j1,fun e0 he0 ez=>?_⟩;obtain⟨k,cc,_,y2,_,y4⟩:=dA e0 (OR (by rw[OC];exact he0));have ek:=y4.inj ez;apply j2;show(Option.map (fun x=>x.1) es[i]?).getD 0=_;rw[he0];show e0.1=_;rw[y2,ek]
      refine ω (q2 _ (fun e0 he0 ez=>?_) e1 ⟨c',by omega,rfl,fun x bJ=>?_⟩)
      . obtain⟨i0,iQ⟩:=TF.mp he0;rw[OC]at iQ;obtain⟨hb,_⟩:=NY.mp iQ;have AZ:i0<t.place.size:=by rw[T.1];exact hb
        have hz:(t.place[i0],e0)∈t.place.toList.zip es.toList:=by refine TF.mpr ⟨i0,?_⟩;rw[PP];exact⟨by rw[OC,KF AZ],by rw[OC];exact iQ⟩
        obtain⟨d0,_,y2,y3⟩:=H _ hz;obtain⟨k,cc,_,y5,_,y6⟩:=dA e0 he0;have ek:=y6.inj ez;have eh:e0.1=kx.hs:=by rw[y5,ek]
        simp only at y2 y3;rw[eh]at y2 y3;have sl:t.slot (adv t d0 (t.probeStart kx.hs)).j=.live i0:=by rw[y2];exact Ru R (KF AZ)
        rcases Nat.lt_trichotomy d0 c' with q |q |q
        . obtain⟨i,j1,j2⟩:=gX d0 q;rw[sl]at j1;injection j1 with j1;subst j1;exact j2 e0 iQ ez
        . rw[q,e1]at sl;cases sl
        . exact(Tv R T.2.1).mpr (y3 c' q) e1
      . obtain⟨i,j1,_⟩:=gX x bJ;exact(Tv R T.2.1).mp (by rw[j1];intro z;cases z)
    . have z:=e2.symm.trans e;injection z with z;subst z;dsimp only;have bd:i<es.size:=by rw[<-T.1];exact hi
      have body:wpAny (model prog w) A (match es[i]? with
        |some (BA,y)=>(do
         let gf <-holding [y] (eqBool y (.ref b))
         let __x <-setState a
         match __x with
          | (gw,BA,t')=>
           if(true&&gf)=true then pure (SetFound.there none)
           else
            match t'.sameMemory t.moves t.mask with
            |some same=>
             have __do_jp:=fun cf=>
              match cf with
              |none=>(do
               rule "set.search.anew"
               setSearchFrom a (.ref b) kx.hs true ao none:Sem SetFound)
              |some i'=>
               if gf=true then pure (SetFound.there (some i'))
               else setSearchFrom a (.ref b) kx.hs true ao (some (adv t (c'+1) (t.probeStart kx.hs)));
             match if same=true then t'.slot (adv t c' (t.probeStart kx.hs)).j else SetTable.Slot.empty with
             |SetTable.Slot.live i'=>
              match gw[i']? with
              |some (BA,y')=>do
               let __do_lift <-isSame y' y
               let cf <-pure (if __do_lift=true then some i' else none)
               __do_jp cf
              |none=>do
               let cf <-pure none
               __do_jp cf
             |x=>do
              let cf <-pure none
              __do_jp cf
            |x=>unsupported "set.changed-during-lookup:is-the-new-block-at-the-old-address":Sem SetFound)
        |x=>unsupported "internal:set-entry") Q E s:=by
       obtain⟨k,cc,dk,_,ey,hk⟩:=dA es[i] (by simp)
       have e3:es[i]?=some (es[i].1,es[i].2):=by rw[KF bd]
       rw[e3]
       dsimp only
       refine χ (NZ (Gx 8 dk hu hk hx prog w E _ ?_))
       refine χ (QX ho hd T.fits ?_)
       dsimp only
       by_cases aM:k=kx
       . rw[decide_eq_true aM,ξ (show(true&&true)=true from rfl)];exact ω (q1 ⟨es[i],by simp,by rw[<-aM];exact hk⟩)
       . rw[NO aM,ψ (by decide)];rw[show t.sameMemory t.moves t.mask=some true by unfold SetTable.sameMemory;rw[ξ (beq_self_eq_true _)]];dsimp only;rw[ξ rfl,e1];dsimp only;rw[e3];dsimp only;rw[ey];refine χ (wpAny_isSame_ref_self ?_);refine χ (ω ?_);try dsimp only
         try rw[ξ rfl]
         try dsimp only
         rw[ψ η];refine Tt ho hd T R H hx dx hu dA hE hD q1 q2 ao (c'+1) _ (by omega) (by omega) rfl fun x bJ=>?_
         rcases SY x c with q |q
         . exact hv x q
         . rcases SY x c' with q' |q'
           . obtain⟨i1,j1,j2⟩:=k3 x q q';refine⟨i1,j1,fun e0 he0 ez=>?_⟩;obtain⟨k',MT,_,y2,_,y4⟩:=dA e0 (OR (by rw[OC];exact he0));have ek:=y4.inj ez;apply j2;show(Option.map (fun x=>x.1) es[i1]?).getD 0=_;rw[he0];show e0.1=_;rw[y2,ek]
           . rw[show x=c' by omega];refine⟨i,e1,fun e0 he0 ez=>?_⟩;rw[KF bd]at he0;injection he0 with he0;rw[<-he0]at ez;exact aM (hk.inj ez)
      split
      . refine χ (xk dx hx ?_ _ fun y hy=>?_)
        . rw[ψ η];exact body
        . obtain⟨e2,ef,rfl⟩:=OO.mp hy;have pH:e2∈es.toList:=by simp only[Array.toList_filter,List.mem_filter]at ef;exact ef.1
          obtain⟨k,c,dk,_,_,hk⟩:=dA e2 pH;exact⟨k,dk,hk⟩
      . exact body
  . rename_i gE;obtain⟨c',k1,k2,k3,k4⟩:=gp _;rw[aL]at gE;rcases k4 with⟨e1,e2⟩ |⟨i,e1,hi,hh,aD,e2⟩
    . exact absurd e2 (gE _)
    . exact absurd e2 (gE _)
end
section
variable {prog:Program}{w:World}{A:Around}{E:Value->Shared->Prop}{s:Shared}
structure StT(w:World)(h:Heap)(es:Array (Int×Value))(t:SetTable)(ps:List (NK×Addr)):Prop where
 tok:Tok t es.size
 pl:t.plain=true
 led:t.led=!w.params.followText "set-order"
 ris:Ris t.place
 hi:HI t es
 en:es.toList.Perm (ps.map fun p=>(p.1.hs,Value.ref p.2))
 nk:∀p∈ps,NKv h p.1 (.ref p.2)/\p.1.dep<=8
def L7(w:World)(h:Heap)(a:Addr)(ps:List (NK×Addr)):Prop:=∃(o:Obj)(es:Array (Int×Value))(ep:Nat)(t:SetTable),h.get? a=some o/\o.ExactSet/\o.data=.set es ep t/\StT w h es t ps
noncomputable def addT(ps:List (NK×Addr))(p:NK×Addr):List (NK×Addr):=if p.1∈ps.map (·.1) then ps else ps++[p]
theorem StT.size(S:StT w h es t ps):es.size=ps.length:=by rw[<-gc,S.en.length_eq,oQ]
theorem StT.mem(S:StT w h es t ps)(he:e∈es.toList):∃p∈ps,e=(p.1.hs,Value.ref p.2):=by obtain⟨p,hp,e⟩:=OO.mp (S.en.mem_iff.mp he);exact⟨p,hp,e.symm⟩
theorem xj(S:L7 w s.heap a ps)(hx:NKv s.heap kx (.ref b))(dx:kx.dep<=8)(MU:ps.length<64)(hu:A.units+8<cLine)
  (q:∀r h',(∀c,c≠a->h'.get? c=s.heap.get? c)->h'.objs.size=s.heap.objs.size->L7 w h' a (addT ps (kx,b))->Q r { s with heap:=h' }):wpAny (model prog w) A (setAddHashed a (.ref b) kx.hs) Q E s:=by
 obtain⟨o,es,ep,t,ho,hc,hd,S⟩:=S
 obtain⟨oc,od,nV,osl⟩:=o
 have GG:=hc
 obtain⟨BB,fA,BC⟩:=hc
 dsimp only at BB fA BC hd
 subst BB fA BC hd
 have hd:(⟨.type "set",none,.set es ep t,#[]⟩:Obj).data=.set es ep t:=rfl
 have T:=S.tok
 obtain⟨j0,GH,he0⟩:=yq T.2.1 T.le
 obtain⟨d,gY,GI⟩:=zF T.full kx.hs GH
 have pI:∀e∈es.toList,∃(k:NK)(c:Addr),k.dep<=8/\e.1=k.hs/\e.2=.ref c/\NKv s.heap k e.2:=fun e he=>by obtain⟨p,hp,rfl⟩:=S.mem he;exact⟨p.1,p.2,(S.nk p hp).2,rfl,rfl,(S.nk p hp).1⟩
 have hm:t.mask<=127:=by rcases T.2.2 with⟨e,_⟩ |⟨e,_⟩ |⟨e,_⟩<;>omega
 have hl:=S.size
 unfold setAddHashed
 refine NZ ?_
 show wpAny (model prog w) A (setAddHashedIn a (.ref b) kx.hs (99999+1)) Q E s
 rw[setAddHashedIn.eq_2]
 refine χ (QX ho hd T.fits ?_)
 dsimp only
 rw[ψ (show ¬byScan (.ref b) es=true by unfold byScan;simp[Value.scannable])]
 refine χ (Tt ho hd T S.ris S.hi hx dx hu pI (D:=d) (by rw[GI];exact he0) gY (fun ex=>?_) (fun j mO ej rj=>?_) 100000 0 none (by unfold SetTable.turns at gY;omega) (OI _) rfl fun x h=>by omega)
 . dsimp only;have fz:kx∈ps.map (·.1):=by obtain⟨e,he,hk⟩:=ex;obtain⟨p,hp,rfl⟩:=S.mem he;exact OO.mpr ⟨p,hp,((S.nk p hp).1.inj hk)⟩
   have:=q false s.heap (fun _ _=>rfl) rfl ⟨_,es,ep,t,ho,GG,rfl,by unfold addT;rw[ξ fz];exact S⟩;refine ω ?_;exact this
 dsimp only
 have hn:kx∉ps.map (·.1):=fun z=>by obtain⟨p,hp,e⟩:=OO.mp z;exact mO (p.1.hs,.ref p.2) (S.en.mem_iff.mpr (OO.mpr ⟨p,hp,rfl⟩)) (by rw[<-e];exact(S.nk p hp).1)
 refine χ (QX ho hd T.fits ?_)
 dsimp only
 obtain⟨p1,p2,p3⟩:=jP T.2.1 j
 have R1:=vq S.ris ej
 have H1:=S.hi.put T.1 (x:=Value.ref b) rj
 have c1:(t.put j).1.plain=true:=S.pl
 have c2:(t.put j).1.led=!w.params.followText "set-order":=S.led
 have pe:(SetTable.insertAt es (t.put j).2 (kx.hs,Value.ref b)).toList.Perm (es.toList++[(kx.hs,Value.ref b)]):=by have:=SetTable.insertAt_perm es (t.put j).2 (kx.hs,Value.ref b);rwa [SZ]at this
 generalize t.put j=r at p1 p2 p3 R1 H1 c1 c2 pe
 obtain⟨t1,p⟩:=r
 dsimp only at p1 p2 p3 R1 H1 c1 c2 pe⊢
 have sz:=Tx es p (kx.hs,Value.ref b)
 have T1:=T.1
 rw[T1]at p2
 generalize SetTable.insertAt es p (kx.hs,Value.ref b)=aQ at sz H1 pe
 have BE:aQ.toList.Perm ((ps++[(kx,b)]).map fun p=>(p.1.hs,Value.ref p.2)):=by rw[RH];exact pe.trans (S.en.append_right _)
 have hz:aQ.size<=sizeLine:=by rw[sz,hl];exact KM (show ps.length+1<=64 by omega) (by decide)
 have eU:=Rv ho aQ t1
 have dJ:∀c,c≠a->(s.heap.update a (Obj.putSet aQ t1)).get? c=s.heap.get? c:=(RX s.heap a (Obj.putSet aQ t1)).2
 have oh:∀p∈ps++[(kx,b)],NKv (s.heap.update a (Obj.putSet aQ t1)) p.1 (.ref p.2)/\p.1.dep<=8:=fun p hp=>by
  rcases OF.mp hp with hp |hp
  . exact⟨Hx ho rfl dJ (S.nk p hp).1,(S.nk p hp).2⟩
  . rw[PV.mp hp];exact⟨Hx ho rfl dJ hx,dx⟩
 have ea:addT ps (kx,b)=ps++[(kx,b)]:=by unfold addT;rw[ψ hn]
 rw[ea]at q
 have rest:wpAny (model prog w) A (do
   storeSet a aQ t1
   if(!false&&t1.tooFull)=true then do
     let __r <-setRelay a (SetTable.grown (es.size+1))
     pure true
    else pure true) Q E s:=by
  refine χ (wpAny_storeSet_of ho hd ?_ hz)
  have gh:t1.tooFull=decide ((es.size+1) * 5 ≥ t.mask * 3):=by unfold SetTable.tooFull SetTable.fill;rw[p2,p3,p1];rfl
  have MV:es.size+1<=64:=by rw[hl];omega
  by_cases hf:(es.size+1) * 5 ≥ t.mask * 3
  . rw[gh,decide_eq_true hf];rw[ξ (show(!false&&true)=true from rfl)];obtain⟨cg,F',hw,hk,bS,iR⟩:∃cg,Full (cg+1)/\SetTable.sizeAbove (SetTable.grown (es.size+1)) - 1=cg/\((cg=7/\aQ.size<5)\/(cg=31/\aQ.size<19)\/(cg=127/\aQ.size<77))/\aQ.size<=cg/\¬SetTable.sizeAbove (SetTable.grown (es.size+1)) > sizeLine:=by
     rcases T.2.2 with⟨e,z⟩ |⟨e,z⟩ |⟨e,z⟩
     . rw[e]at hf;have:es.size=4:=by omega
       rw[sz,this];exact⟨31,Pq,by decide,.inr (.inl ⟨rfl,by decide⟩),by decide,by decide⟩
     . rw[e]at hf;have:es.size=18:=by omega
       rw[sz,this];exact⟨127,Sb,by decide,.inr (.inr ⟨rfl,by decide⟩),by decide,by decide⟩
     . rw[e]at hf;omega
    obtain⟨t2,aI,er,m1,m2,m3,m4,m5,m6,m7⟩:=vp t1 F' (aQ.map (·.1)) (by rw[Array.size_map];exact bS) hw;have H2:=vm F' aQ bS hw er;rw[Array.size_map]at m2 m4;have pp:=vo aQ aI m4;have k1:(aI.filterMap (aQ[·]?)).size=aQ.size:=by rw[<-gc,pp.length_eq,gc]
    have pJ:t1.fits aQ.size=true:=by unfold SetTable.fits SetTable.fill;rw[p2,p3,p1,sz,bI,OY,NP];refine⟨rfl,?_⟩;show es.size+1+0<=_;rcases T.2.2 with⟨e,z⟩ |⟨e,z⟩ |⟨e,z⟩<;>omega
    refine χ ?_;unfold setRelay;refine χ (QX eU rfl pJ ?_);dsimp only;rw[ψ iR,er];refine χ (wpAny_of_eq (a:=(aI.filterMap (aQ[·]?),t2)) (by show(if((aI.filterMap (aQ[·]?)).size != aQ.size)=true then _ else pure (aI.filterMap (aQ[·]?),t2))=_;rw[ψ (by rw[k1];simp)]) ?_);dsimp only;refine wpAny_storeSet_of eU rfl ?_ (by rw[k1];exact hz);refine ω ?_;have el:=Rv eU (aI.filterMap (aQ[·]?)) t2;have iD:∀c,c≠a->((s.heap.update a (Obj.putSet aQ t1)).update a (Obj.putSet (aI.filterMap (aQ[·]?)) t2)).get? c=(s.heap.update a (Obj.putSet aQ t1)).get? c:=(RX _ a _).2;refine q true _ (fun c hc=>(iD c hc).trans (dJ c hc)) ?_ ⟨_,_,_,_,el,⟨rfl,rfl,rfl⟩,rfl,⟨⟨by rw[m2,k1],m3,?_⟩,by rw[m7,c1],by rw[m6,c2],m5,H2,pp.trans BE,fun p hp=>?_⟩⟩
    . rw[(RX _ a _).1,(RX _ a _).1]
    . rw[m1,k1];exact hk
    . exact⟨Hx eU rfl iD (oh p hp).1,(oh p hp).2⟩
  . rw[gh,NO hf];rw[ψ (show ¬(!false&&false)=true from η)];refine ω (q true _ dJ ?_ ⟨_,_,_,_,eU,⟨rfl,rfl,rfl⟩,rfl,⟨⟨by rw[p2,sz],p3,?_⟩,c1,c2,R1,H1,BE,oh⟩⟩)
    . rw[(RX _ a _).1]
    . rw[p1,sz];rcases T.2.2 with⟨e,z⟩ |⟨e,z⟩ |⟨e,z⟩<;>rw[e]at hf⊢<;>omega
 split
 . refine χ (La 8 dx hx ?_);exact rest
 . refine χ (La 8 dx hx ?_);exact rest
end
section
variable {prog:Program}{w:World}
theorem jO(a:Value)(h:Q₁ (.ref s.heap.objs.size) { s with heap:=s.heap.push { cls:=.type "set",dict:=none,data:=.set #[] 0 (.fresh 0 0 (!w.params.followText "set-order")) } }) :
  codeAny (model prog w) A (.call (.builtin "set.__new__") ⟨[.type "set",a],[]⟩) (wants Q₁ E) s:=by
 have sub:=OQ.sub
 refine codeAny_of_tree (show wpAny _ A.in1 (do checkBuiltinCall "set.__new__" ⟨[.type "set",a],[]⟩;again (.builtin "set.__new__" ⟨[.type "set",a],[]⟩)) _ _ s from ?_)
 refine χ (wpAny_of_eq (PySem.F.newCall_set_1 a) (ω ⟨UA PySem.F.plain_set_new _,RQ PySem.F.entry_set_new ?_⟩))
 rw[RV PySem.F.plain_set_new _]
 obtain⟨hp,g,d,tk,os⟩:=s
 unfold Builtin.«set.__new__» Builtin.Frozenset.newClass
 wp_walk
 refine RG (ω ?_)
 dsimp only
 refine QZ ?_
 exact ω h
end
section
variable {prog:Program}{w:World}
theorem Rs(ps:List (NK×Addr))(p:NK×Addr):ps.length<=(addT ps p).length:=by
 unfold addT;split
 . exact ζ _
 . rw[θ];omega
theorem Ts:∀(rest ps:List (NK×Addr)),ps.length<=(rest.foldl addT ps).length
 | [],ps=>ζ _
 |r::rest,ps=>KM (Rs ps r) (Ts rest (addT ps r))
theorem Uw(hd:L7 w h d ps)(hi:h.IsListIter it l i)(aM:d≠it)(kp:∀b o,b≠it->h.get? b=some o->h'.get? b=some o):L7 w h' d ps:=by obtain⟨o,es,ep,t,d1,d2,d3,S⟩:=hd;refine⟨o,es,ep,t,kp d o aM d1,d2,d3,{ S with nk:=fun p hp=>⟨NKv.stay (fun a its t=>?_) (S.nk p hp).1,(S.nk p hp).2⟩ }⟩;obtain⟨ot,et,ct,n,dt⟩:=t;obtain⟨oi,ei,ci,_⟩:=hi;refine⟨ot,kp a ot (fun z=>?_) et,ct,n,dt⟩;subst z;rw[et]at ei;cases ei;rw[ct]at ci;exact absurd (Value.type.inj ci) (by decide)
theorem vk{h₀:Heap}{l it d:Addr}{items:Array Value}{A:Around}{R:Result->Shared->Prop}(nP:h₀.get? d=none)(lS:h₀.get? it=none)(aM:d≠it)(hl:h₀.IsList l items)(hh:A.handled=none)(hu:A.units+16<cLine) :
  ∀(rest:List (NK×Addr))(i:Nat)(acc:List (NK×Addr))(s:Shared),Keep h₀ s.heap->s.heap.IsListIter it l i->L7 w s.heap d acc ->
   items.toList.drop i=rest.map (fun r=>Value.ref r.2)->(∀r∈rest,NKv h₀ r.1 (.ref r.2)/\r.1.dep<=8)->(rest.foldl addT acc).length<64 ->
   (∀h' tk,L7 w h' d (rest.foldl addT acc)->Keep h₀ h'->R (.ok (.ret .none)) { s with heap:=h',toks:=tk }) ->
   codeAny (model prog w) A (.builtin "set.update.loop" ⟨[.ref d,.ref it],[]⟩) R s:=by
 intro rest
 induction rest with
 |nil=>
  intro i acc s kp hi hd hr hf hz k
  refine RQ F.entry_set_update_loop ?_
  rw[RV F.plain_set_update_loop _]
  show wpAny _ A.in1 (pyNext (.ref it) >>= _) _ _ s
  have hx:items[i]?=none:=by
   have:items.toList[i]?=none:=by rw[List.getElem?_eq_none_iff];exact List.drop_eq_nil_iff.mp hr
   simpa using this
  refine χ (wpAny_pyNext_list_end hh hi (kp.list hl) hx fun h' ex=>?_)
  show wpAny _ _ (ret Value.none) _ _ _
  exact ω (k h' s.toks (Uw hd hi aM fun b o hb e=>ex b o hb e) fun b o e=>ex b o (fun z=>by rw[z,lS]at e;cases e) (kp b o e))
 |cons r rest ih=>
  intro i acc s kp hi hd hr hf hz k
  refine RQ F.entry_set_update_loop ?_
  rw[RV F.plain_set_update_loop _]
  show wpAny _ A.in1 (pyNext (.ref it) >>= _) _ _ s
  have hx:items[i]?=some (.ref r.2):=by
   have:items.toList[i]?=some (.ref r.2):=by have e:=PZ List.head? hr;rw[List.head?_drop]at e;rw[e];rfl
   simpa using this
  obtain⟨hk,BF⟩:=hf r NN
  rw[RI]at hz
  have ha:acc.length<64:=Nat.lt_of_le_of_lt (KM (Rs acc r) (Ts rest _)) hz
  refine χ (wpAny_pyNext_list_item hi (kp.list hl) hx fun h' bd sb=>?_)
  have eW:Keep h₀ h':=fun b o e=>by
   have hb:b≠it:=fun z=>by rw[z,lS]at e;cases e
   rw[sb.2 b hb];exact kp b o e
  have bW:L7 w h' d acc:=Uw hd hi aM fun b o hb e=>by rw[sb.2 b hb];exact e
  have cr:NKv h' r.1 (.ref r.2):=NKv.stay (fun a its t=>eW.tuple t) hk
  show wpAny _ _ (holding [Value.ref r.2] (setAdd d (.ref r.2)) >>= _) _ _ _
  refine χ (NZ ?_)
  unfold setAdd
  refine NZ ?_
  refine χ (Kr 8 BF (by show A.units+1+8<cLine;omega) cr ?_)
  refine xj (s:={ s with heap:=h',toks:=_ }) bW cr BF ha (by show A.units+1+8<cLine;omega) fun _ ck lT _ pK=>?_
  refine ω ⟨UA F.plain_set_update_loop _,?_⟩
  refine ih (i+1) (addT acc (r.1,r.2)) { s with heap:=ck,toks:=_ } (fun b o e=>?_) ?_ pK ?_ (fun q hq=>hf q (IR _ hq)) hz fun h3 GJ hS hK=>k h3 GJ hS hK
  . have hb:b≠d:=fun z=>by rw[z,nP]at e;cases e
    show ck.get? b=some o;rw[lT b hb];exact eW b o e
  . obtain⟨o,eo,c⟩:=bd;exact⟨o,by show ck.get? it=some o;rw[lT it (PN aM)];exact eo,c⟩
  . have e:=PZ List.tail hr;rw[List.tail_drop]at e;exact e
theorem vh(hl:s.heap.IsList l its)(hh:A.handled=none)(hu:A.units+32<cLine)
  (rest:List (NK×Addr)) (hr:its.toList=rest.map (fun r=>Value.ref r.2)) (hf:∀r∈rest,NKv s.heap r.1 (.ref r.2)/\r.1.dep<=8) (hz:(rest.foldl addT []).length<64)
  (k:∀h' tk,L7 w h' s.heap.objs.size (rest.foldl addT [])->Keep s.heap h'->Q (.ref s.heap.objs.size) { s with heap:=h',toks:=tk }) :
  wpAny (model prog w) A (call (.type "set") [.ref l]) Q E s:=by
 obtain⟨c,tl,LN⟩:=OQ.mro
 have DA:=OQ.made
 have LO:=OQ.sub
 have h1:=OQ.notType
 have h2:=OQ.canCreate
 have MW:=PySem.F.typeCall_set_1 (.ref l)
 refine wpAny_call (codeAny_of_tree ?_)
 show wpAny _ _ (callAny (.type "set") _) _ _ _
 refine ω ⟨Code.quiet_builtin _ (by decide +kernel),RQ PySem.F.entry_type_call ?_⟩
 rw[Around.under_plain (weight_type_call_type "set" [.ref l] []) rfl]
 repeat (any_goals (first |assumption |wp_step))
 refine UJ (jO (.ref l) (E:=E) (Q₁:=fun obj ae=>∃led:Bool,led=(!w.params.followText "set-order")/\obj=.ref s.heap.objs.size/\ae={ s with heap:=s.heap.push { cls:=.type "set",dict:=none,data:=.set #[] 0 (.fresh 0 0 led) } }) ⟨_,rfl,rfl,rfl⟩) fun r ae oj=>?_
 cases r with
 |error e=>exact oj
 |ok fl=>
  cases fl with
  |ret obj=>
   obtain⟨led,pL,rfl,rfl⟩:=oj
   have hS:(s.heap.push { cls:=.type "set",dict:=none,data:=.set #[] 0 (.fresh 0 0 led) }).get? s.heap.objs.size=some { cls:=.type "set",dict:=none,data:=.set #[] 0 (.fresh 0 0 led) }:=Ξ _ rfl
   have hT:Shared.TypeIs { s with heap:=s.heap.push { cls:=.type "set",dict:=none,data:=.set #[] 0 (.fresh 0 0 led) } } (.ref s.heap.objs.size) "set":=⟨_,hS,rfl⟩
   have dH:=OQ.init.lookup
   have fV:=OQ.init.bind (.ref s.heap.objs.size)
   repeat (any_goals (first |assumption |wp_step))
   refine UJ (codeAny_call_builtin (R:=wants (fun r bQ=>r=.none/\∃h' tk,bQ={ s with heap:=h',toks:=tk }/\L7 w h' s.heap.objs.size (rest.foldl addT [])/\Keep s.heap h') E) OQ.init.plain PySem.F.entry_set_init (check_set_init_1 hT ?_)) fun bD bQ fg=>?_
   . have mV:=hl;obtain⟨ol,GK,cN,nl,gY⟩:=hl;obtain⟨LP,mP,DB,ip⟩:=ol;simp only at cN gY;subst cN gY;have pM:(s.heap.push { cls:=.type "set",dict:=none,data:=.set #[] 0 (.fresh 0 0 led) }).get? l=some { cls:=.type "list",dict:=mP,data:=.seq its nl,slots:=ip }:=Ψ _ GK;have LQ:=PySem.F.sub_list_set;have LS:=PySem.F.sub_list_frozenset;have aM:(Value.type "list"==Value.type "dict")=false:=by decide
     have eX:(s.heap.push { cls:=.type "set",dict:=none,data:=.set #[] 0 (.fresh 0 0 led) }).IsList l its:=⟨_,pM,rfl,nl,rfl⟩;unfold Builtin.«set.__init__» noKeywords Builtin.Frozenset.updateFrom;generalize GL:pyIter=PI
     wp_walk
     subst GL;refine wpAny_pyIter_list eX ?_;refine χ (wpAny_runValue ?_);have e1:(s.heap.push { cls:=.type "set",dict:=none,data:=.set #[] 0 (.fresh 0 0 led) }).objs.size=s.heap.objs.size+1:=Heap.size_push ..;have GN:Keep s.heap ((s.heap.push { cls:=.type "set",dict:=none,data:=.set #[] 0 (.fresh 0 0 led) }).push { cls:=.type "list_iterator",data:=.fields #[.ref l,.int 0 0] }):=fun b ob q=>Ψ _ (Ψ _ q)
     refine vk (h₀:=s.heap) (l:=l) (items:=its) (SJ (ζ _)) (SJ (by show s.heap.objs.size<=(s.heap.push _).objs.size;rw[e1];omega)) (by show s.heap.objs.size≠(s.heap.push _).objs.size;rw[e1];omega) mV (by simp[hh]) (by show A.units+1+1+16<cLine;omega) rest 0 [] _ GN ⟨_,Ξ _ rfl,rfl,rfl⟩ ?_ (by simpa using hr) hf hz fun h' tk hK kp=>?_
     . exact⟨_,#[],0,_,Ψ _ hS,⟨rfl,rfl,rfl⟩,rfl,⟨⟨rfl,rfl,.inl ⟨rfl,by decide⟩⟩,rfl,pL,List.Pairwise.nil,(fun z hz=>by cases hz),.refl _,fun p hp=>(by cases hp)⟩⟩
     . show wpAny _ _ _ _ _ _;refine ω ?_;show wpAny _ _ (ret Value.none) _ _ _;exact ω ⟨rfl,h',tk,rfl,hK,kp⟩
   . cases bD with
     |error e=>exact fg
     |ok mQ=>
      cases mQ with
      |ret r=>
       obtain⟨rfl,h',tk,rfl,GO,cr⟩:=fg
       repeat (any_goals (first |assumption |wp_step))
       exact k _ _ GO cr
      |_=>exact fg.elim
  |_=>exact oj.elim
end
section
variable {prog:Program}{w:World}{A:Around}{E:Value->Shared->Prop}{s:Shared}{κ:SortKind}{a₀:Array Keyed}{rk:Keyed->Nat}
noncomputable def tk(rk:Keyed->Nat)(xs:Array Keyed)(i:Nat):Nat:=match xs[i]? with
 |some p=>rk p
 |none=>0
def D8(prog:Program)(w:World)(A:Around)(E:Value->Shared->Prop)(s:Shared)(κ:SortKind)(a₀:Array Keyed)(rk:Keyed->Nat):Prop:=
 ∀x y,x∈a₀->y∈a₀->∀(st:SortSt)(Q:Option Bool->SortSt->Prop),kindOf st=κ->Q (some (decide (rk x<rk y))) st->wpS (model prog w) A E s (lt' x y) Q st
structure TBs(κ:SortKind)(a₀:Array Keyed)(st:SortSt):Prop where
 perm:(arrOf st).Perm a₀
 kind:kindOf st=κ
 ok:failedOf st=none
def TSo(rk:Keyed->Nat)(xs:Array Keyed)(lo hi:Nat):Prop:=∀i j,lo<=i->i<=j->j<hi->tk rk xs i<=tk rk xs j
theorem n9(h:i<xs.size):tk rk xs i=rk xs[i]:=by unfold tk;rw[getElem?_pos xs i h]
theorem Es(h:xs[i]?=ys[j]?):tk rk xs i=tk rk ys j:=by unfold tk;rw[h]
theorem TBs.size{st:SortSt}(B:TBs κ a₀ st):(arrOf st).size=a₀.size:=B.perm.size_eq
theorem TBs.mem{st:SortSt}(B:TBs κ a₀ st){x:Keyed}(h:x∈arrOf st):x∈a₀:=SM.mpr ((RC.mp B.perm).mem_iff.mp (SM.mp h))
theorem TBs.set{st:SortSt}(B:TBs κ a₀ st){xs:Array Keyed}(hp:xs.Perm (arrOf st)):TBs κ a₀ (setArr st xs):=⟨hp.trans B.perm,B.kind,B.ok⟩
theorem t8{st:SortSt}{xs:Array Keyed}{i:Nat}{Q:Keyed->SortSt->Prop}(h:i<xs.size)(q:Q xs[i] st):wpS (model prog w) A E s (elem' xs i) Q st:=by rw[elem'_eq,getElem?_pos xs i h];exact π q
theorem U3(hc:D8 prog w A E s κ a₀ rk){st:SortSt}(B:TBs κ a₀ st){i j:Nat}(hi:i<a₀.size)(hj:j<a₀.size){Q:Option Bool->SortSt->Prop}
  (h:Q (some (decide (tk rk (arrOf st) i<tk rk (arrOf st) j))) st):wpS (model prog w) A E s (ltAt' i j) Q st:=by
 rw[ltAt'_eq]
 have bd:i<(arrOf st).size:=by rw[B.size];exact hi
 have iE:j<(arrOf st).size:=by rw[B.size];exact hj
 rw[n9 bd,n9 iE]at h
 refine δ (wpS_get (δ (t8 bd (δ (t8 iE ?_)))))
 exact hc _ _ (B.mem (Array.getElem_mem _)) (B.mem (Array.getElem_mem _)) st Q B.kind h
theorem Ln(hj:j<=xs.size)(k:Nat):tk rk (mirror xs i j ((j - i) / 2)) k=if i<=k/\k<j then tk rk xs (i+j - 1 - k) else tk rk xs k:=by
 by_cases h:i<=k/\k<j<;>simp only[h,QN,PY]<;>refine Es ?_<;>rw[getElem?_mirror_all hj]
 . rw[ξ h]
 . rw[ψ h]
theorem yp(hs:eA<xs.size)(hd:d<=eA)(k:Nat) :
  tk rk (bubble xs eA d) k=if k=eA - d then tk rk xs eA else if eA - d<k/\k<=eA then tk rk xs (k - 1) else tk rk xs k:=by
 have e:=getElem?_bubble hs d hd k
 by_cases h1:k=eA - d
 . rw[ξ h1]at e⊢;exact Es e
 . rw[ψ h1]at e⊢;by_cases h2:eA - d<k/\k<=eA
   . rw[ξ h2]at e⊢;exact Es e
   . rw[ψ h2]at e⊢;exact Es e
theorem Kx(hj:j<=xs.size)(ha:∀k,i<=k->k<j->tk rk xs k=tk rk xs (j - 1))(k:Nat):tk rk (mirror xs i j ((j - i) / 2)) k=tk rk xs k:=by
 rw[Ln hj];by_cases h:i<=k/\k<j
 . rw[ξ h,ha (i+j - 1 - k) (by omega) (by omega),ha k h.1 h.2]
 . rw[ψ h]
theorem TSo.step{xs:Array Keyed}{lo n:Nat}(h:TSo rk xs lo (lo+n))(h1:1<=n)(hn:tk rk xs (lo+n - 1)<=tk rk xs (lo+n)):TSo rk xs lo (lo+(n+1)):=fun i j h0 nt h2=>by
 by_cases hj:j=lo+n
 . subst hj;by_cases hi:i=lo+n
   . rw[hi];exact ζ _
   . exact KM (h i (lo+n - 1) h0 (by lia) (by lia)) hn
 . exact h i j h0 nt (by lia)
theorem TSo.one(lo:Nat):TSo rk xs lo (lo+1):=fun i j h0 h1 h2=>by
 obtain rfl:i=j:=by lia
 exact ζ _
structure TL(st st':SortSt)(lo:Nat):Prop where
 low:∀k,k<lo->(arrOf st')[k]?=(arrOf st)[k]?
 pend:pendingOf st'=pendingOf st
theorem TL.refl(st:SortSt)(lo:Nat):TL st st lo:=⟨fun _ _=>rfl,rfl⟩
theorem TL.trans{a b c:SortSt}{lo:Nat}(h:TL a b lo)(k:TL b c lo):TL a c lo:=⟨fun i hi=>(k.low i hi).trans (h.low i hi),k.pend.trans h.pend⟩
theorem TL.mirror{st:SortSt}{lo i j:Nat}(hi:lo<=i)(hj:j<=(arrOf st).size):TL st (setArr st (mirror (arrOf st) i j ((j - i) / 2))) lo:=
 ⟨fun k hk=>by show(PyProof.Rows.mirror (arrOf st) i j ((j - i) / 2))[k]?=_;rw[getElem?_mirror_all hj,ψ (by lia)],rfl⟩
theorem Dl{st:SortSt}{i j:Nat}{Q:Unit->SortSt->Prop}(h:Q () (setArr st (mirror (arrOf st) i j ((j - i) / 2)))):wpS (model prog w) A E s (reverseSlice' i j) Q st:=by rw[reverseSlice'_eq];exact wpS_modify h
theorem TSo.ups'{xs:Array Keyed}{lo a:Nat}(h:TSo rk xs lo (lo+a))(ha:1<=a):∀{n:Nat},a<=n->(∀i,a<=i->i<n->tk rk xs (lo+i - 1)<=tk rk xs (lo+i))->TSo rk xs lo (lo+n)
 | 0,z,_=>by lia
 |n+1,z,up=>by
  by_cases e:a=n+1
  . rw[<-e];exact h
  . exact(TSo.ups' h ha (n:=n) (by lia) fun i a b=>up i a (by lia)).step (by lia) (up n (by lia) (by lia))
theorem TSo.ups{xs:Array Keyed}{lo n:Nat}(h:TSo rk xs lo (lo+1))(hn:1<=n)(up:∀i,1<=i->i<n->tk rk xs (lo+i - 1)<=tk rk xs (lo+i)):TSo rk xs lo (lo+n):=h.ups' (ζ _) hn up
theorem X0{U:Type}{r:String}{Q:Unit->U->Prop}{st:U}(h:Q () st):wpS (model prog w) A E s (liftM (rule r):StateT U Sem Unit) Q st:=wpS_lift (wpAny_rule ⟨rfl,h⟩)
theorem Xh(mk:Nat->β)(st:U)(down:Nat->Bool)(bX:a<=b)
  (go:∀x n (Q:ForInStep β->U->Prop),a<=n->n<b->Q (if down n=true then .done (mk n) else .yield (mk (n+1))) st->wpS (model prog w) A E s (f x (mk n)) Q st)
  (h:∀n,a<=n->n<=b->(∀i,a<=i->i<n->down i=false)->(n<b->down n=true)->Q (mk n) st):wpS (model prog w) A E s (forIn [a:b] (mk a) f) Q st:=by
 refine PM (I:=fun x c u=>u=st/\c=mk x/\∀i,a<=i->i<x->down i=false) (fun x c u hx hb hI=>?_) (fun c u hI=>?_) ⟨rfl,rfl,fun i y z=>by lia⟩
 . obtain⟨rfl,rfl,up⟩:=hI;refine go x x _ hx hb ?_;cases hd:down x
   . exact⟨rfl,rfl,fun i y z=>by
      by_cases e:i=x
      . rw[e];exact hd
      . exact up i y (by lia)⟩
   . exact h x hx (QQ hb) up fun _=>hd
 . obtain⟨rfl,rfl,up⟩:=hI;rw[Nat.max_eq_right bX]at up⊢;exact h b bX (ζ _) up fun z=>absurd z (PB _)
theorem Pl(mk:Nat->Nat->β)(st:U)(dN:Nat->Nat->Nat)(p:Nat->Bool)(pN:∀l r,l<r->l<=dN l r/\dN l r<r)
  (go:∀x l r (Q:ForInStep β->U->Prop),l0<=l->l<r->r<=r0->Q (.yield (if p (dN l r)=true then mk (dN l r+1) r else mk l (dN l r))) st->wpS (model prog w) A E s (f x (mk l r)) Q st)
  (stop:∀x l (Q:ForInStep β->U->Prop),l<=r0->Q (.done (mk l l)) st->wpS (model prog w) A E s (f x (mk l l)) Q st)
  (mono:∀i j,l0<=i->i<=j->j<r0->p j=true->p i=true) (hl:l0<=r0) (hN:r0<=l0+N)
  (h:∀k,l0<=k->k<=r0->(∀i,l0<=i->i<k->p i=true)->(∀i,k<=i->i<r0->p i=false)->Q (mk k k) st):wpS (model prog w) A E s (forIn [0:N] (mk l0 r0) f) Q st:=by
 have key:∀l r,l0<=l->l<=r->r<=r0->(∀i,l0<=i->i<l->p i=true)->(∀i,r<=i->i<r0->p i=false)->l=r->Q (mk l r) st:=fun l r a b c d e z=>by subst z;exact h l a c d e
 refine PM (I:=fun x c u=>u=st/\∃l r,(l0<=l/\l<=r/\r<=r0/\r+x<=l+N)/\c=mk l r/\(∀i,l0<=i->i<l->p i=true)/\∀i,r<=i->i<r0->p i=false)
  (fun x c u _ hb hI=>?_) (fun c u hI=>?_) ⟨rfl,l0,r0,⟨ζ _,hl,ζ _,by lia⟩,rfl,fun i a b=>by lia,fun i a b=>by lia⟩
 . obtain⟨rfl,l,r,⟨b1,b2,b3,b4⟩,rfl,lt,gt⟩:=hI;by_cases e:l=r
   . subst e;exact stop x l _ b3 (key l l b1 b2 b3 lt gt rfl)
   . have hm:=pN l r (by lia);refine go x l r _ b1 (by lia) b3 ?_;cases hp:p (dN l r)
     . exact⟨rfl,l,dN l r,⟨b1,hm.1,by lia,by lia⟩,rfl,lt,fun i a b=>by
        cases hi:p i
        . rfl
        . rw[mono (dN l r) i (by lia) a b hi]at hp;cases hp⟩
     . exact⟨rfl,dN l r+1,r,⟨by lia,by lia,b3,by lia⟩,rfl,fun i a b=>mono i (dN l r) a (by lia) (by lia) hp,gt⟩
 . obtain⟨rfl,l,r,⟨b1,b2,b3,b4⟩,rfl,lt,gt⟩:=hI;exact key l r b1 b2 b3 lt gt (by simp only[SX]at b4;lia)
theorem Rr{α:Type}{Q:α->SortSt->Prop}{st:SortSt}{p:Prop}[Decidable p]{t g:StateT SortSt Sem α}(R:SortSt->Prop)(hg:∀u,R u->wpS (model prog w) A E s g Q u)(ht:p->(∀u,R u->wpS (model prog w) A E s g Q u)->wpS (model prog w) A E s t Q st)(hn:¬p->R st):wpS (model prog w) A E s (if p then t else g) Q st:=by
 split
 . exact ht ‹_› hg
 . exact hg _ (hn ‹_›)
theorem vg(hc:D8 prog w A E s κ a₀ rk){st:SortSt}(B:TBs κ a₀ st){lo bY:Nat}(hz:lo+bY<=a₀.size)(h1:1<=bY){Q:Option Nat->SortSt->Prop}
  (h:∀n st',1<=n->n<=bY->TBs κ a₀ st'->TL st st' lo->TSo rk (arrOf st') lo (lo+n)->Q (some n) st'):wpS (model prog w) A E s (countRun' lo bY) Q st:=by
 rw[countRun'_eq]
 refine δ (Xh (fun n=>(none,n)) st (fun n=>decide (tk rk (arrOf st) (lo+n)<tk rk (arrOf st) (lo+n - 1))) h1 (fun x n Q a b q=>δ (U3 hc B (by lia) (by lia) ?_)) fun n om iy up dn=>?_)
 . by_cases hl:tk rk (arrOf st) (lo+n)<tk rk (arrOf st) (lo+n - 1)
   . simp only[hl,SS,QN]at q⊢;exact π q
   . simp only[hl,SV,OD,PY]at q⊢;exact π q
 have hs:=TSo.ups (n:=n) (TSo.one (rk:=rk) (xs:=arrOf st) lo) om fun i a b=>by have:=up i a b;simp only[NQ]at this;lia
 have hd:n<bY->tk rk (arrOf st) (lo+n)<tk rk (arrOf st) (lo+n - 1):=fun z=>by simpa using dn z
 dsimp only
 by_cases BG:n=bY
 . rw[ξ (by simp[BG])];exact π (h n _ om iy B (.refl _ _) hs)
 rw[ψ (by simp[BG])]
 have bW:=hd (by lia)
 have j9:∀(xs:Array Keyed),TSo rk xs lo (lo+n)->¬tk rk xs lo<tk rk xs (lo+n - 1)->∀k,lo<=k->k<lo+n->tk rk xs k=tk rk xs (lo+n - 1):=fun xs hs hr k h0 h1=>by
  have a:=hs lo k (ζ _) h0 h1;have b:=hs k (lo+n - 1) h0 (by lia) (by lia)
  lia
 have oo:∀(xs:Array Keyed),(∀k,lo<=k->k<lo+n->tk rk xs k=tk rk xs (lo+n - 1))->tk rk xs (lo+n)<tk rk xs (lo+n - 1)->∀i j,lo<=i->i<=j->j<lo+(n+1)->tk rk xs j<=tk rk xs i:=fun xs fl hd i j h0 h1 h2=>by
  by_cases hj:j=lo+n
  . subst hj;by_cases hi:i=lo+n
    . rw[hi];exact ζ _
    . rw[fl i h0 (by lia)];lia
  . rw[fl i h0 (by lia),fl j (by lia) (by lia)];exact ζ _
 refine Rr (fun u=>TBs κ a₀ u/\TL st u lo/\∀i j,lo<=i->i<=j->j<lo+(n+1)->tk rk (arrOf u) j<=tk rk (arrOf u) i) (fun MX z=>?_) (fun hn J=>?_) fun hn=>⟨B,.refl _ _,oo _ (j9 _ hs (by rw[show lo+n - 1=lo by lia];exact PB _)) bW⟩
 rotate_left
 . refine δ (U3 hc B (by lia) (by lia) ?_);by_cases hr:tk rk (arrOf st) lo<tk rk (arrOf st) (lo+n - 1)
   . rw[decide_eq_true hr];dsimp only;rw[ξ rfl];exact π (h n _ om iy B (.refl _ _) hs)
   rw[NO hr];dsimp only;rw[ψ η];have BH:lo+n<=(arrOf st).size:=by rw[B.size];lia
   have fl:=j9 _ hs hr;have ea:=Kx BH fl;exact δ (Dl (J _ ⟨B.set (mirror_perm _ _ _ _),.mirror (ζ _) BH,fun i j h0 h1 h2=>by show tk rk (mirror (arrOf st) _ _ _) j<=tk rk (mirror (arrOf st) _ _ _) i;rw[ea,ea];exact oo _ fl bW i j h0 h1 h2⟩))
 clear j9 oo hd bW hs up dn
 obtain⟨B1,L1,ni⟩:=z
 refine δ (X0 ?_)
 refine δ (UE (PM (I:=fun x c aG=>TBs κ a₀ aG/\TL st aG lo/\∃q,c=(none,x,q)/\q+1<=x/\(∀i j,lo<=i->i<=j->j<lo+x->tk rk (arrOf aG) j<=tk rk (arrOf aG) i)/\∀k,lo+x - (q+1)<=k->k<lo+x->tk rk (arrOf aG) k=tk rk (arrOf aG) (lo+x - 1))
  (Q:=fun c aG=>TBs κ a₀ aG/\TL st aG lo/\∃x q,c=(none,x,q)/\1<=x/\x<=bY/\q+1<=x/\(∀i j,lo<=i->i<=j->j<lo+x->tk rk (arrOf aG) j<=tk rk (arrOf aG) i)/\∀k,lo+x - (q+1)<=k->k<lo+x->tk rk (arrOf aG) k=tk rk (arrOf aG) (lo+x - 1)) ?step ?fin ⟨B1,L1,0,rfl,by lia,ni,fun k h0 h1=>by rw[show k=lo+(n+1) - 1 by lia]⟩) ?post)
 case fin=>
  rintro c aG ⟨B2,L2,q,rfl,hq,eB,al⟩
  rw[show max (n+1) bY=bY by lia]at *
  exact⟨B2,L2,bY,q,rfl,h1,ζ _,hq,eB,al⟩
 case post=>
  rintro c aG ⟨B2,L2,x,q,rfl,nU,nS,hq,eB,al⟩
  have gZ:lo+x<=(arrOf aG).size:=by rw[B2.size];lia
  dsimp only
  refine Rr (fun u=>TBs κ a₀ u/\TL st u lo/\∀i j,lo<=i->i<=j->j<lo+x->tk rk (arrOf u) j<=tk rk (arrOf u) i) (fun dE z=>?_) (fun oq J=>?_) fun _=>⟨B2,L2,eB⟩
  rotate_left
  . have ea:=Kx gZ al;exact δ (Dl (J _ ⟨B2.set (mirror_perm _ _ _ _),L2.trans (.mirror (by lia) gZ),fun i j h0 h1 h2=>by show tk rk (mirror (arrOf aG) _ _ _) j<=tk rk (mirror (arrOf aG) _ _ _) i;rw[ea,ea];exact eB i j h0 h1 h2⟩))
  obtain⟨B3,L3,GP⟩:=z
  have hJ:lo+x<=(arrOf dE).size:=by rw[B3.size];lia
  refine δ (Dl ?_)
  obtain⟨cA,e4⟩:∃cA,cA=setArr dE (mirror (arrOf dE) lo (lo+x) ((lo+x - lo) / 2)):=⟨_,rfl⟩
  have B4:TBs κ a₀ cA:=e4 ▸ B3.set (mirror_perm _ _ _ _)
  have L4:TL st cA lo:=e4 ▸ L3.trans (.mirror (ζ _) hJ)
  have s0:TSo rk (arrOf cA) lo (lo+x):=fun i j h0 h1 h2=>by rw[e4];show tk rk (mirror (arrOf dE) lo (lo+x) _) i<=tk rk (mirror (arrOf dE) lo (lo+x) _) j;rw[Ln hJ,Ln hJ,ξ (by lia),ξ (by lia)];exact GP _ _ (by lia) (by lia) (by lia)
  rw[<-e4]
  clear e4
  refine δ (Xh (fun n=>(none,n)) cA (fun n=>decide (tk rk (arrOf cA) (lo+n)<tk rk (arrOf cA) (lo+n - 1))) nS (fun y m Q a b q=>δ (U3 hc B4 (by lia) (by lia) ?_)) fun m GQ ou up _=>?_)
  . by_cases hl:tk rk (arrOf cA) (lo+m)<tk rk (arrOf cA) (lo+m - 1)
    . simp only[hl,SS,QN]at q⊢;exact π q
    . simp only[hl,SV,OD,PY]at q⊢;exact π q
  . dsimp only;refine π (h m _ (by lia) ou B4 L4 (s0.ups' nU GQ fun i a b=>?_));have:=up i a b;simp only[NQ]at this
    lia
 case step=>
  rintro x c aG MY MZ ⟨B2,L2,q,rfl,hq,eB,al⟩
  have gZ:lo+x<=(arrOf aG).size:=by rw[B2.size];lia
  dsimp only
  refine δ (U3 hc B2 (by lia) (by lia) ?_)
  have ext:∀(xs:Array Keyed),(∀i j,lo<=i->i<=j->j<lo+x->tk rk xs j<=tk rk xs i)->tk rk xs (lo+x)<=tk rk xs (lo+x - 1)->∀i j,lo<=i->i<=j->j<lo+(x+1)->tk rk xs j<=tk rk xs i:=fun xs nx hx i j h0 h1 h2=>by
   by_cases hj:j=lo+x
   . subst hj;by_cases hi:i=lo+x
     . rw[hi];exact ζ _
     . exact KM hx (nx i (lo+x - 1) h0 (by lia) (by lia))
   . exact nx i j h0 h1 (by lia)
  by_cases hl:tk rk (arrOf aG) (lo+x)<tk rk (arrOf aG) (lo+x - 1)
  . simp only[hl,SS,QN];by_cases oq:q > 0
    . rw[ξ oq];have ea:=Kx gZ al;refine δ (Dl (π ⟨B2.set (mirror_perm _ _ _ _),L2.trans (.mirror (by lia) gZ),0,rfl,by lia,ext _ (fun i j h0 h1 h2=>?_) ?_,fun k h0 h1=>by rw[show k=lo+(x+1) - 1 by lia]⟩))
      . show tk rk (mirror (arrOf aG) _ _ _) j<=tk rk (mirror (arrOf aG) _ _ _) i;rw[ea,ea];exact eB i j h0 h1 h2
      . show tk rk (mirror (arrOf aG) _ _ _) _<=tk rk (mirror (arrOf aG) _ _ _) _;rw[ea,ea];exact QQ hl
    . rw[ψ oq];exact π ⟨B2,L2,0,rfl,by lia,ext _ eB (QQ hl),fun k h0 h1=>by rw[show k=lo+(x+1) - 1 by lia]⟩
  . simp only[hl,SV,OD,PY];refine δ (U3 hc B2 (by lia) (by lia) ?_);by_cases hg:tk rk (arrOf aG) (lo+x - 1)<tk rk (arrOf aG) (lo+x)
    . simp only[hg,SS,QN];exact π ⟨B2,L2,x,q,rfl,by lia,by lia,hq,eB,al⟩
    . simp only[hg,SV,OD,PY];refine π ⟨B2,L2,q+1,rfl,by lia,ext _ eB (by lia),fun k h0 h1=>?_⟩;rw[show lo+(x+1) - 1=lo+x by lia];by_cases hk:k=lo+x
      . rw[hk]
      . rw[al k (by lia) (by lia)];lia
theorem TSo.down{xs:Array Keyed}{lo k l:Nat}(hz:lo+k<xs.size)(hl:l<=k)(hs:TSo rk xs lo (lo+k))(below:∀i,i<l->tk rk xs (lo+i)<=tk rk xs (lo+k))(above:∀i,l<=i->i<k->tk rk xs (lo+k)<tk rk xs (lo+i)) :
  TSo rk (bubble xs (lo+k) (lo+k - (lo+l))) lo (lo+(k+1)):=fun i j h0 ox hj=>by
 obtain⟨i,rfl⟩:∃i',i=lo+i':=⟨i - lo,by lia⟩
 obtain⟨j,rfl⟩:∃j',j=lo+j':=⟨j - lo,by lia⟩
 have val:∀m,m<=k->tk rk (bubble xs (lo+k) (lo+k - (lo+l))) (lo+m)=if m<l then tk rk xs (lo+m) else if m=l then tk rk xs (lo+k) else tk rk xs (lo+(m - 1)):=fun m hm=>by
  rw[yp hz (by lia)];by_cases a:m<l
  . rw[ψ (by lia),ψ (by lia),ξ a]
  . by_cases b:m=l
    . rw[ξ (by lia),ψ a,ξ b]
    . rw[ψ (by lia),ξ (by lia),ψ a,ψ b,show lo+m - 1=lo+(m - 1) by lia]
 have st:∀a b,a<=b->b<k->tk rk xs (lo+a)<=tk rk xs (lo+b):=fun a b u v=>hs _ _ (by lia) (by lia) (by lia)
 rw[val i (by lia),val j (by lia)]
 by_cases a:j<l
 . rw[ξ a,ξ (by lia)];exact st i j (by lia) (by lia)
 . rw[ψ a];by_cases b:i<l
   . rw[ξ b];by_cases c:j=l
     . rw[ξ c];exact below i b
     . rw[ψ c];exact st i (j - 1) (by lia) (by lia)
   . rw[ψ b];by_cases c:i=l
     . rw[ξ c];by_cases d:j=l
       . rw[ξ d];exact ζ _
       . rw[ψ d];exact QQ (above _ (by lia) (by lia))
     . rw[ψ c,ψ (by lia)];exact st _ _ (by lia) (by lia)
theorem y25(hc:D8 prog w A E s κ a₀ rk){st:SortSt}(B:TBs κ a₀ st){lo n ok:Nat}(hz:lo+n<=a₀.size)(h1:1<=ok)(hok:ok<=n)(hs:TSo rk (arrOf st) lo (lo+ok)){Q:Bool->SortSt->Prop}
  (h:∀u,TBs κ a₀ u->TL st u lo->TSo rk (arrOf u) lo (lo+n)->Q true u):wpS (model prog w) A E s (binarySort' lo n ok) Q st:=by
 rw[binarySort'_eq,Nat.max_eq_left h1]
 refine δ (UE (PM (I:=fun k c u=>c=(none,())/\TBs κ a₀ u/\TL st u lo/\TSo rk (arrOf u) lo (lo+k))
  (Q:=fun c u=>c=(none,())/\TBs κ a₀ u/\TL st u lo/\TSo rk (arrOf u) lo (lo+n)) (fun k c u ha hb hI=>?_) (fun c u hI=>by rwa [Nat.max_eq_right hok]at hI) ⟨rfl,B,.refl _ _,hs⟩) fun c u hI=>?_)
 . obtain⟨rfl,B1,L1,hs⟩:=hI;have BI:lo+k<(arrOf u).size:=by rw[B1.size];lia
   refine δ (Pl (fun l r=>(none,l,r)) u (fun l r=>(l+r) / 2) (fun i=>decide (tk rk (arrOf u) (lo+i)<=tk rk (arrOf u) (lo+k))) (fun l r _=>by lia) (fun x l r Q a b c q=>?_) (fun x l Q _ q=>?_) (fun i j _ a b c=>?_) (OI _) (by lia) fun l _ hl lt gt=>?_)
   . dsimp only;rw[ψ (by lia)];refine δ (U3 hc B1 (by lia) (by lia) ?_);by_cases z:tk rk (arrOf u) (lo+k)<tk rk (arrOf u) (lo+(l+r) / 2)
     . simp only[z,Nat.not_le.mpr z,SS,SV,OD,QN,PY]at q⊢;exact π q
     . simp only[z,Nat.not_lt.mp z,SS,SV,OD,QN,PY]at q⊢;exact π q
   . dsimp only;rw[ξ (ζ _)];exact π q
   . simp only[NP]at c⊢;exact KM (hs _ _ (by lia) (by lia) (by lia)) c
   . dsimp only;rw[moveDown'_eq];refine δ (wpS_modify (π ⟨rfl,B1.set (bubble_perm _ _ _),L1.trans ⟨fun j hj=>?_,rfl⟩,?_⟩))
     . show(bubble (arrOf u) (lo+k) (lo+k - (lo+l)))[j]?=_;rw[getElem?_bubble BI _ (by lia),ψ (by lia),ψ (by lia)]
     . exact TSo.down BI hl hs (fun i a=>by simpa using lt i (OI _) a) fun i a b=>by simpa using gt i a b
 . obtain⟨rfl,B1,L1,hs⟩:=hI;exact π (h u B1 L1 hs)
end
section
variable {prog:Program}{w:World}{A:Around}{E:Value->Shared->Prop}{s:Shared}{κ:SortKind}{a₀:Array Keyed}{rk:Keyed->Nat}
theorem Nr(mk:Nat->Nat->β)(st:U)(q:Nat->Bool)(q0:q 0=true)(hM:0<M)(hN:M<=N)
  (go:∀x last aw (Q:ForInStep β->U->Prop),0<aw->aw<M->Q (if q aw=true then .yield (mk aw (2 * aw+1)) else .done (mk last aw)) st->wpS (model prog w) A E s (f x (mk last aw)) Q st)
  (stop:∀x last aw (Q:ForInStep β->U->Prop),M<=aw->Q (.done (mk last aw)) st->wpS (model prog w) A E s (f x (mk last aw)) Q st)
  (h:∀last aw,last<aw->last<M->q last=true->(aw<M->q aw=false)->Q (mk last aw) st):wpS (model prog w) A E s (forIn [0:N] (mk 0 1) f) Q st:=by
 refine PM (I:=fun x c u=>u=st/\∃last aw,c=mk last aw/\x<aw/\last<aw/\last<M/\q last=true) (fun x c u _ _ hI=>?_) (fun c u hI=>?_) ⟨rfl,0,1,rfl,by lia,by lia,hM,q0⟩
 . obtain⟨rfl,last,aw,rfl,b1,b2,b3,b4⟩:=hI;by_cases hm:aw<M
   . refine go x last aw _ (by lia) hm ?_;cases hq:q aw
     . exact h last aw b2 b3 b4 fun _=>hq
     . exact⟨rfl,aw,2 * aw+1,rfl,by lia,by lia,hm,hq⟩
   . exact stop x last aw _ (by lia) (h last aw b2 b3 b4 fun z=>absurd z hm)
 . obtain⟨rfl,last,aw,rfl,b1,b2,b3,b4⟩:=hI;exact h last aw b2 b3 b4 fun z=>by lia
noncomputable def gal:Bool->Keyed->Array Keyed->Nat->Nat->Nat->StateT SortSt Sem (Option Nat):=sortPriv% PySem.Builtin.gallop
def bey(rk:Keyed->Nat)(left:Bool)(key:Keyed)(arr:Array Keyed)(base i:Nat):Bool:=if left=true then decide (tk rk arr (base+i)<rk key) else !decide (rk key<tk rk arr (base+i))
theorem y26(hc:D8 prog w A E s κ a₀ rk){st:SortSt}(hk:kindOf st=κ){left:Bool}{key:Keyed}{arr:Array Keyed}{base i:Nat}(kin:key∈a₀)(cP:∀x∈arr,x∈a₀)(hz:base+i<arr.size){Q:Option Bool->SortSt->Prop}
  (h:Q (some (bey rk left key arr base i)) st):wpS (model prog w) A E s (elem' arr (base+i) >>= fun x=>if left=true then lt' x key else lt' key x >>= fun r=>pure (r.map fun b=>!b)) Q st:=by
 refine δ (t8 hz ?_)
 unfold bey at h
 rw[n9 hz]at h
 cases left with
 |true=>
  rw[ξ rfl]at h⊢
  exact hc _ _ (cP _ (Array.getElem_mem _)) kin st Q hk h
 |false=>
  rw[ψ η]at h⊢
  exact δ (hc _ _ kin (cP _ (Array.getElem_mem _)) st _ hk (π h))
theorem V5(hc:D8 prog w A E s κ a₀ rk){st:SortSt}(hk:kindOf st=κ){left:Bool}{key:Keyed}{arr:Array Keyed}{base n hint:Nat}(kin:key∈a₀)(cP:∀x∈arr,x∈a₀)(hz:base+n<=arr.size)(hh:hint<n)
  (mono:∀i j,i<=j->j<n->bey rk left key arr base j=true->bey rk left key arr base i=true) {Q:Option Nat->SortSt->Prop}
  (h:∀k,k<=n->(∀i,i<k->bey rk left key arr base i=true)->(∀i,k<=i->i<n->bey rk left key arr base i=false)->Q (some k) st):wpS (model prog w) A E s (gal left key arr base n hint) Q st:=by
 have lU:∀i j,i<=j->j<n->bey rk left key arr base i=false->bey rk left key arr base j=false:=fun i j a b c=>by
  cases e:bey rk left key arr base j
  . rfl
  . rw[mono i j a b e]at c;cases c
 have ask:∀i (Q:Option Bool->SortSt->Prop),i<n->Q (some (bey rk left key arr base i)) st->wpS (model prog w) A E s (elem' arr (base+i) >>= fun x=>if left=true then lt' x key else lt' key x >>= fun r=>pure (r.map fun b=>!b)) Q st:=fun i Q hi q=>y26 hc hk kin cP (by omega) q
 unfold gal
 refine δ (ask hint _ hh ?_)
 dsimp only
 rcases hr:bey rk left key arr base hint with _ |_
 case' true=>
  rw[ξ rfl]
  refine δ (Nr (fun l o=>(none,l,o)) st (fun o=>bey rk left key arr base (hint+o)) (M:=n - hint) hr (by omega) (by omega) (fun x last aw Q a b q=>?_) (fun x last aw Q a q=>?_) fun last aw a b c d=>?_)
  . dsimp only;rw[ψ (by omega)];refine δ (ask _ _ (by omega) ?_);dsimp only;cases e:bey rk left key arr base (hint+aw)<;>rw[e]at q<;>exact π q
  . dsimp only;rw[ξ (by omega)];exact π q
  dsimp only
  obtain⟨lo,hi,hU,hV,b1,b2,b3,b4⟩:∃lo hi,lo=hint+last+1/\hi=hint+min aw (n - hint)/\lo<=hi/\hi<=n/\(∀i,i<lo->bey rk left key arr base i=true)/\∀i,hi<=i->i<n->bey rk left key arr base i=false:=
   ⟨_,_,rfl,rfl,by omega,by omega,fun i z=>mono i (hint+last) (by omega) (by omega) c,fun i y z=>lU (hint+aw) i (by omega) z (d (by omega))⟩
  rw[<-hU,<-hV]
  clear hU hV c d
 case' false=>
  rw[ψ η]
  refine δ (Nr (fun l o=>(none,l,o)) st (fun o=>!bey rk left key arr base (hint - o)) (M:=hint+1) (by rw[Nat.sub_zero,hr];rfl) (by omega) (by omega) (fun x last aw Q a b q=>?_) (fun x last aw Q a q=>?_) fun last aw a b c d=>?_)
  . dsimp only;rw[ψ (by omega)];refine δ (ask _ _ (by omega) ?_);dsimp only;cases e:bey rk left key arr base (hint - aw)<;>rw[e]at q<;>exact π q
  . dsimp only;rw[ξ (by omega)];exact π q
  dsimp only
  obtain⟨lo,hi,hU,hV,b1,b2,b3,b4⟩:∃lo hi,lo=hint+1 - min aw (hint+1)/\hi=hint - last/\lo<=hi/\hi<=n/\(∀i,i<lo->bey rk left key arr base i=true)/\∀i,hi<=i->i<n->bey rk left key arr base i=false:=
   ⟨_,_,rfl,rfl,by omega,by omega,fun i z=>mono i (hint - aw) (by omega) (by omega) (by simpa using d (by omega)),fun i y z=>lU (hint - last) i (by omega) z (by simpa using c)⟩
  rw[<-hU,<-hV]
  clear hU hV c d
 all_goals
  refine δ (Pl (fun l r=>(none,l,r)) st (fun l r=>l+(r - l) / 2) (bey rk left key arr base) (fun l r _=>by omega) (fun x l r Q a b c q=>?_) (fun x l Q _ q=>?_) (fun i j _ a b c=>mono i j a (by omega) c) b1 (by omega) fun k _ hk lt gt=>?_)
  . dsimp only;rw[ψ (by omega)];refine δ (ask _ _ (by omega) ?_);dsimp only;cases e:bey rk left key arr base (l+(r - l) / 2)<;>rw[e]at q<;>exact π q
  . dsimp only;rw[ξ (ζ _)];exact π q
  . dsimp only;refine π (h k (by omega) (fun i z=>?_) fun i y z=>?_)
    . by_cases e:i<lo
      . exact b3 i e
      . exact lt i (by omega) z
    . by_cases e:i<hi
      . exact gt i y e
      . exact b4 i (by omega) z
end
section
variable {R:Keyed->Keyed->Prop}
def AscR(R:Keyed->Keyed->Prop)(l:List Keyed):Prop:=l.Pairwise R
structure MR(R:Keyed->Keyed->Prop)(A B out:List Keyed)(ia ib:Nat):Prop where
 perm:out.Perm (A.take ia++B.take ib)
 asc:AscR R out
 la:∀x∈out,∀y∈A.drop ia,R x y
 lb:∀x∈out,∀y∈B.drop ib,R x y
theorem AscR.drop(h:AscR R l)(n:Nat):AscR R (l.drop n):=h.sublist (List.drop_sublist _ _)
theorem AscR.take(h:AscR R l)(n:Nat):AscR R (l.take n):=h.sublist (List.take_sublist _ _)
theorem drop_take(l:List Keyed)(n k:Nat):l.drop n=(l.drop n).take k++l.drop (n+k):=by rw[<-List.drop_drop,RF]
theorem yo(l:List Keyed)(n k:Nat):l.take (n+k)=l.take n++(l.drop n).take k:=by rw[List.take_add]
variable {A B out:List Keyed}{ia ib k:Nat}
theorem MR.appA(M:MR R A B out ia ib)(hA:AscR R A)(h:∀x∈(A.drop ia).take k,∀y∈B.drop ib,R x y):MR R A B (out++(A.drop ia).take k) (ia+k) ib:=by
 have dd:=drop_take A ia k;have sA:=hA.drop ia;rw[dd]at sA;have pw:=RJ.mp sA;refine⟨?_,RJ.mpr ⟨M.asc,pw.1,fun x hx y hy=>M.la x hx y (SF hy)⟩,fun x hx y hy=>?_,fun x hx y hy=>?_⟩
 . rw[yo];refine(M.perm.append_right _).trans ?_;rw[QJ,QJ];exact SA.append_left _
 . rcases OF.mp hx with z |z
   . exact M.la x z y (by rw[dd];exact NU _ hy)
   . exact pw.2.2 x z y hy
 . rcases OF.mp hx with z |z
   . exact M.lb x z y hy
   . exact h x z y hy
theorem MR.swap(M:MR R A B out ia ib):MR R B A out ib ia:=⟨M.perm.trans SA,M.asc,M.lb,M.la⟩
theorem MR.appB(M:MR R A B out ia ib)(hB:AscR R B)(h:∀x∈(B.drop ib).take k,∀y∈A.drop ia,R x y):MR R A B (out++(B.drop ib).take k) ia (ib+k):=(M.swap.appA hB h).swap
theorem MR.fin(M:MR R A B out ia ib)(hA:AscR R A)(h:∀x∈A.drop ia,∀y∈B.drop ib,R x y)(hB:AscR R B):(out++A.drop ia++B.drop ib).Perm (A++B)/\AscR R (out++A.drop ia++B.drop ib):=by have m1:=M.appA (k:=A.length) hA (fun x hx=>h x (SF hx));have e1:(A.drop ia).take A.length=A.drop ia:=OU (by rw[OA];lia);rw[e1]at m1;have d1:A.drop (ia+A.length)=[]:=List.drop_eq_nil_of_le (by lia);have m2:=m1.appB (k:=B.length) hB (fun x _ y hy=>by rw[d1]at hy;cases hy);have e2:(B.drop ib).take B.length=B.drop ib:=OU (by rw[OA];lia);rw[e2]at m2;refine⟨m2.perm.trans ?_,m2.asc⟩;rw[OU (by lia),OU (by lia)]
variable {rk:Keyed->Nat}
abbrev Asc(rk:Keyed->Nat)(l:List Keyed):Prop:=AscR (fun x y=>rk x<=rk y) l
abbrev MI(rk:Keyed->Nat)(A B out:List Keyed)(ia ib:Nat):Prop:=MR (fun x y=>rk x<=rk y) A B out ia ib
variable {a b:Array Keyed}{outA:Array Keyed}
theorem D4(h:Asc rk a.toList)(ox:i<=j)(hj:j<a.size):tk rk a i<=tk rk a j:=by
 rw[n9 (by lia),n9 hj];rcases SY i j with z |z
 . have:=SH.mp h i j (by simpa using (by lia:i<a.size)) (by simpa using hj) z;simpa using this
 . obtain rfl:i=j:=by lia
   exact ζ _
theorem Rq(h:∀j,n<=j->j<a.size->r<=tk rk a j):∀y∈a.toList.drop n,r<=rk y:=fun y hy=>by
 obtain⟨i,hi,e⟩:=NR.mp hy;rw[RM]at e;have bd:n+i<a.size:=by simp at hi;lia
 have:=h (n+i) (by lia) bd;rw[n9 bd]at this;rw[<-e];simpa using this
theorem Rp(h:∀i,i<k->n+i<a.size->tk rk a (n+i)<=r):∀y∈(a.toList.drop n).take k,rk y<=r:=fun y hy=>by
 obtain⟨i,hi,e⟩:=NR.mp hy;rw[RL,RM]at e;simp only[NT,OA,gc]at hi;have bd:n+i<a.size:=by omega
 have:=h i (by omega) bd;rw[n9 bd]at this;rw[<-e];simpa using this
abbrev MA(rk:Keyed->Nat)(a b out:Array Keyed)(ia ib:Nat):Prop:=MI rk a.toList b.toList out.toList ia ib
theorem Gi(n k:Nat):(a.extract n (n+k)).toList=(a.toList.drop n).take k:=by rw[RN,PR,Nat.add_sub_cancel_left]
theorem Eg(n:Nat):(a.extract n a.size).toList=a.toList.drop n:=by rw[RN,PR];refine OU ?_;simp
theorem Nq(h:n<a.size):(a.toList.drop n).take 1=[a[n]]:=by rw[PU (by simpa using h)];simp
theorem MI.extA(M:MA rk a b outA ia ib)(hA:Asc rk a.toList)(h1:∀i,i<k->ia+i<a.size->tk rk a (ia+i)<=r)(h2:∀j,ib<=j->j<b.size->r<=tk rk b j):MA rk a b (outA++a.extract ia (ia+k)) (ia+k) ib:=by show MI rk a.toList b.toList (outA++a.extract ia (ia+k)).toList (ia+k) ib;rw[ON,Gi];exact MR.appA M hA fun x hx y hy=>KM (Rp h1 x hx) (Rq h2 y hy)
theorem MI.pushA(M:MA rk a b outA ia ib)(hA:Asc rk a.toList)(hi:ia<a.size)(h2:∀j,ib<=j->j<b.size->tk rk a ia<=tk rk b j):MA rk a b (outA.push a[ia]) (ia+1) ib:=by have m:=M.extA (k:=1) (r:=tk rk a ia) hA (fun i z _=>by rw[show i=0 by lia];exact ζ _) h2;show MI rk a.toList b.toList (outA.push a[ia]).toList (ia+1) ib;rw[SZ,<-Nq hi,<-Gi,<-ON];exact m
theorem MI.swapA(M:MA rk a b outA ia ib):MA rk b a outA ib ia:=MR.swap M
theorem MI.done(M:MA rk a b outA ia ib)(hA:Asc rk a.toList)(hB:Asc rk b.toList)(h:a.size<=ia\/b.size<=ib) :
  (outA++a.extract ia a.size++b.extract ib b.size).toList.Perm (a.toList++b.toList)/\Asc rk (outA++a.extract ia a.size++b.extract ib b.size).toList:=by
 rw[ON,ON,Eg,Eg]
 refine MR.fin M hA (fun x hx y hy=>?_) hB
 rcases h with z |z
 . rw[List.drop_eq_nil_of_le (by simpa using z)]at hx;cases hx
 . rw[List.drop_eq_nil_of_le (by simpa using z)]at hy;cases hy
theorem MI.last(M:MA rk a b outA ia ib)(hA:Asc rk a.toList)(hB:Asc rk b.toList)(h:∀x∈b.toList.drop ib,∀y∈a.toList.drop ia,rk x<=rk y) :
  (outA++b.extract ib b.size++a.extract ia a.size).toList.Perm (a.toList++b.toList)/\Asc rk (outA++b.extract ib b.size++a.extract ia a.size).toList:=by
 rw[ON,ON,Eg,Eg]
 have:=MR.fin M.swap hB h hA
 exact⟨this.1.trans SA,this.2⟩
end
section
variable {prog:Program}{w:World}{A:Around}{E:Value->Shared->Prop}{s:Shared}{κ:SortKind}{a₀:Array Keyed}{rk:Keyed->Nat}
noncomputable def mlo:Array Keyed->Array Keyed->StateT SortSt Sem (Array Keyed):=sortPriv% PySem.Builtin.mergeLo
structure GS(st u:SortSt):Prop where
 kind:kindOf u=kindOf st
 arr:arrOf u=arrOf st
 pend:pendingOf u=pendingOf st
 ok:failedOf u=failedOf st
theorem GS.refl(st:SortSt):GS st st:=⟨rfl,rfl,rfl,rfl⟩
theorem GS.g{st u:SortSt}(h:GS st u)(n:Nat):GS st (SortSt.mk' (kindOf u) (arrOf u) (pendingOf u) n (failedOf u)):=⟨h.kind,h.arr,h.pend,h.ok⟩
section
variable {α:Type}{Q:α->SortSt->Prop}{st:SortSt}
theorem x5{τ:Sort _}{F:τ}{B:τ->StateT SortSt Sem α}(h:wpS (model prog w) A E s (B F) Q st):wpS (model prog w) A E s (have jp:=F;B jp) Q st:=h
theorem Tr{β:Type}{g:β->StateT SortSt Sem α}{p:Prop}[Decidable p]{x y:β}(h:∀m,wpS (model prog w) A E s (g m) Q st):wpS (model prog w) A E s (if p then g x else g y) Q st:=by
 split
 . exact h _
 . exact h _
theorem Ef(g:β->γ->StateT SortSt Sem α)(R:β->γ->Prop)(hF:∀o i,R o i->wpS (model prog w) A E s (g o i) Q st)(h:(∀o i,R o i->wpS (model prog w) A E s (g o i) Q st)->wpS (model prog w) A E s t Q st):wpS (model prog w) A E s t Q st:=h hF
end
theorem y52(hc:D8 prog w A E s κ a₀ rk){st:SortSt}(hk:kindOf st=κ){a b:Array Keyed}(cP:∀x∈a,x∈a₀)(bin:∀x∈b,x∈a₀)(hA:Asc rk a.toList)(hB:Asc rk b.toList)(na:0<a.size)(nb:0<b.size)
  (first:∀j,j<a.size->tk rk b 0<=tk rk a j) (last:∀j,j<b.size->tk rk b j<=tk rk a (a.size - 1)) {Q:Array Keyed->SortSt->Prop}
  (h:∀out u,GS st u->out.toList.Perm (a.toList++b.toList)/\Asc rk out.toList->Q out u):wpS (model prog w) A E s (mlo a b) Q st:=by
 have M0:MA rk a b #[b[0]] 0 1:=(MI.pushA (outA:=#[]) (ia:=0) (ib:=0) (show MA rk b a #[] 0 0 from⟨.refl _,.nil,fun x hx=>absurd hx RA,fun x hx=>absurd hx RA⟩) hB nb fun j _ hj=>first j hj).swapA
 have dX:∀{out:Array Keyed}{ia ib:Nat},MA rk a b out ia ib->ia+1=a.size->(out++b.extract ib b.size++a.extract ia a.size).toList.Perm (a.toList++b.toList)/\Asc rk (out++b.extract ib b.size++a.extract ia a.size).toList:=fun {out ia ib} M e=>by
  refine M.last hA hB fun x hx y hy=>?_
  refine Rq (fun j h1 h2=>?_) y hy;obtain⟨i,hi,ex⟩:=NR.mp (List.mem_of_mem_drop hx);have bd:i<b.size:=by simpa using hi
  have:=last i bd;rw[n9 bd]at this;rw[show j=a.size - 1 by lia,<-ex];simpa using this
 unfold mlo
 refine δ (X0 ?_)
 iterate 3 refine x5 ?_
 refine δ (t8 nb ?_)
 iterate 3 refine x5 ?_
 by_cases e1:1=b.size
 . rw[ξ (by simp[<-e1])];exact π (h _ st (.refl _) (M0.done hA hB (.inr (by lia))))
 rw[ψ (by simpa using e1)]
 by_cases e2:0+1=a.size
 . rw[ξ (by simp[<-e2])];exact π (h _ st (.refl _) (dX M0 e2))
 rw[ψ (by simpa using e2)]
 refine δ (wpS_get ?_)
 refine x5 ?_
 refine δ (UE (PM (I:=fun x c u=>GS st u/\∃out ia ib g,c=(none,out,ia,ib,g)/\MA rk a b out ia ib/\ia+1<a.size/\ib<b.size/\x+1<=ia+ib)
  (Q:=fun c u=>GS st u/\∃r t,c=(some r,t)/\r.toList.Perm (a.toList++b.toList)/\Asc rk r.toList) ?step ?fin ⟨.refl _,_,0,1,_,rfl,M0,by lia,by lia,by lia⟩) ?post)
 case fin=>
  rintro c u ⟨_,out,ia,ib,g,rfl,_,h1,h2,h3⟩
  simp only[SX]at h3
  lia
 case post=>
  rintro c u ⟨G,r,t,rfl,f⟩
  exact π (h r u G f)
 case step=>
  rintro x c u _ _ ⟨G,out,ia,ib,g,rfl,M,h1,h2,h3⟩
  iterate 9 refine x5 ?_
  dsimp -zetaHave only
  refine δ (UE (PM (I:=fun y c v=>v=u/\∃out ia ib ac bc,c=(none,out,ia,ib,ac,bc)/\MA rk a b out ia ib/\ia+1<a.size/\ib<b.size/\x+1+y<=ia+ib)
   (Q:=fun c v=>v=u/\((∃r t,c=(some r,t)/\r.toList.Perm (a.toList++b.toList)/\Asc rk r.toList)\/∃out ia ib ac bc,c=(none,out,ia,ib,ac,bc)/\MA rk a b out ia ib/\ia+1<a.size/\ib<b.size/\x+2<=ia+ib))
   ?walk ?wfin ⟨rfl,out,ia,ib,0,0,rfl,M,h1,h2,by lia⟩) ?wpost)
  case wfin=>
   rintro c v ⟨rfl,out,ia,ib,ac,bc,rfl,M,h1,h2,h3⟩
   simp only[SX]at h3
   exact⟨rfl,.inr ⟨out,ia,ib,ac,bc,rfl,M,h1,h2,by lia⟩⟩
  case walk=>
   rintro y c v _ _ ⟨rfl,out,ia,ib,ac,bc,rfl,M,h1,h2,h3⟩
   iterate 9 refine x5 ?_
   dsimp -zetaHave only
   refine δ (t8 h2 (δ (t8 (show ia<a.size by lia) (δ (hc _ _ (bin _ (Array.getElem_mem _)) (cP _ (Array.getElem_mem _)) _ _ (G.kind.trans hk) ?_)))))
   rw[<-n9 (rk:=rk),<-n9 (rk:=rk)]
   by_cases l:tk rk b ib<tk rk a ia
   . rw[decide_eq_true l];dsimp -zetaHave only;rw[ξ rfl];have M':=(MI.pushA M.swapA hB h2 fun j z1 z2=>KM (QQ l) (D4 hA z1 z2)).swapA;refine δ (t8 h2 ?_)
     iterate 4 refine x5 ?_
     by_cases f1:ib+1=b.size
     . rw[ξ (by simpa using f1)];exact π ⟨rfl,.inl ⟨_,_,rfl,M'.done hA hB (.inr (by lia))⟩⟩
     rw[ψ (by simpa using f1)];split
     . exact π ⟨rfl,.inr ⟨_,_,_,_,_,rfl,M',h1,by lia,by lia⟩⟩
     . exact π ⟨rfl,_,_,_,_,_,rfl,M',h1,by lia,by lia⟩
   . rw[NO l];dsimp -zetaHave only;rw[ψ η];have M':=MI.pushA M hA (by lia) fun j z1 z2=>KM (Nat.not_lt.mp l) (D4 hB z1 z2)
     refine δ (t8 (show ia<a.size by lia) ?_)
     iterate 4 refine x5 ?_
     by_cases f1:ia+1+1=a.size
     . rw[ξ (by simpa using f1)];exact π ⟨rfl,.inl ⟨_,_,rfl,dX M' f1⟩⟩
     rw[ψ (by simpa using f1)];split
     . exact π ⟨rfl,.inr ⟨_,_,_,_,_,rfl,M',by lia,h2,by lia⟩⟩
     . exact π ⟨rfl,_,_,_,_,_,rfl,M',by lia,h2,by lia⟩
  case wpost=>
   rintro c v ⟨rfl,⟨r,t,rfl,f⟩ |⟨out,ia,ib,ac,bc,rfl,M,h1,h2,h3⟩⟩
   . exact π ⟨G,r,_,rfl,f⟩
   iterate 10 refine x5 ?_
   dsimp -zetaHave only
   refine δ (X0 ?_)
   refine x5 ?_
   refine δ (UE (PM (I:=fun _ c v=>GS st v/\∃out ia ib mg ac bc,c=(none,out,ia,ib,mg,ac,bc)/\MA rk a b out ia ib/\ia+1<a.size/\ib<b.size/\x+2<=ia+ib)
    (Q:=fun c v=>GS st v/\((∃r t,c=(some r,t)/\r.toList.Perm (a.toList++b.toList)/\Asc rk r.toList)\/∃out ia ib mg ac bc,c=(none,out,ia,ib,mg,ac,bc)/\MA rk a b out ia ib/\ia+1<a.size/\ib<b.size/\x+2<=ia+ib))
    ?jump (fun c v hI=>⟨hI.1,.inr hI.2⟩) ⟨G,out,ia,ib,_,ac,bc,rfl,M,h1,h2,h3⟩) ?jpost)
   case jpost=>
    rintro c v2 ⟨G2,⟨r,t,rfl,f⟩ |⟨out,ia,ib,mg,ac,bc,rfl,M,h1,h2,h3⟩⟩
    . exact π ⟨G2,r,_,rfl,f⟩
    . exact δ (wpS_modify (π ⟨G2.g _,out,ia,ib,_,rfl,M,h1,h2,by lia⟩))
   case jump=>
    clear M h1 h2 h3 out ia ib ac bc
    rintro y c v2 _ _ ⟨G2,out,ia,ib,mg,ac,bc,rfl,M,h1,h2,h3⟩
    extract_lets s1 o1 s2 i1 s3 b1 s4 m1 s5 a1 c1 cx jp GR
    have N:MA rk a b o1 i1 b1/\i1+1<a.size/\b1<b.size/\x+2<=i1+b1:=⟨M,h1,h2,h3⟩
    have GU:cx=b1+1:=rfl
    clear M h1 h2 h3
    clear_value o1 i1 b1 m1 a1 c1 cx
    obtain⟨M,h1,h2,h3⟩:=N
    refine Tr (g:=jp ⟨⟩) fun m=>?_
    refine δ (wpS_modify ?_)
    refine δ (t8 h2 ?_)
    refine δ (V5 hc (by exact G2.kind.trans hk) (bin _ (Array.getElem_mem _)) cP (by lia) (by lia) (fun i j z1 z2 z3=>?_) fun k iS lt gt=>?_)
    . unfold bey at z3⊢;rw[ψ η]at z3⊢;have:=D4 hA (show i1+i<=i1+j by lia) (by lia);simp only[QK,NQ]at z3⊢
      lia
    dsimp -zetaHave only
    have cb:i1+k<a.size->tk rk b b1<=tk rk a (i1+k):=fun z=>by
     have:=gt k (ζ _) (by lia);unfold bey at this;rw[ψ η,<-n9 (rk:=rk)]at this;simp only[Bool.not_eq_false',NP]at this
     lia
    have ca:∀i,i<k->i1+i<a.size->tk rk a (i1+i)<=tk rk b b1:=fun i z _=>by
     have:=lt i z;unfold bey at this;rw[ψ η,<-n9 (rk:=rk)]at this;simp only[QK,NQ]at this
     lia
    have M1:=MI.extA (k:=k) M hA ca fun j z1 z2=>D4 hB z1 z2
    clear ca lt gt
    extract_lets GV jq o2 i2
    refine Ef (jq ⟨⟩) (fun dP cG=>MA rk a b dP cG b1/\cG+1<a.size/\tk rk b b1<=tk rk a cG/\x+2<=cG+b1) (fun dP cG z=>?_) fun J=>?_
    rotate_left
    . have ei:i2=i1+k:=rfl;split
      . by_cases f1:i2+1=a.size
        . rw[ξ (by simpa using f1)];exact π ⟨G2.g _,.inl ⟨_,_,rfl,dX M1 f1⟩⟩
        rw[ψ (by simpa using f1)];by_cases f2:i2=a.size
        . rw[ξ (by simpa using f2)];exact π ⟨G2.g _,.inl ⟨_,_,rfl,M1.done hA hB (.inl (by lia))⟩⟩
        rw[ψ (by simpa using f2)];exact J _ _ ⟨M1,by lia,cb (by lia),by lia⟩
      . exact J o1 i1 ⟨M,h1,by have:=cb (by lia);rwa [show i1+k=i1 by lia]at this,h3⟩
    clear M M1 cb h1 h3 o2 i2
    obtain⟨M2,q1,r1,p1⟩:=z
    refine δ (t8 h2 ?_)
    extract_lets o3 BJ
    have M3:=(MI.pushA M2.swapA hB h2 fun j z1 z2=>KM r1 (D4 hA z1 z2)).swapA
    rw[<-GU]at M3
    have M3:MA rk a b o3 cG cx:=M3
    clear_value o3
    by_cases f3:cx=b.size
    . rw[ξ (by simpa using f3)];exact π ⟨G2.g _,.inl ⟨_,_,rfl,M3.done hA hB (.inr (by lia))⟩⟩
    rw[ψ (by simpa using f3)]
    have fW:cG<a.size:=by lia
    refine δ (t8 fW ?_)
    refine δ (V5 hc (by exact G2.kind.trans hk) (cP _ (Array.getElem_mem _)) bin (by lia) (by lia) (fun i j z1 z2 z3=>?_) fun k2 iS lt gt=>?_)
    . unfold bey at z3⊢;rw[ξ rfl]at z3⊢;have:=D4 hB (show cx+i<=cx+j by lia) (by lia);simp only[NP]at z3⊢
      lia
    dsimp -zetaHave only
    have cb:cx+k2<b.size->tk rk a cG<=tk rk b (cx+k2):=fun z=>by
     have:=gt k2 (ζ _) (by lia);unfold bey at this;rw[ξ rfl,<-n9 (rk:=rk)]at this;simp only[NQ]at this
     lia
    have ca:∀i,i<k2->cx+i<b.size->tk rk b (cx+i)<=tk rk a cG:=fun i z _=>by
     have:=lt i z;unfold bey at this;rw[ξ rfl,<-n9 (rk:=rk)]at this;simp only[NP]at this
     lia
    have M4:=(MI.extA (k:=k2) M3.swapA hB ca fun j z1 z2=>D4 hA z1 z2).swapA
    clear ca lt gt
    extract_lets GW jr o4 oy
    refine Ef (jr ⟨⟩) (fun eO ib=>MA rk a b eO cG ib/\ib<b.size/\tk rk a cG<=tk rk b ib/\x+2<=cG+ib) (fun eO ib z=>?_) fun J=>?_
    rotate_left
    . have ei:oy=cx+k2:=rfl;split
      . by_cases f4:oy=b.size
        . rw[ξ (by simpa using f4)];exact π ⟨G2.g _,.inl ⟨_,_,rfl,M4.done hA hB (.inr (by lia))⟩⟩
        rw[ψ (by simpa using f4)];exact J _ _ ⟨M4,by lia,cb (by lia),by lia⟩
      . exact J o3 cx ⟨M3,by lia,by have:=cb (by lia);rwa [show cx+k2=cx by lia]at this,by lia⟩
    clear M4 M3 cb o4 oy
    obtain⟨M5,b2,c2,p2⟩:=z
    refine δ (t8 fW ?_)
    extract_lets o5
    have M6:=MI.pushA M5 hA fW fun j z1 z2=>KM c2 (D4 hB z1 z2)
    by_cases f5:cG+1+1=a.size
    . rw[ξ (show(BJ+1==a.size)=true by simpa using f5)];exact π ⟨G2.g _,.inl ⟨_,_,rfl,dX M6 f5⟩⟩
    rw[ψ (show ¬(BJ+1==a.size)=true by simpa using f5)]
    split
    . exact π ⟨G2.g _,.inr ⟨_,_,_,_,_,_,rfl,M6,by lia,b2,by lia⟩⟩
    . exact π ⟨G2.g _,_,_,_,_,_,_,rfl,M6,by lia,b2,by lia⟩
end
section
variable {rk:Keyed->Nat}{a b outA:Array Keyed}{na nb:Nat}
abbrev MH(rk:Keyed->Nat)(a b out:Array Keyed)(na nb:Nat):Prop:=MR (fun x y=>rk y<=rk x) a.toList.reverse b.toList.reverse out.toList (a.size - na) (b.size - nb)
theorem Jy(h:Asc rk a.toList):AscR (fun x y=>rk y<=rk x) a.toList.reverse:=List.pairwise_reverse.mpr h
theorem Y5(h:na<=a.size):a.toList.reverse.drop (a.size - na)=(a.toList.take na).reverse:=by rw[List.drop_reverse,gc,show a.size - (a.size - na)=na by omega]
theorem Ro(h:∀j,j<na->j<a.size->tk rk a j<=r):∀y∈a.toList.take na,rk y<=r:=by have:=Rp (rk:=rk) (a:=a) (n:=0) (k:=na) (r:=r) (fun i z1 z2=>by rw[PF];exact h i z1 (by lia));rwa [List.drop_zero]at this
theorem MR.extH(M:MH rk a b outA na nb)(hA:Asc rk a.toList)(hp:p<=na)(hn:na<=a.size)(hb:nb<=b.size)(h1:∀i,p<=i->i<na->r<=tk rk a i)(h2:∀j,j<nb->tk rk b j<=r):MH rk a b (outA++(a.extract p na).reverse) p nb:=by
 have e:((a.extract p na).reverse).toList=(a.toList.reverse.drop (a.size - na)).take (na - p):=by rw[Y5 hn,TN,RN,PR,List.take_reverse,NT,gc,List.drop_take];rw[show min na a.size - (na - p)=p by lia]
 show MR _ _ _ (outA++(a.extract p na).reverse).toList (a.size - p) (b.size - nb);rw[ON,e,show a.size - p=a.size - na+(na - p) by lia];refine MR.appA M (Jy hA) fun x hx y hy=>?_
 rw[<-e,TN,List.mem_reverse,RN,PR]at hx;rw[Y5 hb,List.mem_reverse]at hy;refine KM (Ro (fun j z _=>h2 j z) y hy) ?_;obtain⟨i,hi,ex⟩:=NR.mp hx;rw[RL,RM]at ex;simp only[NT,OA,gc]at hi;have:=h1 (p+i) (by lia) (by lia);rw[n9 (show p+i<a.size by lia)]at this;rw[<-ex];simpa using this
theorem MR.pushH(M:MH rk a b outA na nb)(hA:Asc rk a.toList)(h0:0<na)(hn:na<=a.size)(hb:nb<=b.size)(h2:∀j,j<nb->tk rk b j<=tk rk a (na - 1)):MH rk a b (outA.push a[na - 1]) (na - 1) nb:=by
 have m:=MR.extH M hA (p:=na - 1) (r:=tk rk a (na - 1)) (by omega) hn hb (fun i z1 z2=>by rw[show i=na - 1 by omega];exact ζ _) h2;have e:(a.extract (na - 1) na).reverse.toList=[a[na - 1]]:=by rw[TN,show a.extract (na - 1) na=a.extract (na - 1) (na - 1+1) by rw[Nat.sub_add_cancel h0],Gi,Nq (by omega)];rfl
 show MR _ _ _ (outA.push a[na - 1]).toList _ _;rw[SZ,<-e,<-ON];exact m
theorem MR.finH(M:MH rk a b outA na nb)(hA:Asc rk a.toList)(hB:Asc rk b.toList)(hn:na<=a.size)(hb:nb<=b.size)(h:∀x∈b.toList.take nb,∀y∈a.toList.take na,rk y<=rk x) :
  (a.extract 0 na++b.extract 0 nb++outA.reverse).toList.Perm (a.toList++b.toList)/\Asc rk (a.extract 0 na++b.extract 0 nb++outA.reverse).toList:=by
 have f:=MR.fin M.swap (Jy hB) (fun x hx y hy=>?_) (Jy hA)
 . rw[Y5 hn,Y5 hb]at f;have e:(a.extract 0 na++b.extract 0 nb++outA.reverse).toList=(outA.toList++(b.toList.take nb).reverse++(a.toList.take na).reverse).reverse:=by
    have ea:∀(c:Array Keyed)(k:Nat),(c.extract 0 k).toList=c.toList.take k:=fun c k=>by rw[RN,PR,List.drop_zero,Nat.sub_zero]
    rw[ON,ON,ea,ea,TN];simp
   rw[e];refine⟨(List.reverse_perm _).trans (f.1.trans ?_),List.pairwise_reverse.mpr f.2⟩;exact((List.reverse_perm _).append (List.reverse_perm _)).trans SA
 . rw[Y5 hb,List.mem_reverse]at hx;rw[Y5 hn,List.mem_reverse]at hy;exact h x hx y hy
end
section
variable {prog:Program}{w:World}{A:Around}{E:Value->Shared->Prop}{s:Shared}{κ:SortKind}{a₀:Array Keyed}{rk:Keyed->Nat}
noncomputable def mhi:Array Keyed->Array Keyed->StateT SortSt Sem (Array Keyed):=sortPriv% PySem.Builtin.mergeHi
theorem y53(hc:D8 prog w A E s κ a₀ rk){st:SortSt}(hk:kindOf st=κ){a b:Array Keyed}(cP:∀x∈a,x∈a₀)(bin:∀x∈b,x∈a₀)(hA:Asc rk a.toList)(hB:Asc rk b.toList)(GX:0<a.size)(NA:0<b.size)
  (first:∀j,j<a.size->tk rk b 0<=tk rk a j) (last:∀j,j<b.size->tk rk b j<=tk rk a (a.size - 1)) {Q:Array Keyed->SortSt->Prop}
  (h:∀out u,GS st u->out.toList.Perm (a.toList++b.toList)/\Asc rk out.toList->Q out u):wpS (model prog w) A E s (mhi a b) Q st:=by
 have M0:MH rk a b #[a[a.size - 1]] (a.size - 1) b.size:=MR.pushH (outA:=#[]) (na:=a.size) (nb:=b.size)
  (show MH rk a b #[] a.size b.size from⟨by simp,.nil,fun x hx=>absurd hx RA,fun x hx=>absurd hx RA⟩) hA GX (ζ _) (ζ _) last
 have dn:∀{out:Array Keyed}{na nb:Nat},MH rk a b out na nb->na<=a.size->nb<=b.size->(na=0\/nb=0)->(a.extract 0 na++b.extract 0 nb++out.reverse).toList.Perm (a.toList++b.toList)/\Asc rk (a.extract 0 na++b.extract 0 nb++out.reverse).toList:=fun {out na nb} M h1 h2 e=>by
  refine MR.finH M hA hB h1 h2 fun x hx y hy=>?_
  rcases e with rfl |rfl
  . rw[List.take_zero]at hy;cases hy
  . rw[List.take_zero]at hx;cases hx
 have fb:∀{out:Array Keyed}{na nb:Nat},MH rk a b out na nb->na<=a.size->nb<=b.size->nb=1->(b.extract 0 nb++a.extract 0 na++out.reverse).toList.Perm (a.toList++b.toList)/\Asc rk (b.extract 0 nb++a.extract 0 na++out.reverse).toList:=fun {out na nb} M h1 h2 e=>by
  have f:=MR.finH (a:=b) (b:=a) M.swap hB hA h2 h1 fun x hx y hy=>?_
  . exact⟨f.1.trans SA,f.2⟩
  . obtain⟨i,hi,ex⟩:=NR.mp (SF hx);have bd:i<a.size:=by simpa using hi
    have q:=first i bd
    rw[n9 bd]at q;rw[<-ex];refine KM (Ro (r:=tk rk b 0) (fun j z1 z2=>by rw[show j=0 by lia];exact ζ _) y hy) (by simpa using q)
 unfold mhi
 refine δ (X0 ?_)
 iterate 3 refine x5 ?_
 refine δ (t8 (show a.size - 1<a.size by lia) ?_)
 iterate 3 refine x5 ?_
 by_cases e1:a.size - 1=0
 . rw[ξ (by simpa using e1)];exact π (h _ st (.refl _) (dn M0 (by lia) (ζ _) (.inl e1)))
 rw[ψ (by simpa using e1)]
 by_cases e2:b.size=1
 . rw[ξ (by simpa using e2)];exact π (h _ st (.refl _) (fb M0 (by lia) (ζ _) e2))
 rw[ψ (by simpa using e2)]
 refine δ (wpS_get ?_)
 refine x5 ?_
 refine δ (UE (PM (I:=fun x c u=>GS st u/\∃na nb out g,c=(none,na,nb,out,g)/\MH rk a b out na nb/\(0<na/\na<=a.size)/\(1<nb/\nb<=b.size)/\na+nb+x+1<=a.size+b.size)
  (Q:=fun c u=>GS st u/\∃r t,c=(some r,t)/\r.toList.Perm (a.toList++b.toList)/\Asc rk r.toList) ?step ?fin ⟨.refl _,_,_,_,_,rfl,M0,by lia,by lia,by lia⟩) ?post)
 case fin=>
  rintro c u ⟨_,na,nb,out,g,rfl,_,h1,h2,h3⟩
  simp only[SX]at h3
  lia
 case post=>
  rintro c u ⟨G,r,t,rfl,f⟩
  exact π (h r u G f)
 case step=>
  rintro x c u _ _ ⟨G,na,nb,out,g,rfl,M,h1,h2,h3⟩
  iterate 9 refine x5 ?_
  dsimp -zetaHave only
  refine δ (UE (PM (I:=fun y c v=>v=u/\∃na nb out ac bc,c=(none,na,nb,out,ac,bc)/\MH rk a b out na nb/\(0<na/\na<=a.size)/\(1<nb/\nb<=b.size)/\na+nb+x+1+y<=a.size+b.size)
   (Q:=fun c v=>v=u/\((∃r t,c=(some r,t)/\r.toList.Perm (a.toList++b.toList)/\Asc rk r.toList)\/∃na nb out ac bc,c=(none,na,nb,out,ac,bc)/\MH rk a b out na nb/\(0<na/\na<=a.size)/\(1<nb/\nb<=b.size)/\na+nb+x+2<=a.size+b.size))
   ?walk ?wfin ⟨rfl,na,nb,out,0,0,rfl,M,h1,h2,by lia⟩) ?wpost)
  case wfin=>
   rintro c v ⟨rfl,na,nb,out,ac,bc,rfl,M,h1,h2,h3⟩
   simp only[SX]at h3
   exact⟨rfl,.inr ⟨na,nb,out,ac,bc,rfl,M,h1,h2,by lia⟩⟩
  case walk=>
   rintro y c v _ _ ⟨rfl,na,nb,out,ac,bc,rfl,M,h1,h2,h3⟩
   iterate 9 refine x5 ?_
   dsimp -zetaHave only
   refine δ (t8 (show nb - 1<b.size by lia) (δ (t8 (show na - 1<a.size by lia) (δ (hc _ _ (bin _ (Array.getElem_mem _)) (cP _ (Array.getElem_mem _)) _ _ (G.kind.trans hk) ?_)))))
   rw[<-n9 (rk:=rk),<-n9 (rk:=rk)]
   by_cases l:tk rk b (nb - 1)<tk rk a (na - 1)
   . rw[decide_eq_true l];dsimp -zetaHave only;rw[ξ rfl];have M':=MR.pushH M hA h1.1 h1.2 h2.2 fun j z=>KM (D4 hB (show j<=nb - 1 by lia) (by lia)) (QQ l)
     refine δ (t8 (show na - 1<a.size by lia) ?_)
     iterate 4 refine x5 ?_
     by_cases f1:na - 1=0
     . rw[ξ (by simpa using f1)];exact π ⟨rfl,.inl ⟨_,_,rfl,dn M' (by lia) h2.2 (.inl f1)⟩⟩
     rw[ψ (by simpa using f1)];split
     . exact π ⟨rfl,.inr ⟨_,_,_,_,_,rfl,M',by lia,h2,by lia⟩⟩
     . exact π ⟨rfl,_,_,_,_,_,rfl,M',by lia,h2,by lia⟩
   . rw[NO l];dsimp -zetaHave only;rw[ψ η];have M':MH rk a b (out.push b[nb - 1]) na (nb - 1):=(MR.pushH (a:=b) (b:=a) M.swap hB (by lia) h2.2 h1.2 fun j z=>KM (D4 hA (show j<=na - 1 by lia) (by lia)) (Nat.not_lt.mp l)).swap;refine δ (t8 (show nb - 1<b.size by lia) ?_)
     iterate 4 refine x5 ?_
     by_cases f1:nb - 1=1
     . rw[ξ (by simpa using f1)];exact π ⟨rfl,.inl ⟨_,_,rfl,fb M' h1.2 (by lia) f1⟩⟩
     rw[ψ (by simpa using f1)];split
     . exact π ⟨rfl,.inr ⟨_,_,_,_,_,rfl,M',h1,by lia,by lia⟩⟩
     . exact π ⟨rfl,_,_,_,_,_,rfl,M',h1,by lia,by lia⟩
  case wpost=>
   rintro c v ⟨rfl,⟨r,t,rfl,f⟩ |⟨na,nb,out,ac,bc,rfl,M,h1,h2,h3⟩⟩
   . exact π ⟨G,r,_,rfl,f⟩
   iterate 10 refine x5 ?_
   dsimp -zetaHave only
   refine δ (X0 ?_)
   refine x5 ?_
   refine δ (UE (PM (I:=fun _ c v=>GS st v/\∃na nb out mg ac bc,c=(none,na,nb,out,mg,ac,bc)/\MH rk a b out na nb/\(0<na/\na<=a.size)/\(1<nb/\nb<=b.size)/\na+nb+x+2<=a.size+b.size)
    (Q:=fun c v=>GS st v/\((∃r t,c=(some r,t)/\r.toList.Perm (a.toList++b.toList)/\Asc rk r.toList)\/∃na nb out mg ac bc,c=(none,na,nb,out,mg,ac,bc)/\MH rk a b out na nb/\(0<na/\na<=a.size)/\(1<nb/\nb<=b.size)/\na+nb+x+2<=a.size+b.size))
    ?jump (fun c v hI=>⟨hI.1,.inr hI.2⟩) ⟨G,na,nb,out,_,ac,bc,rfl,M,h1,h2,h3⟩) ?jpost)
   case jpost=>
    rintro c v2 ⟨G2,⟨r,t,rfl,f⟩ |⟨na,nb,out,mg,ac,bc,rfl,M,h1,h2,h3⟩⟩
    . exact π ⟨G2,r,_,rfl,f⟩
    . exact δ (wpS_modify (π ⟨G2.g _,na,nb,out,_,rfl,M,h1,h2,by lia⟩))
   case jump=>
    clear M h1 h2 h3 out na nb ac bc
    rintro y c v2 _ _ ⟨G2,na,nb,out,mg,ac,bc,rfl,M,h1,h2,h3⟩
    extract_lets s1 n1 s2 b1 s3 o1 s4 m1 s5 a1 c1 eY jp GR
    have N:MH rk a b o1 n1 b1/\(0<n1/\n1<=a.size)/\(1<b1/\b1<=b.size)/\n1+b1+x+2<=a.size+b.size:=⟨M,h1,h2,h3⟩
    have eb:eY=b1 - 1:=rfl
    clear M h1 h2 h3
    clear_value o1 n1 b1 m1 a1 c1 eY
    obtain⟨M,h1,h2,h3⟩:=N
    have oz:b1 - 1<b.size:=by lia
    refine Tr (g:=jp ⟨⟩) fun m=>?_
    refine δ (wpS_modify ?_)
    refine δ (t8 oz ?_)
    refine δ (V5 hc (by exact G2.kind.trans hk) (bin _ (Array.getElem_mem _)) cP (by lia) (by lia) (fun i j z1 z2 z3=>?_) fun p hp lt gt=>?_)
    . unfold bey at z3⊢;rw[ψ η]at z3⊢;have:=D4 hA (show 0+i<=0+j by lia) (by lia);simp only[QK,NQ]at z3⊢
      lia
    dsimp -zetaHave only
    have ca:∀i,p<=i->i<n1->tk rk b (b1 - 1)<=tk rk a i:=fun i z1 z2=>by
     have:=gt i z1 z2;unfold bey at this;rw[ψ η,<-n9 (rk:=rk),PF]at this;simp only[Bool.not_eq_false',NP]at this
     lia
    have cb:∀i,i<p->tk rk a i<=tk rk b (b1 - 1):=fun i z=>by
     have:=lt i z;unfold bey at this;rw[ψ η,<-n9 (rk:=rk),PF]at this;simp only[QK,NQ]at this
     lia
    have M1:=MR.extH M hA (p:=p) hp h1.2 h2.2 ca fun j z=>D4 hB (show j<=b1 - 1 by lia) (by lia)
    clear ca lt gt
    extract_lets k GV jq o2 n2
    refine Ef (jq ⟨⟩) (fun bU dP=>MH rk a b dP bU b1/\(0<bU/\bU<=a.size)/\(∀i,i<bU->tk rk a i<=tk rk b (b1 - 1))/\bU+b1+x+2<=a.size+b.size) (fun bU dP z=>?_) fun J=>?_
    rotate_left
    . have ek:k=n1 - p:=rfl;split
      . by_cases f1:p=0
        . rw[ξ (by simpa using f1)];exact π ⟨G2.g _,.inl ⟨_,_,rfl,dn M1 (by lia) h2.2 (.inl f1)⟩⟩
        rw[ψ (by simpa using f1)];exact J _ _ ⟨M1,by lia,cb,by lia⟩
      . exact J n1 o1 ⟨M,h1,fun i z=>cb i (by lia),h3⟩
    clear M M1 cb h1 h3 o2 n2
    obtain⟨M2,q1,r1,p1⟩:=z
    rw[<-eb]at oz r1
    refine δ (t8 oz ?_)
    extract_lets o3 BK
    have M3:MH rk a b (dP.push b[b1 - 1]) bU (b1 - 1):=(MR.pushH (a:=b) (b:=a) M2.swap hB (by lia) h2.2 q1.2 (eb ▸ r1)).swap
    have M3:MH rk a b o3 bU eY:=by subst eb;exact M3
    clear_value o3
    by_cases f3:eY=1
    . rw[ξ (by simpa using f3)];exact π ⟨G2.g _,.inl ⟨_,_,rfl,fb M3 q1.2 (by lia) f3⟩⟩
    rw[ψ (by simpa using f3)]
    have fW:bU - 1<a.size:=by lia
    refine δ (t8 fW ?_)
    refine δ (V5 hc (by exact G2.kind.trans hk) (cP _ (Array.getElem_mem _)) bin (by lia) (by lia) (fun i j z1 z2 z3=>?_) fun p2 fQ lt gt=>?_)
    . unfold bey at z3⊢;rw[ξ rfl]at z3⊢;have:=D4 hB (show 0+i<=0+j by lia) (by lia);simp only[NP]at z3⊢
      lia
    dsimp -zetaHave only
    have ca:∀i,p2<=i->i<eY->tk rk a (bU - 1)<=tk rk b i:=fun i z1 z2=>by
     have:=gt i z1 z2;unfold bey at this;rw[ξ rfl,<-n9 (rk:=rk),PF]at this;simp only[NQ]at this
     lia
    have cb:∀i,i<p2->tk rk b i<=tk rk a (bU - 1):=fun i z=>by
     have:=lt i z;unfold bey at this;rw[ξ rfl,<-n9 (rk:=rk),PF]at this;simp only[NP]at this
     lia
    have M4:MH rk a b (o3++(b.extract p2 eY).reverse) bU p2:=(MR.extH (a:=b) (b:=a) M3.swap hB (p:=p2) fQ (by lia) q1.2 ca fun j z=>D4 hA (show j<=bU - 1 by lia) (by lia)).swap
    clear ca lt gt
    extract_lets k2 GW jr o4 GY
    refine Ef (jr ⟨⟩) (fun nb eO=>MH rk a b eO bU nb/\(1<nb/\nb<=b.size)/\(∀i,i<nb->tk rk b i<=tk rk a (bU - 1))/\bU+nb+x+2<=a.size+b.size) (fun nb eO z=>?_) fun J=>?_
    rotate_left
    . have ek:k2=eY - p2:=rfl;split
      . by_cases f4:p2=1
        . rw[ξ (by simpa using f4)];exact π ⟨G2.g _,.inl ⟨_,_,rfl,fb M4 q1.2 (by lia) f4⟩⟩
        rw[ψ (by simpa using f4)];by_cases f5:p2=0
        . rw[ξ (by simpa using f5)];exact π ⟨G2.g _,.inl ⟨_,_,rfl,dn M4 q1.2 (by lia) (.inr f5)⟩⟩
        rw[ψ (by simpa using f5)];exact J _ _ ⟨M4,by lia,cb,by lia⟩
      . exact J eY o3 ⟨M3,by lia,fun i z=>cb i (by lia),by lia⟩
    clear M4 M3 cb o4 GY
    obtain⟨M5,b2,c2,p2⟩:=z
    refine δ (t8 fW ?_)
    extract_lets o5
    have M6:=MR.pushH M5 hA q1.1 q1.2 b2.2 c2
    by_cases f6:bU - 1=0
    . rw[ξ (show(BK==0)=true by simpa using f6)];exact π ⟨G2.g _,.inl ⟨_,_,rfl,dn M6 (by lia) b2.2 (.inl f6)⟩⟩
    rw[ψ (show ¬(BK==0)=true by simpa using f6)]
    split
    . exact π ⟨G2.g _,.inr ⟨_,_,_,_,_,_,rfl,M6,by lia,b2,by lia⟩⟩
    . exact π ⟨G2.g _,_,_,_,_,_,_,rfl,M6,by lia,b2,by lia⟩
end
section
variable {rk:Keyed->Nat}
theorem Pk(c:Nat):∀(m:List Keyed)(n:Nat)(ys:Array Keyed),c+n+m.length<=ys.size ->
  ((m.zipIdx n).foldl (fun a (q:Keyed×Nat)=>a.setIfInBounds (c+q.2) q.1) ys).toList=ys.toList.take (c+n)++m++ys.toList.drop (c+n+m.length)
 | [],n,ys,_=>by simp
 |p::m,n,ys,h=>by
  simp only[NM]at h;rw[List.zipIdx_cons,RI,Pk c m (n+1) _ (by rw[Array.size_setIfInBounds];lia),PK];have hl:c+n<ys.toList.length:=by rw[gc];lia
  rw[show c+(n+1)=c+n+1 by lia,List.take_set,List.drop_set_of_lt (by lia),List.take_succ_eq_append_getElem hl,List.set_append_right _ _ (by rw[NT];lia)];rw[NT,show c+n - min (c+n) ys.toList.length=0 by lia,List.set_cons_zero,NM,show c+n+1+m.length=c+n+(m.length+1) by lia];simp
structure Seg(xs:Array Keyed)(pre X post:List Keyed):Prop where
 eq:xs.toList=pre++X++post
variable {xs:Array Keyed}{pre X post:List Keyed}
theorem Seg.size(S:Seg xs pre X post):xs.size=pre.length+X.length+post.length:=by rw[<-gc,S.eq,θ,θ]
theorem Seg.at(S:Seg xs pre X post)(h:i<X.length):∃hh:pre.length+i<xs.size,xs[pre.length+i]=X[i]:=by refine⟨by rw[S.size];lia,?_⟩;rw[<-Array.getElem_toList];simp only[S.eq];rw[List.getElem_append_left (by rw[θ];lia),List.getElem_append_right (by lia)];simp
theorem Seg.tk(S:Seg xs pre X post)(h:i<X.length):tk rk xs (pre.length+i)=rk X[i]:=by obtain⟨hh,e⟩:=S.at h;rw[n9 hh,e]
theorem Asc.at(h:Asc rk l)(ox:i<=j)(hj:j<l.length):rk l[i]<=rk l[j]:=by
 rcases SY i j with z |z
 . exact SH.mp h i j (by lia) hj z
 . obtain rfl:i=j:=by lia
   exact ζ _
theorem Seg.ext(S:Seg xs pre X post)(k m:Nat)(h:k<=m)(hm:m<=X.length):(xs.extract (pre.length+k) (pre.length+m)).toList=(X.drop k).take (m - k):=by
 rw[RN,PR,S.eq,QJ,<-List.drop_drop,List.drop_left,List.drop_append_of_le_length (by lia),show pre.length+m - (pre.length+k)=m - k by lia,
  List.take_append_of_le_length (by rw[OA];lia)]
end
section
variable {prog:Program}{w:World}{A:Around}{E:Value->Shared->Prop}{s:Shared}{κ:SortKind}{a₀:Array Keyed}{rk:Keyed->Nat}
theorem Xg(e:a.toList=l)(h:i<l.length):tk rk a i=rk l[i]:=by subst e;rw[n9 (by simpa using h)];simp
theorem y27{U:Type}{M:Model}{v st:U}{Q:PUnit->U->Prop}(h:Q ⟨⟩ v):wpS M A E s (set v:StateT U Sem PUnit) Q st:=by unfold wpS;rw[StateT.run_set];exact ω ⟨rfl,h⟩
theorem y54(hc:D8 prog w A E s κ a₀ rk){st:SortSt}(B:TBs κ a₀ st){L R:List (Nat×Nat×Nat)}{pw pw':Nat}{pre X Y post:List Keyed}(hP:(pendingOf st).toList=L++(pre.length,X.length,pw)::(pre.length+X.length,Y.length,pw')::R)
  (hx:(arrOf st).toList=pre++X++(Y++post)) (aX:Asc rk X) (aY:Asc rk Y) (nX:0<X.length) (nY:0<Y.length) {Q:Bool->SortSt->Prop}
  (h:∀u Z,TBs κ a₀ u->(pendingOf u).toList=L++(pre.length,X.length+Y.length,pw)::R->(arrOf u).toList=pre++Z++post->Asc rk Z->Z.length=X.length+Y.length->Q true u):wpS (model prog w) A E s (mergeAt' L.length) Q st:=by
 have S1:Seg (arrOf st) pre X (Y++post):=⟨hx⟩
 have S2:Seg (arrOf st) (pre++X) Y post:=⟨by rw[hx,<-QJ]⟩
 have l2:(pre++X).length=pre.length+X.length:=θ
 have p1:(pendingOf st)[L.length]?=some (pre.length,X.length,pw):=by rw[<-OC,hP];simp
 have p2:(pendingOf st)[L.length+1]?=some (pre.length+X.length,Y.length,pw'):=by rw[<-OC,hP];simp
 have pn:(((pendingOf st).setIfInBounds L.length (pre.length,X.length+Y.length,pw)).eraseIdxIfInBounds (L.length+1)).toList=L++(pre.length,X.length+Y.length,pw)::R:=by rw[Array.toList_eraseIdxIfInBounds,PK,hP];simp[List.eraseIdx_append_of_length_le]
 unfold mergeAt'
 refine δ (wpS_get ?_)
 dsimp only
 rw[p1,p2]
 dsimp only
 refine δ (y27 ?_)
 have z0:pre.length+X.length<(arrOf st).size:=by rw[S1.size,θ];lia
 refine δ (t8 z0 ?_)
 have kin:∀x∈arrOf st,x∈a₀:=fun x hx=>B.mem hx
 have hX:=S1.size
 rw[θ]at hX
 have vX:∀{i:Nat}(hi:i<X.length),tk rk (arrOf st) (pre.length+i)=rk X[i]:=fun hi=>S1.tk hi
 have vY:∀{i:Nat}(hi:i<Y.length),tk rk (arrOf st) (pre.length+X.length+i)=rk Y[i]:=fun {i} hi=>by have:=S2.tk (rk:=rk) hi;rwa [l2]at this
 have ky:rk (arrOf st)[pre.length+X.length]=rk Y[0]:=by rw[<-n9 (rk:=rk) z0];exact vY nY
 refine δ (V5 hc (by exact B.kind) (kin _ (Array.getElem_mem _)) kin (by lia) nX (fun i j z1 z2 z3=>?_) fun k iS lt gt=>?_)
 . unfold bey at z3⊢;rw[ψ η]at z3⊢;rw[vX (by lia)]at z3⊢;have:=aX.at z1 z2;simp only[QK,NQ]at z3⊢
   lia
 dsimp only
 have ca:∀i (hi:i<X.length),i<k->rk X[i]<=rk Y[0]:=fun i hi z=>by
  have:=lt i z;unfold bey at this;rw[ψ η,vX hi,ky]at this;simp only[QK,NQ]at this
  lia
 have cb:∀i (hi:i<X.length),k<=i->rk Y[0]<rk X[i]:=fun i hi z=>by have:=gt i z hi;unfold bey at this;rw[ψ η,vX hi,ky]at this;simpa using this
 have gi:(∀i (hi:i<X.length) j (hj:j<Y.length),rk X[i]<=rk Y[j])->Asc rk (X++Y):=fun q=>by refine RJ.mpr ⟨aX,aY,fun x hx y hy=>?_⟩;obtain⟨i,hi,rfl⟩:=NR.mp hx;obtain⟨j,hj,rfl⟩:=NR.mp hy;exact q i hi j hj
 by_cases e1:X.length - k=0
 . rw[ξ (by simpa using e1)];exact π (h _ (X++Y) ⟨B.perm,B.kind,B.ok⟩ pn (by show(arrOf st).toList=_;rw[hx];simp) (gi fun i hi j hj=>KM (ca i hi (by lia)) (aY.at (OI _) hj)) θ)
 rw[ψ (by simpa using e1)]
 have z1:pre.length+k+(X.length - k) - 1<(arrOf st).size:=by lia
 refine δ (t8 z1 ?_)
 have kx:rk (arrOf st)[pre.length+k+(X.length - k) - 1]=rk X[X.length - 1]:=by rw[<-n9 (rk:=rk) z1,show pre.length+k+(X.length - k) - 1=pre.length+(X.length - 1) by lia];exact vX (by lia)
 refine δ (V5 hc (by exact B.kind) (kin _ (Array.getElem_mem _)) kin (by lia) (by lia) (fun i j z1 z2 z3=>?_) fun m hm GZ G'=>?_)
 . unfold bey at z3⊢;rw[ξ rfl]at z3⊢;rw[vY (by lia)]at z3⊢;have:=aY.at z1 z2;simp only[NP]at z3⊢
   lia
 dsimp only
 have da:∀j (hj:j<Y.length),j<m->rk Y[j]<rk X[X.length - 1]:=fun j hj z=>by have:=GZ j z;unfold bey at this;rw[ξ rfl,vY hj,kx]at this;simpa using this
 have db:∀j (hj:j<Y.length),m<=j->rk X[X.length - 1]<=rk Y[j]:=fun j hj z=>by
  have:=G' j z hj;unfold bey at this;rw[ξ rfl,vY hj,kx]at this;simp only[NQ]at this
  lia
 by_cases e2:m=0
 . rw[ξ (by simpa using e2)];exact π (h _ (X++Y) ⟨B.perm,B.kind,B.ok⟩ pn (by show(arrOf st).toList=_;rw[hx];simp) (gi fun i hi j hj=>KM (aX.at (show i<=X.length - 1 by lia) (by lia)) (db j hj (by lia))) θ)
 rw[ψ (by simpa using e2)]
 have ex:((arrOf st).extract (pre.length+k) (pre.length+X.length)).toList=X.drop k:=by rw[S1.ext k X.length iS (ζ _)];exact OU (by rw[OA];lia)
 have ey:((arrOf st).extract (pre.length+X.length) (pre.length+X.length+m)).toList=Y.take m:=by have:=S2.ext 0 m (OI _) hm;rwa [l2,TW,List.drop_zero,Nat.sub_zero]at this
 generalize nU:(arrOf st).extract (pre.length+k) (pre.length+X.length)=x1 at *
 generalize NB:(arrOf st).extract (pre.length+X.length) (pre.length+X.length+m)=y1 at *
 have lx:x1.size=X.length - k:=by rw[<-gc,ex,OA]
 have ly:y1.size=m:=by rw[<-gc,ey,NT];lia
 have tx:∀i,i<X.length - k->∃hi:k+i<X.length,tk rk x1 i=rk X[k+i]:=fun i hi=>⟨by lia,by rw[Xg ex (by rw[OA];exact hi),RM]⟩
 have ty:∀i,i<m->∃hi:i<Y.length,tk rk y1 i=rk Y[i]:=fun i hi=>⟨by lia,by rw[Xg ey (by rw[NT];lia),RL]⟩
 have BL:∀x∈x1,x∈a₀:=fun x hx=>kin x (SM.mpr (by rw[SM,ex]at hx;rw[S1.eq];exact RK _ (NU _ (List.mem_of_mem_drop hx))))
 have BM:∀x∈y1,x∈a₀:=fun x hx=>kin x (SM.mpr (by rw[SM,ey]at hx;rw[S2.eq];exact RK _ (NU _ (SF hx))))
 have first:∀j,j<x1.size->tk rk y1 0<=tk rk x1 j:=fun j hj=>by obtain⟨h1,e1⟩:=tx j (by lia);obtain⟨h2,e2⟩:=ty 0 (by lia);rw[e1,e2];exact QQ (cb _ h1 (by lia))
 have last:∀j,j<y1.size->tk rk y1 j<=tk rk x1 (x1.size - 1):=fun j hj=>by
  obtain⟨h1,e1⟩:=tx (x1.size - 1) (by lia);obtain⟨h2,e2⟩:=ty j (by lia);rw[e1,e2];have:=da j h2 (by lia);simp only[show k+(x1.size - 1)=X.length - 1 by lia]
  lia
 have A1:Asc rk x1.toList:=by rw[ex];exact aX.drop k
 have A2:Asc rk y1.toList:=by rw[ey];exact aY.take m
 have done:∀(out:Array Keyed)(u:SortSt),GS (SortSt.mk' (kindOf st) (arrOf st) (((pendingOf st).setIfInBounds L.length (pre.length,X.length+Y.length,pw)).eraseIdxIfInBounds (L.length+1)) (gallopOf st) (failedOf st)) u->out.toList.Perm (x1.toList++y1.toList)/\Asc rk out.toList ->
   Q (failedOf (SortSt.mk' (kindOf u) (List.foldl (fun a (q:Keyed×Nat)=>a.setIfInBounds (pre.length+k+q.2) q.1) (arrOf u) out.toList.zipIdx) (pendingOf u) (gallopOf u) (failedOf u))).isNone (SortSt.mk' (kindOf u) (List.foldl (fun a (q:Keyed×Nat)=>a.setIfInBounds (pre.length+k+q.2) q.1) (arrOf u) out.toList.zipIdx) (pendingOf u) (gallopOf u) (failedOf u)):=fun out u G f=>by
  have eu:arrOf u=arrOf st:=G.arr
  have lo:out.toList.length=X.length - k+m:=by rw[f.1.length_eq,θ,ex,ey,OA,NT];lia
  have en:=Pk (pre.length+k) out.toList 0 (arrOf u) (by rw[eu];lia)
  rw[TW,eu,hx,lo]at en
  have t1:(pre++X++(Y++post)).take (pre.length+k)=pre++X.take k:=by rw[QJ,List.take_length_add_append,List.take_append_of_le_length iS]
  have t2:(pre++X++(Y++post)).drop (pre.length+k+(X.length - k+m))=Y.drop m++post:=by rw[show pre.length+k+(X.length - k+m)=(pre++X).length+m by rw[l2];lia,List.drop_length_add_append,List.drop_append_of_le_length hm]
  rw[t1,t2]at en
  have ok:failedOf u=none:=G.ok.trans B.ok
  have pz:(X.take k++out.toList++Y.drop m).Perm (X++Y):=by refine((f.1.append_left (X.take k)).append_right (Y.drop m)).trans ?_;rw[ex,ey,<-QJ,RF,QJ,RF]
  rw[show(failedOf (SortSt.mk' (kindOf u) (List.foldl (fun a (q:Keyed×Nat)=>a.setIfInBounds (pre.length+k+q.2) q.1) (arrOf u) out.toList.zipIdx) (pendingOf u) (gallopOf u) (failedOf u))).isNone=true by show(failedOf u).isNone=true;rw[ok];rfl]
  refine h _ (X.take k++out.toList++Y.drop m) ⟨?_,G.kind.trans B.kind,ok⟩ (by show(pendingOf u).toList=_;rw[G.pend];exact pn) (by show(List.foldl _ (arrOf u) _).toList=_;rw[eu,en];simp) ?_ (by rw[pz.length_eq,θ])
  . refine RC.mpr ?_;show(List.foldl _ (arrOf u) _).toList.Perm _;rw[eu,en];refine List.Perm.trans ?_ (RC.mp B.perm);rw[hx];have e1:pre++X.take k++out.toList++(Y.drop m++post)=pre++((X.take k++out.toList++Y.drop m)++post):=by simp
    have e2:pre++X++(Y++post)=pre++((X++Y)++post):=by simp
    rw[e1,e2];exact(pz.append_right _).append_left _
  . have lV:∀y∈out.toList,(∃(i:Nat)(hi:i<X.length),k<=i/\y=X[i])\/∃(j:Nat)(hj:j<Y.length),j<m/\y=Y[j]:=fun y hy=>by
     rcases OF.mp (f.1.mem_iff.mp hy) with z |z
     . rw[ex]at z;obtain⟨i,hi,rfl⟩:=NR.mp z;rw[OA]at hi;exact .inl ⟨k+i,by lia,by lia,RM⟩
     . rw[ey]at z;obtain⟨i,hi,rfl⟩:=NR.mp z;rw[NT]at hi;exact .inr ⟨i,by lia,by lia,RL⟩
    refine RJ.mpr ⟨RJ.mpr ⟨aX.take k,f.2,fun x hx y hy=>?_⟩,aY.drop m,fun x hx y hy=>?_⟩
    . obtain⟨i,hi,rfl⟩:=NR.mp hx;rw[NT]at hi;rw[RL];rcases lV y hy with⟨j,hj,z,rfl⟩ |⟨j,hj,z,rfl⟩
      . exact aX.at (by lia) hj
      . exact KM (ca i (by lia) (by lia)) (aY.at (OI _) hj)
    . obtain⟨j,hj,rfl⟩:=NR.mp hy;rw[OA]at hj;rw[RM];rcases OF.mp hx with z |z
      . obtain⟨i,hi,rfl⟩:=NR.mp z;rw[NT]at hi;rw[RL];exact KM (ca i (by lia) (by lia)) (aY.at (OI _) (by lia))
      . rcases lV x z with⟨i,hi,_,rfl⟩ |⟨i,hi,q,rfl⟩
        . exact KM (aX.at (show i<=X.length - 1 by lia) (by lia)) (db _ (by lia) (by lia))
        . exact aY.at (by lia) (by lia)
 by_cases e3:X.length - k<=m
 . rw[ξ e3];exact δ (y52 hc (by exact B.kind) BL BM A1 A2 (by lia) (by lia) first last fun out u G f=>δ (wpS_modify (δ (wpS_get (π (done out u G f))))))
 . rw[ψ e3];exact δ (y53 hc (by exact B.kind) BL BM A1 A2 (by lia) (by lia) first last fun out u G f=>δ (wpS_modify (δ (wpS_get (π (done out u G f))))))
end
section
variable {rk:Keyed->Nat}
noncomputable def pend:Nat->List (List Keyed×Nat)->List (Nat×Nat×Nat)
 |_,[]=>[]
 |lo,(X,pw)::S=>(lo,X.length,pw)::pend (lo+X.length) S
noncomputable def j9(S:List (List Keyed×Nat)):List Keyed:=(S.map (·.1)).flatten
theorem K8(S T:List (List Keyed×Nat)):j9 (S++T)=j9 S++j9 T:=by simp[j9]
theorem C1(X:List Keyed)(pw:Nat)(S:List (List Keyed×Nat)):j9 ((X,pw)::S)=X++j9 S:=by simp[j9]
theorem Y4:∀(lo:Nat)(S T:List (List Keyed×Nat)),pend lo (S++T)=pend lo S++pend (lo+(j9 S).length) T
 |lo,[],T=>by simp[pend,j9]
 |lo,(X,pw)::S,T=>by rw[TJ,pend,pend,Y4,C1,θ,TJ,Nat.add_assoc]
theorem Y3:∀(lo:Nat)(S:List (List Keyed×Nat)),(pend lo S).length=S.length
 |_,[]=>rfl
 |lo,(X,pw)::S=>by rw[pend,NM,Y3,NM]
structure Runs(rk:Keyed->Nat)(u:SortSt)(S:List (List Keyed×Nat))(rest:List Keyed):Prop where
 arr:(arrOf u).toList=j9 S++rest
 pend:(pendingOf u).toList=L2.pend 0 S
 asc:∀X∈S,Asc rk X.1/\0<X.1.length
variable {prog:Program}{w:World}{A:Around}{E:Value->Shared->Prop}{s:Shared}{κ:SortKind}{a₀:Array Keyed}
theorem jN(hc:D8 prog w A E s κ a₀ rk){u:SortSt}(B:TBs κ a₀ u){S T:List (List Keyed×Nat)}{X Y:List Keyed}{pw pw':Nat}{rest:List Keyed}(H:Runs rk u (S++(X,pw)::(Y,pw')::T) rest){Q:Bool->SortSt->Prop}
  (h:∀v Z,TBs κ a₀ v->Runs rk v (S++(Z,pw)::T) rest->Z.length=X.length+Y.length->Q true v):wpS (model prog w) A E s (mergeAt' S.length) Q u:=by
 have aX:=H.asc (X,pw) (by simp)
 have aY:=H.asc (Y,pw') (by simp)
 have hl:(pend 0 S).length=S.length:=Y3 0 S
 rw[<-hl]
 refine y54 hc B (L:=pend 0 S) (R:=pend ((j9 S).length+X.length+Y.length) T) (pw:=pw) (pw':=pw') (pre:=j9 S) (X:=X) (Y:=Y) (post:=j9 T++rest) ?_ ?_ aX.1 aY.1 aX.2 aY.2 fun v Z B' hp ha aZ lZ=>?_
 . rw[H.pend,Y4,PF,pend,pend]
 . rw[H.arr,K8,C1,C1];simp
 . refine h v Z B' ⟨?_,?_,fun W hW=>?_⟩ lZ
   . rw[ha,K8,C1];simp
   . rw[hp,Y4,PF,pend,lZ,Nat.add_assoc]
   . rcases OF.mp hW with z |z
     . exact H.asc W (RK _ z)
     . rcases tB.mp z with rfl |z
       . exact⟨aZ,by show 0<Z.length;rw[lZ];exact NH aX.2 (Nat.le_add_right _ _)⟩
       . exact H.asc W (NU _ (.tail _ (.tail _ z)))
theorem jM{xs:Array Keyed}{lo n:Nat}(h:TSo rk xs lo (lo+n))(hz:lo+n<=xs.size):Asc rk ((xs.toList.drop lo).take n):=by
 refine SH.mpr fun i j hi hj ox=>?_
 simp only[NT,OA,gc]at hi hj;have:=h (lo+i) (lo+j) (by lia) (by lia) (by lia);rw[n9 (by lia),n9 (by lia)]at this;simpa using this
theorem Runs.few{u:SortSt}{rest:List Keyed}:∀{S:List (List Keyed×Nat)},(∀X∈S,Asc rk X.1/\0<X.1.length)->S.length<=(j9 S).length
 | [],_=>OI _
 | (X,pw)::S,h=>by
  have:=Runs.few (u:=u) (rest:=rest) (S:=S) fun Y hY=>h Y (.tail _ hY)
  have:=(h (X,pw) (.head _)).2;rw[C1,θ,NM];simp only at this
  lia
theorem jL(h:i+1<S.length):∃S1 X pw Y pw' T,S=S1++(X,pw)::(Y,pw')::T/\S1.length=i:=by refine⟨S.take i,S[i].1,S[i].2,S[i+1].1,S[i+1].2,S.drop (i+2),?_,by rw[NT];lia⟩;have e1:=PU (show i<S.length by lia);have e2:=PU h;show S=S.take i++S[i]::S[i+1]::S.drop (i+1+1);rw[<-e2,<-e1,RF]
theorem Np(hc:D8 prog w A E s κ a₀ rk){u:SortSt}(B:TBs κ a₀ u){S:List (List Keyed×Nat)}{rest:List Keyed}(H:Runs rk u S rest){i:Nat}(hi:i+1<S.length){Q:Bool->SortSt->Prop}
  (h:∀v S',TBs κ a₀ v->Runs rk v S' rest->(j9 S').length=(j9 S).length->S'.length+1=S.length->Q true v):wpS (model prog w) A E s (mergeAt' i) Q u:=by
 obtain⟨S1,X,pw,Y,pw',T,rfl,rfl⟩:=jL hi
 refine jN hc B H fun v Z B' H' lZ=>h v _ B' H' ?_ ?_
 . rw[K8,K8,C1,C1,C1];simp only[θ];lia
 . simp only[θ,NM];lia
theorem Runs.push(H:Runs rk v S (Z++r))(a:Asc rk Z)(z:0<Z.length):Runs rk (setPending v ((pendingOf v).push ((j9 S).length,Z.length,0))) (S++[(Z,0)]) r:=by
 refine⟨?_,?_,fun X hX=>?_⟩
 . show(arrOf v).toList=_;rw[H.arr,K8,C1];simp[j9]
 . show((pendingOf v).push _).toList=_;rw[SZ,H.pend,Y4,PF];rfl
 . rcases OF.mp hX with q |q
   . exact H.asc X q
   . rw[PV]at q;subst q;exact⟨a,z⟩
theorem Rn(f:β->β):∀(l:List β)(x:β),(l++[x]).modify l.length f=l++[f x]
 | [],_=>rfl
 |a::l,x=>by rw[TJ,NM,List.modify_succ_cons,Rn f l x,TJ]
theorem Runs.repow(H:Runs rk v S r)(hS:S≠[])(P:Nat):∃S',Runs rk (setPending v ((pendingOf v).modify ((pendingOf v).size - 1) fun x=>(x.1,x.2.1,P))) S' r/\j9 S'=j9 S:=by
 obtain⟨S0,⟨X,pw⟩,rfl⟩:∃S0 t,S=S0++[t]:=⟨S.dropLast,S.getLast hS,(List.dropLast_concat_getLast hS).symm⟩;have sz:(pendingOf v).size=S0.length+1:=by rw[<-gc,H.pend,Y3];simp
 refine⟨S0++[(X,P)],⟨?_,?_,fun Y hY=>?_⟩,by rw[K8,K8,C1,C1]⟩
 . show(arrOf v).toList=_;rw[H.arr,K8,K8,C1,C1]
 . show((pendingOf v).modify _ _).toList=_;rw[Array.toList_modify,H.pend,sz,Y4,Y4,Nat.add_sub_cancel,<-Y3 0 S0];exact Rn _ _ _
 . rcases OF.mp hY with q |q
   . exact H.asc Y (RK _ q)
   . rw[PV]at q;subst q;exact H.asc (X,pw) (by simp)
theorem y28[Decidable c](h:n=m)(h2:¬n<=1):(if c then n - 2 - 1 else n - 2)+1<m:=by split<;>omega
theorem vf{α:Type}{Q:α->SortSt->Prop}{C:Nat->SortSt->Prop}{p:Nat->Prop}{dp:∀n,Decidable (p n)}{t g:Nat->StateT SortSt Sem α}(R:Nat->SortSt->Prop)(hg:∀m u,R m u->wpS (model prog w) A E s (g m) Q u)(ht:∀n u,C n u->p n->(∀m u,R m u->wpS (model prog w) A E s (g m) Q u)->wpS (model prog w) A E s (t n) Q u)(hn:∀n u,C n u->¬p n->R n u):∀n u,C n u->wpS (model prog w) A E s (if p n then t n else g n) Q u:=by
 intro n u c;by_cases h:p n
 . rw[ξ h];exact ht n u c h hg
 . rw[ψ h];exact hg _ _ (hn n u c h)
theorem jK(hc:D8 prog w A E s κ a₀ rk){st:SortSt}(B:TBs κ a₀ st)(h2:2<=a₀.size)(hp:pendingOf st=#[]){Q:Unit->SortSt->Prop}(h:∀u,TBs κ a₀ u->Asc rk (arrOf u).toList->Q () u):wpS (model prog w) A E s sortRuns' Q st:=by
 rw[sortRuns'_eq];refine δ (wpS_get ?_);dsimp only;rw[B.size];refine δ (UE (PM (I:=fun x c u=>TBs κ a₀ u/\∃lo S rest,c=(none,lo)/\Runs rk u S rest/\(j9 S).length=lo/\lo<=a₀.size/\(x<=lo\/lo=a₀.size))
  (Q:=fun c u=>TBs κ a₀ u/\∃S rest,c=(none,a₀.size)/\Runs rk u S rest/\(j9 S).length=a₀.size) ?step ?fin ⟨B,0,[],(arrOf st).toList,rfl,⟨rfl,by rw[hp];rfl,fun X hX=>absurd hX RA⟩,rfl,OI _,.inl (ζ _)⟩) ?post)
 case fin=>
  rintro c u ⟨B1,lo,S,rest,rfl,H,e,l1,l2⟩
  simp only[SX]at l2
  obtain rfl:lo=a₀.size:=by lia
  exact⟨B1,S,rest,rfl,H,e⟩
 case post=>
  rintro c u ⟨B1,S,rest,rfl,H,e⟩
  dsimp only
  refine δ (UE (PM (I:=fun x c v=>c=(none,())/\TBs κ a₀ v/\∃S rest,Runs rk v S rest/\(j9 S).length=a₀.size/\S.length+x<=a₀.size)
   (Q:=fun c v=>c=(none,())/\TBs κ a₀ v/\∃S rest,Runs rk v S rest/\(j9 S).length=a₀.size/\S.length<=1) (fun x c v _ _ hI=>?_) (fun c v hI=>?_) ⟨rfl,B1,S,rest,H,e,by have:=Runs.few (u:=u) (rest:=rest) H.asc;lia⟩) fun c v hI=>?_)
  . obtain⟨rfl,B2,S,rest,H,e,l⟩:=hI;have sz:(pendingOf v).size=S.length:=by rw[<-gc,H.pend,Y3]
    refine δ (wpS_get ?_);by_cases q:(pendingOf v).size<=1
    . rw[ξ q];exact π ⟨rfl,B2,S,rest,H,e,by lia⟩
    . rw[ψ q];refine δ (Np hc B2 H (y28 sz q) fun u2 S' B3 H' e' l'=>?_);exact π ⟨rfl,B3,S',rest,H',e'.trans e,by lia⟩
  . obtain⟨rfl,B2,S,rest,H,e,l⟩:=hI;exact⟨rfl,B2,S,rest,H,e,by simp only[SX]at l;lia⟩
  . obtain⟨rfl,B2,S,rest,H,e,l⟩:=hI;refine π (h v B2 ?_);have hr:rest=[]:=by have:=PZ List.length H.arr;rw[gc,B2.size,θ,e]at this;exact List.length_eq_zero_iff.mp (by lia)
    rw[H.arr,hr,RZ]
    match S,l,H.asc with
    | [],_,_=>exact .nil
    | [(X,pw)],_,a=>rw[C1];simpa [j9] using (a _ (.head _)).1
    |_::_::_,l,_=>simp at l
 case step=>
  rintro x c u _ _ ⟨B1,lo,S,rest,rfl,H,e,l1,l2⟩
  dsimp only
  by_cases q:lo ≥ a₀.size
  . rw[ξ q];obtain rfl:lo=a₀.size:=by lia
    exact π ⟨B1,S,rest,rfl,H,e⟩
  rw[ψ q]
  refine δ (vg hc B1 (by lia) (by lia) fun n u1 n1 n2 B2 L2 so=>?_)
  dsimp only
  generalize minRun' a₀.size a₀.size 0=mr
  have hh:=And.intro n1 (And.intro n2 (And.intro B2 (And.intro L2 so)))
  clear n1 n2 B2 L2 so
  revert n u1
  refine vf (fun m u2=>1<=m/\lo+m<=a₀.size/\TSo rk (arrOf u2) lo (lo+m)/\TBs κ a₀ u2/\TL u u2 lo) (fun m u2 hR=>?_) (fun n u1 ⟨n1,n2,B2,L2,so⟩ hn k=>?_) fun n u1 ⟨n1,n2,B2,L2,so⟩ hn=>⟨n1,by lia,so,B2,L2⟩
  rotate_left
  . refine δ (X0 ?_);refine δ (y25 hc B2 (n:=min (a₀.size - lo) mr) (by lia) n1 (by lia) so fun u2 B3 L3 so2=>?_);rw[ψ (by simp)];exact k _ _ ⟨by lia,by lia,so2,B3,L2.trans L3⟩
  . obtain⟨m1,m2,so3,B3,L4⟩:=hR;have hz:lo+m<=(arrOf u2).size:=by rw[B3.size];exact m2
    obtain⟨Z,eZ⟩:∃Z,Z=((arrOf u2).toList.drop lo).take m:=⟨_,rfl⟩;have aZ:Asc rk Z:=eZ ▸ jM so3 hz;have lZ:Z.length=m:=by rw[eZ,NT,OA,gc];lia
    have H2:Runs rk u2 S (Z++(arrOf u2).toList.drop (lo+m)):=by
     refine⟨?_,by rw[L4.pend];exact H.pend,H.asc⟩;have t:(arrOf u2).toList.take lo=j9 S:=by
      have:(arrOf u2).toList.take lo=(arrOf u).toList.take lo:=by
       refine UI fun i=>?_
       rw[List.getElem?_take,List.getElem?_take];by_cases z:i<lo
       . rw[ξ z,ξ z,OC,OC];exact L4.low i z
       . rw[ψ z,ψ z]
      rw[this,H.arr,<-e,List.take_left]
     rw[<-t,eZ,<-drop_take,RF]
    generalize (arrOf u2).toList.drop (lo+m)=r2 at H2;refine δ (wpS_get ?_);have fin:∀(v:SortSt)(S':List (List Keyed×Nat)),TBs κ a₀ v->Runs rk v S' (Z++r2)->(j9 S').length=lo ->
      TBs κ a₀ (setPending v ((pendingOf v).push (lo,m,0)))/\∃ie BN rest,((none:Option Unit),lo+m)=(none,ie)/\Runs rk (setPending v ((pendingOf v).push (lo,m,0))) BN rest/\(j9 BN).length=ie/\ie<=a₀.size/\(x+1<=ie\/ie=a₀.size):=fun v S' Bv Hv ev=>by
     have:=Hv.push aZ (by lia)
     rw[ev,lZ]at this
     exact⟨⟨Bv.perm,Bv.kind,Bv.ok⟩,lo+m,_,r2,rfl,this,by rw[K8,C1,θ,ev,θ,lZ];simp[j9],m2,.inl (by lia)⟩
    cases hb:(pendingOf u2).back? with
    |none=>exact δ (wpS_modify (π (fin u2 S B3 H2 e)))
    |some t=>
     obtain⟨s1,oA,p1⟩:=t
     dsimp only
     have hS:S≠[]:=fun z=>by have:=H2.pend;rw[z]at this;rw[Array.toList_eq_nil_iff.mp this]at hb;cases hb
     refine δ (UE (PM (I:=fun _ c v=>c=(none,())/\TBs κ a₀ v/\∃S',Runs rk v S' (Z++r2)/\(j9 S').length=lo/\S'≠[])
      (Q:=fun c v=>c=(none,())/\TBs κ a₀ v/\∃S',Runs rk v S' (Z++r2)/\(j9 S').length=lo/\S'≠[]) (fun y c v _ _ hI=>?_) (fun c v hI=>hI) ⟨rfl,B3,S,H2,e,hS⟩) fun c v hI=>?_)
     . obtain⟨rfl,Bv,S',Hv,ev,nv⟩:=hI;refine δ (wpS_get ?_);have sz:(pendingOf v).size=S'.length:=by rw[<-gc,Hv.pend,Y3]
       cases hq:(if(pendingOf v).size > 1 then(pendingOf v)[(pendingOf v).size - 2]? else none) with
       |none=>exact π ⟨rfl,Bv,S',Hv,ev,nv⟩
       |some t=>
        obtain⟨q1,q2,DC⟩:=t
        dsimp only
        have hs:(pendingOf v).size > 1:=by
         by_cases z:(pendingOf v).size > 1
         . exact z
         . rw[ψ z]at hq;cases hq
        split
        . exact π ⟨rfl,Bv,S',Hv,ev,nv⟩
        . refine δ (Np hc Bv Hv (by lia) fun v2 S2 B5 H5 e5 l5=>?_);rw[ψ (by simp)];exact π ⟨rfl,B5,S2,H5,e5.trans ev,fun z=>by rw[z]at l5;simp at l5;lia⟩
     . obtain⟨rfl,Bv,S',Hv,ev,nv⟩:=hI;dsimp only;obtain⟨S2,H5,e5⟩:=Hv.repow nv (power' a₀.size (2 * s1+oA) (2 * s1+oA+oA+m) a₀.size);exact δ (wpS_modify (δ (wpS_modify (π (fin _ S2 ⟨Bv.perm,Bv.kind,Bv.ok⟩ H5 (by rw[e5];exact ev))))))
end
section
variable {prog:Program}{w:World}{E:Value->Shared->Prop}{s:Shared}{A:Around}
noncomputable def v6(h:Heap)(a:Addr)(vs:List Value):Heap:=((h.update a (Obj.mapSeq fun _=>#[])).push (seqObj "tuple" vs.toArray 0)).push (seqObj "list" #[] 0)
theorem Lz(ho:h.get? a=some (seqObj "list" vs.toArray n)) :
  ∃k,(h.update a (Obj.mapSeq fun _=>#[])).get? a=some (seqObj "list" #[] k)/\(v6 h a vs).get? a=some (seqObj "list" #[] k):=
 ⟨_,get?_update_seq ho fun _=>#[],Ψ _ (Ψ _ (get?_update_seq ho fun _=>#[]))⟩
theorem Tq(ho:s.heap.get? a=some (seqObj "list" vs.toArray n))(h2:2<=vs.length)(hz:vs.length<=sizeLine)
  (fE:∀(Q:SortKind->Shared->Prop),Q κ { s with heap:=v6 s.heap a vs }->wpAny (model prog w) A (keyKind' vs.toArray) Q E { s with heap:=v6 s.heap a vs })
  (hc:D8 prog w A E { s with heap:=v6 s.heap a vs } κ (pairsOf vs) rk)
  (h:∀out:Array Keyed,out.Perm (pairsOf vs)->Asc rk out.toList->P (.done (.ret .none)) { s with heap:=sortedHeap s.heap a vs (out.map (·.2)) }):wpAny (model prog w) A (Builtin.«list.sort» ⟨[.ref a],[]⟩) P E s:=by
 obtain⟨k,k1,k2⟩:=Lz ho
 have nn:¬vs.toArray.size<2:=by rw[LL];lia
 rw[list_sort_plain]
 refine χ (listItems_at ho rfl (χ (listUpdate_at ho rfl (χ (seqEpoch_at k1 rfl (χ (wpAny_newTuple (χ (TY (NZ ?_) (OI _))) hz)))) (by rw[LL];exact hz) (OI _))))
 show wpAny (model prog w) A _ P E { s with heap:=v6 s.heap a vs }
 rw[ψ nn,ψ nn]
 refine χ (fE _ (χ (OG (jK (st:=SortSt.mk' κ (pairsOf vs) #[] 7 none) hc ⟨.refl _,rfl,rfl⟩ (by rw[pairsOf_size];exact h2) rfl (Q:=fun _ u=>TBs κ (pairsOf vs) u/\Asc rk (arrOf u).toList) fun u B a=>⟨B,a⟩) ?_ fun _ _ x=>x)))
 rintro⟨⟨⟩,u⟩ s' ⟨rfl,B,hA⟩
 refine χ (seqEpoch_at k2 rfl (χ (listUpdate_at k2 rfl ?_ (OI _) (by rw[Array.size_map,B.size,pairsOf_size];exact Nat.le_succ_of_le hz))))
 rw[B.ok,bne_self_eq_false]
 exact ω (h _ B.perm hA)
noncomputable def D3(h:Heap)(vs:List Value):Heap:=((h.push (seqObj "list" #[] 0)).update h.objs.size (Obj.mapSeq (·++vs.toArray))).push (seqObj "list" vs.toArray 0)
theorem Lm(h:Heap)(vs:List Value):(D3 h vs).get? (h.objs.size+1)=some (seqObj "list" vs.toArray 0):=by
 have e:((h.push (seqObj "list" #[] 0)).update h.objs.size (Obj.mapSeq (·++vs.toArray))).objs.size=h.objs.size+1:=(TX _ _ _).trans (size_push' _ _);unfold D3
 conv=>lhs;arg 2;rw[<-e]
 exact Ξ _ rfl
theorem zc(q:h.get? b=some o):(v6 (D3 h vs) (h.objs.size+1) vs).get? b=some o:=by have lt:b<h.objs.size:=Φ q;refine Ψ _ (Ψ _ ?_);rw[OP _ _ _ _ (NI (Nat.lt_add_right 1 lt))];refine Ψ _ ?_;rw[OP _ _ _ _ (NI lt)];exact Ψ _ q
theorem zb(hl:s.heap.IsList l vs.toArray)(h2:2<=vs.length)(hz:vs.length<=sizeLine)
  (fE:∀(Q:SortKind->Shared->Prop),Q κ { s with heap:=v6 (D3 s.heap vs) (s.heap.objs.size+1) vs }->wpAny (model prog w) A.in1.in1 (keyKind' vs.toArray) Q (fun _ _=>False) { s with heap:=v6 (D3 s.heap vs) (s.heap.objs.size+1) vs })
  (hc:D8 prog w A.in1.in1 (fun _ _=>False) { s with heap:=v6 (D3 s.heap vs) (s.heap.objs.size+1) vs } κ (pairsOf vs) rk)
  (h:∀out:Array Keyed,out.Perm (pairsOf vs)->Asc rk out.toList->Q (.ref (s.heap.objs.size+1)) { s with heap:=sortedAll s.heap vs (out.map (·.2)) }):wpAny (model prog w) A (call (.builtin "sorted") [.ref l]) Q E s:=by
 have e:((s.heap.push (seqObj "list" #[] 0)).update s.heap.objs.size (Obj.mapSeq (·++vs.toArray))).objs.size=s.heap.objs.size+1:=(TX _ _ _).trans (size_push' _ _)
 have b:=Tq (s:={ s with heap:=D3 s.heap vs }) (E:=fun _ _=>False) (P:=fun f s'=>∃x,f=.done (.ret x)/\Q (.ref (s.heap.objs.size+1)) s') (Lm s.heap vs) h2 hz fE hc fun out p a=>⟨_,rfl,h out p a⟩
 apply SU kind_sorted plain_sorted entry_sorted (args_sorted1 (.ref l))
 unfold Builtin.«sorted»
 refine χ (m:=checkCount "sorted" 1 1 _) (ω (χ (collect_list hl (χ (TY ?_ hz)) hz)))
 show wpAny _ _ _ _ _ { s with heap:=D3 s.heap vs }
 rw[e]
 refine χ (NZ (QF slot_list_sort ⟨_,Lm s.heap vs,rfl⟩ entry_list_sort (OG b (fun f s' q=>?_) fun _ _ x=>x.elim) (args_list_sort _)))
 obtain⟨x,rfl,q⟩:=q
 exact⟨_,rfl,ω ⟨_,rfl,q⟩⟩
end
def rkD(ds:List D)(d:D):Nat:=ds.countP fun e=>ltT e d
theorem Dw(h:ois ds=true)(hd:d∈ds)(he:e∈ds):decide (rkD ds d<rkD ds e)=ltT d e:=by
 have ho:∀x∈ds,x.oi=true:=fun x hx=>ois_mem.mp h x hx
 have up:∀{d e:D},d∈ds->e∈ds->ltT d e=true->rkD ds d<rkD ds e:=fun {d e} hd he q=>by
  unfold rkD;have le:∀l:List D,(∀x∈l,x∈ds)->l.countP (fun x=>ltT x d)<=l.countP (fun x=>ltT x e):=fun l hl=>
   List.countP_mono_left fun x hx HA=>Dn (ho x (hl x hx)) (ho d hd) (ho e he) HA q
  obtain⟨l1,l2,rfl⟩:=List.append_of_mem hd;have a:=le l1 fun x hx=>by simp[hx]
  have b:=le l2 fun x hx=>by simp[hx]
  simp only[List.countP_append,List.countP_cons,q,Jg (ho d hd)];simp
  lia
 cases q:ltT d e with
 |true=>simpa using up hd he q
 |false=>
  cases q':ltT e d with
  |true=>have:=up he hd q';simp;lia
  |false=>obtain rfl:=Dx (ho d hd) (ho e he) q q';simp
theorem Cl{d:D}(h:d.oi=true):(∃a,d=.int a)\/∃ds,d=.tup ds/\ois ds=true:=by
 cases d with
 |int a=>exact .inl ⟨a,rfl⟩
 |tup ds=>exact .inr ⟨ds,rfl,by simpa only [D.oi] using h⟩
 |_=>exact nomatch h
theorem ve{K:Frag}{H:Hp}{n:Nat}(ih:∀{d e:D}{x:V},d.dep<=n->d.oi=true->e.oi=true->RD K H d x->RD K H e x->d=e):∀{ds es:List D}{xs:List V},i8 ds<=n->ois ds=true->ois es=true->RDs K H ds xs->RDs K H es xs->ds=es:=by
 intro ds;induction ds with
 |nil=>
  intro es xs _ _ _ r1 r2
  have l:=r2.length
  rw[<-r1.length]at l
  exact(List.length_eq_zero_iff.mp l).symm
 |cons d ds HB=>
  intro es xs hd o1 o2 r1 r2
  cases es with
  |nil=>
   have l:=r1.length
   rw[<-r2.length]at l
   cases l
  |cons e es=>
   simp only[RDs]at r1 r2
   obtain⟨x,ys,h1,p1,q1⟩:=r1
   obtain⟨y,zs,h2,p2,q2⟩:=r2
   rw[h1]at h2;cases h2
   simp only[ois,bI]at o1 o2
   simp only[i8]at hd
   rw[ih (KM (Nat.le_max_left _ _) hd) o1.1 o2.1 p1 p2,HB (KM (Nat.le_max_right _ _) hd) o1.2 o2.2 q1 q2]
theorem jJ{K:Frag}{H:Hp}:∀(n:Nat){d e:D}{x:V},d.dep<=n->d.oi=true->e.oi=true->RD K H d x->RD K H e x->d=e:=by
 intro n;induction n with
 |zero=>
  intro d e x hd o1 o2 r1 r2
  rcases Cl o1 with⟨a,rfl⟩ |⟨ds,rfl,_⟩
  . have h1:=r1.int;rcases Cl o2 with⟨b,rfl⟩ |⟨es,rfl,_⟩
    . have h2:=r2.int;rw[h1]at h2;cases h2;rfl
    . obtain⟨_,_,h2,_⟩:=r2.tup;rw[h1]at h2;cases h2
  . simp only[D.dep]at hd;exact absurd hd (Nat.not_succ_le_zero _)
 |succ n ih=>
  intro d e x hd o1 o2 r1 r2
  rcases Cl o1 with⟨a,rfl⟩ |⟨ds,rfl,p1⟩
  . have h1:=r1.int;rcases Cl o2 with⟨b,rfl⟩ |⟨es,rfl,_⟩
    . have h2:=r2.int;rw[h1]at h2;cases h2;rfl
    . obtain⟨_,_,h2,_⟩:=r2.tup;rw[h1]at h2;cases h2
  . obtain⟨a,ys,h1,q1,w1⟩:=r1.tup;rcases Cl o2 with⟨b,rfl⟩ |⟨es,rfl,p2⟩
    . have h2:=r2.int;rw[h1]at h2;cases h2
    . obtain⟨b,zs,h2,q2,w2⟩:=r2.tup;rw[h1]at h2;cases h2;rw[q1]at q2;cases q2;simp only[D.dep]at hd;rw[ve ih (Nat.le_of_succ_le_succ hd) p1 p2 w1 w2]
theorem No{K:Frag}{H:Hp}{d e:D}{x:V}(o1:d.oi=true)(o2:e.oi=true)(r1:RD K H d x)(r2:RD K H e x):d=e:=jJ d.dep (ζ _) o1 o2 r1 r2
theorem Md(p:l.Perm m):∀{xs:List α},m=xs.map f->∃ys:List α,ys.Perm xs/\l=ys.map f:=by
 induction p with
 |nil=>intro xs h;exact⟨xs,.refl _,h⟩
 |cons a p ih=>
  intro xs h
  cases xs with
  |nil=>cases h
  |cons x xs=>
   simp only[NL,List.cons.injEq]at h
   obtain⟨ys,p',e⟩:=ih h.2
   exact⟨x::ys,p'.cons x,by rw[e,h.1];rfl⟩
 |swap a b l=>
  intro xs h
  match xs,h with
  |x::y::xs,h=>
   simp only[NL,List.cons.injEq]at h
   exact⟨y::x::xs,.swap _ _ _,by rw[h.1,h.2.1,h.2.2];rfl⟩
 |trans p q HC HE=>
  intro xs h
  obtain⟨ys,p',e⟩:=HE h
  obtain⟨zs,q',e'⟩:=HC e
  exact⟨zs,q'.trans p',e'⟩
theorem Fk(l:List D):(List.range l.length).map (fun i=>l.getD i (.int 0))=l:=by
 apply UI;intro i;rw[NS];by_cases hi:i<l.length
 . rw[List.getElem?_range hi];simp[hi]
 . rw[OV (by simpa using hi),OV (by simpa using hi)];rfl
noncomputable def atOf(its:List Value)(v:Value):Nat:=Classical.epsilon fun i=>i<its.length/\its.getD i Value.none=v
theorem Y0(h:i<its.length):atOf its (its.getD i Value.none)<its.length/\its.getD (atOf its (its.getD i Value.none)) Value.none=its.getD i Value.none:=by have hh:∃j,j<its.length/\its.getD j Value.none=its.getD i Value.none:=⟨i,h,rfl⟩;exact Classical.epsilon_spec hh
def x0(ds:List D):Bool:=ois ds&&decide (i8 ds<=20)&&ds.all (fun d=>ds.all fun e=>(i4 d e).isSome)&&(ds.all isI||ds.all z7||ds.all G7)
def A6:List D->Option D
 | [.lst ds]=>if x0 ds=true then some (.lst (p9 ds)) else none
 |_=>none
def Pj(K:Frag):List V->Hp->VK->Prop:=fun xs H Q=>∃p ys ds,xs=[.ref p]/\H p=some (.lst ys)/\RDs K H ds ys/\x0 ds=true/\∀(l:Addr)(is:List Nat),H l=none->(∀i∈is,i<ys.length)->p9 ds=is.map (fun i=>ds.getD i (.int 0))->Q (.ref l) (upd H l (.lst (is.map fun i=>ys.getD i .non)))
theorem Ck{K:Frag}:B9 K true A6 (Pj K):=by
 intro H0 H xs ds z Q s r ho k;unfold A6 at ho;split at ho<;>first |cases ho |skip
 split at ho<;>cases ho;rename_i es hok;obtain⟨x,rfl,q1⟩:=r.uno;obtain⟨p,ys,rfl,hp,ry⟩:=q1.lst;refine⟨p,ys,es,rfl,s _ _ hp,ry.mono s,hok,fun l is hl hi he=>k _ _ (.new s hl fun H' hH=>?_)⟩;simp only[OB];refine⟨_,hH,?_⟩;rw[he];exact ry.pick hi
section
variable {X:Cx}{pins:List (Addr×Obj)}{U:St}{H:Hp}{s:Shared}
theorem Rm(hx:(∃k,x=.int k)\/∃a,x=.ref a)(hy:(∃k,y=.int k)\/∃a,y=.ref a)(r1:RelV x v)(r2:RelV y v):x=y:=by
 rcases hx with⟨k,rfl⟩ |⟨a,rfl⟩<;>rcases hy with⟨j,rfl⟩ |⟨b,rfl⟩<;>simp only[RelV]at r1 r2
 . obtain⟨t,rfl⟩:=r1;obtain⟨u,h⟩:=r2;cases h;rfl
 . obtain⟨t,rfl⟩:=r1;cases r2
 . obtain⟨t,rfl⟩:=r2;cases r1
 . subst r1;cases r2;rfl
theorem Cv{K:Frag}{d:D}{x:V}(o:d.oi=true)(r:RD K H d x):(∃k,x=.int k)\/∃a,x=.ref a:=by
 cases d<;>simp only[D.oi]at o<;>first |cases o |skip
 . exact .inl ⟨_,r.int⟩
 . obtain⟨a,_,h,_⟩:=r.tup;exact .inr ⟨a,h⟩
theorem Mc(vs:List Value):(pairsOf vs).toList=(List.range vs.length).map fun i=>((vs.getD i Value.none,vs.getD i Value.none):Keyed):=by
 unfold pairsOf;rw[Array.toList_zip];apply List.ext_getElem
 . simp
 . intro i h1 h2;simp at h1;simp[h1]
theorem Ff(h:x∈pairsOf vs):∃i,i<vs.length/\x=(vs.getD i Value.none,vs.getD i Value.none):=by rw[SM,Mc]at h;obtain⟨i,hi,e⟩:=OO.mp h;exact⟨i,OE.mp hi,e.symm⟩
theorem Ly:∀(vs:List Value),(∀i,i<vs.length->∃n t,vs.getD i Value.none=.int n t)->∃ns,IntsAre vs ns
 | [],_=>⟨[],.nil⟩
 |v::vs,h=>by
  obtain⟨n,t,e⟩:=h 0 (by simp);obtain⟨ns,r⟩:=Ly vs fun i hi=>by simpa using h (i+1) (by simpa using hi)
  have e':v=.int n t:=by simpa using e
  subst e';exact⟨n::ns,.cons n t r⟩
theorem Rl(ia:IntsAre vs ns)(h:2<=vs.length):keyKind' vs.toArray=pure oneType':=by
 match vs,ia,h with
 |v1::v2::vs,ia,_=>exact keyKind_ints ia
theorem Bz(hc:X.calm=true)(hu:X.A.units+64<cLine):CallR X (.builtin "sorted") (Pj X.K):=by
 intro pins s U H xs us Q I r h;obtain⟨p,ys,ds,rfl,hp,rd,hok,k⟩:=h;obtain⟨u,rfl,ru⟩:=w8 r;cases ru;obtain⟨its,rv,pl,hz⟩:=I.list (.of hp);obtain⟨m,hn,_⟩:=id I.loc;have F:=Att.fr_all hn;have N:=T4 (g:=Att.noObjs s.heap) (h:=s.heap) (L:=X.env.locals);unfold x0 at hok;simp only[bI,Bool.or_eq_true,NP]at hok;obtain⟨⟨⟨bV,lP⟩,eN⟩,bP⟩:=hok;have eX:=rd.length;have fq:=rv.length;have fin:∀{dB:Array Value}{is:List Nat},(∀i∈is,i<ys.length)->p9 ds=is.map (fun i=>ds.getD i (.int 0))->dB=(is.map fun i=>its.getD i Value.none).toArray->EP X pins U Q (.ref (s.heap.objs.size+1)) { s with heap:=sortedAll s.heap its dB }:=fun {dB is} hi he hv=>by
  have ah:(is.map fun i=>ys.getD i .non).length<=sizeLine:=by
   have e1:is.length=ds.length:=by have:=PZ List.length he;rw[oQ,(K0 ds).length_eq]at this;exact this.symm
   rw[oQ,e1,eX];exact hz
  obtain⟨e,dG⟩:=sortedAll_at s.heap its dB;have kp:∀b o,s.heap.get? b=some o->(sortedAll s.heap its dB).get? b=some o:=fun b o q=>sortedAll_old q
  have hN:=N.kept_cons F kp (UG _) dG;obtain⟨HD,I'⟩:=I.frnew (tk:=s.toks) (o:=.lst (is.map fun i=>ys.getD i .non)) hn (F.kept kp) hN (SJ (UG _)) ⟨ah,_,e,rv.pick hi,by subst hv;exact(hN _ (.head _)).1⟩;exact⟨.ref _,_,I',rfl,k _ is HD hi he⟩
 by_cases h2:2<=its.length
 . have kp:∀b o,s.heap.get? b=some o->(v6 (D3 s.heap its) (s.heap.objs.size+1) its).get? b=some o:=fun b o q=>zc q
   have I':Inv X pins U H { s with heap:=v6 (D3 s.heap its) (s.heap.objs.size+1) its }:=I.frn (tk:=s.toks) hn (F.kept kp) fun q hq=>(N.kept_cons F kp (UG _) (Lz (Lm s.heap its)).choose_spec.2) q (.tail _ hq)
   have oB:X.A.in1.in1.units+20<cLine:=by show X.A.units+1+1+20<cLine;lia
   have main:∀κ:SortKind,(∀(Q:SortKind->Shared->Prop),Q κ { s with heap:=v6 (D3 s.heap its) (s.heap.objs.size+1) its }->wpAny (model X.prog X.w) X.A.in1.in1 (keyKind' its.toArray) Q (fun _ _=>False) { s with heap:=v6 (D3 s.heap its) (s.heap.objs.size+1) its }) ->
     (∀(E:Value->Shared->Prop)(C:Bool->Shared->Prop)(i j:Nat),i<ys.length->j<ys.length->C (ltI ds i j) { s with heap:=v6 (D3 s.heap its) (s.heap.objs.size+1) its }->wpAny (model X.prog X.w) X.A.in1.in1 (keyLt' κ (its.getD i Value.none) (its.getD j Value.none)) C E { s with heap:=v6 (D3 s.heap its) (s.heap.objs.size+1) its }) ->
     wpAny (model X.prog X.w) X.A (call (.builtin "sorted") [.ref p]) (EP X pins U Q) X.xe s:=by
    intro κ fE aD
    refine zb (rk:=fun q=>rkD ds (ds.getD (atOf its q.1) (.int 0))) pl.isList h2 (by lia) fE ?_ fun out oC hA=>?_
    . intro x y hx hy st Q' hk q;obtain⟨i,hi,rfl⟩:=Ff hx;obtain⟨j,hj,rfl⟩:=Ff hy;have ai:=Y0 hi;have aj:=Y0 hj;dsimp only at q;rw[Dw bV (A8 (by lia)) (A8 (by lia))]at q;rw[lt'_eq];refine δ (wpS_get (δ (wpS_lift (TZ ?_))));rw[hk];dsimp only;generalize atOf its (its.getD i Value.none)=i' at *;generalize atOf its (its.getD j Value.none)=j' at *;rw[<-ai.2,<-aj.2];exact aD _ _ i' j' (by lia) (by lia) ⟨rfl,π q⟩
    . have e0:(pairsOf its).toList=(List.range its.length).map fun i=>((its.getD i Value.none,its.getD i Value.none):Keyed):=Mc its
      obtain⟨is,ig,ii⟩:=Md (RC.mp oC) e0;have dC:∀i∈is,i<its.length:=fun i hi=>OE.mp (ig.mem_iff.mp hi)
      have pm:(is.map fun i=>ds.getD i (.int 0)).Perm ds:=by refine(ig.map _).trans ?_;rw[show its.length=ds.length by lia,Fk]
      refine fin (is:=is) (fun i hi=>by have:=dC i hi;lia) (Ev (Y6 (K0 _) bV) ((K0 _).trans pm.symm) (Cn bV) ?_) ?_
      . rw[ii]at hA;refine UH.mpr ((UH.mp hA).imp_of_mem fun {a b} ha hb bX=>?_);have same:∀i,i<its.length->ds.getD (atOf its (its.getD i Value.none)) (.int 0)=ds.getD i (.int 0):=fun i hi=>by have q:=Y0 hi;have v1:=rv.getD (i:=atOf its (its.getD i Value.none)) (by lia);have v2:=rv.getD (i:=i) (by lia);have r1:=rd.getD (i:=atOf its (its.getD i Value.none)) (by lia);have r2:=rd.getD (i:=i) (by lia);have o1:=Ce (i:=atOf its (its.getD i Value.none)) bV;have o2:=Ce (i:=i) bV;rw[q.2]at v1;rw[Rm (Cv o1 r1) (Cv o2 r2) v1 v2]at r1;exact No o1 o2 r1 r2
        dsimp only at bX;rw[same a (dC a ha),same b (dC b hb)]at bX;have z:=Dw bV (d:=ds.getD b (.int 0)) (e:=ds.getD a (.int 0)) (A8 (by have:=dC b hb;lia)) (A8 (by have:=dC a ha;lia));rw[<-z,NQ]
        lia
      . rw[<-Array.toList_inj,Array.toList_map,ii,QU];rfl
   by_cases hI:ds.all isI=true
   . have cZ:∀i,i<ys.length->∃n t,ds.getD i (.int 0)=.int n/\its.getD i Value.none=.int n t:=fun i hi=>by
      have r1:=rd.getD hi
      have v1:=rv.getD hi
      have m1:isI (ds.getD i (.int 0))=true:=KB.mp hI _ (A8 (by lia))
      generalize ds.getD i (.int 0)=d at *
      cases d<;>simp only[isI]at m1<;>first |cases m1 |skip
      rw[r1.int]at v1
      obtain⟨t,e⟩:=v1
      exact⟨_,t,rfl,e⟩
     refine main oneType' (fun Q' q=>?_) fun E C i j hi hj hC=>?_
     . have ia:∃ns,IntsAre its ns:=Ly its fun i hi=>by obtain⟨n,t,_,e⟩:=cZ i (by lia);exact⟨n,t,e⟩
       obtain⟨ns,ia⟩:=ia;rw[Rl ia h2];exact ω q
     . obtain⟨n,t,e1,e2⟩:=cZ i hi;obtain⟨n',t',e3,e4⟩:=cZ j hj;rw[e2,e4];refine PySem.W.kat_lt_int ?_;unfold ltI at hC;rw[e1,e3]at hC;simpa only [ltT] using hC
   . obtain⟨T,hT⟩:∃T:Bool,∀d∈ds,(if T=true then G7 d else z7 d)=true:=by
      rcases bP with (z |z) |z
      . exact absurd z hI
      . exact⟨false,fun d hd=>by rw[ψ η];exact KB.mp z d hd⟩
      . exact⟨true,fun d hd=>by rw[ξ rfl];exact KB.mp z d hd⟩
     obtain⟨fs,t1,t2,t3⟩:=Je (M:=model X.prog X.w) I' T hT rd rv
     refine main (tuples' ((.type (if T=true then "tuple" else "int"):Value) != Value.type "tuple")) (fun Q' q=>PySem.W.kat_kind t1 (by lia) t3 (by cases T<;>rfl) q) fun E C i j hi hj hC=>?_
     have r1:=rd.getD hi
     have r2:=rd.getD hj
     have v1:=rv.getD hi
     have v2:=rv.getD hj
     have m1:ds.getD i (.int 0)∈ds:=A8 (by lia)
     have m2:ds.getD j (.int 0)∈ds:=A8 (by lia)
     have o1:=(ois_mem.mp bV) _ m1
     have o2:=(ois_mem.mp bV) _ m2
     have d1:=Ez m1
     have f1:=hT _ m1
     have f2:=hT _ m2
     obtain⟨b,hb⟩:=SI.mp (KB.mp (KB.mp eN _ m1) _ m2)
     have oE:b=ltI ds i j:=Jh hb
     rw[<-oE]at hC
     generalize ds.getD i (.int 0)=da at *
     generalize ds.getD j (.int 0)=db at *
     have tp:∀{d:L2.D},(if T=true then G7 d else z7 d)=true->∃es,d=.tup es/\(T=false->∃k r,es=.int k::r):=fun {d} h=>by
      cases T with
      |false=>
       rw[ψ η]at h
       cases d<;>simp only[z7]at h<;>first |cases h |skip
       rename_i es
       cases es with
       |nil=>simp at h
       |cons e es=>cases e<;>simp at h;exact⟨_,rfl,fun _=>⟨_,_,rfl⟩⟩
      |true=>
       rw[ξ rfl]at h
       cases d<;>simp only[G7]at h<;>first |cases h |skip
       exact⟨_,rfl,fun z=>nomatch z⟩
     obtain⟨ea,rfl,ka⟩:=tp f1
     obtain⟨eb,rfl,kb⟩:=tp f2
     obtain⟨a,xa,e1,ha,ra⟩:=r1.tup
     obtain⟨c,xc,e2,dD,rc⟩:=r2.tup
     rw[e1]at v1;rw[e2]at v2
     rw[show its.getD i Value.none=Value.ref a from v1,show its.getD j Value.none=Value.ref c from v2]
     obtain⟨ia,va,oa,oG,_,na,oH⟩:=I'.tupA ha
     obtain⟨ic,vc,oc,fL,_,nc,cw⟩:=I'.tupA dD
     simp only[L2.D.oi]at o1 o2
     simp only[L2.D.dep]at d1
     simp only[i4]at hb
     refine PySem.W.kat_lt oG oH fL cw (Ki I' oB hC 0 (fun oI _=>?_) o1 o2 (by lia) ra rc va vc hb (by simp))
     cases T with
     |false=>exact⟨ka rfl,kb rfl⟩
     |true=>exact absurd oI (by simp)
 . have oJ:p9 ds=ds:=by
    match ds,eX,fq with
    | [],_,_=>rfl
    | [d],_,_=>rfl
    |_::_::_,a,b=>simp at a;lia
   have pz:∀l:List Value,l.length<2->(pairsOf l).map (·.2)=(List.map (fun i=>l.getD i Value.none) (List.range l.length)).toArray:=fun l hl=>by
    match l,hl with
    | [],_=>simp[pairsOf]
    | [v],_=>simp[pairsOf]
    |_::_::_,z=>simp at z;lia
   refine zW pl.isList (by lia) (fin (is:=List.range its.length) (fun i hi=>by simp at hi;lia) ?_ (pz its (by lia)))
   rw[oJ,show its.length=ds.length by lia,Fk]
end
noncomputable def nw(h:Heap)(vs:List Value):Heap:=h.push (seqObj "list" vs.toArray 0)
theorem V4(h:Heap)(vs:List Value):(nw h vs).get? h.objs.size=some (seqObj "list" vs.toArray 0):=Ξ _ rfl
theorem Hw(q:h.get? b=some o):(nw h vs).get? b=some o:=Ψ _ q
theorem xi(q:h.get? b=some o):(v6 (nw h vs) h.objs.size vs).get? b=some o:=by refine Ψ _ (Ψ _ ?_);rw[OP _ _ _ _ (NI (Φ q))];exact Hw q
theorem xh(q:h.get? b=some o):(sortedHeap (nw h vs) h.objs.size vs out).get? b=some o:=by have lt:=Φ q;rw[sortedHeap_old (NI lt) (Φ (Hw (vs:=vs) q))];exact Hw q
section
variable {X:Cx}{pins:List (Addr×Obj)}{U:St}{H:Hp}{s:Shared}
theorem Tp(hu:X.A.units+64<cLine)(I:Inv X pins U H s)(rd:RDs X.K H ds ys)(rv:Vals ys its)(hz:ys.length<=sizeLine)(hok:x0 ds=true)
  (k:∀(l:Addr)(is:List Nat),H l=none->(∀i∈is,i<ys.length)->p9 ds=is.map (fun i=>ds.getD i (.int 0))->Q (.ref l) (upd H l (.lst (is.map fun i=>ys.getD i .non)))) :
  wpAny (model X.prog X.w) X.A.in1.in1 (Builtin.«list.sort» ⟨[.ref s.heap.objs.size],[]⟩) (fun f s'=>∃x,f=.done (.ret x)/\EP X pins U Q (.ref s.heap.objs.size) s') (fun _ _=>False) { s with heap:=nw s.heap its }:=by
 obtain⟨m,hn,_⟩:=id I.loc
 have F:=Att.fr_all hn
 have N:=T4 (g:=Att.noObjs s.heap) (h:=s.heap) (L:=X.env.locals)
 unfold x0 at hok
 simp only[bI,Bool.or_eq_true,NP]at hok
 obtain⟨⟨⟨bV,lP⟩,eN⟩,bP⟩:=hok
 have eX:=rd.length
 have fq:=rv.length
 have fin:∀{dB:Array Value}{is:List Nat},(∀i∈is,i<ys.length)->p9 ds=is.map (fun i=>ds.getD i (.int 0))->dB=(is.map fun i=>its.getD i Value.none).toArray->EP X pins U Q (.ref s.heap.objs.size) { s with heap:=sortedHeap (nw s.heap its) s.heap.objs.size its dB }:=fun {dB is} hi he hv=>by
  have ah:(is.map fun i=>ys.getD i .non).length<=sizeLine:=by
   have e1:is.length=ds.length:=by have:=PZ List.length he;rw[oQ,(K0 ds).length_eq]at this;exact this.symm
   rw[oQ,e1,eX];exact hz
  obtain⟨e,dG⟩:=sortedHeap_at (out:=dB) (V4 s.heap its);have kp:∀b o,s.heap.get? b=some o->(sortedHeap (nw s.heap its) s.heap.objs.size its dB).get? b=some o:=fun b o q=>xh q
  have hN:=N.kept_cons F kp (ζ _) dG;obtain⟨HD,I'⟩:=I.frnew (tk:=s.toks) (o:=.lst (is.map fun i=>ys.getD i .non)) hn (F.kept kp) hN (SJ (ζ _)) ⟨ah,_,e,rv.pick hi,by subst hv;exact(hN _ (.head _)).1⟩;exact⟨.ref _,_,I',rfl,k _ is HD hi he⟩
 by_cases h2:2<=its.length
 . have kp:∀b o,s.heap.get? b=some o->(v6 (nw s.heap its) s.heap.objs.size its).get? b=some o:=fun b o q=>xi q
   have I':Inv X pins U H { s with heap:=v6 (nw s.heap its) s.heap.objs.size its }:=I.frn (tk:=s.toks) hn (F.kept kp) fun q hq=>(N.kept_cons F kp (ζ _) (Lz (V4 s.heap its)).choose_spec.2) q (.tail _ hq)
   have oB:X.A.in1.in1.units+20<cLine:=by show X.A.units+1+1+20<cLine;omega
   have main:∀κ:SortKind,(∀(Q:SortKind->Shared->Prop),Q κ { s with heap:=v6 (nw s.heap its) s.heap.objs.size its }->wpAny (model X.prog X.w) X.A.in1.in1 (keyKind' its.toArray) Q (fun _ _=>False) { s with heap:=v6 (nw s.heap its) s.heap.objs.size its }) ->
     (∀(E:Value->Shared->Prop)(C:Bool->Shared->Prop)(i j:Nat),i<ys.length->j<ys.length->C (ltI ds i j) { s with heap:=v6 (nw s.heap its) s.heap.objs.size its }->wpAny (model X.prog X.w) X.A.in1.in1 (keyLt' κ (its.getD i Value.none) (its.getD j Value.none)) C E { s with heap:=v6 (nw s.heap its) s.heap.objs.size its }) ->
     wpAny (model X.prog X.w) X.A.in1.in1 (Builtin.«list.sort» ⟨[.ref s.heap.objs.size],[]⟩) (fun f s'=>∃x,f=.done (.ret x)/\EP X pins U Q (.ref s.heap.objs.size) s') (fun _ _=>False) { s with heap:=nw s.heap its }:=by
    intro κ fE aD
    refine Tq (s:={ s with heap:=nw s.heap its }) (rk:=fun q=>rkD ds (ds.getD (atOf its q.1) (.int 0))) (V4 s.heap its) h2 (by omega) fE ?_ fun out oC hA=>⟨_,rfl,?_⟩
    . intro x y hx hy st Q' hk q;obtain⟨i,hi,rfl⟩:=Ff hx;obtain⟨j,hj,rfl⟩:=Ff hy;have ai:=Y0 hi;have aj:=Y0 hj;dsimp only at q;rw[Dw bV (A8 (by omega)) (A8 (by omega))]at q;rw[lt'_eq];refine δ (wpS_get (δ (wpS_lift (TZ ?_))));rw[hk];dsimp only;generalize atOf its (its.getD i Value.none)=i' at *;generalize atOf its (its.getD j Value.none)=j' at *;rw[<-ai.2,<-aj.2];exact aD _ _ i' j' (by omega) (by omega) ⟨rfl,π q⟩
    . have e0:(pairsOf its).toList=(List.range its.length).map fun i=>((its.getD i Value.none,its.getD i Value.none):Keyed):=Mc its
      obtain⟨is,ig,ii⟩:=Md (RC.mp oC) e0;have dC:∀i∈is,i<its.length:=fun i hi=>OE.mp (ig.mem_iff.mp hi)
      have pm:(is.map fun i=>ds.getD i (.int 0)).Perm ds:=by refine(ig.map _).trans ?_;rw[show its.length=ds.length by omega,Fk]
      refine fin (is:=is) (fun i hi=>by have:=dC i hi;omega) (Ev (Y6 (K0 _) bV) ((K0 _).trans pm.symm) (Cn bV) ?_) ?_
      . rw[ii]at hA;refine UH.mpr ((UH.mp hA).imp_of_mem fun {a b} ha hb bX=>?_);have same:∀i,i<its.length->ds.getD (atOf its (its.getD i Value.none)) (.int 0)=ds.getD i (.int 0):=fun i hi=>by have q:=Y0 hi;have v1:=rv.getD (i:=atOf its (its.getD i Value.none)) (by omega);have v2:=rv.getD (i:=i) (by omega);have r1:=rd.getD (i:=atOf its (its.getD i Value.none)) (by omega);have r2:=rd.getD (i:=i) (by omega);have o1:=Ce (i:=atOf its (its.getD i Value.none)) bV;have o2:=Ce (i:=i) bV;rw[q.2]at v1;rw[Rm (Cv o1 r1) (Cv o2 r2) v1 v2]at r1;exact No o1 o2 r1 r2
        dsimp only at bX;rw[same a (dC a ha),same b (dC b hb)]at bX;have z:=Dw bV (d:=ds.getD b (.int 0)) (e:=ds.getD a (.int 0)) (A8 (by have:=dC b hb;omega)) (A8 (by have:=dC a ha;omega));rw[<-z,NQ];omega
      . rw[<-Array.toList_inj,Array.toList_map,ii,QU];rfl
   by_cases hI:ds.all isI=true
   . have cZ:∀i,i<ys.length->∃n t,ds.getD i (.int 0)=.int n/\its.getD i Value.none=.int n t:=fun i hi=>by
      have r1:=rd.getD hi
      have v1:=rv.getD hi
      have m1:isI (ds.getD i (.int 0))=true:=KB.mp hI _ (A8 (by omega))
      generalize ds.getD i (.int 0)=d at *
      cases d<;>simp only[isI]at m1<;>first |cases m1 |skip
      rw[r1.int]at v1
      obtain⟨t,e⟩:=v1
      exact⟨_,t,rfl,e⟩
     refine main oneType' (fun Q' q=>?_) fun E C i j hi hj hC=>?_
     . have ia:∃ns,IntsAre its ns:=Ly its fun i hi=>by obtain⟨n,t,_,e⟩:=cZ i (by omega);exact⟨n,t,e⟩
       obtain⟨ns,ia⟩:=ia;rw[Rl ia h2];exact ω q
     . obtain⟨n,t,e1,e2⟩:=cZ i hi;obtain⟨n',t',e3,e4⟩:=cZ j hj;rw[e2,e4];refine PySem.W.kat_lt_int ?_;unfold ltI at hC;rw[e1,e3]at hC;simpa only [ltT] using hC
   . obtain⟨T,hT⟩:∃T:Bool,∀d∈ds,(if T=true then G7 d else z7 d)=true:=by
      rcases bP with (z |z) |z
      . exact absurd z hI
      . exact⟨false,fun d hd=>by rw[ψ η];exact KB.mp z d hd⟩
      . exact⟨true,fun d hd=>by rw[ξ rfl];exact KB.mp z d hd⟩
     obtain⟨fs,t1,t2,t3⟩:=Je (M:=model X.prog X.w) I' T hT rd rv
     refine main (tuples' ((.type (if T=true then "tuple" else "int"):Value) != Value.type "tuple")) (fun Q' q=>PySem.W.kat_kind t1 (by omega) t3 (by cases T<;>rfl) q) fun E C i j hi hj hC=>?_
     have r1:=rd.getD hi
     have r2:=rd.getD hj
     have v1:=rv.getD hi
     have v2:=rv.getD hj
     have m1:ds.getD i (.int 0)∈ds:=A8 (by omega)
     have m2:ds.getD j (.int 0)∈ds:=A8 (by omega)
     have o1:=(ois_mem.mp bV) _ m1
     have o2:=(ois_mem.mp bV) _ m2
     have d1:=Ez m1
     have f1:=hT _ m1
     have f2:=hT _ m2
     obtain⟨b,hb⟩:=SI.mp (KB.mp (KB.mp eN _ m1) _ m2)
     have oE:b=ltI ds i j:=Jh hb
     rw[<-oE]at hC
     generalize ds.getD i (.int 0)=da at *
     generalize ds.getD j (.int 0)=db at *
     have tp:∀{d:L2.D},(if T=true then G7 d else z7 d)=true->∃es,d=.tup es/\(T=false->∃k r,es=.int k::r):=fun {d} h=>by
      cases T with
      |false=>
       rw[ψ η]at h
       cases d<;>simp only[z7]at h<;>first |cases h |skip
       rename_i es
       cases es with
       |nil=>simp at h
       |cons e es=>cases e<;>simp at h;exact⟨_,rfl,fun _=>⟨_,_,rfl⟩⟩
      |true=>
       rw[ξ rfl]at h
       cases d<;>simp only[G7]at h<;>first |cases h |skip
       exact⟨_,rfl,fun z=>nomatch z⟩
     obtain⟨ea,rfl,ka⟩:=tp f1
     obtain⟨eb,rfl,kb⟩:=tp f2
     obtain⟨a,xa,e1,ha,ra⟩:=r1.tup
     obtain⟨c,xc,e2,dD,rc⟩:=r2.tup
     rw[e1]at v1;rw[e2]at v2
     rw[show its.getD i Value.none=Value.ref a from v1,show its.getD j Value.none=Value.ref c from v2]
     obtain⟨ia,va,oa,oG,_,na,oH⟩:=I'.tupA ha
     obtain⟨ic,vc,oc,fL,_,nc,cw⟩:=I'.tupA dD
     simp only[L2.D.oi]at o1 o2
     simp only[L2.D.dep]at d1
     simp only[i4]at hb
     refine PySem.W.kat_lt oG oH fL cw (Ki I' oB hC 0 (fun oI _=>?_) o1 o2 (by omega) ra rc va vc hb (by simp))
     cases T with
     |false=>exact⟨ka rfl,kb rfl⟩
     |true=>exact absurd oI (by simp)
 . have oJ:p9 ds=ds:=by
    match ds,eX,fq with
    | [],_,_=>rfl
    | [d],_,_=>rfl
    |_::_::_,a,b=>simp at a;omega
   have pz:∀l:List Value,l.length<2->(pairsOf l).map (·.2)=(List.map (fun i=>l.getD i Value.none) (List.range l.length)).toArray:=fun l hl=>by
    match l,hl with
    | [],_=>simp[pairsOf]
    | [v],_=>simp[pairsOf]
    |_::_::_,z=>simp at z;omega
   refine Vz (s:={ s with heap:=nw s.heap its }) (V4 s.heap its) (by omega) ⟨_,rfl,fin (is:=List.range its.length) (fun i hi=>by simp at hi;omega) ?_ (pz its (by omega))⟩
   rw[oJ,show its.length=ds.length by omega,Fk]
end
section
open PySem.SeqAt
open PySem.AutoSeq1 (wpAny_loadPart')
end
end L2
namespace L2
open PySem PySem.Spec PyProof.Rows
theorem Rj:∀(l:List α)(i:Nat)(h:i<l.length),([l[i]]++l.eraseIdx i).Perm l
 |x::l,0,_=>.refl _
 |x::l,i+1,h=>by have ih:=Rj l i (by simpa using h);exact(List.Perm.swap _ _ _).trans (ih.cons x)
theorem Ri(next:Nat->Nat):∀(ao k:Nat)(left:List α)(out:Array α),left.length=ao->(pickOrder.go next ao k left out).toList.Perm (out.toList++left)
 | 0,k,left,out,h=>by rw[List.length_eq_zero_iff.mp h,RZ];exact .refl _
 |ao+1,k,left,out,h=>by
  have hk:next k % left.length<left.length:=Nat.mod_lt _ (by omega)
  unfold pickOrder.go;rw[NG hk];dsimp only;refine(Ri next ao (k+1) _ _ (by rw[List.length_eraseIdx_of_lt hk];omega)).trans ?_;rw[SZ,QJ];refine List.Perm.append_left _ ?_;exact Rj left _ hk
theorem Uv(next:Nat->Nat)(xs:Array α):(pickOrder next xs).toList.Perm xs.toList:=by
 have:=Ri next xs.size 0 xs.toList #[] (by simp)
 simpa [pickOrder] using this
noncomputable def L5(es:Array (Int×Value))(ep:Nat)(t:SetTable):Obj:=⟨.type "set",none,.set es ep t,#[]⟩
noncomputable def E0(a:Addr)(sl i n ep:Nat):Obj:={ cls:=.type "set_iterator",data:=.fields #[rawInt (sl:Int),rawInt (i:Int),.ref a,rawInt (n:Int),rawInt (ep:Int)] }
noncomputable def z6(w:World)(a:Addr)(es:Array (Int×Value))(ep:Nat):Array (Int×Value):=if w.params.followText "set-order"=true then pickOrder (w.params.setOrder a ep) es else es
def v3(w:World)(t:SetTable)(i:Nat):Nat:=if w.params.followText "set-order"=true then 0 else K6 t.place i
theorem Ll(w:World)(a:Addr)(es:Array (Int×Value))(ep:Nat):(z6 w a es ep).toList.Perm es.toList:=by
 unfold z6;split
 . exact Uv _ _
 . exact .refl _
structure Wk(w:World)(es:Array (Int×Value))(t:SetTable):Prop where
 tok:Tok t es.size
 pl:t.plain=true
 led:t.led=!w.params.followText "set-order"
 ris:Ris t.place
section
open PySem.AutoSeq1 (wpAny_loadPart')
variable {prog:Program}{w:World}{A:Around}{E:Value->Shared->Prop}{s:Shared}{a it:Addr}{es:Array (Int×Value)}{ep i:Nat}{t:SetTable}
theorem slot_seI:Slot "set_iterator" "__next__" "set_iterator.__next__":=.of (owner:="set_iterator") (n:="__next__") (by rw[typeLookup_type,builtinLookup_eq_fast];kernel_rfl) (by decide +kernel) (by decide +kernel) (by decide +kernel) (by first |exact .inl (by decide +kernel) |exact .inr (by decide +kernel)) (by rw[isSubtype_type];kernel_rfl)
theorem Uu:entryFor table "set_iterator.__next__"=some Builtin.«set_iterator.__next__»:=entryFor_of_tree (by kernel_rfl)
theorem yn:entryFor table "set.__iter__"=some Builtin.«frozenset.__iter__»:=entryFor_alias (id':="frozenset.__iter__") (by kernel_rfl) rfl (by decide +kernel) (by kernel_rfl)
theorem Rh:Manifest.owners.lookup (String.ofList ['r','o','t','a','r','e','t','i','_','t','e','s'].reverse)=some Manifest.sig_set_iterator:=by kernel_rfl
theorem To(v:Value):argsOk "set_iterator.__next__" ⟨[v],[]⟩:=by unfold argsOk;rw[signature?_of (id:="set_iterator.__next__") (n:=['_','_','t','x','e','n','_','_']) (o:=['r','o','t','a','r','e','t','i','_','t','e','s']) (by kernel_rfl) Rh];kernel_rfl
theorem xg(W:Wk w es t)(ho:s.heap.get? a=some (L5 es ep t))(h:Q (.done (.ret (.ref s.heap.objs.size))) { s with heap:=s.heap.push (E0 a 0 0 es.size ep) }) :
  wpAny (model prog w) A (Builtin.«frozenset.__iter__» ⟨[.ref a],[]⟩) Q E s:=by
 obtain⟨hp,g,d,tk,os⟩:=s
 have st:∀{Q:Array (Int×Value)×Nat×SetTable->Shared->Prop},Q (es,ep,t) ⟨hp,g,d,tk,os⟩->wpAny (model prog w) A (setState a) Q E ⟨hp,g,d,tk,os⟩:=fun {Q} z=>QX ho rfl W.tok.fits z
 unfold Builtin.«frozenset.__iter__» Builtin.Frozenset.slot0 Builtin.Frozenset.sizeOf setDrawn setEpoch setEntries
 wp_walk using st
 refine RG (ω (ω ?_))
 dsimp only
 rw[ψ (fun z=>by have z2:(!t.plain&&decide (es.size > 1))=true:=(bI _ _ ▸ z:_/\_).2;rw[W.pl]at z2;cases z2)]
 wp_walk using st
 exact h
theorem xb(W:Wk w es t)(hl:s.heap.get? it=some (E0 a (v3 w t i) i es.size ep))(ho:s.heap.get? a=some (L5 es ep t))(hi:i<es.size)
  (h:∀h' e,(z6 w a es ep)[i]?=some e->h'.get? it=some (E0 a (v3 w t (i+1)) (i+1) es.size ep)->(∀b,b≠it->h'.get? b=s.heap.get? b)->Q (.done (.ret e.2)) { s with heap:=h' }) :
  wpAny (model prog w) A (Builtin.«set_iterator.__next__» ⟨[.ref it],[]⟩) Q E s:=by
 obtain⟨hp,g,d,tk,os⟩:=s
 have st:∀{Q:Array (Int×Value)×Nat×SetTable->Shared->Prop},Q (es,ep,t) ⟨hp,g,d,tk,os⟩->wpAny (model prog w) A (setState a) Q E ⟨hp,g,d,tk,os⟩:=fun {Q} z=>QX ho rfl W.tok.fits z
 have hsz:(((es.size:Int) != (es.size:Int))=true)=False:=by simp
 have nx:∀{Q:Option (Value×Nat)->Shared->Prop},(∀e,(z6 w a es ep)[i]?=some e->Q (some (e.2,v3 w t (i+1))) ⟨hp,g,d,tk,os⟩)->wpAny (model prog w) A (setNext a (v3 w t i) i ep) Q E ⟨hp,g,d,tk,os⟩:=fun {Q} z=>by
  unfold setNext setWalk setsByText;refine χ (st ?_);dsimp only;refine χ (χ (RG (ω ?_)));have hn:(z6 w a es ep).size=es.size:=by rw[<-gc,(Ll w a es ep).length_eq,gc]
  have z:=z _ (KF (by rw[hn];exact hi));cases bt:w.params.followText "set-order" with
  |true=>
   rw[ξ (show(model prog w).w.params.followText "set-order"=true from bt)]
   rw[ψ (by simp)]
   refine χ (χ (st ?_))
   dsimp only
   refine χ (χ (RG (ω ?_)))
   rw[ξ (show(model prog w).w.params.followText "set-order"=true from bt)]
   refine χ (RG (ω (ω ?_)))
   have e1:z6 w a es ep=pickOrder (w.params.setOrder a ep) es:=by unfold z6;rw[ξ bt]
   have e2:v3 w t i=0/\v3 w t (i+1)=0:=by unfold v3;rw[ξ bt,ξ bt];exact⟨rfl,rfl⟩
   rw[e2.1]
   rw[e2.2]at z
   show Q (Option.map (fun e=>(e.2,0)) (pickOrder (w.params.setOrder a ep) es)[i]?) _
   rw[<-e1,KF (by rw[hn];exact hi)]
   exact z
  |false=>
   rw[ψ (show ¬(model prog w).w.params.followText "set-order"=true from by show ¬w.params.followText "set-order"=true;rw[bt];exact η)]
   rw[ψ (fun z=>by have z2:(!t.plain&&decide (es.size > 1))=true:=z;rw[W.pl]at z2;cases z2)]
   have ld:t.led=true:=by rw[W.led,bt];rfl
   refine χ ?_
   show wpAny (model prog w) A (if(!t.led&&!es.isEmpty)=true then _ else _) _ _ _
   rw[ψ (by rw[ld];exact η)]
   refine ω (ω ?_)
   have e1:z6 w a es ep=es:=by unfold z6;rw[ψ (by rw[bt];exact η)]
   have e2:∀k,v3 w t k=K6 t.place k:=fun k=>by unfold v3;rw[ψ (by rw[bt];exact η)]
   have fQ:i<t.place.size:=by rw[W.tok.1];exact hi
   rw[e2,Tw W.ris i (by omega),KF hi,KF fQ]
   rw[e2]at z
   simp only[e1]at z
   have e3:K6 t.place (i+1)=t.place[i]+1:=by show t.place.getD i 0+1=_;rw[NX,KF fQ];rfl
   rw[e3]at z
   exact z
 have nw:wpAny (model prog w) A (setNext a ((v3 w t i:Nat):Int).toNat ((i:Nat):Int).toNat ((ep:Nat):Int).toNat) (fun r s'=>∃e,(z6 w a es ep)[i]?=some e/\r=some (e.2,v3 w t (i+1))/\s'=⟨hp,g,d,tk,os⟩) E ⟨hp,g,d,tk,os⟩:=nx fun e he=>⟨e,he,rfl,rfl⟩
 unfold E0 at hl
 unfold Builtin.«set_iterator.__next__» setEntries
 wp_walk using NJ hl,st,thn nw
 rintro _ _ ⟨e,he,rfl,rfl⟩
 wp_walk using NJ hl
 refine h _ e he ?_ fun b hb=>?_
 . rw[OZ _ (OZ _ hl rfl) rfl];simp[E0,Obj.mapFields,rawInt]
 . rw[OP _ _ _ _ hb,OP _ _ _ _ hb]
theorem vd(W:Wk w es t)(hl:s.heap.get? it=some (E0 a (v3 w t es.size) es.size es.size ep))(ho:s.heap.get? a=some (L5 es ep t))(hh:A.handled=none)
  (h:∀h' e,(∀c o,c≠it->s.heap.get? c=some o->h'.get? c=some o)->(∃o,h'.get? e=some o/\o.cls=.type "StopIteration")->E (.ref e) { s with heap:=h' }) :
  wpAny (model prog w) A (Builtin.«set_iterator.__next__» ⟨[.ref it],[]⟩) Q E s:=by
 obtain⟨hp,g,d,tk,os⟩:=s
 have st:∀{E:Value->Shared->Prop}{Q:Array (Int×Value)×Nat×SetTable->Shared->Prop},Q (es,ep,t) ⟨hp,g,d,tk,os⟩->wpAny (model prog w) A (setState a) Q E ⟨hp,g,d,tk,os⟩:=fun {_ Q} z=>QX ho rfl W.tok.fits z
 have hsz:(((es.size:Int) != (es.size:Int))=true)=False:=by simp
 have nx:wpAny (model prog w) A (setNext a (v3 w t es.size) es.size ep) (fun r s'=>r=none/\s'=⟨hp,g,d,tk,os⟩) E ⟨hp,g,d,tk,os⟩:=by
  unfold setNext setWalk setsByText;refine χ (st ?_);dsimp only;refine χ (χ (RG (ω ?_)));cases bt:w.params.followText "set-order" with
  |true=>
   rw[ξ (show(model prog w).w.params.followText "set-order"=true from bt)]
   rw[ψ (by simp)]
   refine χ (χ (st ?_))
   dsimp only
   refine χ (χ (RG (ω ?_)))
   rw[ξ (show(model prog w).w.params.followText "set-order"=true from bt)]
   refine χ (RG (ω (ω ⟨?_,rfl⟩)))
   have hn:(pickOrder (w.params.setOrder a ep) es).size=es.size:=by rw[<-gc,(Uv _ es).length_eq,gc]
   show Option.map _ (pickOrder (w.params.setOrder a ep) es)[es.size]?=none
   rw[TB (by omega)];rfl
  |false=>
   rw[ψ (show ¬(model prog w).w.params.followText "set-order"=true from by show ¬w.params.followText "set-order"=true;rw[bt];exact η)]
   rw[ψ (fun z=>by have z2:(!t.plain&&decide (es.size > 1))=true:=z;rw[W.pl]at z2;cases z2)]
   have ld:t.led=true:=by rw[W.led,bt];rfl
   refine χ ?_
   show wpAny (model prog w) A (if(!t.led&&!es.isEmpty)=true then _ else _) _ _ _
   rw[ψ (by rw[ld];exact η)]
   refine ω (ω ⟨?_,rfl⟩)
   have e2:v3 w t es.size=K6 t.place es.size:=by unfold v3;rw[ψ (by rw[bt];exact η)]
   rw[e2,Tw W.ris es.size (by rw[W.tok.1];exact ζ _),TB (ζ _)]
 have nw:wpAny (model prog w) A (setNext a ((v3 w t es.size:Nat):Int).toNat ((es.size:Nat):Int).toNat ((ep:Nat):Int).toNat) (fun r s'=>r=none/\s'=⟨hp,g,d,tk,os⟩) E ⟨hp,g,d,tk,os⟩:=nx
 unfold E0 at hl
 unfold Builtin.«set_iterator.__next__» setEntries
 wp_walk using NJ hl,st,thn nw
 rintro _ _ ⟨rfl,rfl⟩
 wp_walk using NJ hl
 unfold raiseNew
 refine χ (wpAny_handled ?_)
 rw[hh]
 refine χ (ω (wpAny_throw (h _ _ (fun c o hc e=>?_) ⟨_,Ξ _ rfl,rfl⟩)))
 refine Ψ _ (Ψ _ ?_)
 rw[OP _ _ _ _ hc]
 exact e
theorem qZ(W:Wk w es t)(ho:s.heap.get? a=some (L5 es ep t))(hQ:Q (.ref s.heap.objs.size) { s with heap:=s.heap.push (E0 a 0 0 es.size ep) }):wpAny (model prog w) A (pyIter (.ref a)) Q E s:=
 wpAny_pyIter_slot ⟨_,ho,rfl⟩ F.slot_set_iter (QF F.slot_set_iter ⟨_,ho,rfl⟩ yn (xg W ho ⟨_,rfl,"set_iterator",_,⟨_,Ξ _ rfl,rfl⟩,slot_seI.lookup,hQ⟩) (F.args_set_iter_1 _))
theorem qY(W:Wk w es t)(hl:s.heap.get? it=some (E0 a (v3 w t i) i es.size ep))(ho:s.heap.get? a=some (L5 es ep t))(hi:i<es.size)
  (h:∀h' e,(z6 w a es ep)[i]?=some e->h'.get? it=some (E0 a (v3 w t (i+1)) (i+1) es.size ep)->(∀b,b≠it->h'.get? b=s.heap.get? b)->Q (some e.2) { s with heap:=h' }):wpAny (model prog w) A (pyNext (.ref it)) Q E s:=by
 unfold pyNext
 exact χ (TZ (PC (name:=Str.ofString "__next__") ⟨_,hl,rfl⟩ slot_seI (QF slot_seI ⟨_,hl,rfl⟩ Uu (xb W hl ho hi fun h' e he h1 h2=>⟨_,rfl,ω (h h' e he h1 h2)⟩) (To _))))
theorem jI(W:Wk w es t)(hl:s.heap.get? it=some (E0 a (v3 w t es.size) es.size es.size ep))(ho:s.heap.get? a=some (L5 es ep t))(hh:A.handled=none)
  (h:∀h',(∀c o,c≠it->s.heap.get? c=some o->h'.get? c=some o)->Q none { s with heap:=h' }):wpAny (model prog w) A (pyNext (.ref it)) Q E s:=by
 unfold pyNext
 refine χ (TZ (PC (name:=Str.ofString "__next__") ⟨_,hl,rfl⟩ slot_seI (QF slot_seI ⟨_,hl,rfl⟩ Uu (vd W hl ho (by simpa using hh) fun h' e kp he=>?_) (To _))))
 obtain⟨o,ho,hc⟩:=he
 exact χ (wpAny_isInstance (T:="StopIteration") (b:=true) ⟨o,ho,hc⟩ isSubtype_stop (ω (h h' kp)))
end
end L2
namespace L2
open PySem PySem.Spec PyProof.Rows
section
variable {prog:Program}{w:World}{A:Around}{E:Value->Shared->Prop}{s:Shared}{a:Addr}{es:Array (Int×Value)}{ep:Nat}{t:SetTable}
theorem qX(hT:s.TypeIs (.ref a) "set")(h:Q false s):wpAny (model prog w) A (Builtin.List.listLengthHint (.ref a)) Q E s:=by
 have isS:isSubtype (.type "set") (.type "set")=pure true:=OQ.sub;unfold Builtin.List.listLengthHint;refine χ (wpAny_specialOf hT F.slot_set_len.lookup ?_);have sp:splitId "set.__len__"=some ("set","__len__"):=by decide +kernel
 generalize hid:("set.__len__":String)=NC at sp;dsimp only;rw[sp];subst hid;refine χ (wpAny_isInstance (T:="set") (b:=true) hT isS ?_);rw[ψ (by decide),ξ (by decide +kernel)];exact χ (wpAny_typeOf hT (ω h))
theorem Tn:Slot "set_iterator" "__iter__" "set_iterator.__iter__":=.of (owner:="set_iterator") (n:="__iter__") (by rw[typeLookup_type,builtinLookup_eq_fast];kernel_rfl) (by decide +kernel) (by decide +kernel) (by decide +kernel) (by first |exact .inl (by decide +kernel) |exact .inr (by decide +kernel)) (by rw[isSubtype_type];kernel_rfl)
theorem ym:entryFor table "set_iterator.__iter__"=some Builtin.«dict_keyiterator.__iter__»:=entryFor_alias (id':="dict_keyiterator.__iter__") (by kernel_rfl) rfl (by decide +kernel) (by kernel_rfl)
theorem wZ(v:Value):argsOk "set_iterator.__iter__" ⟨[v],[]⟩:=by unfold argsOk;rw[signature?_of (id:="set_iterator.__iter__") (n:=['_','_','r','e','t','i','_','_']) (o:=['r','o','t','a','r','e','t','i','_','t','e','s']) (by kernel_rfl) Rh];kernel_rfl
theorem wY(W:Wk w es t)(hh:A.handled=none)(I:Addr)(aM:a≠I) :
  Walks prog w A I [I,a] [I] es.size (fun i v=>∃e,(z6 w a es ep)[i]?=some e/\v=e.2) (fun i h=>h.get? I=some (E0 a (v3 w t i) i es.size ep)/\h.get? a=some (L5 es ep t)) where
 sub:=fun b hb=>by simp at hb;simp[hb]
 frame:=fun _ _ _ st kp=>⟨kp I (by simp) _ st.1,kp a (by simp) _ st.2⟩
 item:=fun i s Q E hi st k=>qY W st.1 st.2 hi fun h' e he h1 h2=>k _ _ s.toks ⟨e,he,rfl⟩ ⟨h1,by rw[h2 a aM];exact st.2⟩ fun b o hb z=>by rw[h2 b (fun y=>hb (by simp[y]))];exact z
 done:=fun s Q E st k=>jI W st.1 st.2 hh fun h' kp=>k h' s.toks fun b o hb e=>kp b o (fun z=>hb (by simp[z])) e
 self:=fun _ _ _ _ st k=>wpAny_pyIter_slot ⟨_,st.1,rfl⟩ Tn (QF Tn ⟨_,st.1,rfl⟩ ym (by show wpAny _ _ (ret (.ref I)) _ _ _;exact ω ⟨_,rfl,"set_iterator",_,⟨_,st.1,rfl⟩,slot_seI.lookup,k⟩) (wZ _))
theorem jH(W:Wk w es t):PySem.W.KdlSrc prog w "set" a a es.size (fun i v=>∃e,(z6 w a es ep)[i]?=some e/\v=e.2) (fun h=>h.get? a=some (L5 es ep t)) where
 type:=fun _ hm=>⟨_,hm,rfl⟩
 there:=fun _ hm=>⟨Φ hm,Φ hm⟩
 keep:=fun _ _ hm kp=>kp a (.inl rfl) _ hm
 notList:=by decide
 notTuple:=by decide
 hint:=fun _ _ _ _ hm hq=>qX ⟨_,hm,rfl⟩ hq
 iter:=fun _ s hh hm=>⟨E0 a 0 0 es.size ep,_,(fun _ _ hq=>qZ W hm hq),wY W hh _ (NI (Φ hm)),by
  have e:v3 w t 0=0:=by unfold v3;split<;>rfl
  rw[e];exact Ξ _ rfl,Ψ _ hm⟩
end
noncomputable def Dv:D->Bool
 | .tup _=>true
 |_=>false
theorem Rg{K:Frag}{H:Hp}:∀{ds:List D}{xs:List V},ds.all Dv=true->RDs K H ds xs->∀x∈xs,∃b,x=.ref b
 | [],xs,_,r,x,hx=>by simp only[RDs]at r;subst r;simp at hx
 |d::ds,xs,h,r,x,hx=>by
  simp only[RDs]at r;obtain⟨y,r',rfl,r1,r2⟩:=r;rw[List.all_cons,bI]at h;rcases tB.mp hx with rfl |hx
  . cases d<;>first | (simp[Dv]at h;done) |skip
    obtain⟨a,_,rfl,_⟩:=r1.tup;exact⟨a,rfl⟩
  . exact Rg h.2 r2 x hx
def setTP(w:World)(a:Addr)(ps:List (NK×Addr)):Heap->Prop:=fun h=>∃(o:Obj)(es:Array (Int×Value))(ep:Nat)(t:SetTable),h.get? a=some o/\o.ExactSet/\o.data=.set es ep t/\Wk w es t/\es.toList.Perm (ps.map fun p=>(p.1.hs,Value.ref p.2))
theorem setTP.stay:∀h1 h2:Heap,setTP w a ps h1->(∀o,h1.get? a=some o->h2.get? a=some o)->setTP w a ps h2:=fun _ _ ⟨o,es,ep,t,e,z⟩ k=>⟨o,es,ep,t,k _ e,z⟩
def Hu(w:World)(K:Frag):List V->Hp->VK->Prop:=fun vs H Q=>∃(l:Addr)(rest:List (NK×Addr)),vs=[.ref l]/\SqL K H l (rest.map fun r=>V.ref r.2)/\(∀r∈rest,NKr H r.1 (.ref r.2)/\r.1.dep<=8)/\(rest.foldl addT []).length<64 /\
 ∀a,H a=none->Q (.ref a) (upd H a (.ext (setTP w a (rest.foldl addT []))))
def Jx(w:World):List V->Hp->VK->Prop:=fun vs H Q=>∃(a:Addr)(ps:List (NK×Addr)),vs=[.ref a]/\H a=some (.ext (setTP w a ps))/\ps.length<=64/\(∀p∈ps,NKr H p.1 (.ref p.2))/\x0 (ps.map fun p=>t5 p.1)=true /\
 ∀(l:Addr)(qs:List (NK×Addr)),H l=none->(∀p∈qs,p∈ps)->qs.map (fun p=>t5 p.1)=p9 (ps.map fun p=>t5 p.1)->Q (.ref l) (upd H l (.lst (qs.map fun p=>V.ref p.2)))
theorem Ut:∀{rest:List (NK×Addr)}{us:List Value},Vals (rest.map fun r=>V.ref r.2) us->us=rest.map fun r=>Value.ref r.2
 | [],_,r=>by cases r;rfl
 |n::ns,_,r=>by
  cases r with
  |cons r1 r2=>
   cases r1
   rw[NL,<-Ut r2]
theorem Kw:∀(rest:List (NK×Addr)),Vals (rest.map fun r=>V.ref r.2) (rest.map fun r=>Value.ref r.2)
 | []=>.nil
 |r::rest=>.cons rfl (Kw rest)
theorem deps_all2:∀{ds:List D},i8 ds<=n↔∀d∈ds,d.dep<=n
 | []=>by simp[i8]
 |d::ds=>by have:=deps_all2 (n:=n) (ds:=ds);simp only[i8,tB,forall_eq_or_imp];rw[<-this];omega
theorem wX(p:a.Perm b)(h:x0 b=true):x0 a=true:=by
 have al:∀f:D->Bool,a.all f=b.all f:=fun f=>by rw[TU,KB,KB];exact⟨fun h x hx=>h x (p.mem_iff.mpr hx),fun h x hx=>h x (p.mem_iff.mp hx)⟩
 unfold x0 at h⊢;simp only[bI,NP]at h⊢;obtain⟨⟨⟨h1,h2⟩,h3⟩,h4⟩:=h;refine⟨⟨⟨Y6 p h1,deps_all2.mpr fun d hd=>deps_all2.mp h2 d (p.mem_iff.mp hd)⟩,?_⟩,?_⟩
 . rw[al];have:(fun d=>a.all fun e=>(i4 d e).isSome)=fun d=>b.all fun e=>(i4 d e).isSome:=funext fun d=>al _
   rw[this];exact h3
 . rw[al,al,al];exact h4
section
variable {X:Cx}{pins:List (Addr×Obj)}{U:St}{H:Hp}{s:Shared}
theorem qW(hc:X.calm=true)(hu:X.A.units+64<cLine):CallR X (.type "set") (Hu X.w X.K):=by
 intro pins s U H xs us Q I r h;obtain⟨l,rest,rfl,hq,hk,hz,q⟩:=h;obtain⟨u,rfl,ru⟩:=w8 r;cases ru;obtain⟨its,v1,pl,_⟩:=I.list hq;refine vh pl.isList (I.ok.hd hc) (by omega) rest (by simpa using Ut v1) (fun r hr=>⟨Dq I (hk r hr).1 rfl,(hk r hr).2⟩) hz fun h' tk hS kp=>?_
 obtain⟨o,es,ep,t,d1,d2,d3,S⟩:=hS;have pp:setTP X.w s.heap.objs.size (rest.foldl addT []) h':=⟨o,es,ep,t,d1,d2,d3,⟨S.tok,S.pl,S.led,S.ris⟩,S.en⟩;exact⟨.ref s.heap.objs.size,_,I.laid (t':=tk) (o:=.ext (setTP X.w s.heap.objs.size (rest.foldl addT []))) kp (ζ _) ⟨pp,⟨o,d1⟩,setTP.stay⟩,rfl,q _ (I.hok.fresh (ζ _))⟩
theorem wW(hc:X.calm=true)(hu:X.A.units+64<cLine):CallR X (.builtin "sorted") (Jx X.w):=by
 intro pins s U H xs us Q I r h;obtain⟨a,ps,rfl,ha,hz,hk,iT,k⟩:=h;obtain⟨u,rfl,ru⟩:=w8 r;cases ru;obtain⟨⟨o,es,ep,t,ho,hx,hd,W,en⟩,_,_⟩:=(show ObjOk X.prog X.w H s.heap a (.ext (setTP X.w a ps)) from I.hok a _ ha);obtain⟨oc,od,nV,osl⟩:=o;obtain⟨h1,h2,h3⟩:=hx;dsimp only at h1 h2 h3 hd;subst h1 h2 h3 hd;have ho:s.heap.get? a=some (L5 es ep t):=ho;obtain⟨cQ,pp,gx⟩:∃cQ:List (NK×Addr),cQ.Perm ps/\(z6 X.w a es ep).toList=cQ.map fun p=>(p.1.hs,Value.ref p.2):=by have:=(Ll X.w a es ep).trans en;obtain⟨cQ,h1,h2⟩:=Md this rfl;exact⟨cQ,h1,h2⟩
 have sz:es.size=ps.length:=by rw[<-gc,en.length_eq,oQ]
 have iR:es.size<=sizeLine:=by rw[sz];exact KM hz (by decide)
 apply SU kind_sorted plain_sorted entry_sorted (args_sorted1 (.ref a));unfold Builtin.«sorted»;refine χ (m:=checkCount "sorted" 1 1 _) (ω (χ (PySem.W.kdu_collect (A:=X.A.in1) (jH (ep:=ep) W) (I.ok.hd hc) ho iR fun h' tk acc kp aU=>?_)));have on:(z6 X.w a es ep).size=es.size:=by rw[<-gc,(Ll X.w a es ep).length_eq,gc]
 have ea:acc.toList=cQ.map fun p=>Value.ref p.2:=by
  have:acc.toList=(z6 X.w a es ep).toList.map (·.2):=by
   apply List.ext_getElem
   . rw[gc,oQ,gc,aU.1,on]
   . intro i z1 z2;obtain⟨e,he,hx⟩:=aU.2 i acc[i] (by simp[show i<acc.size by simpa using z1]);rw[KF (by simpa using z2)]at he;cases he;simpa using hx
  rw[this,gx,QU];rfl
 have I':Inv X pins U H { s with heap:=h',toks:=tk }:=I.kept (t':=tk) kp;have cr:cQ.length=ps.length:=pp.length_eq;refine χ (TY ?_ (by rw[gc,aU.1];exact iR));refine χ (NZ (QF slot_list_sort ⟨_,V4 h' acc.toList,rfl⟩ entry_list_sort (OG (Tp (s:={ s with heap:=h',toks:=tk }) (its:=acc.toList) (Q:=Q) hu I' (Cb (qs:=cQ) fun q hq=>hk q (pp.mem_iff.mp hq)) (by rw[ea];exact Kw cQ) (by rw[oQ,cr];exact KM hz (by decide)) (wX (pp.map _) iT) fun l is hl hi he=>?_) (fun f s' q=>?_) fun _ _ x=>x.elim) (args_list_sort _)))
 . have bd:∀i∈is,i<cQ.length:=fun i h=>by have:=hi i h;rwa [oQ]at this
   have e2:is.map (fun i=>(cQ.map fun p=>V.ref p.2).getD i .non)=(is.map fun i=>cQ.getD i (.i 0,0)).map fun p=>V.ref p.2:=by
    rw[QU];refine List.map_congr_left fun i h=>?_
    have:=bd i h;simp[io,NS,NG this]
   rw[e2];refine k l _ hl (fun p hp=>?_) ?_
   . obtain⟨i,h,rfl⟩:=OO.mp hp;rw[io,NG (bd i h)];exact pp.mem_iff.mp (List.getElem_mem _)
   . rw[<-Ve (by unfold x0 at iT;simp only[bI]at iT;exact iT.1.1.1) (pp.map fun p=>t5 p.1),he,QU];refine List.map_congr_left fun i h=>?_
     have:=bd i h;simp[io,NS,NG this]
 . obtain⟨x,rfl,q⟩:=q;exact⟨_,rfl,ω ⟨_,rfl,q⟩⟩
end
noncomputable def addK(ks:List NK)(k:NK):List NK:=if k∈ks then ks else ks++[k]
theorem Us:∀(rest acc:List (NK×Addr)),(rest.foldl addT acc).map (·.1)=(rest.map (·.1)).foldl addK (acc.map (·.1))
 | [],acc=>rfl
 |r::rest,acc=>by
  rw[RI,Us rest,NL,RI];congr 1;unfold addT addK;split
  . rfl
  . rw[RH];rfl
theorem Ur{P:NK×Addr->Prop}:∀(rest acc:List (NK×Addr)),(∀p∈acc,P p)->(∀p∈rest,P p)->∀p∈rest.foldl addT acc,P p
 | [],acc,h,_=>h
 |r::rest,acc,h,h2=>by
  rw[RI];refine Ur rest _ (fun p hp=>?_) fun p hp=>h2 p (IR _ hp)
  unfold addT at hp;split at hp
  . exact h p hp
  . rcases OF.mp hp with hp |hp
    . exact h p hp
    . rw[PV.mp hp];exact h2 r NN
theorem Rf:∀{ks:List NK}{xs:List V},NKrs H ks xs->(∀x∈xs,∃b,x=.ref b)->∃rest:List (NK×Addr),xs=rest.map (fun r=>V.ref r.2)/\rest.map (·.1)=ks/\∀r∈rest,NKr H r.1 (.ref r.2)
 | [],_,n,_=>by simp only[NKrs]at n;subst n;exact⟨[],rfl,rfl,fun r hr=>by cases hr⟩
 |k::ks,_,n,hb=>by
  simp only[NKrs]at n;obtain⟨x,xs,rfl,n1,n2⟩:=n;obtain⟨b,rfl⟩:=hb x NN;obtain⟨rest,e1,e2,e3⟩:=Rf n2 fun y hy=>hb y (IR _ hy)
  refine⟨(k,b)::rest,by rw[NL,<-e1],by rw[NL,e2],fun q hq=>?_⟩;rcases tB.mp hq with rfl |hq
  . exact n1
  . exact e3 q hq
open Classical in
def dSST:List D->Option D
 | [.lst ds]=>match Q6 ds with
  |some ks=>if(ks.foldl addK []).length<64/\(∀k∈ks,k.dep<=8)/\ds.all Dv=true/\x0 ((ks.foldl addK []).map t5)=true then some (.lst (p9 ((ks.foldl addK []).map t5))) else none
  |none=>none
 |_=>none
theorem jG{w:World}{K:Frag}:B9 K true dSST (fun vs H Q=>Hu w K vs H fun x H1=>Jx w [x] H1 Q):=by
 intro H0 H xs ds z Q s r ho k;unfold dSST at ho;split at ho<;>first | (cases ho;done) |skip
 rename_i es;split at ho<;>first | (cases ho;done) |skip
 rename_i ks HF;split at ho<;>first | (cases ho;done) |skip
 rename_i hc;cases ho;obtain⟨x,rfl,q1⟩:=r.uno;obtain⟨a,ys,rfl,ha,ra⟩:=q1.lst;obtain⟨rest,rfl,e2,e3⟩:=Rf (Kd HF ra) (Rg hc.2.2.1 ra);have fm:=Us rest [];rw[e2,QR]at fm;have fl:(rest.foldl addT []).length=(ks.foldl addK []).length:=by rw[<-fm,oQ]
 have m0:∀p∈rest.foldl addT [],NKr H0 p.1 (.ref p.2):=Ur rest [] (fun p hp=>by cases hp) e3;have fd:(rest.foldl addT []).map (fun p=>t5 p.1)=(ks.foldl addK []).map t5:=by rw[<-fm,QU];rfl
 refine⟨a,rest,rfl,.of (s _ _ ha),fun r hr=>⟨(e3 r hr).mono fun c ys q=>s _ _ q,hc.2.1 _ (by rw[<-e2];exact OO.mpr ⟨r,hr,rfl⟩)⟩,by rw[fl];exact hc.1,fun p hp=>?_⟩;have s2:Same H (upd H p (.ext (setTP w p (rest.foldl addT [])))):=Same.upd_new hp;have e2:Ext H0 H H0 (upd H p (.ext (setTP w p (rest.foldl addT [])))):=(Ext.refl s).grow s2;refine⟨p,_,rfl,t9,by rw[fl];have:=hc.1;omega,fun q hq=>(m0 q hq).mono fun c ys h=>(s.trans s2) _ _ h,by rw[fd];exact hc.2.2.2,fun l qs fq hq he=>k _ _ ?_⟩;refine Out.after s2 e2 (.new e2.2.1 fq fun H' hH=>?_);simp only[OB];refine⟨_,hH,?_⟩;rw[<-fd,<-he];exact Cb fun q h=>m0 q (hq q h)
def eSST(fs:DE->R (List D)):DE->R D:=eCB dSST fs
theorem za(hc:X.calm=true)(hu:X.A.units+64<cLine)(hg:Gl X "sorted")(hm:X.mg "sorted"=none)(hv:bootBuiltins "sorted"=some (.builtin "sorted"))(HG:Gl X "set")(ou:X.mg "set"=none)(HH:bootBuiltins "set"=some (.type "set"))(ha:QA X EX [e] fs)
  (he:starEach [e] X.env=(false,eval e X.env)::starEach [] X.env:=by rfl) (ef:starEach [Expr.Call (.Name "set" p2) [e] [] lW] X.env=(false,eval (.Call (.Name "set" p2) [e] [] lW) X.env)::starEach [] X.env:=by rfl) :
  QE X EX true (.Call (.Name "sorted" p) [.Call (.Name "set" p2) [e] [] lW] [] pos) (eSST fs):=
 ⟨(Cm (wW hc hu) hg hm hv (O4 (Vo (qW hc hu) HG ou HH ha.h (he:=he)) pa_nil ef) (he:=ef)).imp fun U H Q q=>(show tCB (fun vs H Q=>Hu X.w X.K vs H fun x H1=>Jx X.w [x] H1 Q) (TAd X.K EX fs) U H Q from Ft jG q)⟩
def S8:List D->Option D
 | [.dn ks _]=>if x0 (ks.map t5)=true then some (.lst (p9 (ks.map t5))) else none
 |_=>none
def Pi(K:Frag):List V->Hp->VK->Prop:=fun xs H Q=>∃(a:Addr)(qs:List (NK×Addr))(ys:List V)(ob:Obj),xs=[V.ref a]/\H a=some (.ext (dnP a qs ys ob))/\DN H a qs/\x0 (qs.map fun p=>t5 p.1)=true /\
 ∀(l:Addr)(is:List Nat),H l=none->(∀i∈is,i<(qs.map fun q=>V.ref q.2).length)->p9 (qs.map fun p=>t5 p.1)=is.map (fun i=>(qs.map fun p=>t5 p.1).getD i (.int 0))->Q (.ref l) (upd H l (.lst (is.map fun i=>(qs.map fun q=>V.ref q.2).getD i .non)))
theorem wV{K:Frag}:B9 K true S8 (Pi K):=by
 intro H0 H xs ds z Q s r ho k;unfold S8 at ho;split at ho<;>first | (cases ho;done) |skip
 rename_i ks es;split at ho<;>first | (cases ho;done) |skip
 rename_i hok;cases ho;obtain⟨x,rfl,q1⟩:=r.uno;simp only[RD]at q1;obtain⟨a,qs,ys,ob,rfl,h1,hk,n,ra⟩:=q1;have fd:(qs.map fun p=>t5 p.1)=ks.map t5:=by rw[<-hk,QU];rfl
 refine⟨a,qs,ys,ob,rfl,s _ _ h1,n.tk fun b ys q=>s _ _ q,by rw[fd];exact hok,fun l is hl hi he=>k _ _ (.new s hl fun H' hH=>?_)⟩;simp only[OB];refine⟨_,hH,?_⟩;rw[<-fd,he];exact(Cb (K:=K) (qs:=qs) fun q hq=>(n.2.1 q hq).1).pick hi
theorem qV(hc:X.calm=true)(hu:X.A.units+64<cLine):CallR X (.builtin "sorted") (Pi X.K):=by
 intro pins s U H xs us Q I r h;obtain⟨a,qs,ys,ob,rfl,ha,n,hok,k⟩:=h;obtain⟨u,rfl,ru⟩:=w8 r;cases ru;obtain⟨vs,es,ep,rfl,ed,p1,p2,d4⟩:=jS I ha n;have hsz:es.size=qs.length:=by rw[<-gc,d4,oQ,Pt qs vs p2]
 have hz:qs.length<=sizeLine:=n.2.2.2;apply SU kind_sorted plain_sorted entry_sorted (args_sorted1 (.ref a));unfold Builtin.«sorted»;refine χ (m:=checkCount "sorted" 1 1 _) (ω (χ (PySem.W.kdu_collect (A:=X.A.in1) (xu (es:=es) (ep:=ep) n.2.2.1) (I.ok.hd hc) ed (by rw[hsz];exact hz) fun h' tk acc kp aU=>?_)));have ea:acc.toList=qs.map fun q=>Value.ref q.2:=by
  apply UI;intro i;by_cases hi:i<acc.size
  . obtain⟨e,he,hx⟩:=aU.2 i acc[i] (by simp[hi]);have t1:es.toList[i]?=some e:=by simpa using he
    rw[d4,NS]at t1;have BO:i<qs.length:=by rw[<-hsz,<-aU.1];exact hi
    have HJ:(qs.zip vs)[i]?=some (qs[i],vs[i]'(by omega)):=PP.mpr ⟨NG BO,NG (by omega)⟩;have hJ:(z3 qs vs)[i]?=some (qs[i].1,qs[i].2,vs[i]'(by omega)):=by unfold z3;rw[NS,HJ];rfl
    rw[hJ]at t1;cases t1;rw[NG (by simpa using hi),NS,NG BO];exact PZ some (by simpa [dnE,entryOfKey] using hx)
  . have h1:qs.length<=i:=by rw[<-hsz,<-aU.1];omega
    rw[OV (by simpa using hi),OV (by simpa using h1)]
 have iA:acc.toList.length<=sizeLine:=by rw[ea,oQ];exact hz
 have I':Inv X pins U H { s with heap:=h',toks:=tk }:=I.kept (t':=tk) kp;refine χ (TY ?_ iA);rw[ea];refine χ (NZ (QF slot_list_sort ⟨_,V4 h' _,rfl⟩ entry_list_sort (OG (Tp (s:={ s with heap:=h',toks:=tk }) hu I' (Cb (qs:=qs) fun q hq=>(n.2.1 q hq).1) (Kw qs) (by rw[oQ];exact hz) hok k) (fun f s' q=>?_) fun _ _ x=>x.elim) (args_list_sort _)));obtain⟨x,rfl,q⟩:=q;exact⟨_,rfl,ω ⟨_,rfl,q⟩⟩
open PySem.W in
noncomputable def Ee(tb:String->Option Builtin)(p:Program)(w:World)(m:Nat)(ij:Option Value):Nat->SharedT->Thread->Option SharedT
 | 0,_,_=>none
 |n+1,s,t=>match through t with
  |true=>some s
  |false=>match stepOk m ij t with
   |false=>none
   |true=>match stepT (denote tb) p w s t with
    |some (s',t')=>Ee tb p w m ij n s' t'
    |none=>none
open PySem.W in
theorem Vu:∀(n:Nat){s s':SharedT}{t:Thread},Ee tb p w m ij n s t=some s'->topRun tb p w m ij n s.abs t=some s'.abs
 | 0,_,_,_,h=>nomatch h
 |n+1,s,s',t,h=>by
  unfold Ee at h;unfold topRun;cases a:through t with
  |true=>rw[a]at h;cases h;rfl
  |false=>
   rw[a]at h
   cases b:stepOk m ij t with
   |false=>rw[b]at h;cases h
   |true=>
    rw[b]at h
    cases c:stepT (denote tb) p w s t with
    |none=>rw[c]at h;cases h
    |some z=>
     obtain⟨s2,t2⟩:=z
     rw[c]at h
     rw[stepT_spec c]
     exact Vu n h
open PySem.W in
noncomputable def Ph:List Obj->Nat->BT->BT
 | [],_,t=>t
 |o::l,i,t=>Ph l (i+1) (t.ins i o)
open PySem.W in
def bootS(w:World)(os:OsState):SharedT:=⟨Ph (boot_heap w.params).objs.toList 0 .nil,(boot_heap w.params).objs.size,(boot_heap w.params).life,Array.mk [],boot_drawn,boot_toks,os⟩
open PySem.W in
noncomputable def seenAt(p q:Program)(loose:List Str)(Xt:Shared->Bool){α:Type}(Yf:Shared->α)(w:World)(t:Shared):=
 (staticsOk (importedModules p.main.body) (boot_heap w.params) t.heap&&namesBound p t.heap&&gensDone t&&laidKept (boot_heap w.params) t.heap,openSeen q loose (importedModules p.main.body) Xt true t,Yf t)
open PySem.W in
def outAt(p q:Program)(loose:List Str)(Xt:Shared->Bool){α:Type}(Yf:Shared->α)(N:Nat)(w:World)(os:OsState):=
 (Ee treeTable p w (boot_heap w.params).objs.size ((boot_heap w.params).nsMap mainGlobals "__annotations__") N (bootS w os) (topStub p)).map fun s=>seenAt p q loose Xt Yf w s.abs
open PySem.W in
theorem wU:∀(w:World)(os:OsState),(bootS w os).abs=⟨boot_heap w.params,Array.mk [],boot_drawn,boot_toks,os⟩:=fun _ _=>by kernel_rfl
open PySem.W in
theorem qU:∀w:World,(boot_heap w.params).isNs mainGlobals=true:=fun _=>by kernel_rfl
open PySem.W in
theorem qT(e:opening p=plainProg p.main.scope.names)(hN:Nat.ble 600 N=true)
  (f:∀s,fenceModules? p s=some s) (h:∀w os,outAt p q loose Xt Yf N w os=some (true,openGood q loose,Ya w)):LeftO p q loose Xt Yf Ya N:=fun w=>by
 obtain⟨⟨hp,gs,d,k,os⟩,a,b⟩:=OT.mp (boot_open e hN f w)
 obtain⟨rfl,rfl,rfl,rfl⟩:hp=boot_heap w.params/\gs=Array.mk []/\d=boot_drawn/\k=boot_toks:=by simpa using b
 obtain⟨s,r,c⟩:=OT.mp (h w os)
 have r2:=Vu N r
 rw[wU]at r2
 obtain⟨l1,l2,l3⟩:_/\_/\_:=by simpa only [seenAt,Prod.mk.injEq] using c
 have t:topFrom treeTable p w N ⟨boot_heap w.params,Array.mk [],boot_drawn,boot_toks,os⟩=some s.abs:=by unfold topFrom;dsimp only;rw[qU,r2];show(match staticsOk (importedModules p.main.body) (boot_heap w.params) s.abs.heap&&namesBound p s.abs.heap&&gensDone s.abs&&laidKept (boot_heap w.params) s.abs.heap with |true=>_ |false=>_)=_;rw[l1]
 unfold openEnds
 rw[a]
 show(topFrom treeTable p w N _).map _=_
 rw[t]
 exact PZ some (Prod.ext l2 l3)
abbrev vs(x:String)(t:Nat):Value:=.str (Str.ofString x) t
abbrev en(P:Params)(x:String)(t:Nat)(v:Value):DictEntry:=⟨PyData.keyHash P (Str.ofString x),.str (Str.ofString x) t,v⟩
abbrev oT(l:List Value):Obj:={ cls:=.type "tuple",data:=.seq l.toArray }
abbrev oD(l:List DictEntry)(n:Nat):Obj:={ cls:=.type "dict",data:=.dict l.toArray n }
abbrev oF(st:Stmt)(x q:String)(dV kV doc pm:Value)(an:Option Addr)(cd ct:Value):Obj:={ cls:=.type "function",data:=.func (PySem.W.fnOf (Str.ofString x) (Str.ofString q) (j4 st) (i9 st) (g3 st) dV kV doc pm an cd ct) }
noncomputable def Gh:Stmt->Nat->Stmt
 | .ClassDef _ _ _ b _ _ _ _ _ _ _,j=>b.getD j (.Pass ⟨0,0,0,0⟩)
 |s,_=>s
end L2
namespace Cu
abbrev P2:=Int×Int
abbrev P3:=Int×Int×Int
def sh(cM x:Int):Int:=if x > cM then x+1 else x
def sh2(c:Int)(p:P2):P2:=(sh c p.1,sh c p.2)
def outer(p:P3):P2:=(p.1,p.2.2)
def C7(n c:Int):P2:=if c=n - 1 then(0,c) else(c,c+2)
end Cu
noncomputable section
namespace K87
open PySem PySem.Spec PyProof.Rows L2
def knX:String->Bool:=fun c=>c=="NoFloor"||c=="NoPlace"||c=="TooMany"
def Fp:String->Option Bool:=fun c=>if c="NoFloor" then some true else if c="NoPlace" then some true else if c="TooMany" then some true else none
def Fj:String->Option Bool:=fun c=>if c="NoFloor" then some false else if c="NoPlace" then some false else if c="TooMany" then some true else none
def Fi:String->Option Bool:=fun c=>if c="NoFloor" then some true else if c="NoPlace" then some false else if c="TooMany" then some false else none
def Fo:String->Option Bool:=fun c=>if c="NoFloor" then some true else if c="NoPlace" then some true else if c="TooMany" then some true else none
def Ct:String->Option Bool:=fun c=>if c="NoFloor" then some false else if c="NoPlace" then some true else if c="TooMany" then some false else none
def Cs:String->Option Bool:=fun c=>if c="NoFloor" then some false else if c="NoPlace" then some false else if c="TooMany" then some false else none
def Lx:DS->SR:=
 (i5 [true] (J1 (eUn (p8 "int") (d6 0)) (eUn (fun d=>(o9 d).map fun b=>.bl (!b)) (eUn (p8 "bool") (d6 0)))))
def O9:List D->R D:=mOf false 1 0 Lx
def jF:DS->SR:=
 (i5 [true,true] (eIf (i7 asB (eOp B6 (d6 0) (d6 1))) (n8 (d7 (d6 0) (d7 (d6 1) d9))) (n8 (d7 (d6 1) (d7 (d6 0) d9)))))
def Du:List D->R D:=mOf false 2 0 jF
def yl:DS->SR:=
 (e9 (g7 false 2 [false,true] (eOp dIx (d6 1) (eC (.int 0))))
  (e9 (g7 false 3 [false,true] (eOp dIx (d6 1) (eC (.int 1))))
  (e9 (sIf (bOr (i7 asB (eOp B6 (d6 2) (eC (.int 0)))) (i7 asB (eOp dGe (d6 3) (d6 0))))
   (i5 [] (eC (.bl false)))
   sNx)
  (i5 [true,false,true,true] (eOr (eOp dEq (d6 3) (eOp v5 (d6 2) (eC (.int 1)))) (J1 (eOp dEq (d6 2) (eC (.int 0))) (eOp dEq (d6 3) (eOp n6 (d6 0) (eC (.int 1))))))))))
def Fe:List D->R D:=mOf false 2 2 yl
def z58:DE->R D:=
 (eOp Dm (eOp dIx (d6 1) (d6 0)) (eOp dIx (d6 1) (eOp n6 (d6 2) (d6 0))))
def z59:DS->SR:=
 (P5 "list" Q8 1 [false,true,true] (d7 (eCB N0 (d7 (o6 (Aw (d7 (eC (.int 1)) (d7 (d6 2) d9))) b1 [1,2] p7 z58) d9)) d9))
def z6e:DS->SR:=
 (e9 (g7 true 1 [] (t0 (d7 (eC (.int 0)) (d7 (eC (.int 1)) d9))))
  (e9 (B7 true [true] (Aw (d7 (eC (.int 2)) (d7 (d6 0) d9))) (.n 2) z59)
  (W7 1)))
def U1:List D->R D:=mOf true 1 2 z6e
def Wi:DS->SR:=
 (i5 [true,true] (eOp dIx (eOp z9 (eSl dSl (d6 0) (oSo (d6 1)) (oSo (eOp v5 (d6 1) (eC (.int 1))))) (t0 (d7 (eC (.int 0)) d9))) (eC (.int 0))))
def K9:List D->R D:=mOf false 2 0 Wi
def zU:DS->SR:=
 (e9 (sIf (i7 o9 (eUn (p8 "bool") (d6 0)))
   (i5 [] (eC (.bl false)))
   sNx)
  (i5 [true] (eUn (p8 "int") (d6 0))))
def T8:List D->R D:=mOf false 1 0 zU
def Wy:DE->R D:=
 (n8 (d7 (eOp v5 (d6 0) (eCB U7 (d7 (eOp Dk (d6 0) (d6 2)) d9))) (d7 (eOp v5 (d6 1) (eCB U7 (d7 (eOp Dk (d6 1) (d6 2)) d9))) d9)))
def Ws:DS->SR:=
 (e9 (g7 true 3 [false,true,true] (o6 (iL (d6 1)) (bT 2) [2] p7 Wy))
  (e9 (sIf (i7 asB (eOp dEq (d6 2) (eOp n6 (d6 0) (eC (.int 1)))))
   (i5 [true,false,false,true] (eOp z9 (d6 3) (t0 (d7 (n8 (d7 (eC (.int 0)) (d7 (eOp n6 (d6 0) (eC (.int 1))) d9))) d9))))
   sNx)
  (i5 [false,false,true,true] (eOp z9 (d6 3) (t0 (d7 (n8 (d7 (d6 2) (d7 (eOp v5 (d6 2) (eC (.int 2))) d9))) d9))))))
def Am:List D->R D:=mOf true 3 1 Ws
def za0:DS->SR:=
 (g7 false 2 [false,true,true,true] (eOp v5 (d6 2) (eOp Db (eOp dIx (d6 1) (d6 3)) (eOp dIx (d6 1) (eUn Bc (d6 3))))))
def za1:DE->R Bool:=
 (i7 asB (eOp dLe (eCB C3 (d7 (d6 1) d9)) (d6 0)))
def za2:DS->SR:=
 (e9 (g7 false 2 [] (eC (.int 0)))
  (e9 (B7 true [false,true] (Aw (d7 (eC (.int 1)) (d7 (eCB C3 (d7 (d6 1) d9)) d9))) (.n 3) za0)
  (P5 "list" Q8 1 [false,false,true] (d7 (d6 2) d9))))
def zE:DS->SR:=
 (e9 (g7 true 1 [] (t0 (d7 (eC (.int 0)) (d7 (eC (.int 1)) d9))))
  (e9 (Bs 1000 za1 za2)
  (W7 1)))
def T6:List D->R D:=mOf true 1 3 zE
def zT:DS->SR:=
 (i5 [true,true] (eOr (P6 (eOp dIx (d6 0) (eC (.int 0))) (J6 B6 (eOp dIx (d6 1) (eC (.int 0))) (J6 B6 (eOp dIx (d6 0) (eC (.int 1))) (Q3 B6 (eOp dIx (d6 1) (eC (.int 1))))))) (P6 (eOp dIx (d6 1) (eC (.int 0))) (J6 B6 (eOp dIx (d6 0) (eC (.int 0))) (J6 B6 (eOp dIx (d6 1) (eC (.int 1))) (Q3 B6 (eOp dIx (d6 0) (eC (.int 1)))))))))
def Fn:List D->R D:=mOf false 2 0 zT
def Wx:DS->SR:=
 (e9 (g7 true 8 [false,true,false,true,true,false,true,true] (t0 (d7 (eOp v9 (eOp v5 (eOp Db (d6 4) (d6 6)) (d6 3)) (d6 1)) (d7 (eOp v9 (eOp v5 (eOp Db (d6 4) (d6 7)) (d6 3)) (d6 1)) d9))))
  (P5 "list" Q8 5 [false,false,false,false,false,false,false,false,true] (d7 (n8 (d7 (eCB Gr (d7 (d6 8) d9)) (d7 (eCB Gs (d7 (d6 8) d9)) d9))) d9)))
def Mp:DS->SR:=
 (e9 (g7 true 5 [] (t0 d9))
  (e9 (B7 false [true] (iL (eOp dIx (d6 0) (eC (.int 1)))) (.t [6,7]) Wx)
  (Bd dSetN 2 [false,true,false,false,false,true] (n8 (d7 (d6 1) (d7 (eCB J7 (d7 (eCB A6 (d7 (d6 5) d9)) d9)) d9))) (eC (.bl true)))))
def Mo:DS->SR:=
 (B7 false [] (iL (t0 (d7 (eC (.int 1)) (d7 (eUn Bc (eC (.int 1))) d9)))) (.n 4) Mp)
def Mj:DS->SR:=
 (e9 (g7 false 1 [true] (eOp dIx (d6 0) (eC (.int 0))))
  (e9 (g7 true 2 [] Gk)
  (e9 (B7 true [false,true] (x8 (d7 (d6 1) d9)) (.n 3) Mo)
  (i5 [false,false,true] (eCB S8 (d7 (d6 2) d9))))))
def L0:List D->R D:=mOf true 1 8 Mj
def yk:DS->SR:=
 (i5 [true,true] (J1 (P6 (eC (.int 0)) (J6 dLe (eOp dIx (d6 1) (eC (.int 0))) (J6 B6 (eOp dIx (d6 1) (eC (.int 1))) (Q3 B6 (d6 0))))) (eUn (fun d=>(o9 d).map fun b=>.bl (!b)) (g6 Fe (d7 (d6 0) (d7 (d6 1) d9))))))
def Fd:List D->R D:=mOf false 2 0 yk
def Lw:DS->SR:=
 (i5 [true] (J1 (g6 O9 (d7 (d6 0) d9)) (P6 (eC (.int 3)) (J6 dLe (d6 0) (Q3 dLe (eC (.int 60)))))))
def O8:List D->R D:=mOf false 1 0 Lw
def Uq:DE->R D:=
 (g6 Du (d7 (eOp dIx (d6 2) (d6 0)) (d7 (eOp dIx (d6 2) (d6 1)) d9)))
def Jw:DS->SR:=
 (i5 [true,true] (n8 (d7 (eOp dIx (d6 0) (eC (.int 0))) (d7 (eCB J7 (d7 (eCB A6 (d7 (o6 (iL (eOp dIx (d6 0) (eC (.int 1)))) (bT 2) [1] p7 Uq) d9)) d9)) d9))))
def Q5:List D->R D:=mOf false 2 0 Jw
def Fs:DS->SR:=
 (e9 (g7 true 2 [false,true,true,true] (g6 Am (d7 (d6 1) (d7 (d6 2) (d7 (eOp v9 (d6 3) (d6 1)) d9)))))
  (g7 false 1 [false,true] (eOp v5 (d6 1) (eC (.int 1)))))
def Wr:DS->SR:=
 (e9 (g7 false 1 [] (eC (.int 3)))
  (e9 (g7 true 2 [] (t0 d9))
  (e9 (B7 false [true] (iL (d6 0)) (.n 3) Fs)
  (i5 [false,true,true] (n8 (d7 (d6 1) (d7 (eCB J7 (d7 (eCB A6 (d7 (d6 2) d9)) d9)) d9)))))))
def T7:List D->R D:=mOf false 1 3 Wr
def z83:DS->SR:=
 (e9 (sIf (bOr (w4 (i7 o9 (eUn (p8 "tuple") (d6 0)))) (bOr (i7 asB (eOp dNe (eCB C3 (d7 (d6 0) d9)) (eC (.int 2)))) (bOr (w4 (i7 o9 (g6 T8 (d7 (eOp dIx (d6 0) (eC (.int 0))) d9)))) (w4 (i7 o9 (g6 T8 (d7 (eOp dIx (d6 0) (eC (.int 1))) d9)))))))
   (i5 [] (eC (.bl false)))
   sNx)
  (i5 [true,true] (J1 (eOp dLe (eC (.int 0)) (eOp dIx (d6 0) (eC (.int 0)))) (J1 (P6 (eOp v5 (eOp dIx (d6 0) (eC (.int 0))) (eC (.int 1))) (J6 B6 (eOp dIx (d6 0) (eC (.int 1))) (Q3 B6 (d6 1)))) (eOp dNe (d6 0) (n8 (d7 (eC (.int 0)) (d7 (eOp n6 (d6 1) (eC (.int 1))) d9))))))))
def Fq:List D->R D:=mOf false 2 0 z83
def Mi:DS->SR:=
 (sIf (w4 (i7 o9 (g6 O8 (d7 (d6 0) d9))))
  (O3 "NoFloor" (d7 (eC (.str "a floor has 3 to 60 corners")) d9))
  sNx)
def E5:List D->R D:=mOf false 1 0 Mi
def Tm:DE->R D:=
 (eOp v9 (eOp v5 (d6 0) (d6 2)) (d6 1))
def Ht:DS->SR:=
 (e9 (g7 false 2 [true] (eOp dIx (d6 0) (eC (.int 0))))
  (i5 [true,true,true] (g6 Q5 (d7 (d6 0) (d7 (o6 (x8 (d7 (d6 2) d9)) b1 [2,1] p7 Tm) d9)))))
def O2:List D->R D:=mOf false 2 1 Ht
def Wq:DE->R D:=
 (eOp v9 (eOp n6 (d6 1) (d6 0)) (d6 1))
def Lv:DS->SR:=
 (e9 (g7 false 1 [true] (eOp dIx (d6 0) (eC (.int 0))))
  (i5 [true,true] (g6 Q5 (d7 (d6 0) (d7 (o6 (x8 (d7 (d6 1) d9)) b1 [1] p7 Wq) d9)))))
def Z8:List D->R D:=mOf false 1 1 Lv
def z4o:DE->R D:=
 (g6 Fq (d7 (d6 0) (d7 (d6 1) d9)))
def z4p:DE->R D:=
 (eOr (eOp Mu (d6 1) (d6 0)) (g6 Fn (d7 (d6 1) (d7 (d6 0) d9))))
def z4q:DS->SR:=
 (sIf (i7 o9 (eCB Mz (d7 (o6 (iL (eSl Mw (d6 2) oNo (oSo (d6 3)))) b1 [4] p7 z4p) d9)))
  (i5 [] (eC (.bl false)))
  sNx)
def z5p:DS->SR:=
 (e9 (sIf (bOr (w4 (i7 o9 (eUn (p8 "tuple") (d6 0)))) (bOr (i7 asB (eOp dNe (eCB C3 (d7 (d6 0) d9)) (eC (.int 2)))) (bOr (w4 (i7 o9 (g6 T8 (d7 (eOp dIx (d6 0) (eC (.int 0))) d9)))) (i7 asB (eOp dNe (eOp dIx (d6 0) (eC (.int 0))) (d6 1))))))
   (i5 [] (eC (.bl false)))
   sNx)
  (e9 (g7 false 2 [true] (eOp dIx (d6 0) (eC (.int 1))))
  (e9 (sIf (bOr (w4 (i7 o9 (eUn (p8 "tuple") (d6 2)))) (bOr (i7 asB (eOp dNe (eCB C3 (d7 (d6 2) d9)) (eOp n6 (d6 1) (eC (.int 3))))) (w4 (i7 o9 (eCB R0 (d7 (o6 (iL (d6 2)) b1 [1] p7 z4o) d9))))))
   (i5 [] (eC (.bl false)))
   sNx)
  (e9 (B7 false [false,false,true] (Mv (d7 (d6 2) d9)) (.t [3,4]) z4q)
  (i5 [] (eC (.bl true)))))))
def At:List D->R D:=mOf false 2 3 z5p
def qS:DS->SR:=
 (e9 (J5 (g6 E5 (d7 (d6 0) d9)))
  (i5 [true] (eOp dIx (g6 U1 (d7 (d6 0) d9)) (eOp n6 (d6 0) (eC (.int 1))))))
def X9:List D->R D:=mOf false 1 0 qS
def Mm:DE->R D:=
 (n8 (d7 (g6 O2 (d7 (d6 1) (d7 (d6 0) d9))) (d7 (eC (.bl false)) (d7 (d6 0) d9))))
def Ml:DE->R D:=
 (n8 (d7 (g6 O2 (d7 (d6 1) (d7 (d6 0) d9))) (d7 (eC (.bl true)) (d7 (d6 0) d9))))
def Mg:DS->SR:=
 (e9 (g7 true 1 [true] (o6 (x8 (d7 (eOp dIx (d6 0) (eC (.int 0))) d9)) b1 [0] p7 Mm))
  (e9 (g7 false 2 [true] (g6 Z8 (d7 (d6 0) d9)))
  (i5 [true,true,true] (eOp z9 (d6 1) (o6 (x8 (d7 (eOp dIx (d6 0) (eC (.int 0))) d9)) b1 [2] p7 Ml)))))
def Ag:List D->R D:=mOf true 1 2 Mg
def Mh:DS->SR:=
 (e9 (g7 false 1 [true] (eCB R8 (d7 (g6 Ag (d7 (d6 0) d9)) d9)))
  (i5 [false,true] (n8 (d7 (eOp dIx (d6 1) (eC (.int 0))) (d7 (eOp dIx (d6 1) (eC (.int 2))) (d7 (eOp dIx (d6 1) (eC (.int 1))) d9))))))
def Al:List D->R D:=mOf false 1 1 Mh
def Xa:DE->R Bool:=
 (i7 asB (eOp dGe (d6 5) (eOp Dm (eOp dIx (d6 0) (eOp n6 (d6 4) (d6 1))) (eOp dIx (d6 0) (eOp n6 (d6 2) (d6 4))))))
def Wz:DS->SR:=
 (e9 (Bg (fun a b=>a - b) 5 [true,true,true,false,true] (eOp Dm (eOp dIx (d6 0) (eOp n6 (d6 4) (d6 1))) (eOp dIx (d6 0) (eOp n6 (d6 2) (d6 4)))))
  (Bg (fun a b=>a+b) 4 [] (eC (.int 1))))
def Cq(M:List D->R D):DS->SR:=
 (e9 (sIf (i7 asB (eOp dEq (d6 2) (eOp v5 (d6 1) (eC (.int 1)))))
   (i5 [false,true,true] (t0 (d7 (n8 (d7 (d6 1) (d7 (d6 2) d9))) d9)))
   sNx)
  (e9 (g7 false 4 [false,true] (eOp v5 (d6 1) (eC (.int 1))))
  (e9 (g7 false 5 [false,false,false,true] (d6 3))
  (e9 (Bs 1000 Xa Wz)
  (e9 (g7 true 6 [true,true,true,false,true,true] (g6 M (d7 (d6 0) (d7 (d6 1) (d7 (d6 4) (d7 (eOp dDivH (d6 5) (eOp dIx (d6 0) (eOp n6 (d6 2) (d6 4)))) d9))))))
  (e9 (g7 true 7 [true,false,true,false,true,true] (g6 M (d7 (d6 0) (d7 (d6 4) (d7 (d6 2) (d7 (eOp v9 (d6 5) (eOp dIx (d6 0) (eOp n6 (d6 2) (d6 4)))) d9))))))
  (i5 [false,true,true,false,false,false,true,true] (eOp z9 (eOp z9 (t0 (d7 (n8 (d7 (d6 1) (d7 (d6 2) d9))) d9)) (d6 6)) (d6 7)))))))))
def Cp:List D->R D:=L9 true 4 4 Cq 64
def Wp:DE->R Bool:=
 (i7 o9 (g6 Fd (d7 (d6 1) (d7 (d6 0) d9))))
def Wo:DE->R D:=
 (d6 0)
def Lu:DS->SR:=
 (e9 (J5 (g6 E5 (d7 (d6 0) d9)))
  (e9 (g7 true 2 [true] (g6 U1 (d7 (d6 0) d9)))
  (e9 (sIf (bOr (w4 (i7 o9 (g6 O9 (d7 (d6 1) d9)))) (w4 (Be (eC (.int 0)) (Bw dLe (d6 1) (Bx B6 (eOp dIx (d6 2) (eOp n6 (d6 0) (eC (.int 1)))))))))
   (O3 "NoPlace" (d7 (eC (.str "no place of a cutting of the floor")) d9))
   sNx)
  (i5 [true,true,true] (n8 (d7 (d6 0) (d7 (eCB J7 (d7 (eCB A6 (d7 (o6 (iL (g6 Cp (d7 (d6 2) (d7 (eC (.int 0)) (d7 (eOp n6 (d6 0) (eC (.int 1))) (d7 (d6 1) d9)))))) b1 [0] Wp Wo) d9)) d9)) d9)))))))
def Z7:List D->R D:=mOf false 2 1 Lu
def Ls:DE->R D:=
 (eOp dIx (g6 Al (d7 (g6 Z7 (d7 (d6 1) (d7 (d6 0) d9))) d9)) (eC (.int 0)))
def Er:DS->SR:=
 (e9 (J5 (g6 E5 (d7 (d6 0) d9)))
  (e9 (sIf (i7 asB (eOp Dk (d6 0) (eC (.int 8))))
   (O3 "TooMany" (d7 (eC (.str "unlike cuttings are told of at most eight corners")) d9))
   sNx)
  (i5 [true] (eSST (d7 (o6 (x8 (d7 (g6 X9 (d7 (d6 0) d9)) d9)) b1 [0] p7 Ls) d9)))))
def A7:List D->R D:=mOf true 1 0 Er
def Mk:DS->SR:=
 (e9 (g7 true 1 [] (t0 d9))
  (e9 (Cy (J5 (U6 knX A7 (d7 (d6 0) d9)))
   (hAs Fp 2 (e9 (g7 true 1 [false,false,true] (t0 (d7 (eUn (E7 Fo) (d6 2)) (d7 (eUn (E7 Fi) (d6 2)) (d7 (eUn (E7 Fj) (d6 2)) d9)))))
  (e9 (P5 "list" Q8 1 [false,false,true] (d7 (eUn (E7 Ct) (d6 2)) d9))
  (P5 "list" Q8 1 [false,false,true] (d7 (eUn (E7 Cs) (d6 2)) d9)))) Xl))
  (W7 1)))
def T9:List D->R D:=mOf true 1 2 Mk
def Ww:DS->SR:=
 (e9 (g7 false 1 [true] (eOp v9 (eOp R4 (d6 0) (eC (.int 9))) (eOp Ni (eC (.int 10)) (eC (.int 30)))))
  (e9 (g7 false 2 [true,true] (eOp dIx (t0 (d7 (eC (.int 2)) (d7 (eC (.int 61)) (d7 (eOp n6 (eC (.int 2)) (d6 1)) (d7 (eOp v5 (eC (.int 61)) (d6 1)) (d7 (eC (.bl true)) (d7 (eC .non) (d7 (eC (.str "5")) (d7 (n8 (d7 (eC (.int 5)) d9)) (d7 (eC (.int 0)) d9)))))))))) (eOp v9 (d6 0) (eC (.int 9)))))
  (e9 (sIf (i7 asB (eOp dNe (g6 T9 (d7 (d6 2) d9)) (t0 (d7 (eC (.bl true)) (d7 (eC (.bl true)) (d7 (eC (.bl false)) (d7 (eC (.bl false)) (d7 (eC (.bl false)) d9))))))))
   (i5 [] (eC (.bl false)))
   sNx)
  (i5 [true] (eOp dEq (g6 T9 (d7 (eOp v5 (eC (.int 9)) (eOp v9 (eOp R4 (d6 0) (eC (.int 9))) (eC (.int 52)))) d9)) (t0 (d7 (eC (.bl true)) (d7 (eC (.bl false)) (d7 (eC (.bl true)) (d7 (eC (.bl false)) (d7 (eC (.bl false)) d9)))))))))))
def U0:List D->R D:=mOf false 1 2 Ww
def Ed:DE->R D:=
 (g6 At (d7 (d6 0) (d7 (d6 1) d9)))
def X8:DS->SR:=
 (e9 (g7 true 7 [false,false,false,false,false,false,true] (g6 L0 (d7 (d6 6) d9)))
  (e9 (sIf (bOr (i7 asB (eOp dNe (eOp dIx (d6 7) (eC (.int 0))) (d6 6))) (bOr (i7 asB (eOp (dIn false) (d6 6) (eSl dSl (d6 3) oNo (oSo (d6 5))))) (i7 asB (eOp dNe (d6 6) (eOp dIx (eCB A6 (d7 (d6 3) d9)) (d6 5))))))
   (i5 [] (eC (.bl false)))
   sNx)
  (g7 false 4 [false,false,false,false,true,false,false,true] (eOp v5 (d6 4) (eCB C3 (d7 (d6 7) d9))))))
def Jv:DE->R D:=
 (g6 K9 (d7 (d6 1) (d7 (eOp v5 (eC (.int 2)) (d6 0)) d9)))
def Nn:DS->SR:=
 (e9 (g7 false 1 [true] (g6 K9 (d7 (d6 0) (d7 (eC (.int 0)) d9))))
  (e9 (sIf (i7 asB (eOp dEq (eOp v9 (g6 K9 (d7 (d6 0) (d7 (eC (.int 1)) d9))) (eC (.int 5))) (eC (.int 4))))
   (i5 [false,true] (g6 U0 (d7 (d6 1) d9)))
   sNx)
  (e9 (g7 false 2 [false,true] (eOp v5 (eC (.int 3)) (eOp v9 (eOp R4 (d6 1) (eC (.int 16))) (eC (.int 5)))))
  (e9 (sIf (i7 asB (eOp dEq (eOp v9 (d6 1) (eC (.int 16))) (eC (.int 7))))
   (g7 false 2 [] (eC (.int 8)))
   sNx)
  (e9 (g7 true 3 [false,false,true] (g6 A7 (d7 (d6 2) d9)))
  (e9 (sIf (bOr (w4 (i7 o9 (eUn (p8 "list") (d6 3)))) (w4 (i7 o9 (eCB R0 (d7 (o6 (iL (d6 3)) b1 [2] p7 Ed) d9)))))
   (i5 [] (eC (.bl false)))
   sNx)
  (e9 (g7 false 4 [] (eC (.int 0)))
  (e9 (B7 false [false,false,false,true] (iEn (d7 (d6 3) d9)) (.t [5,6]) X8)
  (e9 (g7 false 8 [true,false,true,false,false,true] (g6 T7 (d7 (o6 (x8 (d7 (eOp n6 (d6 2) (eC (.int 3))) d9)) b1 [0] p7 Jv) d9)))
  (i5 [false,false,true,true,true,false,false,false,true] (J1 (eOp dEq (d6 4) (eOp dIx (g6 T6 (d7 (eOp n6 (d6 2) (eC (.int 1))) d9)) (eOp n6 (d6 2) (eC (.int 1))))) (eOp (dIn false) (eOp dIx (g6 L0 (d7 (d6 8) d9)) (eC (.int 0))) (d6 3)))))))))))))
def V3:List D->R D:=mOf false 1 8 Nn
def top(i:Nat):Stmt:=PySem.Challenge.pw_friezeyard_k87_unlike_cuttings.main.body.getD i (.Pass ⟨0,0,0,0⟩)
abbrev Z6:Stmt:=top 20
abbrev W9:Stmt:=top 21
abbrev Z1:Stmt:=top 22
abbrev Z0:Stmt:=top 23
abbrev Z5:Stmt:=top 25
abbrev Ak:Stmt:=top 26
abbrev X7:Stmt:=top 28
abbrev Ar:Stmt:=top 29
abbrev Z4:Stmt:=top 30
abbrev Ap:Stmt:=top 31
abbrev W8:Stmt:=top 33
abbrev Z3:Stmt:=top 34
abbrev X6:Stmt:=top 35
abbrev Af:Stmt:=top 36
abbrev Aj:Stmt:=top 37
abbrev Y2:Stmt:=top 38
abbrev Ab:Stmt:=top 40
abbrev Ae:Stmt:=top 41
abbrev Ai:Stmt:=top 42
abbrev Ad:Stmt:=top 43
abbrev Aa:Stmt:=top 44
abbrev Ac:Stmt:=top 45
abbrev Ao:Stmt:=top 46
abbrev As:Stmt:=top 47
abbrev Ah:Stmt:=top 48
abbrev An:Stmt:=top 49
abbrev Aq:Stmt:=top 50
abbrev N7:Stmt:=top 51
structure Txt(mg:Str->Option Value):Prop where
 ValueError:mg "ValueError"=none
 «all»:mg "all"=none
 «any»:mg "any"=none
 bool:mg "bool"=none
 enumerate:mg "enumerate"=none
 int:mg "int"=none
 isinstance:mg "isinstance"=none
 len:mg "len"=none
 list:mg "list"=none
 «max»:mg "max"=none
 «min»:mg "min"=none
 range:mg "range"=none
 «set»:mg "set"=none
 sorted:mg "sorted"=none
 sum:mg "sum"=none
 tuple:mg "tuple"=none
structure Exs(K:Frag)(mg:Str->Option Value)(u0 u1 u2 u3 u4 u5 u6 u7 u8 u9 u10 u11 u12 u13 u14 u15 u16 u17:Addr):Prop where
 a_Crossed:mg (Str.ofString "Crossed")=some (.ref u0)
 a_Fallen:mg (Str.ofString "Fallen")=some (.ref u1)
 a_FloorError:mg (Str.ofString "FloorError")=some (.ref u2)
 a_NoBand:mg (Str.ofString "NoBand")=some (.ref u3)
 a_NoCorner:mg (Str.ofString "NoCorner")=some (.ref u4)
 a_NoDeed:mg (Str.ofString "NoDeed")=some (.ref u5)
 a_NoEar:mg (Str.ofString "NoEar")=some (.ref u6)
 a_NoFloor:mg (Str.ofString "NoFloor")=some (.ref u7)
 a_NoLine:mg (Str.ofString "NoLine")=some (.ref u8)
 a_NoName:mg (Str.ofString "NoName")=some (.ref u9)
 a_NoPlace:mg (Str.ofString "NoPlace")=some (.ref u10)
 a_NoQuotient:mg (Str.ofString "NoQuotient")=some (.ref u11)
 a_NoRow:mg (Str.ofString "NoRow")=some (.ref u12)
 a_NoText:mg (Str.ofString "NoText")=some (.ref u13)
 a_NoTurn:mg (Str.ofString "NoTurn")=some (.ref u14)
 a_NotAlike:mg (Str.ofString "NotAlike")=some (.ref u15)
 a_NotFull:mg (Str.ofString "NotFull")=some (.ref u16)
 a_TooMany:mg (Str.ofString "TooMany")=some (.ref u17)
 n_FloorError:nsIn K mainGlobals (Str.ofString "FloorError")=some (some (.ref u2))
 n_NoFloor:nsIn K mainGlobals (Str.ofString "NoFloor")=some (some (.ref u7))
 n_NoPlace:nsIn K mainGlobals (Str.ofString "NoPlace")=some (some (.ref u10))
 n_TooMany:nsIn K mainGlobals (Str.ofString "TooMany")=some (some (.ref u17))
 q_FloorError:PySem.W.excIn K u2 [.type "ValueError",.type "Exception",.type "BaseException",.type "object"] "ValueError.__new__"=true
 q_NoFloor:PySem.W.excIn K u7 [.type "ValueError",.type "Exception",.type "BaseException",.type "object"] "ValueError.__new__"=true
 q_NoPlace:PySem.W.excIn K u10 [.type "ValueError",.type "Exception",.type "BaseException",.type "object"] "ValueError.__new__"=true
 q_TooMany:PySem.W.excIn K u17 [.type "ValueError",.type "Exception",.type "BaseException",.type "object"] "ValueError.__new__"=true
 fo_NoFloor:mroIn K u7 (.type "object")=some true
 fb_NoFloor:mroIn K u7 (.type "BaseException")=some true
 fc_NoFloor:PySem.W.findIn K (.ref u7) "__class__"=some (some (.builtin "object.__class__"))
 fg_NoFloor:PySem.W.findIn K (.ref u7) "__getattribute__"=some (some (.builtin "BaseException.__getattribute__"))
 ft_NoFloor:PySem.W.findIn K (.ref u7) "__getattr__"=some none
 m_NoFloor_FloorError:mroIn K u7 (.ref u2)=some true
 k_NoFloor_TooMany:kitOne K (.ref u7) (.ref u17)=some false
 k_NoFloor_NoFloor:kitOne K (.ref u7) (.ref u7)=some true
 k_NoFloor_ValueError:kitOne K (.ref u7) (.type "ValueError")=some true
 kt_NoFloor_0:kitAny K (.ref u7) [.ref u10,.ref u4,.ref u8,.ref u0,.ref u1,.ref u3,.ref u5,.ref u6]=some false
 kt_NoFloor_1:kitAny K (.ref u7) [.ref u9,.ref u11,.ref u12,.ref u13,.ref u14,.ref u15,.ref u16]=some false
 fo_NoPlace:mroIn K u10 (.type "object")=some true
 fb_NoPlace:mroIn K u10 (.type "BaseException")=some true
 fc_NoPlace:PySem.W.findIn K (.ref u10) "__class__"=some (some (.builtin "object.__class__"))
 fg_NoPlace:PySem.W.findIn K (.ref u10) "__getattribute__"=some (some (.builtin "BaseException.__getattribute__"))
 ft_NoPlace:PySem.W.findIn K (.ref u10) "__getattr__"=some none
 m_NoPlace_FloorError:mroIn K u10 (.ref u2)=some true
 k_NoPlace_TooMany:kitOne K (.ref u10) (.ref u17)=some false
 k_NoPlace_NoFloor:kitOne K (.ref u10) (.ref u7)=some false
 k_NoPlace_ValueError:kitOne K (.ref u10) (.type "ValueError")=some true
 kt_NoPlace_0:kitAny K (.ref u10) [.ref u10,.ref u4,.ref u8,.ref u0,.ref u1,.ref u3,.ref u5,.ref u6]=some true
 kt_NoPlace_1:kitAny K (.ref u10) [.ref u9,.ref u11,.ref u12,.ref u13,.ref u14,.ref u15,.ref u16]=some false
 fo_TooMany:mroIn K u17 (.type "object")=some true
 fb_TooMany:mroIn K u17 (.type "BaseException")=some true
 fc_TooMany:PySem.W.findIn K (.ref u17) "__class__"=some (some (.builtin "object.__class__"))
 fg_TooMany:PySem.W.findIn K (.ref u17) "__getattribute__"=some (some (.builtin "BaseException.__getattribute__"))
 ft_TooMany:PySem.W.findIn K (.ref u17) "__getattr__"=some none
 m_TooMany_FloorError:mroIn K u17 (.ref u2)=some true
 k_TooMany_TooMany:kitOne K (.ref u17) (.ref u17)=some true
 k_TooMany_NoFloor:kitOne K (.ref u17) (.ref u7)=some false
 k_TooMany_ValueError:kitOne K (.ref u17) (.type "ValueError")=some true
 kt_TooMany_0:kitAny K (.ref u17) [.ref u10,.ref u4,.ref u8,.ref u0,.ref u1,.ref u3,.ref u5,.ref u6]=some false
 kt_TooMany_1:kitAny K (.ref u17) [.ref u9,.ref u11,.ref u12,.ref u13,.ref u14,.ref u15,.ref u16]=some false
section
variable {K:Frag}{mg:Str->Option Value}{u0 u1 u2 u3 u4 u5 u6 u7 u8 u9 u10 u11 u12 u13 u14 u15 u16 u17:Addr}
theorem Exs.kn(Z:Exs K mg u0 u1 u2 u3 u4 u5 u6 u7 u8 u9 u10 u11 u12 u13 u14 u15 u16 u17):∀c,knX c=true->∃C,mg (Str.ofString c)=some (.ref C):=by
 intro c h;simp only[knX,Bool.or_eq_true,OY]at h;rcases h with (h |h) |h
 . subst h;exact⟨_,Z.a_NoFloor⟩
 . subst h;exact⟨_,Z.a_NoPlace⟩
 . subst h;exact⟨_,Z.a_TooMany⟩
theorem Exs.t_FloorError(Z:Exs K mg u0 u1 u2 u3 u4 u5 u6 u7 u8 u9 u10 u11 u12 u13 u14 u15 u16 u17):Tbl K "FloorError" u2 [.type "ValueError",.type "Exception",.type "BaseException",.type "object"] "ValueError.__new__" Fp:=⟨Z.n_FloorError,.inl Z.q_FloorError,by
 intro c b h;simp only[Fp]at h;by_cases e:c="NoFloor"
 . rw[ξ e]at h;cases h;subst e;exact⟨_,Z.n_NoFloor,.inl Z.q_NoFloor,Z.m_NoFloor_FloorError⟩
 rw[ψ e]at h;by_cases e:c="NoPlace"
 . rw[ξ e]at h;cases h;subst e;exact⟨_,Z.n_NoPlace,.inl Z.q_NoPlace,Z.m_NoPlace_FloorError⟩
 rw[ψ e]at h;by_cases e:c="TooMany"
 . rw[ξ e]at h;cases h;subst e;exact⟨_,Z.n_TooMany,.inl Z.q_TooMany,Z.m_TooMany_FloorError⟩
 rw[ψ e]at h;cases h⟩
theorem Exs.b_TooMany(Z:Exs K mg u0 u1 u2 u3 u4 u5 u6 u7 u8 u9 u10 u11 u12 u13 u14 u15 u16 u17):Bel K (.ref u17) Fj:=⟨by
 intro c b h;simp only[Fj]at h;by_cases e:c="NoFloor"
 . rw[ξ e]at h;cases h;subst e;exact⟨_,Z.n_NoFloor,⟨Z.fo_NoFloor,Z.fb_NoFloor,Z.fc_NoFloor,Z.fg_NoFloor,Z.ft_NoFloor⟩,Z.k_NoFloor_TooMany⟩
 rw[ψ e]at h;by_cases e:c="NoPlace"
 . rw[ξ e]at h;cases h;subst e;exact⟨_,Z.n_NoPlace,⟨Z.fo_NoPlace,Z.fb_NoPlace,Z.fc_NoPlace,Z.fg_NoPlace,Z.ft_NoPlace⟩,Z.k_NoPlace_TooMany⟩
 rw[ψ e]at h;by_cases e:c="TooMany"
 . rw[ξ e]at h;cases h;subst e;exact⟨_,Z.n_TooMany,⟨Z.fo_TooMany,Z.fb_TooMany,Z.fc_TooMany,Z.fg_TooMany,Z.ft_TooMany⟩,Z.k_TooMany_TooMany⟩
 rw[ψ e]at h;cases h⟩
theorem Exs.b_NoFloor(Z:Exs K mg u0 u1 u2 u3 u4 u5 u6 u7 u8 u9 u10 u11 u12 u13 u14 u15 u16 u17):Bel K (.ref u7) Fi:=⟨by
 intro c b h;simp only[Fi]at h;by_cases e:c="NoFloor"
 . rw[ξ e]at h;cases h;subst e;exact⟨_,Z.n_NoFloor,⟨Z.fo_NoFloor,Z.fb_NoFloor,Z.fc_NoFloor,Z.fg_NoFloor,Z.ft_NoFloor⟩,Z.k_NoFloor_NoFloor⟩
 rw[ψ e]at h;by_cases e:c="NoPlace"
 . rw[ξ e]at h;cases h;subst e;exact⟨_,Z.n_NoPlace,⟨Z.fo_NoPlace,Z.fb_NoPlace,Z.fc_NoPlace,Z.fg_NoPlace,Z.ft_NoPlace⟩,Z.k_NoPlace_NoFloor⟩
 rw[ψ e]at h;by_cases e:c="TooMany"
 . rw[ξ e]at h;cases h;subst e;exact⟨_,Z.n_TooMany,⟨Z.fo_TooMany,Z.fb_TooMany,Z.fc_TooMany,Z.fg_TooMany,Z.ft_TooMany⟩,Z.k_TooMany_NoFloor⟩
 rw[ψ e]at h;cases h⟩
theorem Exs.b_ValueError(Z:Exs K mg u0 u1 u2 u3 u4 u5 u6 u7 u8 u9 u10 u11 u12 u13 u14 u15 u16 u17):Bel K (.type "ValueError") Fo:=⟨by
 intro c b h;simp only[Fo]at h;by_cases e:c="NoFloor"
 . rw[ξ e]at h;cases h;subst e;exact⟨_,Z.n_NoFloor,⟨Z.fo_NoFloor,Z.fb_NoFloor,Z.fc_NoFloor,Z.fg_NoFloor,Z.ft_NoFloor⟩,Z.k_NoFloor_ValueError⟩
 rw[ψ e]at h;by_cases e:c="NoPlace"
 . rw[ξ e]at h;cases h;subst e;exact⟨_,Z.n_NoPlace,⟨Z.fo_NoPlace,Z.fb_NoPlace,Z.fc_NoPlace,Z.fg_NoPlace,Z.ft_NoPlace⟩,Z.k_NoPlace_ValueError⟩
 rw[ψ e]at h;by_cases e:c="TooMany"
 . rw[ξ e]at h;cases h;subst e;exact⟨_,Z.n_TooMany,⟨Z.fo_TooMany,Z.fb_TooMany,Z.fc_TooMany,Z.fg_TooMany,Z.ft_TooMany⟩,Z.k_TooMany_ValueError⟩
 rw[ψ e]at h;cases h⟩
theorem Exs.bt_0(Z:Exs K mg u0 u1 u2 u3 u4 u5 u6 u7 u8 u9 u10 u11 u12 u13 u14 u15 u16 u17):BelT K [u10,u4,u8,u0,u1,u3,u5,u6] Ct:=⟨by
 intro c b h;simp only[Ct]at h;by_cases e:c="NoFloor"
 . rw[ξ e]at h;cases h;subst e;exact⟨_,Z.n_NoFloor,⟨Z.fo_NoFloor,Z.fb_NoFloor,Z.fc_NoFloor,Z.fg_NoFloor,Z.ft_NoFloor⟩,Z.kt_NoFloor_0⟩
 rw[ψ e]at h;by_cases e:c="NoPlace"
 . rw[ξ e]at h;cases h;subst e;exact⟨_,Z.n_NoPlace,⟨Z.fo_NoPlace,Z.fb_NoPlace,Z.fc_NoPlace,Z.fg_NoPlace,Z.ft_NoPlace⟩,Z.kt_NoPlace_0⟩
 rw[ψ e]at h;by_cases e:c="TooMany"
 . rw[ξ e]at h;cases h;subst e;exact⟨_,Z.n_TooMany,⟨Z.fo_TooMany,Z.fb_TooMany,Z.fc_TooMany,Z.fg_TooMany,Z.ft_TooMany⟩,Z.kt_TooMany_0⟩
 rw[ψ e]at h;cases h⟩
theorem Exs.bt_1(Z:Exs K mg u0 u1 u2 u3 u4 u5 u6 u7 u8 u9 u10 u11 u12 u13 u14 u15 u16 u17):BelT K [u9,u11,u12,u13,u14,u15,u16] Cs:=⟨by
 intro c b h;simp only[Cs]at h;by_cases e:c="NoFloor"
 . rw[ξ e]at h;cases h;subst e;exact⟨_,Z.n_NoFloor,⟨Z.fo_NoFloor,Z.fb_NoFloor,Z.fc_NoFloor,Z.fg_NoFloor,Z.ft_NoFloor⟩,Z.kt_NoFloor_1⟩
 rw[ψ e]at h;by_cases e:c="NoPlace"
 . rw[ξ e]at h;cases h;subst e;exact⟨_,Z.n_NoPlace,⟨Z.fo_NoPlace,Z.fb_NoPlace,Z.fc_NoPlace,Z.fg_NoPlace,Z.ft_NoPlace⟩,Z.kt_NoPlace_1⟩
 rw[ψ e]at h;by_cases e:c="TooMany"
 . rw[ξ e]at h;cases h;subst e;exact⟨_,Z.n_TooMany,⟨Z.fo_TooMany,Z.fb_TooMany,Z.fc_TooMany,Z.fg_TooMany,Z.ft_TooMany⟩,Z.kt_TooMany_1⟩
 rw[ψ e]at h;cases h⟩
end
theorem zC:FnScope ["thing"] ["thing"] (g3 Z6):=fsc
theorem qR:FnScope ["a","b"] ["a","b"] (g3 W9):=fsc
theorem sc_is_side:FnScope ["n","p","a","b"] ["n","p"] (g3 Z1):=fsc
theorem yZ:FnScope ["n","p"] ["n","p"] (g3 Z0):=fsc
theorem zB:FnScope ["thing"] ["thing"] (g3 Z5):=fsc
theorem z84:FnScope ["thing"] ["thing"] (g3 Ak):=fsc
theorem wT:FnScope ["n"] ["n"] (g3 X7):=fsc
theorem sc_stretch_counts:FnScope ["n","found","length"] ["n"] (g3 Ar):=fsc
theorem sc_at_place:FnScope ["n","k","counts"] ["n","k"] (g3 Z4):=fsc
theorem sc_stretches_at:FnScope ["counts","a","b","k","c","rest","low","high"] ["counts","a","b","k"] (g3 Ap):=fsc
theorem sc_spun:FnScope ["cut","by","n"] ["cut","by"] (g3 W8):=fsc
theorem sc_mirrored:FnScope ["cut","n"] ["cut"] (g3 Z3):=fsc
theorem wS:FnScope ["cut","becomes"] ["cut","becomes"] (g3 X6):=fsc
theorem sc_all_images:FnScope ["cut","straight","over"] ["cut"] (g3 Af):=fsc
theorem sc_least_image:FnScope ["cut","least"] ["cut"] (g3 Aj):=fsc
theorem yj:FnScope ["n"] ["n"] (g3 Y2):=fsc
theorem zS:FnScope ["_law_script","_law_k"] ["_law_script","_law_k"] (g3 Ab):=fsc
theorem za5:FnScope ["_law_found"] ["_law_found"] (g3 Ae):=fsc
theorem sc__law_put_on:FnScope ["_law_n","_law_lines","_law_at","_law_moved"] ["_law_n","_law_lines","_law_at"] (g3 Ai):=fsc
theorem sc__law_glued:FnScope ["_law_cells","_law_n","_law_lines","_law_cell"] ["_law_cells"] (g3 Ad):=fsc
theorem sc__law_ways:FnScope ["_law_most","_law_ways_here","_law_total","_law_k"] ["_law_most"] (g3 Aa):=fsc
theorem za6:FnScope ["_law_p","_law_q"] ["_law_p","_law_q"] (g3 Ac):=fsc
theorem z7q:FnScope ["_law_line","_law_n"] ["_law_line","_law_n"] (g3 Ao):=fsc
theorem sc__law_is_cutting:FnScope ["_law_found","_law_n","_law_lines","_law_k","_law_line"] ["_law_found","_law_n"] (g3 As):=fsc
theorem sc__law_images:FnScope ["_law_cut","_law_n","_law_found","_law_by","_law_sign","_law_lines","_law_a","_law_b","_law_ends"] ["_law_cut"] (g3 Ah):=fsc
theorem sc__law_refused:FnScope ["_law_n","_law_told","e"] ["_law_n"] (g3 An):=fsc
theorem sc__law_refusals:FnScope ["_law_cell","_law_far","_law_bad"] ["_law_cell"] (g3 Aq):=fsc
theorem sc_law:FnScope ["_law_script","_law_cell","_law_n","_law_found","_law_many","_law_k","_law_one","_law_images_here","_law_cut"] ["_law_script"] (g3 N7):=fsc
section
variable {P:Program}{w:World}{K:Frag}{mg:Str->Option Value}{base:Heap}{f:Addr}{fd:FuncData}{u0 u1 u2 u3 u4 u5 u6 u7 u8 u9 u10 u11 u12 u13 u14 u15 u16 u17:Addr}
theorem zA(F:Fun K "is_whole" "is_whole" Z6 f fd)(T:Txt mg)(Z:Exs K mg u0 u1 u2 u3 u4 u5 u6 u7 u8 u9 u10 u11 u12 u13 u14 u15 u16 u17)  : FnOk P w K mg base (CX1 P w) 1 f fd ["thing"] (spD K mg false O9 1):=
 fnD (k:=0) F zC rfl rfl fun cdv A outer s H E hr=>
  (g9 (j8 (S5 (P9 rfl T.isinstance OS (qv 0) (O5 (v:=.ty "int") rfl T.int boot_int rfl)) (O0 (Qk (P9 rfl T.isinstance OS (qv 0) (O5 (v:=.ty "bool") rfl T.bool boot_bool rfl)))))))
theorem qQ(F:Fun K "pair" "pair" W9 f fd)(T:Txt mg)(Z:Exs K mg u0 u1 u2 u3 u4 u5 u6 u7 u8 u9 u10 u11 u12 u13 u14 u15 u16 u17)  : FnOk P w K mg base (CX1 P w) 1 f fd ["a","b"] (spD K mg false Du 2):=
 fnD (k:=0) F qR rfl rfl fun cdv A outer s H E hr=>
  (g9 (j8 (y0n (N9 D7 E1 (qv 0) (qv 1) (o8 _)) (x9 (d8 (qv 0) (d8 (qv 1) e7))) (x9 (d8 (qv 1) (d8 (qv 0) e7))))))
theorem yY(F:Fun K "is_side" "is_side" Z1 f fd)(T:Txt mg)(Z:Exs K mg u0 u1 u2 u3 u4 u5 u6 u7 u8 u9 u10 u11 u12 u13 u14 u15 u16 u17)  : FnOk P w K mg base (CX1 P w) 1 f fd ["n","p"] (spD K mg false Fe 2):=
 fnD (k:=0) F sc_is_side rfl rfl fun cdv A outer s H E hr=>
  (g8 (sA 2 sc_is_side.nd (qI hr (qv 1) e8))
   (g8 (sA 3 sc_is_side.nd (qI hr (qv 1) e8))
   (g8 (z8 (QW.pt (D5 (N9 D7 E1 (qv 2) e8 (o8 _)) (S4 (N9 Yg Oi (qv 3) (qv 0) (o8 _)))))
    (g9 (j8 r6))
    A4)
   (g9 (j8 (Na (J2 (W3 hr.units) W2 (qv 3) (g5 x4 x6 (qv 2) e8) (o8 _)) (O0 (S5 (J2 (W3 hr.units) W2 (qv 2) e8 (o8 _)) (O0 (J2 (W3 hr.units) W2 (qv 3) (g5 v7 v8 (qv 0) e8) (o8 _)))))))))))
theorem z5w(F:Fun K "stretch_counts" "stretch_counts" Ar f fd)(T:Txt mg)(Z:Exs K mg u0 u1 u2 u3 u4 u5 u6 u7 u8 u9 u10 u11 u12 u13 u14 u15 u16 u17)  : FnOk P w K mg base (CX1 P w) 1 f fd ["n"] (spD K mg true U1 1):=
 fnD (k:=0) F sc_stretch_counts rfl rfl fun cdv A outer s H E hr=>
  (g8 (sA 1 sc_stretch_counts.nd (A5 (d8 e8 (d8 e8 e7))))
   (g8 (P8 OX rfl (Mx rfl T.range (d8 e8 (d8 (qv 0) e7))) (g_n (i:=2) sc_stretch_counts.nd rfl (Or.inr rfl))
    (g9 (Bj RU RP RO Z2 Bq Cf (pw 1) (d8 (C4 (Zd rfl) kG rfl T.sum boot_sum (d8 (QE.wk (K3 (E4 (caps:=["found","length"]) (ix:=[1,2]) rfl rfl) (by decide +kernel) rfl (Mx rfl T.range (d8 e8 (d8 (qv 2) e7))) .nil (fun _ _ _=>(g5 Hy Kc (qI hr (qv 1) (qv 0)) (qI hr (qv 1) (g5 v7 v8 (qv 2) (qv 0))))))) e7)) e7))))
   (g9 (Jk (i:=1)))))
theorem zR(F:Fun K "_law_pick" "_law_pick" Ab f fd)(T:Txt mg)(Z:Exs K mg u0 u1 u2 u3 u4 u5 u6 u7 u8 u9 u10 u11 u12 u13 u14 u15 u16 u17)  : FnOk P w K mg base (CX1 P w) 1 f fd ["_law_script","_law_k"] (spD K mg false K9 2):=
 fnD (k:=0) F zS rfl rfl fun cdv A outer s H E hr=>
  (g9 (j8 (qI hr (QE.wk (g5 X4 X2 (QE.wk (My Ti Ss (qv 0) (Cz (qv 1)) (Cz (g5 x4 x6 (qv 1) e8)))) (QE.wk (A5 (d8 e8 e7))))) e8)))
theorem za7(F:Fun K "_law_plain" "_law_plain" Ae f fd)(T:Txt mg)(Z:Exs K mg u0 u1 u2 u3 u4 u5 u6 u7 u8 u9 u10 u11 u12 u13 u14 u15 u16 u17)  : FnOk P w K mg base (CX1 P w) 1 f fd ["_law_found"] (spD K mg false T8 1):=
 fnD (k:=0) F za5 rfl rfl fun cdv A outer s H E hr=>
  (g8 (z8 (C9 (P9 rfl T.isinstance OS (qv 0) (O5 (v:=.ty "bool") rfl T.bool boot_bool rfl)))
    (g9 (j8 r6))
    A4)
   (g9 (j8 (P9 rfl T.isinstance OS (qv 0) (O5 (v:=.ty "int") rfl T.int boot_int rfl)))))
theorem z85(F:Fun K "_law_put_on" "_law_put_on" Ai f fd)(T:Txt mg)(Z:Exs K mg u0 u1 u2 u3 u4 u5 u6 u7 u8 u9 u10 u11 u12 u13 u14 u15 u16 u17)  : FnOk P w K mg base (CX1 P w) 1 f fd ["_law_n","_law_lines","_law_at"] (spD K mg true Am 3):=
 fnD (k:=0) F sc__law_put_on rfl rfl fun cdv A outer s H E hr=>
  (g8 (y4s sc__law_put_on.nd (k:=3) rfl rfl (E4 (caps:=["_law_at"]) (ix:=[2]) rfl rfl) (by decide +kernel) rfl rfl (N8 (qv 1)) .nil (fun _ _ _=>(x9 (d8 (g5 x4 x6 (qv 0) (W0 Oj Qi rfl T.int boot_int (d8 (J2 Fx Jl (qv 0) (qv 2) (o8 _)) e7))) (d8 (g5 x4 x6 (qv 1) (W0 Oj Qi rfl T.int boot_int (d8 (J2 Fx Jl (qv 1) (qv 2) (o8 _)) e7))) e7)))))
   (g8 (z8 (tE hr (qv 2) (g5 v7 v8 (qv 0) e8) (o8 _))
    (g9 (j8 (g5 X4 X2 (qv 3) (QE.wk (A5 (d8 (x9 (d8 e8 (d8 (g5 v7 v8 (qv 0) e8) e7))) e7))))))
    A4)
   (g9 (j8 (g5 X4 X2 (qv 3) (QE.wk (A5 (d8 (x9 (d8 (qv 2) (d8 (g5 x4 x6 (qv 2) e8) e7))) e7))))))))
theorem zQ(F:Fun K "_law_ways" "_law_ways" Aa f fd)(T:Txt mg)(Z:Exs K mg u0 u1 u2 u3 u4 u5 u6 u7 u8 u9 u10 u11 u12 u13 u14 u15 u16 u17)  : FnOk P w K mg base (CX1 P w) 1 f fd ["_law_most"] (spD K mg true T6 1):=
 fnD (k:=0) F sc__law_ways rfl rfl fun cdv A outer s H E hr=>
  (g8 (sA 1 sc__law_ways.nd (A5 (d8 e8 (d8 e8 e7))))
   (g8 (Sr (n:=1000) OX (N9 V1 W4 (qL T.len (qv 1)) (qv 0) (o8 _))
    (g8 (sA 2 sc__law_ways.nd e8)
   (g8 (P8 OX rfl (Mx rfl T.range (d8 e8 (d8 (qL T.len (qv 1)) e7))) (g_n (i:=3) sc__law_ways.nd rfl (Or.inl rfl))
    (g9 (sA 2 sc__law_ways.nd (g5 x4 x6 (qv 2) (g5 Hh Jn (qI hr (qv 1) (qv 3)) (qI hr (qv 1) (Xn Ov Qm (qv 3))))))))
   (g9 (Bj RU RP RO Z2 Bq Cf (pw 1) (d8 (qv 2) e7))))))
   (g9 (Jk (i:=1)))))
theorem za8(F:Fun K "_law_cross" "_law_cross" Ac f fd)(T:Txt mg)(Z:Exs K mg u0 u1 u2 u3 u4 u5 u6 u7 u8 u9 u10 u11 u12 u13 u14 u15 u16 u17)  : FnOk P w K mg base (CX1 P w) 1 f fd ["_law_p","_law_q"] (spD K mg false Fn 2):=
 fnD (k:=0) F za6 rfl rfl fun cdv A outer s H E hr=>
  (g9 (j8 (Na (Bk (qI hr (qv 0) e8) (Q4 D7 E1 (qI hr (qv 1) e8) (Q4 D7 E1 (qI hr (qv 0) e8) (Br D7 E1 (qI hr (qv 1) e8))))) (O0 (Bk (qI hr (qv 1) e8) (Q4 D7 E1 (qI hr (qv 0) e8) (Q4 D7 E1 (qI hr (qv 1) e8) (Br D7 E1 (qI hr (qv 0) e8)))))))))
theorem z86(F:Fun K "_law_images" "_law_images" Ah f fd)(T:Txt mg)(Z:Exs K mg u0 u1 u2 u3 u4 u5 u6 u7 u8 u9 u10 u11 u12 u13 u14 u15 u16 u17)  : FnOk P w K mg base (CX1 P w) 1 f fd ["_law_cut"] (spD K mg true L0 1):=
 fnD (k:=0) F sc__law_images rfl rfl fun cdv A outer s H E hr=>
  (g8 (sA 1 sc__law_images.nd (qI hr (qv 0) e8))
   (g8 (sA 2 sc__law_images.nd jX)
   (g8 (P8 OX rfl (Q9 rfl T.range (d8 (qv 1) e7)) (g_n (i:=3) sc__law_images.nd rfl (Or.inl rfl))
    (g9 (P8 OX rfl (N8 (QE.wk (A5 (d8 e8 (d8 (Xn Ov Qm e8) e7))))) (g_n (i:=4) sc__law_images.nd rfl (Or.inl rfl))
    (g8 (sA 5 sc__law_images.nd (A5 e7))
   (g8 (P8 OX rfl (N8 (qI hr (qv 0) e8)) (g_t rfl (Y1 (i:=6) sc__law_images.nd rfl (Or.inl rfl) (Y1 (i:=7) sc__law_images.nd rfl (Or.inl rfl) Ji)))
    (g8 (sA 8 sc__law_images.nd (A5 (d8 (g5 G3 G5 (g5 x4 x6 (g5 Hh Jn (qv 4) (qv 6)) (qv 3)) (qv 1)) (d8 (g5 G3 G5 (g5 x4 x6 (g5 Hh Jn (qv 4) (qv 7)) (qv 3)) (qv 1)) e7))))
   (g9 (Bj RU RP RO Z2 Bq Cf (pw 5) (d8 (x9 (d8 (C4 (kB rfl) vK rfl T.«min» boot_min (d8 (qv 8) e7)) (d8 (C4 (kC rfl) vL rfl T.«max» boot_max (d8 (qv 8) e7)) e7))) e7)))))
   (g9 (jY hr.units (pw 2) (x9 (d8 (qv 1) (d8 (W0 Ey Ew rfl T.tuple boot_tuple (d8 (QE.wk (C4 (Bz rfl hr.units) Ck rfl T.sorted boot_sorted (d8 (qv 5) e7))) e7)) e7))) r6)))))))
   (g9 (j8 (C4 (qV rfl hr.units) wV rfl T.sorted boot_sorted (d8 (qv 2) e7)))))))
theorem yX(F:Fun K "is_line" "is_line" Z0 f fd)(T:Txt mg)(Z:Exs K mg u0 u1 u2 u3 u4 u5 u6 u7 u8 u9 u10 u11 u12 u13 u14 u15 u16 u17)(bZ:g4 P w K mg base "is_side" ["n","p"] 1 (spD K mg false Fe 2)):FnOk P w K mg base (CX1 P w) 2 f fd ["n","p"] (spD K mg false Fd 2):=
 fnD (k:=1) F yZ rfl rfl fun cdv A outer s H E hr=>
  (g9 (j8 (S5 (Bk e8 (Q4 V1 W4 (qI hr (qv 1) e8) (Q4 D7 E1 (qI hr (qv 1) e8) (Br D7 E1 (qv 0))))) (O0 (Qk (j6 m9 bZ hr rfl (d8 (qv 0) (d8 (qv 1) e7))))))))
theorem zz(F:Fun K "is_floor" "is_floor" Z5 f fd)(T:Txt mg)(Z:Exs K mg u0 u1 u2 u3 u4 u5 u6 u7 u8 u9 u10 u11 u12 u13 u14 u15 u16 u17)(aN:g4 P w K mg base "is_whole" ["thing"] 1 (spD K mg false O9 1)):FnOk P w K mg base (CX1 P w) 2 f fd ["thing"] (spD K mg false O8 1):=
 fnD (k:=1) F zB rfl rfl fun cdv A outer s H E hr=>
  (g9 (j8 (S5 (j6 m9 aN hr rfl (d8 (qv 0) e7)) (O0 (Bk e8 (Q4 V1 W4 (qv 0) (Br V1 W4 e8)))))))
theorem wR(F:Fun K "image" "image" X6 f fd)(T:Txt mg)(Z:Exs K mg u0 u1 u2 u3 u4 u5 u6 u7 u8 u9 u10 u11 u12 u13 u14 u15 u16 u17)(dS:g4 P w K mg base "pair" ["a","b"] 1 (spD K mg false Du 2)):FnOk P w K mg base (CX1 P w) 2 f fd ["cut","becomes"] (spD K mg false Q5 2):=
 fnD (k:=1) F wS rfl rfl fun cdv A outer s H E hr=>
  (g9 (j8 (x9 (d8 (qI hr (qv 0) e8) (d8 (W0 Ey Ew rfl T.tuple boot_tuple (d8 (QE.wk (C4 (Bz rfl hr.units) Ck rfl T.sorted boot_sorted (d8 (QE.wk (y4q (E4 (caps:=["becomes"]) (ix:=[1]) rfl rfl) (by decide +kernel) rfl rfl (N8 (qI hr (qv 0) e8)) .nil (fun _ _ _=>(j6 K4 dS hr rfl (d8 (qI hr (qv 2) (qv 0)) (d8 (qI hr (qv 2) (qv 1)) e7)))))) e7))) e7)) e7)))))
theorem za9(F:Fun K "_law_glued" "_law_glued" Ad f fd)(T:Txt mg)(Z:Exs K mg u0 u1 u2 u3 u4 u5 u6 u7 u8 u9 u10 u11 u12 u13 u14 u15 u16 u17)(bg:g4 P w K mg base "_law_put_on" ["_law_n","_law_lines","_law_at"] 1 (spD K mg true Am 3)):FnOk P w K mg base (CX1 P w) 2 f fd ["_law_cells"] (spD K mg false T7 1):=
 fnD (k:=1) F sc__law_glued rfl rfl fun cdv A outer s H E hr=>
  (g8 (sA 1 sc__law_glued.nd e8)
   (g8 (sA 2 sc__law_glued.nd (A5 e7))
   (g8 (P8 OX rfl (N8 (qv 0)) (g_n (i:=3) sc__law_glued.nd rfl (Or.inl rfl))
    (g8 (sA 2 sc__law_glued.nd (j6 m9 bg hr rfl (d8 (qv 1) (d8 (qv 2) (d8 (g5 G3 G5 (qv 3) (qv 1)) e7)))))
   (g9 (sA 1 sc__law_glued.nd (g5 x4 x6 (qv 1) e8)))))
   (g9 (j8 (x9 (d8 (qv 1) (d8 (W0 Ey Ew rfl T.tuple boot_tuple (d8 (QE.wk (C4 (Bz rfl hr.units) Ck rfl T.sorted boot_sorted (d8 (qv 2) e7))) e7)) e7))))))))
theorem z7r(F:Fun K "_law_is_line" "_law_is_line" Ao f fd)(T:Txt mg)(Z:Exs K mg u0 u1 u2 u3 u4 u5 u6 u7 u8 u9 u10 u11 u12 u13 u14 u15 u16 u17)(av:g4 P w K mg base "_law_plain" ["_law_found"] 1 (spD K mg false T8 1)):FnOk P w K mg base (CX1 P w) 2 f fd ["_law_line","_law_n"] (spD K mg false Fq 2):=
 fnD (k:=1) F z7q rfl rfl fun cdv A outer s H E hr=>
  (g8 (z8 (QW.pt (D5 (G0 (C9 (P9 rfl T.isinstance OS (qv 0) (O5 (v:=.ty "tuple") rfl T.tuple boot_tuple rfl)))) (D5 (tN hr (qL T.len (qv 0)) e8 (o8 _)) (D5 (G0 (C9 (j6 m9 av hr rfl (d8 (qI hr (qv 0) e8) e7)))) (S4 (G0 (C9 (j6 m9 av hr rfl (d8 (qI hr (qv 0) e8) e7)))))))))
    (g9 (j8 r6))
    A4)
   (g9 (j8 (S5 (J2 V1 W4 e8 (qI hr (qv 0) e8) (o8 _)) (S5 (Bk (g5 x4 x6 (qI hr (qv 0) e8) e8) (Q4 D7 E1 (qI hr (qv 0) e8) (Br D7 E1 (qv 1)))) (O0 (J2 (Oh hr.units) Og (qv 0) (x9 (d8 e8 (d8 (g5 v7 v8 (qv 1) e8) e7))) (o8 _))))))))
theorem z87(F:Fun K "check_floor" "check_floor" Ak f fd)(T:Txt mg)(Z:Exs K mg u0 u1 u2 u3 u4 u5 u6 u7 u8 u9 u10 u11 u12 u13 u14 u15 u16 u17)(bM:g4 P w K mg base "is_floor" ["thing"] 2 (spD K mg false O8 1)):FnOk P w K mg base (CX1 P w) 3 f fd ["thing"] (spD K mg false E5 1):=
 fnD (k:=2) F z84 rfl rfl fun cdv A outer s H E hr=>
  (g9 (z8 (G0 (C9 (j6 m9 bM hr rfl (d8 (qv 0) e7))))
   (g9 (Kh (c:="NoFloor") m9 UC rfl rfl Z.a_NoFloor Z.q_NoFloor (d8 Dp e7)))
   A4))
theorem Re(F:FunD K "spun" "spun" W8 dV f fd)(T:Txt mg)(Z:Exs K mg u0 u1 u2 u3 u4 u5 u6 u7 u8 u9 u10 u11 u12 u13 u14 u15 u16 u17)(bi:g4 P w K mg base "image" ["cut","becomes"] 2 (spD K mg false Q5 2)):FnOk P w K mg base (CX1 P w) 3 f fd ["cut","by"] (spD K mg false O2 2):=
 y51 (k:=2) F sc_spun rfl rfl fun cdv A outer s H E hr=>
  (g8 (sA 2 sc_spun.nd (qI hr (qv 0) e8))
   (g9 (j8 (j6 m9 bi hr rfl (d8 (qv 0) (d8 (QE.wk (K3 (E4 (caps:=["n","by"]) (ix:=[2,1]) rfl rfl) (by decide +kernel) rfl (Q9 rfl T.range (d8 (qv 2) e7)) .nil (fun _ _ _=>(g5 G3 G5 (g5 x4 x6 (qv 0) (qv 2)) (qv 1))))) e7))))))
theorem zy(F:Fun K "mirrored" "mirrored" Z3 f fd)(T:Txt mg)(Z:Exs K mg u0 u1 u2 u3 u4 u5 u6 u7 u8 u9 u10 u11 u12 u13 u14 u15 u16 u17)(bi:g4 P w K mg base "image" ["cut","becomes"] 2 (spD K mg false Q5 2)):FnOk P w K mg base (CX1 P w) 3 f fd ["cut"] (spD K mg false Z8 1):=
 fnD (k:=2) F sc_mirrored rfl rfl fun cdv A outer s H E hr=>
  (g8 (sA 1 sc_mirrored.nd (qI hr (qv 0) e8))
   (g9 (j8 (j6 m9 bi hr rfl (d8 (qv 0) (d8 (QE.wk (K3 (E4 (caps:=["n"]) (ix:=[1]) rfl rfl) (by decide +kernel) rfl (Q9 rfl T.range (d8 (qv 1) e7)) .nil (fun _ _ _=>(g5 G3 G5 (g5 v7 v8 (qv 1) (qv 0)) (qv 1))))) e7))))))
theorem z5d(F:Fun K "_law_is_cutting" "_law_is_cutting" As f fd)(T:Txt mg)(Z:Exs K mg u0 u1 u2 u3 u4 u5 u6 u7 u8 u9 u10 u11 u12 u13 u14 u15 u16 u17)(bu:g4 P w K mg base "_law_cross" ["_law_p","_law_q"] 1 (spD K mg false Fn 2))(ba:g4 P w K mg base "_law_is_line" ["_law_line","_law_n"] 2 (spD K mg false Fq 2))(av:g4 P w K mg base "_law_plain" ["_law_found"] 1 (spD K mg false T8 1)):FnOk P w K mg base (CX1 P w) 3 f fd ["_law_found","_law_n"] (spD K mg false At 2):=
 fnD (k:=2) F sc__law_is_cutting rfl rfl fun cdv A outer s H E hr=>
  (g8 (z8 (QW.pt (D5 (G0 (C9 (P9 rfl T.isinstance OS (qv 0) (O5 (v:=.ty "tuple") rfl T.tuple boot_tuple rfl)))) (D5 (tN hr (qL T.len (qv 0)) e8 (o8 _)) (D5 (G0 (C9 (j6 m9 av hr rfl (d8 (qI hr (qv 0) e8) e7)))) (S4 (tN hr (qI hr (qv 0) e8) (qv 1) (o8 _)))))))
    (g9 (j8 r6))
    A4)
   (g8 (sA 2 sc__law_is_cutting.nd (qI hr (qv 0) e8))
   (g8 (z8 (QW.pt (D5 (G0 (C9 (P9 rfl T.isinstance OS (qv 2) (O5 (v:=.ty "tuple") rfl T.tuple boot_tuple rfl)))) (D5 (tN hr (qL T.len (qv 2)) (g5 v7 v8 (qv 1) e8) (o8 _)) (S4 (G0 (C9 (C4 (Ol rfl) Qj rfl T.«all» boot_all (d8 (QE.wk (K3 (E4 (caps:=["_law_n"]) (ix:=[1]) rfl rfl) (by decide +kernel) rfl (N8 (qv 2)) .nil (fun _ _ _=>(j6 K4 ba hr rfl (d8 (qv 0) (d8 (qv 1) e7)))))) e7))))))))
    (g9 (j8 r6))
    A4)
   (g8 (P8 OX rfl (y1z rfl T.enumerate (d8 (qv 2) e7)) (g_t rfl (Y1 (i:=3) sc__law_is_cutting.nd rfl (Or.inl rfl) (Y1 (i:=4) sc__law_is_cutting.nd rfl (Or.inr rfl) Ji)))
    (g9 (z8 (C9 (C4 (Zc rfl) kF rfl T.«any» boot_any (d8 (QE.wk (K3 (E4 (caps:=["_law_line"]) (ix:=[4]) rfl rfl) (by decide +kernel) rfl (N8 (My qi jW (qv 2) Xm (Cz (qv 3)))) .nil (fun _ _ _=>(Na (J2 (y20 hr.units) jQ (qv 1) (qv 0) (o8 _)) (O0 (j6 K4 bu hr rfl (d8 (qv 1) (d8 (qv 0) e7)))))))) e7)))
    (g9 (j8 r6))
    A4)))
   (g9 (j8 r6))))))
theorem wQ(F:Fun K "count" "count" X7 f fd)(T:Txt mg)(Z:Exs K mg u0 u1 u2 u3 u4 u5 u6 u7 u8 u9 u10 u11 u12 u13 u14 u15 u16 u17)(ak:g4 P w K mg base "check_floor" ["thing"] 3 (spD K mg false E5 1))(ar:g4 P w K mg base "stretch_counts" ["n"] 1 (spD K mg true U1 1)):FnOk P w K mg base (CX1 P w) 4 f fd ["n"] (spD K mg false X9 1):=
 fnD (k:=3) F wT rfl rfl fun cdv A outer s H E hr=>
  (g8 (Jj (j6 m9 ak hr rfl (d8 (qv 0) e7)))
   (g9 (j8 (qI hr (QE.wk (j6 m9 ar hr rfl (d8 (qv 0) e7))) (g5 v7 v8 (qv 0) e8)))))
theorem zaa(F:Fun K "all_images" "all_images" Af f fd)(T:Txt mg)(Z:Exs K mg u0 u1 u2 u3 u4 u5 u6 u7 u8 u9 u10 u11 u12 u13 u14 u15 u16 u17)(bN:g4 P w K mg base "mirrored" ["cut"] 3 (spD K mg false Z8 1))(cT:g4 P w K mg base "spun" ["cut","by"] 3 (spD K mg false O2 2))(eG:Xk P w K mg base "spun" ["cut","by"] 3 (spD K mg false O2 2) 1):FnOk P w K mg base (CX1 P w) 4 f fd ["cut"] (spD K mg true Ag 1):=
 fnD (k:=3) F sc_all_images rfl rfl fun cdv A outer s H E hr=>
  (g8 (y4r sc_all_images.nd (k:=1) rfl rfl (E4 (caps:=["cut"]) (ix:=[0]) rfl rfl) (by decide +kernel) rfl (Q9 rfl T.range (d8 (qI hr (qv 0) e8) e7)) .nil (fun _ _ _=>(x9 (d8 (j6 K4 cT hr rfl (d8 (qv 1) (d8 (qv 0) e7))) (d8 r6 (d8 (qv 0) e7))))))
   (g8 (sA 2 sc_all_images.nd (j6 m9 bN hr rfl (d8 (qv 0) e7)))
   (g9 (j8 (g5 X4 X2 (qv 1) (QE.wk (K3 (E4 (caps:=["over"]) (ix:=[2]) rfl rfl) (by decide +kernel) rfl (Q9 rfl T.range (d8 (qI hr (qv 0) e8) e7)) .nil (fun _ _ _=>(x9 (d8 (j6 K4 cT hr rfl (d8 (qv 1) (d8 (qv 0) e7))) (d8 r6 (d8 (qv 0) e7))))))))))))
theorem z88(F:Fun K "least_image" "least_image" Aj f fd)(T:Txt mg)(Z:Exs K mg u0 u1 u2 u3 u4 u5 u6 u7 u8 u9 u10 u11 u12 u13 u14 u15 u16 u17)(bv:g4 P w K mg base "all_images" ["cut"] 4 (spD K mg true Ag 1)):FnOk P w K mg base (CX1 P w) 5 f fd ["cut"] (spD K mg false Al 1):=
 fnD (k:=4) F sc_least_image rfl rfl fun cdv A outer s H E hr=>
  (g8 (sA 1 sc_least_image.nd (C4 (kc rfl hr.units) vA rfl T.«min» boot_min (d8 (QE.wk (j6 m9 bv hr rfl (d8 (qv 0) e7))) e7)))
   (g9 (j8 (x9 (d8 (qI hr (qv 1) e8) (d8 (qI hr (qv 1) e8) (d8 (qI hr (qv 1) e8) e7)))))))
theorem z7s(F:Fun K "stretches_at" "stretches_at" Ap f fd)(T:Txt mg)(au:g4 P w K mg base "stretches_at" ["counts","a","b","k"] (1+d) (spD K mg true (L9 true 4 4 Cq d) 4))(Z:Exs K mg u0 u1 u2 u3 u4 u5 u6 u7 u8 u9 u10 u11 u12 u13 u14 u15 u16 u17)  : FnOk P w K mg base (CX1 P w) (1+d+1) f fd ["counts","a","b","k"] (spD K mg true (L9 true 4 4 Cq (d+1)) 4):=
 fnD (k:=1+d) F sc_stretches_at rfl rfl fun cdv A outer s H E hr=>
  (g8 (z8 (tE hr (qv 2) (g5 x4 x6 (qv 1) e8) (o8 _))
    (g9 (j8 (A5 (d8 (x9 (d8 (qv 1) (d8 (qv 2) e7))) e7))))
    A4)
   (g8 (sA 4 sc_stretches_at.nd (g5 x4 x6 (qv 1) e8))
   (g8 (sA 5 sc_stretches_at.nd (qv 3))
   (g8 (Sr (n:=1000) OX (N9 Yg Oi (qv 5) (g5 Hy Kc (qI hr (qv 0) (g5 v7 v8 (qv 4) (qv 1))) (qI hr (qv 0) (g5 v7 v8 (qv 2) (qv 4)))) (o8 _))
    (g8 (Pr (g:=fun a b=>a - b) (i:=5) qp sc_stretches_at.nd rfl (Or.inl rfl) (g5 Hy Kc (qI hr (qv 0) (g5 v7 v8 (qv 4) (qv 1))) (qI hr (qv 0) (g5 v7 v8 (qv 2) (qv 4)))))
   (g9 (Pr (g:=fun a b=>a+b) (i:=4) qq sc_stretches_at.nd rfl (Or.inl rfl) e8))))
   (g8 (sA 6 sc_stretches_at.nd (Nt (Tz _) m9 au hr rfl (d8 (qv 0) (d8 (qv 1) (d8 (qv 4) (d8 (g5 vx vw (qv 5) (qI hr (qv 0) (g5 v7 v8 (qv 2) (qv 4)))) e7))))))
   (g8 (sA 7 sc_stretches_at.nd (Nt (Tz _) m9 au hr rfl (d8 (qv 0) (d8 (qv 4) (d8 (qv 2) (d8 (g5 G3 G5 (qv 5) (qI hr (qv 0) (g5 v7 v8 (qv 2) (qv 4)))) e7))))))
   (g9 (j8 (g5 X4 X2 (QE.wk (g5 X4 X2 (QE.wk (A5 (d8 (x9 (d8 (qv 1) (d8 (qv 2) e7))) e7))) (qv 6))) (qv 7))))))))))
theorem zx(F:Fun K "at_place" "at_place" Z4 f fd)(T:Txt mg)(Z:Exs K mg u0 u1 u2 u3 u4 u5 u6 u7 u8 u9 u10 u11 u12 u13 u14 u15 u16 u17)(ak:g4 P w K mg base "check_floor" ["thing"] 3 (spD K mg false E5 1))(ce:g4 P w K mg base "is_line" ["n","p"] 2 (spD K mg false Fd 2))(aN:g4 P w K mg base "is_whole" ["thing"] 1 (spD K mg false O9 1))(ar:g4 P w K mg base "stretch_counts" ["n"] 1 (spD K mg true U1 1))(au:g4 P w K mg base "stretches_at" ["counts","a","b","k"] 65 (spD K mg true Cp 4)):FnOk P w K mg base (CX1 P w) 66 f fd ["n","k"] (spD K mg false Z7 2):=
 fnD (k:=65) F sc_at_place rfl rfl fun cdv A outer s H E hr=>
  (g8 (Jj (j6 m9 ak hr rfl (d8 (qv 0) e7)))
   (g8 (sA 2 sc_at_place.nd (j6 m9 ar hr rfl (d8 (qv 0) e7)))
   (g8 (z8 (QW.pt (D5 (G0 (C9 (j6 m9 aN hr rfl (d8 (qv 1) e7)))) (S4 (G0 (y0p e8 (vN V1 W4 (qv 1) (vO D7 E1 (qI hr (qv 2) (g5 v7 v8 (qv 0) e8)))))))))
    (g9 (Kh (c:="NoPlace") m9 UC rfl rfl Z.a_NoPlace Z.q_NoPlace (d8 Dp e7)))
    A4)
   (g9 (j8 (x9 (d8 (qv 0) (d8 (W0 Ey Ew rfl T.tuple boot_tuple (d8 (QE.wk (C4 (Bz rfl hr.units) Ck rfl T.sorted boot_sorted (d8 (QE.wk (K3 (E4 (caps:=["n"]) (ix:=[0]) rfl rfl) (by decide +kernel) rfl (N8 (QE.wk (j6 m9 au hr rfl (d8 (qv 2) (d8 e8 (d8 (g5 v7 v8 (qv 0) e8) (d8 (qv 1) e7))))))) (.one fun _ _ _=>(C9 (j6 K4 ce hr rfl (d8 (qv 1) (d8 (qv 0) e7))))) (fun _ _ _=>(qv 0)))) e7))) e7)) e7))))))))
theorem yi(F:Fun K "unlike" "unlike" Y2 f fd)(T:Txt mg)(Z:Exs K mg u0 u1 u2 u3 u4 u5 u6 u7 u8 u9 u10 u11 u12 u13 u14 u15 u16 u17)(bO:g4 P w K mg base "at_place" ["n","k"] 66 (spD K mg false Z7 2))(ak:g4 P w K mg base "check_floor" ["thing"] 3 (spD K mg false E5 1))(cV:g4 P w K mg base "count" ["n"] 4 (spD K mg false X9 1))(bh:g4 P w K mg base "least_image" ["cut"] 5 (spD K mg false Al 1)):FnOk P w K mg base (CX1 P w) 67 f fd ["n"] (spD K mg true A7 1):=
 fnD (k:=66) F yj rfl rfl fun cdv A outer s H E hr=>
  (g8 (Jj (j6 m9 ak hr rfl (d8 (qv 0) e7)))
   (g8 (z8 (N9 Fx Jl (qv 0) e8 (o8 _))
    (g9 (Kh (c:="TooMany") m9 UC rfl rfl Z.a_TooMany Z.q_TooMany (d8 Dp e7)))
    A4)
   (g9 (j8 (za rfl hr.units rfl T.sorted boot_sorted rfl T.set PyProof.Rows.Boot.«set» (d8 (QE.wk (K3 (E4 (caps:=["n"]) (ix:=[0]) rfl rfl) (by decide +kernel) rfl (Q9 rfl T.range (d8 (j6 m9 cV hr rfl (d8 (qv 0) e7)) e7)) .nil (fun _ _ _=>(qI hr (j6 K4 bh hr rfl (d8 (j6 K4 bO hr rfl (d8 (qv 1) (d8 (qv 0) e7))) e7)) e8)))) e7))))))
theorem z7t(F:Fun K "_law_refused" "_law_refused" An f fd)(T:Txt mg)(Z:Exs K mg u0 u1 u2 u3 u4 u5 u6 u7 u8 u9 u10 u11 u12 u13 u14 u15 u16 u17)(bf:g4 P w K mg base "unlike" ["n"] 67 (spD K mg true A7 1)):FnOk P w K mg base (CX1 P w) 68 f fd ["_law_n"] (spD K mg true T9 1):=
 fnD (k:=67) F sc__law_refused rfl rfl fun cdv A outer s H E hr=>
  (g8 (sA 1 sc__law_refused.nd (A5 e7))
   (g8 (y0x rfl rfl (ku (k:=knX) Z.kn bf hr rfl (d8 (qv 0) e7))
    (y4t (tb:=Fp) (i:=2) Z.t_FloorError (by decide) rfl sc__law_refused.nd rfl rfl (fun _=>(g8 (sA 1 sc__law_refused.nd (A5 (d8 (Gq (tb:=Fo) rfl T.isinstance OS (qv 2) (O5 (v:=.ty "ValueError") rfl T.ValueError PyProof.Rows.Boot.«ValueError» rfl) (.inr ⟨_,rfl,rfl⟩) Z.b_ValueError) (d8 (Gq (tb:=Fi) rfl T.isinstance OS (qv 2) (y9 (v:=.ref u7) rfl Z.a_NoFloor rfl) (.inl ⟨_,rfl,rfl⟩) Z.b_NoFloor) (d8 (Gq (tb:=Fj) rfl T.isinstance OS (qv 2) (y9 (v:=.ref u17) rfl Z.a_TooMany rfl) (.inl ⟨_,rfl,rfl⟩) Z.b_TooMany) e7)))))
   (g8 (Bj RU RP RO Z2 Bq Cf (pw 1) (d8 (Px (tb:=Ct) rfl T.isinstance OS (qv 2) (.cons (y9 (v:=.ref u10) rfl Z.a_NoPlace rfl) (.cons (y9 (v:=.ref u4) rfl Z.a_NoCorner rfl) (.cons (y9 (v:=.ref u8) rfl Z.a_NoLine rfl) (.cons (y9 (v:=.ref u0) rfl Z.a_Crossed rfl) (.cons (y9 (v:=.ref u1) rfl Z.a_Fallen rfl) (.cons (y9 (v:=.ref u3) rfl Z.a_NoBand rfl) (.cons (y9 (v:=.ref u5) rfl Z.a_NoDeed rfl) (.cons (y9 (v:=.ref u6) rfl Z.a_NoEar rfl) .nil rfl) rfl) rfl) rfl) rfl) rfl) rfl) rfl) (Nat.le_of_ble_eq_true rfl) Z.bt_0) e7))
   (g9 (Bj RU RP RO Z2 Bq Cf (pw 1) (d8 (Px (tb:=Cs) rfl T.isinstance OS (qv 2) (.cons (y9 (v:=.ref u9) rfl Z.a_NoName rfl) (.cons (y9 (v:=.ref u11) rfl Z.a_NoQuotient rfl) (.cons (y9 (v:=.ref u12) rfl Z.a_NoRow rfl) (.cons (y9 (v:=.ref u13) rfl Z.a_NoText rfl) (.cons (y9 (v:=.ref u14) rfl Z.a_NoTurn rfl) (.cons (y9 (v:=.ref u15) rfl Z.a_NotAlike rfl) (.cons (y9 (v:=.ref u16) rfl Z.a_NotFull rfl) .nil rfl) rfl) rfl) rfl) rfl) rfl) rfl) (Nat.le_of_ble_eq_true rfl) Z.bt_1) e7)))))) y0y))
   (g9 (Jk (i:=1)))))
theorem z6f(F:Fun K "_law_refusals" "_law_refusals" Aq f fd)(T:Txt mg)(Z:Exs K mg u0 u1 u2 u3 u4 u5 u6 u7 u8 u9 u10 u11 u12 u13 u14 u15 u16 u17)(aJ:g4 P w K mg base "_law_refused" ["_law_n"] 68 (spD K mg true T9 1)):FnOk P w K mg base (CX1 P w) 69 f fd ["_law_cell"] (spD K mg false U0 1):=
 fnD (k:=68) F sc__law_refusals rfl rfl fun cdv A outer s H E hr=>
  (g8 (sA 1 sc__law_refusals.nd (g5 G3 G5 (g5 Jp Jm (qv 0) e8) (g5 Zj kL e8 e8)))
   (g8 (sA 2 sc__law_refusals.nd (qI hr (QE.wk (A5 (d8 e8 (d8 e8 (d8 (g5 v7 v8 e8 (qv 1)) (d8 (g5 x4 x6 e8 (qv 1)) (d8 r6 (d8 y0m (d8 Dp (d8 (x9 (d8 e8 e7)) (d8 e8 e7))))))))))) (g5 G3 G5 (qv 0) e8)))
   (g8 (z8 (tN hr (QE.wk (j6 m9 aJ hr rfl (d8 (qv 2) e7))) (QE.wk (A5 (d8 r6 (d8 r6 (d8 r6 (d8 r6 (d8 r6 e7))))))) (o8 _))
    (g9 (j8 r6))
    A4)
   (g9 (j8 (J2 (W3 hr.units) W2 (QE.wk (j6 m9 aJ hr rfl (d8 (g5 x4 x6 e8 (g5 G3 G5 (g5 Jp Jm (qv 0) e8) e8)) e7))) (QE.wk (A5 (d8 r6 (d8 r6 (d8 r6 (d8 r6 (d8 r6 e7))))))) (o8 _)))))))
theorem jE(F:Fun K "law" "law" N7 f fd)(T:Txt mg)(Z:Exs K mg u0 u1 u2 u3 u4 u5 u6 u7 u8 u9 u10 u11 u12 u13 u14 u15 u16 u17)(bw:g4 P w K mg base "_law_glued" ["_law_cells"] 2 (spD K mg false T7 1))(aO:g4 P w K mg base "_law_images" ["_law_cut"] 1 (spD K mg true L0 1))(aK:g4 P w K mg base "_law_is_cutting" ["_law_found","_law_n"] 3 (spD K mg false At 2))(aP:g4 P w K mg base "_law_pick" ["_law_script","_law_k"] 1 (spD K mg false K9 2))(aR:g4 P w K mg base "_law_refusals" ["_law_cell"] 69 (spD K mg false U0 1))(bG:g4 P w K mg base "_law_ways" ["_law_most"] 1 (spD K mg true T6 1))(bf:g4 P w K mg base "unlike" ["n"] 67 (spD K mg true A7 1)):FnOk P w K mg base (CX1 P w) 70 f fd ["_law_script"] (spD K mg false V3 1):=
 fnD (k:=69) F sc_law rfl rfl fun cdv A outer s H E hr=>
  (g8 (sA 1 sc_law.nd (j6 m9 aP hr rfl (d8 (qv 0) (d8 e8 e7))))
   (g8 (z8 (tE hr (g5 G3 G5 (j6 m9 aP hr rfl (d8 (qv 0) (d8 e8 e7))) e8) e8 (o8 _))
    (g9 (j8 (j6 m9 aR hr rfl (d8 (qv 1) e7))))
    A4)
   (g8 (sA 2 sc_law.nd (g5 x4 x6 e8 (g5 G3 G5 (g5 Jp Jm (qv 1) e8) e8)))
   (g8 (z8 (tE hr (g5 G3 G5 (qv 1) e8) e8 (o8 _))
    (g9 (sA 2 sc_law.nd e8))
    A4)
   (g8 (sA 3 sc_law.nd (j6 m9 bf hr rfl (d8 (qv 2) e7)))
   (g8 (z8 (QW.pt (D5 (G0 (C9 (P9 rfl T.isinstance OS (qv 3) (O5 (v:=.ty "list") rfl T.list boot_list rfl)))) (S4 (G0 (C9 (C4 (Ol rfl) Qj rfl T.«all» boot_all (d8 (QE.wk (K3 (E4 (caps:=["_law_n"]) (ix:=[2]) rfl rfl) (by decide +kernel) rfl (N8 (qv 3)) .nil (fun _ _ _=>(j6 K4 aK hr rfl (d8 (qv 0) (d8 (qv 1) e7)))))) e7)))))))
    (g9 (j8 r6))
    A4)
   (g8 (sA 4 sc_law.nd e8)
   (g8 (P8 OX rfl (y4p rfl T.enumerate (d8 (qv 3) e7)) (g_t rfl (Y1 (i:=5) sc_law.nd rfl (Or.inl rfl) (Y1 (i:=6) sc_law.nd rfl (Or.inl rfl) Ji)))
    (g8 (sA 7 sc_law.nd (j6 m9 aO hr rfl (d8 (qv 6) e7)))
   (g8 (z8 (QW.pt (D5 (tN hr (qI hr (qv 7) e8) (qv 6) (o8 _)) (D5 (N9 (Of hr.units) Oe (qv 6) (QE.wk (My Ti Ss (qv 3) Xm (Cz (qv 5)))) (by with_unfolding_all rfl)) (S4 (tN hr (qv 6) (qI hr (QE.wk (C4 (Bz rfl hr.units) Ck rfl T.sorted boot_sorted (d8 (qv 3) e7))) (qv 5)) (o8 _))))))
    (g9 (j8 r6))
    A4)
   (g9 (sA 4 sc_law.nd (g5 x4 x6 (qv 4) (qL T.len (qv 7))))))))
   (g8 (sA 8 sc_law.nd (j6 m9 bw hr rfl (d8 (QE.wk (K3 (E4 (caps:=["_law_script"]) (ix:=[0]) rfl rfl) (by decide +kernel) rfl (Q9 rfl T.range (d8 (g5 v7 v8 (qv 2) e8) e7)) .nil (fun _ _ _=>(j6 K4 aP hr rfl (d8 (qv 1) (d8 (g5 x4 x6 e8 (qv 0)) e7)))))) e7)))
   (g9 (j8 (S5 (J2 (W3 hr.units) W2 (qv 4) (qI hr (QE.wk (j6 m9 bG hr rfl (d8 (g5 v7 v8 (qv 2) e8) e7))) (g5 v7 v8 (qv 2) e8)) (o8 _)) (O0 (J2 (Of hr.units) Oe (qI hr (QE.wk (j6 m9 aO hr rfl (d8 (qv 8) e7))) e8) (qv 3) (by with_unfolding_all rfl)))))))))))))))
end
theorem B8(h:us.length=1):∃a0,us=[a0]:=by
 rcases us with _ |⟨a0,us⟩
 . cases h
 cases us with
 |nil=>exact⟨a0,rfl⟩
 |cons _ _=>simp at h
theorem N6(h:us.length=2):∃a0 a1,us=[a0,a1]:=by
 rcases us with _ |⟨a0,us⟩
 . cases h
 rcases us with _ |⟨a1,us⟩
 . cases h
 cases us with
 |nil=>exact⟨a0,a1,rfl⟩
 |cons _ _=>simp at h
theorem y29(h:us.length=3):∃a0 a1 a2,us=[a0,a1,a2]:=by
 rcases us with _ |⟨a0,us⟩
 . cases h
 rcases us with _ |⟨a1,us⟩
 . cases h
 rcases us with _ |⟨a2,us⟩
 . cases h
 cases us with
 |nil=>exact⟨a0,a1,a2,rfl⟩
 |cons _ _=>simp at h
theorem y2a(h:us.length=4):∃a0 a1 a2 a3,us=[a0,a1,a2,a3]:=by
 rcases us with _ |⟨a0,us⟩
 . cases h
 rcases us with _ |⟨a1,us⟩
 . cases h
 rcases us with _ |⟨a2,us⟩
 . cases h
 rcases us with _ |⟨a3,us⟩
 . cases h
 cases us with
 |nil=>exact⟨a0,a1,a2,a3,rfl⟩
 |cons _ _=>simp at h
theorem all_mk{l:PySem.W.OpenLaw}{w:World}{K:Frag}{h:Heap}{mg:Str->Option Value}{fa:Addr}(X:K.In h)(G:h.Ns mainGlobals mg)(HK:mg "law"=some (.ref fa))
  {f0:Addr} {HL HM:Option Addr} {HN:Array (Option Value)} {HP HQ HR HS BQ HU:Value}
  {f1:Addr} {HV HW:Option Addr} {HX:Array (Option Value)} {HY HZ Ia Ib BR Ic:Value}
  {f2:Addr} {Ie Ig:Option Addr} {eT:Array (Option Value)} {Ih Ii Ij Ik BS Il:Value}
  {f3:Addr} {Im Io:Option Addr} {nH:Array (Option Value)} {Ip Iq Ir Is BU Iu:Value}
  {f4:Addr} {Iv Iw:Option Addr} {Ix:Array (Option Value)} {Iy Iz IA IB BV IC:Value}
  {f5:Addr} {ID IE:Option Addr} {IF:Array (Option Value)} {IG IH II IJ BW IL:Value}
  {f6:Addr} {IM IN:Option Addr} {IP:Array (Option Value)} {IQ IS IT IU BX IV:Value}
  {f7:Addr} {IW IX:Option Addr} {IY:Array (Option Value)} {IZ JA JB JC BY JD:Value}
  {f8:Addr} {JE JF:Option Addr} {JG:Array (Option Value)} {JH JI JJ JK BZ JL:Value}
  {f9:Addr} {JM JN:Option Addr} {JO:Array (Option Value)} {JP JQ JR JS CA JT:Value}
  {iU:Addr} {pO pP:Option Addr} {pQ:Array (Option Value)} {pR pS pT pU lX pV:Value}
  {iV:Addr} {pW pX:Option Addr} {pY:Array (Option Value)} {pZ rf rg rh lY rn:Value}
  {iW:Addr} {rp rq:Option Addr} {rz:Array (Option Value)} {rA rB rC rD ma rE:Value}
  {iX:Addr} {rF rG:Option Addr} {rH:Array (Option Value)} {rJ rK rL rM me rN:Value}
  {iY:Addr} {rO rP:Option Addr} {rQ:Array (Option Value)} {rR rS rT rV mf rW:Value}
  {iZ:Addr} {rX rY:Option Addr} {rZ:Array (Option Value)} {sd sf sg si mh sj:Value}
  {ik:Addr} {sk sq:Option Addr} {sr:Array (Option Value)} {ss sv sw sB mi sC:Value}
  {CB:Addr} {sD:Value} {sE:Option Addr} {sF:Nat} {sG:Array (Option Value)} {gq:Tok}
  {lc:Addr} {sI sJ:Option Addr} {sK:Array (Option Value)} {sL sM sN sO mj sP:Value}
  {lf:Addr} {sQ sR:Option Addr} {sS:Array (Option Value)} {sT sU sV sW ml sX:Value}
  {lg:Addr} {sY sZ:Option Addr} {td:Array (Option Value)} {tf tj tu tv mn tw:Value}
  {lh:Addr} {tz tD:Option Addr} {tF:Array (Option Value)} {tG tH tI tJ mo tK:Value}
  {li:Addr} {tL tM:Option Addr} {tO:Array (Option Value)} {tP tQ tR tS mq tT:Value}
  {oK:Addr} {tU tV:Option Addr} {tW:Array (Option Value)} {tX tY tZ ua mv ub:Value}
  {lj:Addr} {uc ud:Option Addr} {ue:Array (Option Value)} {uf ug uh ui mw uj:Value}
  {ll:Addr} {uk ul:Option Addr} {um:Array (Option Value)} {uo uq ur ut mx uu:Value}
  {lm:Addr} {uv uw:Option Addr} {ux:Array (Option Value)} {uz uA uB uC my uD:Value}
  {ln:Addr} {uE uF:Option Addr} {uG:Array (Option Value)} {uH uI uJ uK mz uL:Value}
  {oM:Addr} {uM mB:Option Addr} {uN:Array (Option Value)} {uO mC mD mE gr mF:Value}
  {u0 u1 u2 u3 u4 u5 u6 u7 u8 u9 u10 u11 u12 u13 u14 u15 u16 u17:Addr}
  (a0:nsIn K mainGlobals "is_whole"=some (some (.ref f0))) (l0:K.lookup f0=some ⟨HP,HL,.func (PySem.W.fnOf "is_whole" "is_whole" (j4 Z6) (i9 Z6) (g3 Z6) .none HQ HR HS HM BQ HU),HN⟩) (c0:codeIn K BQ "is_whole"=true) (k0:keepIn K (.ref f0)=true)
  (a1:nsIn K mainGlobals "pair"=some (some (.ref f1))) (l1:K.lookup f1=some ⟨HY,HV,.func (PySem.W.fnOf "pair" "pair" (j4 W9) (i9 W9) (g3 W9) .none HZ Ia Ib HW BR Ic),HX⟩) (c1:codeIn K BR "pair"=true) (k1:keepIn K (.ref f1)=true)
  (a2:nsIn K mainGlobals "is_side"=some (some (.ref f2))) (l2:K.lookup f2=some ⟨Ih,Ie,.func (PySem.W.fnOf "is_side" "is_side" (j4 Z1) (i9 Z1) (g3 Z1) .none Ii Ij Ik Ig BS Il),eT⟩) (c2:codeIn K BS "is_side"=true) (k2:keepIn K (.ref f2)=true)
  (a3:nsIn K mainGlobals "stretch_counts"=some (some (.ref f3))) (l3:K.lookup f3=some ⟨Ip,Im,.func (PySem.W.fnOf "stretch_counts" "stretch_counts" (j4 Ar) (i9 Ar) (g3 Ar) .none Iq Ir Is Io BU Iu),nH⟩) (c3:codeIn K BU "stretch_counts"=true) (k3:keepIn K (.ref f3)=true)
  (a4:nsIn K mainGlobals "_law_pick"=some (some (.ref f4))) (l4:K.lookup f4=some ⟨Iy,Iv,.func (PySem.W.fnOf "_law_pick" "_law_pick" (j4 Ab) (i9 Ab) (g3 Ab) .none Iz IA IB Iw BV IC),Ix⟩) (c4:codeIn K BV "_law_pick"=true) (k4:keepIn K (.ref f4)=true)
  (a5:nsIn K mainGlobals "_law_plain"=some (some (.ref f5))) (l5:K.lookup f5=some ⟨IG,ID,.func (PySem.W.fnOf "_law_plain" "_law_plain" (j4 Ae) (i9 Ae) (g3 Ae) .none IH II IJ IE BW IL),IF⟩) (c5:codeIn K BW "_law_plain"=true) (k5:keepIn K (.ref f5)=true)
  (a6:nsIn K mainGlobals "_law_put_on"=some (some (.ref f6))) (l6:K.lookup f6=some ⟨IQ,IM,.func (PySem.W.fnOf "_law_put_on" "_law_put_on" (j4 Ai) (i9 Ai) (g3 Ai) .none IS IT IU IN BX IV),IP⟩) (c6:codeIn K BX "_law_put_on"=true) (k6:keepIn K (.ref f6)=true)
  (a7:nsIn K mainGlobals "_law_ways"=some (some (.ref f7))) (l7:K.lookup f7=some ⟨IZ,IW,.func (PySem.W.fnOf "_law_ways" "_law_ways" (j4 Aa) (i9 Aa) (g3 Aa) .none JA JB JC IX BY JD),IY⟩) (c7:codeIn K BY "_law_ways"=true) (k7:keepIn K (.ref f7)=true)
  (a8:nsIn K mainGlobals "_law_cross"=some (some (.ref f8))) (l8:K.lookup f8=some ⟨JH,JE,.func (PySem.W.fnOf "_law_cross" "_law_cross" (j4 Ac) (i9 Ac) (g3 Ac) .none JI JJ JK JF BZ JL),JG⟩) (c8:codeIn K BZ "_law_cross"=true) (k8:keepIn K (.ref f8)=true)
  (a9:nsIn K mainGlobals "_law_images"=some (some (.ref f9))) (l9:K.lookup f9=some ⟨JP,JM,.func (PySem.W.fnOf "_law_images" "_law_images" (j4 Ah) (i9 Ah) (g3 Ah) .none JQ JR JS JN CA JT),JO⟩) (c9:codeIn K CA "_law_images"=true) (k9:keepIn K (.ref f9)=true)
  (a10:nsIn K mainGlobals "is_line"=some (some (.ref iU))) (l10:K.lookup iU=some ⟨pR,pO,.func (PySem.W.fnOf "is_line" "is_line" (j4 Z0) (i9 Z0) (g3 Z0) .none pS pT pU pP lX pV),pQ⟩) (c10:codeIn K lX "is_line"=true) (k10:keepIn K (.ref iU)=true)
  (a11:nsIn K mainGlobals "is_floor"=some (some (.ref iV))) (l11:K.lookup iV=some ⟨pZ,pW,.func (PySem.W.fnOf "is_floor" "is_floor" (j4 Z5) (i9 Z5) (g3 Z5) .none rf rg rh pX lY rn),pY⟩) (c11:codeIn K lY "is_floor"=true) (k11:keepIn K (.ref iV)=true)
  (a12:nsIn K mainGlobals "image"=some (some (.ref iW))) (l12:K.lookup iW=some ⟨rA,rp,.func (PySem.W.fnOf "image" "image" (j4 X6) (i9 X6) (g3 X6) .none rB rC rD rq ma rE),rz⟩) (c12:codeIn K ma "image"=true) (k12:keepIn K (.ref iW)=true)
  (a13:nsIn K mainGlobals "_law_glued"=some (some (.ref iX))) (l13:K.lookup iX=some ⟨rJ,rF,.func (PySem.W.fnOf "_law_glued" "_law_glued" (j4 Ad) (i9 Ad) (g3 Ad) .none rK rL rM rG me rN),rH⟩) (c13:codeIn K me "_law_glued"=true) (k13:keepIn K (.ref iX)=true)
  (a14:nsIn K mainGlobals "_law_is_line"=some (some (.ref iY))) (l14:K.lookup iY=some ⟨rR,rO,.func (PySem.W.fnOf "_law_is_line" "_law_is_line" (j4 Ao) (i9 Ao) (g3 Ao) .none rS rT rV rP mf rW),rQ⟩) (c14:codeIn K mf "_law_is_line"=true) (k14:keepIn K (.ref iY)=true)
  (a15:nsIn K mainGlobals "check_floor"=some (some (.ref iZ))) (l15:K.lookup iZ=some ⟨sd,rX,.func (PySem.W.fnOf "check_floor" "check_floor" (j4 Ak) (i9 Ak) (g3 Ak) .none sf sg si rY mh sj),rZ⟩) (c15:codeIn K mh "check_floor"=true) (k15:keepIn K (.ref iZ)=true)
  (a16:nsIn K mainGlobals "spun"=some (some (.ref ik))) (l16:K.lookup ik=some ⟨ss,sk,.func (PySem.W.fnOf "spun" "spun" (j4 W8) (i9 W8) (g3 W8) (.ref CB) sv sw sB sq mi sC),sr⟩) (c16:codeIn K mi "spun"=true) (k16:keepIn K (.ref ik)=true)
  (t16:K.lookup CB=some ⟨sD,sE,.seq #[.int 1 gq] sF,sG⟩)
  (a17:nsIn K mainGlobals "mirrored"=some (some (.ref lc))) (l17:K.lookup lc=some ⟨sL,sI,.func (PySem.W.fnOf "mirrored" "mirrored" (j4 Z3) (i9 Z3) (g3 Z3) .none sM sN sO sJ mj sP),sK⟩) (c17:codeIn K mj "mirrored"=true) (k17:keepIn K (.ref lc)=true)
  (a18:nsIn K mainGlobals "_law_is_cutting"=some (some (.ref lf))) (l18:K.lookup lf=some ⟨sT,sQ,.func (PySem.W.fnOf "_law_is_cutting" "_law_is_cutting" (j4 As) (i9 As) (g3 As) .none sU sV sW sR ml sX),sS⟩) (c18:codeIn K ml "_law_is_cutting"=true) (k18:keepIn K (.ref lf)=true)
  (a19:nsIn K mainGlobals "count"=some (some (.ref lg))) (l19:K.lookup lg=some ⟨tf,sY,.func (PySem.W.fnOf "count" "count" (j4 X7) (i9 X7) (g3 X7) .none tj tu tv sZ mn tw),td⟩) (c19:codeIn K mn "count"=true) (k19:keepIn K (.ref lg)=true)
  (a20:nsIn K mainGlobals "all_images"=some (some (.ref lh))) (l20:K.lookup lh=some ⟨tG,tz,.func (PySem.W.fnOf "all_images" "all_images" (j4 Af) (i9 Af) (g3 Af) .none tH tI tJ tD mo tK),tF⟩) (c20:codeIn K mo "all_images"=true) (k20:keepIn K (.ref lh)=true)
  (a21:nsIn K mainGlobals "least_image"=some (some (.ref li))) (l21:K.lookup li=some ⟨tP,tL,.func (PySem.W.fnOf "least_image" "least_image" (j4 Aj) (i9 Aj) (g3 Aj) .none tQ tR tS tM mq tT),tO⟩) (c21:codeIn K mq "least_image"=true) (k21:keepIn K (.ref li)=true)
  (a22:nsIn K mainGlobals "stretches_at"=some (some (.ref oK))) (l22:K.lookup oK=some ⟨tX,tU,.func (PySem.W.fnOf "stretches_at" "stretches_at" (j4 Ap) (i9 Ap) (g3 Ap) .none tY tZ ua tV mv ub),tW⟩) (c22:codeIn K mv "stretches_at"=true) (k22:keepIn K (.ref oK)=true)
  (a23:nsIn K mainGlobals "at_place"=some (some (.ref lj))) (l23:K.lookup lj=some ⟨uf,uc,.func (PySem.W.fnOf "at_place" "at_place" (j4 Z4) (i9 Z4) (g3 Z4) .none ug uh ui ud mw uj),ue⟩) (c23:codeIn K mw "at_place"=true) (k23:keepIn K (.ref lj)=true)
  (a24:nsIn K mainGlobals "unlike"=some (some (.ref ll))) (l24:K.lookup ll=some ⟨uo,uk,.func (PySem.W.fnOf "unlike" "unlike" (j4 Y2) (i9 Y2) (g3 Y2) .none uq ur ut ul mx uu),um⟩) (c24:codeIn K mx "unlike"=true) (k24:keepIn K (.ref ll)=true)
  (a25:nsIn K mainGlobals "_law_refused"=some (some (.ref lm))) (l25:K.lookup lm=some ⟨uz,uv,.func (PySem.W.fnOf "_law_refused" "_law_refused" (j4 An) (i9 An) (g3 An) .none uA uB uC uw my uD),ux⟩) (c25:codeIn K my "_law_refused"=true) (k25:keepIn K (.ref lm)=true)
  (a26:nsIn K mainGlobals "_law_refusals"=some (some (.ref ln))) (l26:K.lookup ln=some ⟨uH,uE,.func (PySem.W.fnOf "_law_refusals" "_law_refusals" (j4 Aq) (i9 Aq) (g3 Aq) .none uI uJ uK uF mz uL),uG⟩) (c26:codeIn K mz "_law_refusals"=true) (k26:keepIn K (.ref ln)=true)
  (a27:nsIn K mainGlobals "law"=some (some (.ref oM))) (l27:K.lookup oM=some ⟨uO,uM,.func (PySem.W.fnOf "law" "law" (j4 N7) (i9 N7) (g3 N7) .none mC mD mE mB gr mF),uN⟩) (c27:codeIn K gr "law"=true) (k27:keepIn K (.ref oM)=true)
  (z_ValueError:nsIn K mainGlobals "ValueError"=some none) (z_all:nsIn K mainGlobals "all"=some none) (z_any:nsIn K mainGlobals "any"=some none) (z_bool:nsIn K mainGlobals "bool"=some none) (z_enumerate:nsIn K mainGlobals "enumerate"=some none) (z_int:nsIn K mainGlobals "int"=some none) (z_isinstance:nsIn K mainGlobals "isinstance"=some none) (z_len:nsIn K mainGlobals "len"=some none) (z_list:nsIn K mainGlobals "list"=some none) (z_max:nsIn K mainGlobals "max"=some none) (z_min:nsIn K mainGlobals "min"=some none) (z_range:nsIn K mainGlobals "range"=some none) (z_set:nsIn K mainGlobals "set"=some none) (z_sorted:nsIn K mainGlobals "sorted"=some none) (z_sum:nsIn K mainGlobals "sum"=some none) (z_tuple:nsIn K mainGlobals "tuple"=some none) (n_Crossed:nsIn K mainGlobals (Str.ofString "Crossed")=some (some (.ref u0))) (n_Fallen:nsIn K mainGlobals (Str.ofString "Fallen")=some (some (.ref u1))) (n_FloorError:nsIn K mainGlobals (Str.ofString "FloorError")=some (some (.ref u2))) (n_NoBand:nsIn K mainGlobals (Str.ofString "NoBand")=some (some (.ref u3))) (n_NoCorner:nsIn K mainGlobals (Str.ofString "NoCorner")=some (some (.ref u4))) (n_NoDeed:nsIn K mainGlobals (Str.ofString "NoDeed")=some (some (.ref u5))) (n_NoEar:nsIn K mainGlobals (Str.ofString "NoEar")=some (some (.ref u6))) (n_NoFloor:nsIn K mainGlobals (Str.ofString "NoFloor")=some (some (.ref u7))) (n_NoLine:nsIn K mainGlobals (Str.ofString "NoLine")=some (some (.ref u8))) (n_NoName:nsIn K mainGlobals (Str.ofString "NoName")=some (some (.ref u9))) (n_NoPlace:nsIn K mainGlobals (Str.ofString "NoPlace")=some (some (.ref u10))) (n_NoQuotient:nsIn K mainGlobals (Str.ofString "NoQuotient")=some (some (.ref u11))) (n_NoRow:nsIn K mainGlobals (Str.ofString "NoRow")=some (some (.ref u12))) (n_NoText:nsIn K mainGlobals (Str.ofString "NoText")=some (some (.ref u13))) (n_NoTurn:nsIn K mainGlobals (Str.ofString "NoTurn")=some (some (.ref u14))) (n_NotAlike:nsIn K mainGlobals (Str.ofString "NotAlike")=some (some (.ref u15))) (n_NotFull:nsIn K mainGlobals (Str.ofString "NotFull")=some (some (.ref u16))) (n_TooMany:nsIn K mainGlobals (Str.ofString "TooMany")=some (some (.ref u17))) (q_FloorError:PySem.W.excIn K u2 [.type "ValueError",.type "Exception",.type "BaseException",.type "object"] "ValueError.__new__"=true) (q_NoFloor:PySem.W.excIn K u7 [.type "ValueError",.type "Exception",.type "BaseException",.type "object"] "ValueError.__new__"=true) (q_NoPlace:PySem.W.excIn K u10 [.type "ValueError",.type "Exception",.type "BaseException",.type "object"] "ValueError.__new__"=true) (q_TooMany:PySem.W.excIn K u17 [.type "ValueError",.type "Exception",.type "BaseException",.type "object"] "ValueError.__new__"=true) (fo_NoFloor:mroIn K u7 (.type "object")=some true) (fb_NoFloor:mroIn K u7 (.type "BaseException")=some true) (fc_NoFloor:PySem.W.findIn K (.ref u7) "__class__"=some (some (.builtin "object.__class__"))) (fg_NoFloor:PySem.W.findIn K (.ref u7) "__getattribute__"=some (some (.builtin "BaseException.__getattribute__"))) (ft_NoFloor:PySem.W.findIn K (.ref u7) "__getattr__"=some none) (m_NoFloor_FloorError:mroIn K u7 (.ref u2)=some true) (k_NoFloor_TooMany:kitOne K (.ref u7) (.ref u17)=some false) (k_NoFloor_NoFloor:kitOne K (.ref u7) (.ref u7)=some true) (k_NoFloor_ValueError:kitOne K (.ref u7) (.type "ValueError")=some true) (kt_NoFloor_0:kitAny K (.ref u7) [.ref u10,.ref u4,.ref u8,.ref u0,.ref u1,.ref u3,.ref u5,.ref u6]=some false) (kt_NoFloor_1:kitAny K (.ref u7) [.ref u9,.ref u11,.ref u12,.ref u13,.ref u14,.ref u15,.ref u16]=some false) (fo_NoPlace:mroIn K u10 (.type "object")=some true) (fb_NoPlace:mroIn K u10 (.type "BaseException")=some true) (fc_NoPlace:PySem.W.findIn K (.ref u10) "__class__"=some (some (.builtin "object.__class__"))) (fg_NoPlace:PySem.W.findIn K (.ref u10) "__getattribute__"=some (some (.builtin "BaseException.__getattribute__"))) (ft_NoPlace:PySem.W.findIn K (.ref u10) "__getattr__"=some none) (m_NoPlace_FloorError:mroIn K u10 (.ref u2)=some true) (k_NoPlace_TooMany:kitOne K (.ref u10) (.ref u17)=some false) (k_NoPlace_NoFloor:kitOne K (.ref u10) (.ref u7)=some false) (k_NoPlace_ValueError:kitOne K (.ref u10) (.type "ValueError")=some true) (kt_NoPlace_0:kitAny K (.ref u10) [.ref u10,.ref u4,.ref u8,.ref u0,.ref u1,.ref u3,.ref u5,.ref u6]=some true) (kt_NoPlace_1:kitAny K (.ref u10) [.ref u9,.ref u11,.ref u12,.ref u13,.ref u14,.ref u15,.ref u16]=some false) (fo_TooMany:mroIn K u17 (.type "object")=some true) (fb_TooMany:mroIn K u17 (.type "BaseException")=some true) (fc_TooMany:PySem.W.findIn K (.ref u17) "__class__"=some (some (.builtin "object.__class__"))) (fg_TooMany:PySem.W.findIn K (.ref u17) "__getattribute__"=some (some (.builtin "BaseException.__getattribute__"))) (ft_TooMany:PySem.W.findIn K (.ref u17) "__getattr__"=some none) (m_TooMany_FloorError:mroIn K u17 (.ref u2)=some true) (k_TooMany_TooMany:kitOne K (.ref u17) (.ref u17)=some true) (k_TooMany_NoFloor:kitOne K (.ref u17) (.ref u7)=some false) (k_TooMany_ValueError:kitOne K (.ref u17) (.type "ValueError")=some true) (kt_TooMany_0:kitAny K (.ref u17) [.ref u10,.ref u4,.ref u8,.ref u0,.ref u1,.ref u3,.ref u5,.ref u6]=some false) (kt_TooMany_1:kitAny K (.ref u17) [.ref u9,.ref u11,.ref u12,.ref u13,.ref u14,.ref u15,.ref u16]=some false) :
  ∃fd:FuncData,(∀(s:Shared)(v:Value),BindsTo s fd ⟨[v],[]⟩ [("_law_script",v)])/\∀base:Heap,K.In base->base.Ns mainGlobals mg->FnOk l.prog w K mg base (CX1 l.prog w) 70 fa fd ["_law_script"] (spL K false V3 1):=by
 have e:=HK.symm.trans (mg_of X G a27)
 cases e
 have T:Txt mg:=⟨mg_none_of X G z_ValueError,mg_none_of X G z_all,mg_none_of X G z_any,mg_none_of X G z_bool,mg_none_of X G z_enumerate,mg_none_of X G z_int,mg_none_of X G z_isinstance,mg_none_of X G z_len,mg_none_of X G z_list,mg_none_of X G z_max,mg_none_of X G z_min,mg_none_of X G z_range,mg_none_of X G z_set,mg_none_of X G z_sorted,mg_none_of X G z_sum,mg_none_of X G z_tuple⟩
 have Z:Exs K mg u0 u1 u2 u3 u4 u5 u6 u7 u8 u9 u10 u11 u12 u13 u14 u15 u16 u17:=⟨mg_of X G n_Crossed,mg_of X G n_Fallen,mg_of X G n_FloorError,mg_of X G n_NoBand,mg_of X G n_NoCorner,mg_of X G n_NoDeed,mg_of X G n_NoEar,mg_of X G n_NoFloor,mg_of X G n_NoLine,mg_of X G n_NoName,mg_of X G n_NoPlace,mg_of X G n_NoQuotient,mg_of X G n_NoRow,mg_of X G n_NoText,mg_of X G n_NoTurn,mg_of X G n_NotAlike,mg_of X G n_NotFull,mg_of X G n_TooMany,n_FloorError,n_NoFloor,n_NoPlace,n_TooMany,q_FloorError,q_NoFloor,q_NoPlace,q_TooMany,fo_NoFloor,fb_NoFloor,fc_NoFloor,fg_NoFloor,ft_NoFloor,m_NoFloor_FloorError,k_NoFloor_TooMany,k_NoFloor_NoFloor,k_NoFloor_ValueError,kt_NoFloor_0,kt_NoFloor_1,fo_NoPlace,fb_NoPlace,fc_NoPlace,fg_NoPlace,ft_NoPlace,m_NoPlace_FloorError,k_NoPlace_TooMany,k_NoPlace_NoFloor,k_NoPlace_ValueError,kt_NoPlace_0,kt_NoPlace_1,fo_TooMany,fb_TooMany,fc_TooMany,fg_TooMany,ft_TooMany,m_TooMany_FloorError,k_TooMany_TooMany,k_TooMany_NoFloor,k_TooMany_ValueError,kt_TooMany_0,kt_TooMany_1⟩
 have F0:=o7 (st:=Z6) l0 c0 k0
 have b0:=F0.binds (ps:=["thing"]) fun _ _ _ _ _ _ us hl=>by obtain⟨_,rfl⟩:=B8 hl;rfl
 have F1:=o7 (st:=W9) l1 c1 k1
 have b1:=F1.binds (ps:=["a","b"]) fun _ _ _ _ _ _ us hl=>by obtain⟨_,_,rfl⟩:=N6 hl;rfl
 have F2:=o7 (st:=Z1) l2 c2 k2
 have b2:=F2.binds (ps:=["n","p"]) fun _ _ _ _ _ _ us hl=>by obtain⟨_,_,rfl⟩:=N6 hl;rfl
 have F3:=o7 (st:=Ar) l3 c3 k3
 have b3:=F3.binds (ps:=["n"]) fun _ _ _ _ _ _ us hl=>by obtain⟨_,rfl⟩:=B8 hl;rfl
 have F4:=o7 (st:=Ab) l4 c4 k4
 have b4:=F4.binds (ps:=["_law_script","_law_k"]) fun _ _ _ _ _ _ us hl=>by obtain⟨_,_,rfl⟩:=N6 hl;rfl
 have F5:=o7 (st:=Ae) l5 c5 k5
 have b5:=F5.binds (ps:=["_law_found"]) fun _ _ _ _ _ _ us hl=>by obtain⟨_,rfl⟩:=B8 hl;rfl
 have F6:=o7 (st:=Ai) l6 c6 k6
 have b6:=F6.binds (ps:=["_law_n","_law_lines","_law_at"]) fun _ _ _ _ _ _ us hl=>by obtain⟨_,_,_,rfl⟩:=y29 hl;rfl
 have F7:=o7 (st:=Aa) l7 c7 k7
 have b7:=F7.binds (ps:=["_law_most"]) fun _ _ _ _ _ _ us hl=>by obtain⟨_,rfl⟩:=B8 hl;rfl
 have F8:=o7 (st:=Ac) l8 c8 k8
 have b8:=F8.binds (ps:=["_law_p","_law_q"]) fun _ _ _ _ _ _ us hl=>by obtain⟨_,_,rfl⟩:=N6 hl;rfl
 have F9:=o7 (st:=Ah) l9 c9 k9
 have b9:=F9.binds (ps:=["_law_cut"]) fun _ _ _ _ _ _ us hl=>by obtain⟨_,rfl⟩:=B8 hl;rfl
 have CC:=o7 (st:=Z0) l10 c10 k10
 have JU:=CC.binds (ps:=["n","p"]) fun _ _ _ _ _ _ us hl=>by obtain⟨_,_,rfl⟩:=N6 hl;rfl
 have CD:=o7 (st:=Z5) l11 c11 k11
 have JV:=CD.binds (ps:=["thing"]) fun _ _ _ _ _ _ us hl=>by obtain⟨_,rfl⟩:=B8 hl;rfl
 have CF:=o7 (st:=X6) l12 c12 k12
 have JW:=CF.binds (ps:=["cut","becomes"]) fun _ _ _ _ _ _ us hl=>by obtain⟨_,_,rfl⟩:=N6 hl;rfl
 have CG:=o7 (st:=Ad) l13 c13 k13
 have JX:=CG.binds (ps:=["_law_cells"]) fun _ _ _ _ _ _ us hl=>by obtain⟨_,rfl⟩:=B8 hl;rfl
 have CH:=o7 (st:=Ao) l14 c14 k14
 have JY:=CH.binds (ps:=["_law_line","_law_n"]) fun _ _ _ _ _ _ us hl=>by obtain⟨_,_,rfl⟩:=N6 hl;rfl
 have CI:=o7 (st:=Ak) l15 c15 k15
 have JZ:=CI.binds (ps:=["thing"]) fun _ _ _ _ _ _ us hl=>by obtain⟨_,rfl⟩:=B8 hl;rfl
 have lq:=vD (st:=W8) l16 c16 k16
 have KA:=lq.binds (ps:=["cut","by"]) (ds:=[]) t16 2 rfl fun _ _ _ _ _ _ us hl=>match us,hl with | [_,_],_=>⟨_,rfl,rfl⟩
 have uP:=lq.binds (ps:=["cut","by"]) (ds:=[.int 1 gq]) t16 1 rfl fun _ _ _ _ _ _ us hl=>match us,hl with | [_],_=>⟨_,rfl,rfl⟩
 have CJ:=o7 (st:=Z3) l17 c17 k17
 have KC:=CJ.binds (ps:=["cut"]) fun _ _ _ _ _ _ us hl=>by obtain⟨_,rfl⟩:=B8 hl;rfl
 have CK:=o7 (st:=As) l18 c18 k18
 have KD:=CK.binds (ps:=["_law_found","_law_n"]) fun _ _ _ _ _ _ us hl=>by obtain⟨_,_,rfl⟩:=N6 hl;rfl
 have CL:=o7 (st:=X7) l19 c19 k19
 have KE:=CL.binds (ps:=["n"]) fun _ _ _ _ _ _ us hl=>by obtain⟨_,rfl⟩:=B8 hl;rfl
 have CM:=o7 (st:=Af) l20 c20 k20
 have KG:=CM.binds (ps:=["cut"]) fun _ _ _ _ _ _ us hl=>by obtain⟨_,rfl⟩:=B8 hl;rfl
 have CN:=o7 (st:=Aj) l21 c21 k21
 have KH:=CN.binds (ps:=["cut"]) fun _ _ _ _ _ _ us hl=>by obtain⟨_,rfl⟩:=B8 hl;rfl
 have CO:=o7 (st:=Ap) l22 c22 k22
 have NE:=CO.binds (ps:=["counts","a","b","k"]) fun _ _ _ _ _ _ us hl=>by obtain⟨_,_,_,_,rfl⟩:=y2a hl;rfl
 have CP:=o7 (st:=Z4) l23 c23 k23
 have KJ:=CP.binds (ps:=["n","k"]) fun _ _ _ _ _ _ us hl=>by obtain⟨_,_,rfl⟩:=N6 hl;rfl
 have CQ:=o7 (st:=Y2) l24 c24 k24
 have KN:=CQ.binds (ps:=["n"]) fun _ _ _ _ _ _ us hl=>by obtain⟨_,rfl⟩:=B8 hl;rfl
 have CS:=o7 (st:=An) l25 c25 k25
 have KO:=CS.binds (ps:=["_law_n"]) fun _ _ _ _ _ _ us hl=>by obtain⟨_,rfl⟩:=B8 hl;rfl
 have CT:=o7 (st:=Aq) l26 c26 k26
 have KP:=CT.binds (ps:=["_law_cell"]) fun _ _ _ _ _ _ us hl=>by obtain⟨_,rfl⟩:=B8 hl;rfl
 have KQ:=o7 (st:=N7) l27 c27 k27
 refine⟨PySem.W.fnOf "law" "law" (j4 N7) (i9 N7) (g3 N7) .none mC mD mE mB gr mF,fun s v=>.of_eq rfl,fun base kb nb=>?_⟩
 have aN:g4 l.prog w K mg base "is_whole" ["thing"] 1 (spD K mg false O9 1):=⟨f0,_,zA F0 T Z ,b0,mg_of X G a0,k0⟩
 have dS:g4 l.prog w K mg base "pair" ["a","b"] 1 (spD K mg false Du 2):=⟨f1,_,qQ F1 T Z ,b1,mg_of X G a1,k1⟩
 have bZ:g4 l.prog w K mg base "is_side" ["n","p"] 1 (spD K mg false Fe 2):=⟨f2,_,yY F2 T Z ,b2,mg_of X G a2,k2⟩
 have ar:g4 l.prog w K mg base "stretch_counts" ["n"] 1 (spD K mg true U1 1):=⟨f3,_,z5w F3 T Z ,b3,mg_of X G a3,k3⟩
 have aP:g4 l.prog w K mg base "_law_pick" ["_law_script","_law_k"] 1 (spD K mg false K9 2):=⟨f4,_,zR F4 T Z ,b4,mg_of X G a4,k4⟩
 have av:g4 l.prog w K mg base "_law_plain" ["_law_found"] 1 (spD K mg false T8 1):=⟨f5,_,za7 F5 T Z ,b5,mg_of X G a5,k5⟩
 have bg:g4 l.prog w K mg base "_law_put_on" ["_law_n","_law_lines","_law_at"] 1 (spD K mg true Am 3):=⟨f6,_,z85 F6 T Z ,b6,mg_of X G a6,k6⟩
 have bG:g4 l.prog w K mg base "_law_ways" ["_law_most"] 1 (spD K mg true T6 1):=⟨f7,_,zQ F7 T Z ,b7,mg_of X G a7,k7⟩
 have bu:g4 l.prog w K mg base "_law_cross" ["_law_p","_law_q"] 1 (spD K mg false Fn 2):=⟨f8,_,za8 F8 T Z ,b8,mg_of X G a8,k8⟩
 have aO:g4 l.prog w K mg base "_law_images" ["_law_cut"] 1 (spD K mg true L0 1):=⟨f9,_,z86 F9 T Z ,b9,mg_of X G a9,k9⟩
 have ce:g4 l.prog w K mg base "is_line" ["n","p"] 2 (spD K mg false Fd 2):=⟨iU,_,yX CC T Z bZ,JU,mg_of X G a10,k10⟩
 have bM:g4 l.prog w K mg base "is_floor" ["thing"] 2 (spD K mg false O8 1):=⟨iV,_,zz CD T Z aN,JV,mg_of X G a11,k11⟩
 have bi:g4 l.prog w K mg base "image" ["cut","becomes"] 2 (spD K mg false Q5 2):=⟨iW,_,wR CF T Z dS,JW,mg_of X G a12,k12⟩
 have bw:g4 l.prog w K mg base "_law_glued" ["_law_cells"] 2 (spD K mg false T7 1):=⟨iX,_,za9 CG T Z bg,JX,mg_of X G a13,k13⟩
 have ba:g4 l.prog w K mg base "_law_is_line" ["_law_line","_law_n"] 2 (spD K mg false Fq 2):=⟨iY,_,z7r CH T Z av,JY,mg_of X G a14,k14⟩
 have ak:g4 l.prog w K mg base "check_floor" ["thing"] 3 (spD K mg false E5 1):=⟨iZ,_,z87 CI T Z bM,JZ,mg_of X G a15,k15⟩
 have cT:g4 l.prog w K mg base "spun" ["cut","by"] 3 (spD K mg false O2 2):=⟨ik,_,Re lq T Z bi,KA,mg_of X G a16,k16⟩
 have eG:Xk l.prog w K mg base "spun" ["cut","by"] 3 (spD K mg false O2 2) 1:=⟨ik,_,gq,Re lq T Z bi,uP,mg_of X G a16,k16⟩
 have bN:g4 l.prog w K mg base "mirrored" ["cut"] 3 (spD K mg false Z8 1):=⟨lc,_,zy CJ T Z bi,KC,mg_of X G a17,k17⟩
 have aK:g4 l.prog w K mg base "_law_is_cutting" ["_law_found","_law_n"] 3 (spD K mg false At 2):=⟨lf,_,z5d CK T Z bu ba av,KD,mg_of X G a18,k18⟩
 have cV:g4 l.prog w K mg base "count" ["n"] 4 (spD K mg false X9 1):=⟨lg,_,wQ CL T Z ak ar,KE,mg_of X G a19,k19⟩
 have bv:g4 l.prog w K mg base "all_images" ["cut"] 4 (spD K mg true Ag 1):=⟨lh,_,zaa CM T Z bN cT eG,KG,mg_of X G a20,k20⟩
 have bh:g4 l.prog w K mg base "least_image" ["cut"] 5 (spD K mg false Al 1):=⟨li,_,z88 CN T Z bv,KH,mg_of X G a21,k21⟩
 have au:g4 l.prog w K mg base "stretches_at" ["counts","a","b","k"] 65 (spD K mg true Cp 4):=vv X G ⟨a22,_,CO⟩ (fun Gd _ F=>z7s F T Gd Z ) 64
 have bO:g4 l.prog w K mg base "at_place" ["n","k"] 66 (spD K mg false Z7 2):=⟨lj,_,zx CP T Z ak ce aN ar au,KJ,mg_of X G a23,k23⟩
 have bf:g4 l.prog w K mg base "unlike" ["n"] 67 (spD K mg true A7 1):=⟨ll,_,yi CQ T Z bO ak cV bh,KN,mg_of X G a24,k24⟩
 have aJ:g4 l.prog w K mg base "_law_refused" ["_law_n"] 68 (spD K mg true T9 1):=⟨lm,_,z7t CS T Z bf,KO,mg_of X G a25,k25⟩
 have aR:g4 l.prog w K mg base "_law_refusals" ["_law_cell"] 69 (spD K mg false U0 1):=⟨ln,_,z6f CT T Z aJ,KP,mg_of X G a26,k26⟩
 exact(jE KQ T Z bw aO aK aP aR bG bf).imp fun _ _ _ _ z=>z.spD
abbrev kO(n:String)(t1:Nat)(q:String)(t2 t3:Nat)(a b c d e:Int)(r1:Nat)(g:Int)(r2 r3 r4 r5:Nat)(k l:Int)(t4:Nat):Obj:=⟨.type "code",none,.fields [vs n t1,vs q t2,vs "/claim/cut.py" t3,.int a 0,.int b 0,.int c 0,.int d 0,.int e 0,.ref r1,.bool true,.int g 0,.ref r2,.none,.ref r3,.ref r4,.ref r5,.int k 0,.int l 0,vs "/claim/cut.py" t4].toArray,#[]⟩
abbrev kCo(n:String)(t1:Nat)(q:String)(t2 t3:Nat)(a b c d e:Int)(r1:Nat)(g:Int)(r2 r5:Nat)(k l:Int)(t4:Nat):Obj:=⟨.type "code",none,.fields [vs n t1,vs q t2,vs "/claim/cut.py" t3,.int a 0,.int b 0,.int c 0,.int d 0,.int e 0,.ref r1,.bool true,.int g 0,.ref r2,.none,.none,.none,.ref r5,.int k 0,.int l 0,vs "/claim/cut.py" t4].toArray,#[]⟩
abbrev fO(i:Nat)(n m:String)(t r:Nat):Obj:=oF (top i) n n .none .none .none (vs m t) none (.ref r) .none
abbrev cO(n:String)(b a ns r t1 t2:Nat):Obj:=⟨.type "type",none,.cls { name:=Str.ofString n,bases:=[.ref b],mro:=[.ref a,.ref b,.type "ValueError",.type "Exception",.type "BaseException",.type "object"],ns:=ns,qualname:=Str.ofString n,hasDict:=true,slotNames:=[],subclasses:=[],abstract:=false,collection:=none,hasDel:=false },#[some (.ref r),none,some (vs n t1),some (vs n t2),some (.builtin "ValueError.__new__"),some (.bool true)]⟩
def K:Params->Frag:=fun P=>
 (nat_lit 2,⟨.none,none,(.dict [].toArray 0),#[]⟩) ::
 (nat_lit 3,oD [en P "__name__" 165 (vs "law_friezeyard_k87_unlike_cuttings" 635),en P "__doc__" 166 .none,en P "__package__" 167 .none,en P "__loader__" 168 (.builtin "__main__.__loader__#opaque"),en P "__spec__" 169 .none,en P "__annotations__" 170 (.ref 6),en P "__builtins__" 171 (.ref 4),en P "__file__" 173 (vs "/claim/cut.py" 172),en P "__cached__" 174 .none,en P "FloorError" 206 (.ref 24),en P "NoFloor" 222 (.ref 37),en P "NoLine" 238 (.ref 49),en P "Crossed" 265 (.ref 68),en P "NotFull" 290 (.ref 87),en P "NoText" 306 (.ref 99),en P "NoCorner" 322 (.ref 111),en P "NoEar" 338 (.ref 123),en P "NoRow" 354 (.ref 135),en P "Fallen" 379 (.ref 154),en P "NoBand" 395 (.ref 166),en P "TooMany" 411 (.ref 178),en P "NoQuotient" 427 (.ref 190),en P "NotAlike" 443 (.ref 202),en P "NoPlace" 459 (.ref 214),en P "NoDeed" 475 (.ref 226),en P "NoName" 491 (.ref 238),en P "NoTurn" 507 (.ref 250),en P "is_whole" 516 (.ref 259),en P "pair" 524 (.ref 266),en P "is_side" 534 (.ref 273),en P "is_line" 542 (.ref 280),en P "is_floor" 551 (.ref 287),en P "check_floor" 558 (.ref 294),en P "count" 567 (.ref 301),en P "stretch_counts" 573 (.ref 306),en P "at_place" 579 (.ref 311),en P "stretches_at" 593 (.ref 318),en P "spun" 602 (.ref 324),en P "mirrored" 608 (.ref 329),en P "image" 614 (.ref 334),en P "all_images" 620 (.ref 339),en P "least_image" 628 (.ref 346),en P "unlike" 634 (.ref 351),en P "_law_pick" 644 (.ref 358),en P "_law_plain" 651 (.ref 365),en P "_law_put_on" 657 (.ref 370),en P "_law_glued" 667 (.ref 377),en P "_law_ways" 677 (.ref 384),en P "_law_cross" 685 (.ref 391),en P "_law_is_line" 693 (.ref 398),en P "_law_is_cutting" 699 (.ref 403),en P "_law_images" 714 (.ref 410),en P "_law_refused" 723 (.ref 417),en P "_law_refusals" 732 (.ref 424),en P "law" 738 (.ref 429)] 55) ::
 (nat_lit 15,oT [(.type "ValueError")]) ::
 (nat_lit 22,oT []) ::
 (nat_lit 23,oD [en P "__module__" 196 (vs "friezeyard.errors" 187),en P "__firstlineno__" 200 (.int 2 199),en P "__static_attributes__" 201 (.ref 22),en P "__weakref__" 203 (.ref 25),en P "__doc__" 204 .none] 3) ::
 (nat_lit 24,⟨(.type "type"),none,(.cls { name:=Str.ofString "FloorError",bases:=[(.type "ValueError")],mro:=[(.ref 24),(.type "ValueError"),(.type "Exception"),(.type "BaseException"),(.type "object")],ns:=23,qualname:=Str.ofString "FloorError",hasDict:=true,slotNames:=[],subclasses:=[(.ref 37),(.ref 49),(.ref 68),(.ref 87),(.ref 99),(.ref 111),(.ref 123),(.ref 135),(.ref 154),(.ref 166),(.ref 178),(.ref 190),(.ref 202),(.ref 214),(.ref 226),(.ref 238),(.ref 250)],abstract:=false,collection:=none,hasDel:=false }),#[some (.ref 15),none,some (vs "FloorError" 189),some (vs "FloorError" 197),some (.builtin "ValueError.__new__"),some (.bool true)]⟩) ::
 (nat_lit 25,⟨(.type "getset_descriptor"),none,(.fields [(vs "__weakref__" 202),(.ref 24),(.builtin "ExceptionGroup.__weakref__"),.none].toArray),#[]⟩) ::
 (nat_lit 28,oT [(.ref 24)]) ::
 (nat_lit 35,oT []) ::
 (nat_lit 36,oD [en P "__module__" 214 (vs "friezeyard.errors" 187),en P "__firstlineno__" 218 (.int 4 217),en P "__static_attributes__" 219 (.ref 35),en P "__doc__" 220 .none] 2) ::
 (nat_lit 37,(cO "NoFloor" 24 37 36 28 207 215)) ::
 (nat_lit 40,oT [(.ref 24)]) ::
 (nat_lit 47,oT []) ::
 (nat_lit 48,oD [en P "__module__" 230 (vs "friezeyard.errors" 187),en P "__firstlineno__" 234 (.int 6 233),en P "__static_attributes__" 235 (.ref 47),en P "__doc__" 236 .none] 2) ::
 (nat_lit 49,(cO "NoLine" 24 49 48 40 223 231)) ::
 (nat_lit 52,oT [(.ref 24)]) ::
 (nat_lit 59,oT []) ::
 (nat_lit 61,oT [(vs "self" 254),(vs "one" 255),(vs "other" 256)]) ::
 (nat_lit 62,oT []) ::
 (nat_lit 64,(kO "__init__" 251 "Crossed.__init__" 252 253 10 3 0 0 3 59 181 60 61 62 63 257 10 258)) ::
 (nat_lit 65,oF (Gh (top 4) 0) "__init__" "Crossed.__init__" .none .none .none (vs "friezeyard.errors" 187) none (.ref 64) .none) ::
 (nat_lit 66,oT [(vs "one" 260),(vs "other" 261)]) ::
 (nat_lit 67,oD [en P "__module__" 246 (vs "friezeyard.errors" 187),en P "__firstlineno__" 250 (.int 8 249),en P "__init__" 259 (.ref 65),en P "__static_attributes__" 262 (.ref 66),en P "__doc__" 263 .none] 2) ::
 (nat_lit 68,(cO "Crossed" 24 68 67 52 239 247)) ::
 (nat_lit 71,oT [(.ref 24)]) ::
 (nat_lit 78,oT []) ::
 (nat_lit 80,oT [(vs "self" 281),(vs "line" 282)]) ::
 (nat_lit 81,oT []) ::
 (nat_lit 83,(kO "__init__" 278 "NotFull.__init__" 279 280 15 2 0 0 3 78 181 79 80 81 82 283 15 284)) ::
 (nat_lit 84,oF (Gh (top 5) 0) "__init__" "NotFull.__init__" .none .none .none (vs "friezeyard.errors" 187) none (.ref 83) .none) ::
 (nat_lit 85,oT [(vs "line" 286)]) ::
 (nat_lit 86,oD [en P "__module__" 273 (vs "friezeyard.errors" 187),en P "__firstlineno__" 277 (.int 13 276),en P "__init__" 285 (.ref 84),en P "__static_attributes__" 287 (.ref 85),en P "__doc__" 288 .none] 2) ::
 (nat_lit 87,(cO "NotFull" 24 87 86 71 266 274)) ::
 (nat_lit 90,oT [(.ref 24)]) ::
 (nat_lit 97,oT []) ::
 (nat_lit 98,oD [en P "__module__" 298 (vs "friezeyard.errors" 187),en P "__firstlineno__" 302 (.int 17 301),en P "__static_attributes__" 303 (.ref 97),en P "__doc__" 304 .none] 2) ::
 (nat_lit 99,(cO "NoText" 24 99 98 90 291 299)) ::
 (nat_lit 102,oT [(.ref 24)]) ::
 (nat_lit 109,oT []) ::
 (nat_lit 110,oD [en P "__module__" 314 (vs "friezeyard.errors" 187),en P "__firstlineno__" 318 (.int 19 317),en P "__static_attributes__" 319 (.ref 109),en P "__doc__" 320 .none] 2) ::
 (nat_lit 111,(cO "NoCorner" 24 111 110 102 307 315)) ::
 (nat_lit 114,oT [(.ref 24)]) ::
 (nat_lit 121,oT []) ::
 (nat_lit 122,oD [en P "__module__" 330 (vs "friezeyard.errors" 187),en P "__firstlineno__" 334 (.int 21 333),en P "__static_attributes__" 335 (.ref 121),en P "__doc__" 336 .none] 2) ::
 (nat_lit 123,(cO "NoEar" 24 123 122 114 323 331)) ::
 (nat_lit 126,oT [(.ref 24)]) ::
 (nat_lit 133,oT []) ::
 (nat_lit 134,oD [en P "__module__" 346 (vs "friezeyard.errors" 187),en P "__firstlineno__" 350 (.int 23 349),en P "__static_attributes__" 351 (.ref 133),en P "__doc__" 352 .none] 2) ::
 (nat_lit 135,(cO "NoRow" 24 135 134 126 339 347)) ::
 (nat_lit 138,oT [(.ref 24)]) ::
 (nat_lit 145,oT []) ::
 (nat_lit 147,oT [(vs "self" 370),(vs "corner" 371)]) ::
 (nat_lit 148,oT []) ::
 (nat_lit 150,(kO "__init__" 367 "Fallen.__init__" 368 369 27 2 0 0 3 145 181 146 147 148 149 372 27 373)) ::
 (nat_lit 151,oF (Gh (top 10) 0) "__init__" "Fallen.__init__" .none .none .none (vs "friezeyard.errors" 187) none (.ref 150) .none) ::
 (nat_lit 152,oT [(vs "corner" 375)]) ::
 (nat_lit 153,oD [en P "__module__" 362 (vs "friezeyard.errors" 187),en P "__firstlineno__" 366 (.int 25 365),en P "__init__" 374 (.ref 151),en P "__static_attributes__" 376 (.ref 152),en P "__doc__" 377 .none] 2) ::
 (nat_lit 154,(cO "Fallen" 24 154 153 138 355 363)) ::
 (nat_lit 157,oT [(.ref 24)]) ::
 (nat_lit 164,oT []) ::
 (nat_lit 165,oD [en P "__module__" 387 (vs "friezeyard.errors" 187),en P "__firstlineno__" 391 (.int 29 390),en P "__static_attributes__" 392 (.ref 164),en P "__doc__" 393 .none] 2) ::
 (nat_lit 166,(cO "NoBand" 24 166 165 157 380 388)) ::
 (nat_lit 169,oT [(.ref 24)]) ::
 (nat_lit 176,oT []) ::
 (nat_lit 177,oD [en P "__module__" 403 (vs "friezeyard.errors" 187),en P "__firstlineno__" 407 (.int 31 406),en P "__static_attributes__" 408 (.ref 176),en P "__doc__" 409 .none] 2) ::
 (nat_lit 178,(cO "TooMany" 24 178 177 169 396 404)) ::
 (nat_lit 181,oT [(.ref 24)]) ::
 (nat_lit 188,oT []) ::
 (nat_lit 189,oD [en P "__module__" 419 (vs "friezeyard.errors" 187),en P "__firstlineno__" 423 (.int 33 422),en P "__static_attributes__" 424 (.ref 188),en P "__doc__" 425 .none] 2) ::
 (nat_lit 190,(cO "NoQuotient" 24 190 189 181 412 420)) ::
 (nat_lit 193,oT [(.ref 24)]) ::
 (nat_lit 200,oT []) ::
 (nat_lit 201,oD [en P "__module__" 435 (vs "friezeyard.errors" 187),en P "__firstlineno__" 439 (.int 35 438),en P "__static_attributes__" 440 (.ref 200),en P "__doc__" 441 .none] 2) ::
 (nat_lit 202,(cO "NotAlike" 24 202 201 193 428 436)) ::
 (nat_lit 205,oT [(.ref 24)]) ::
 (nat_lit 212,oT []) ::
 (nat_lit 213,oD [en P "__module__" 451 (vs "friezeyard.errors" 187),en P "__firstlineno__" 455 (.int 37 454),en P "__static_attributes__" 456 (.ref 212),en P "__doc__" 457 .none] 2) ::
 (nat_lit 214,(cO "NoPlace" 24 214 213 205 444 452)) ::
 (nat_lit 217,oT [(.ref 24)]) ::
 (nat_lit 224,oT []) ::
 (nat_lit 225,oD [en P "__module__" 467 (vs "friezeyard.errors" 187),en P "__firstlineno__" 471 (.int 39 470),en P "__static_attributes__" 472 (.ref 224),en P "__doc__" 473 .none] 2) ::
 (nat_lit 226,(cO "NoDeed" 24 226 225 217 460 468)) ::
 (nat_lit 229,oT [(.ref 24)]) ::
 (nat_lit 236,oT []) ::
 (nat_lit 237,oD [en P "__module__" 483 (vs "friezeyard.errors" 187),en P "__firstlineno__" 487 (.int 41 486),en P "__static_attributes__" 488 (.ref 236),en P "__doc__" 489 .none] 2) ::
 (nat_lit 238,(cO "NoName" 24 238 237 229 476 484)) ::
 (nat_lit 241,oT [(.ref 24)]) ::
 (nat_lit 248,oT []) ::
 (nat_lit 249,oD [en P "__module__" 499 (vs "friezeyard.errors" 187),en P "__firstlineno__" 503 (.int 43 502),en P "__static_attributes__" 504 (.ref 248),en P "__doc__" 505 .none] 2) ::
 (nat_lit 250,(cO "NoTurn" 24 250 249 241 492 500)) ::
 (nat_lit 253,oT []) ::
 (nat_lit 255,oT [(vs "thing" 513)]) ::
 (nat_lit 256,oT []) ::
 (nat_lit 258,(kO "is_whole" 510 "is_whole" 511 512 46 1 0 0 3 253 181 254 255 256 257 514 46 515)) ::
 (nat_lit 259,(fO 20 "is_whole" "friezeyard.pairs" 508 258)) ::
 (nat_lit 260,oT []) ::
 (nat_lit 262,oT [(vs "a" 520),(vs "b" 521)]) ::
 (nat_lit 263,oT []) ::
 (nat_lit 265,(kO "pair" 517 "pair" 518 519 48 2 0 0 3 260 181 261 262 263 264 522 48 523)) ::
 (nat_lit 266,(fO 21 "pair" "friezeyard.pairs" 508 265)) ::
 (nat_lit 267,oT []) ::
 (nat_lit 269,oT [(vs "n" 528),(vs "p" 529),(vs "a" 530),(vs "b" 531)]) ::
 (nat_lit 270,oT []) ::
 (nat_lit 272,(kO "is_side" 525 "is_side" 526 527 50 2 0 0 3 267 181 268 269 270 271 532 50 533)) ::
 (nat_lit 273,(fO 22 "is_side" "friezeyard.pairs" 508 272)) ::
 (nat_lit 274,oT []) ::
 (nat_lit 276,oT [(vs "n" 538),(vs "p" 539)]) ::
 (nat_lit 277,oT []) ::
 (nat_lit 279,(kO "is_line" 535 "is_line" 536 537 56 2 0 0 3 274 181 275 276 277 278 540 56 541)) ::
 (nat_lit 280,(fO 23 "is_line" "friezeyard.pairs" 508 279)) ::
 (nat_lit 281,oT []) ::
 (nat_lit 283,oT [(vs "thing" 548)]) ::
 (nat_lit 284,oT []) ::
 (nat_lit 286,(kO "is_floor" 545 "is_floor" 546 547 59 1 0 0 3 281 181 282 283 284 285 549 59 550)) ::
 (nat_lit 287,(fO 25 "is_floor" "friezeyard.common" 543 286)) ::
 (nat_lit 288,oT []) ::
 (nat_lit 290,oT [(vs "thing" 555)]) ::
 (nat_lit 291,oT []) ::
 (nat_lit 293,(kO "check_floor" 552 "check_floor" 553 554 61 1 0 0 3 288 181 289 290 291 292 556 61 557)) ::
 (nat_lit 294,(fO 26 "check_floor" "friezeyard.common" 543 293)) ::
 (nat_lit 295,oT []) ::
 (nat_lit 297,oT [(vs "n" 564)]) ::
 (nat_lit 298,oT []) ::
 (nat_lit 300,(kO "count" 561 "count" 562 563 65 1 0 0 3 295 181 296 297 298 299 565 65 566)) ::
 (nat_lit 301,(fO 28 "count" "friezeyard.places" 559 300)) ::
 (nat_lit 302,oT []) ::
 (nat_lit 305,(kCo "stretch_counts" 568 "stretch_counts" 569 570 68 1 0 0 3 302 181 303 304 571 68 572)) ::
 (nat_lit 306,(fO 29 "stretch_counts" "friezeyard.places" 559 305)) ::
 (nat_lit 307,oT []) ::
 (nat_lit 310,(kCo "at_place" 574 "at_place" 575 576 73 2 0 0 3 307 181 308 309 577 73 578)) ::
 (nat_lit 311,(fO 30 "at_place" "friezeyard.places" 559 310)) ::
 (nat_lit 312,oT []) ::
 (nat_lit 314,oT [(vs "counts" 583),(vs "a" 584),(vs "b" 585),(vs "k" 586),(vs "c" 587),(vs "rest" 588),(vs "low" 589),(vs "high" 590)]) ::
 (nat_lit 315,oT []) ::
 (nat_lit 317,(kO "stretches_at" 580 "stretches_at" 581 582 79 4 0 0 3 312 181 313 314 315 316 591 79 592)) ::
 (nat_lit 318,(fO 31 "stretches_at" "friezeyard.places" 559 317)) ::
 (nat_lit 319,oT [(.int 1 596)]) ::
 (nat_lit 320,oT []) ::
 (nat_lit 323,(kCo "spun" 597 "spun" 598 599 91 2 0 0 3 320 181 321 322 600 91 601)) ::
 (nat_lit 324,oF (top 33) "spun" "spun" (.ref 319) .none .none (vs "friezeyard.images" 594) none (.ref 323) .none) ::
 (nat_lit 325,oT []) ::
 (nat_lit 328,(kCo "mirrored" 603 "mirrored" 604 605 94 1 0 0 3 325 181 326 327 606 94 607)) ::
 (nat_lit 329,(fO 34 "mirrored" "friezeyard.images" 594 328)) ::
 (nat_lit 330,oT []) ::
 (nat_lit 333,(kCo "image" 609 "image" 610 611 97 2 0 0 3 330 181 331 332 612 97 613)) ::
 (nat_lit 334,(fO 35 "image" "friezeyard.images" 594 333)) ::
 (nat_lit 335,oT []) ::
 (nat_lit 338,(kCo "all_images" 615 "all_images" 616 617 99 1 0 0 3 335 181 336 337 618 99 619)) ::
 (nat_lit 339,(fO 36 "all_images" "friezeyard.images" 594 338)) ::
 (nat_lit 340,oT []) ::
 (nat_lit 342,oT [(vs "cut" 624),(vs "least" 625)]) ::
 (nat_lit 343,oT []) ::
 (nat_lit 345,(kO "least_image" 621 "least_image" 622 623 103 1 0 0 3 340 181 341 342 343 344 626 103 627)) ::
 (nat_lit 346,(fO 37 "least_image" "friezeyard.images" 594 345)) ::
 (nat_lit 347,oT []) ::
 (nat_lit 350,(kCo "unlike" 629 "unlike" 630 631 106 1 0 0 3 347 181 348 349 632 106 633)) ::
 (nat_lit 351,(fO 38 "unlike" "friezeyard.images" 594 350)) ::
 (nat_lit 352,oT []) ::
 (nat_lit 354,oT [(vs "_law_script" 640),(vs "_law_k" 641)]) ::
 (nat_lit 355,oT []) ::
 (nat_lit 357,(kO "_law_pick" 637 "_law_pick" 638 639 112 2 0 0 3 352 181 353 354 355 356 642 112 643)) ::
 (nat_lit 358,(fO 40 "_law_pick" "law_friezeyard_k87_unlike_cuttings" 635 357)) ::
 (nat_lit 359,oT []) ::
 (nat_lit 361,oT [(vs "_law_found" 648)]) ::
 (nat_lit 362,oT []) ::
 (nat_lit 364,(kO "_law_plain" 645 "_law_plain" 646 647 114 1 0 0 3 359 181 360 361 362 363 649 114 650)) ::
 (nat_lit 365,(fO 41 "_law_plain" "law_friezeyard_k87_unlike_cuttings" 635 364)) ::
 (nat_lit 366,oT []) ::
 (nat_lit 369,(kCo "_law_put_on" 652 "_law_put_on" 653 654 118 3 0 0 3 366 181 367 368 655 118 656)) ::
 (nat_lit 370,(fO 42 "_law_put_on" "law_friezeyard_k87_unlike_cuttings" 635 369)) ::
 (nat_lit 371,oT []) ::
 (nat_lit 373,oT [(vs "_law_cells" 661),(vs "_law_n" 662),(vs "_law_lines" 663),(vs "_law_cell" 664)]) ::
 (nat_lit 374,oT []) ::
 (nat_lit 376,(kO "_law_glued" 658 "_law_glued" 659 660 123 1 0 0 3 371 181 372 373 374 375 665 123 666)) ::
 (nat_lit 377,(fO 43 "_law_glued" "law_friezeyard_k87_unlike_cuttings" 635 376)) ::
 (nat_lit 378,oT []) ::
 (nat_lit 380,oT [(vs "_law_most" 671),(vs "_law_ways_here" 672),(vs "_law_total" 673),(vs "_law_k" 674)]) ::
 (nat_lit 381,oT []) ::
 (nat_lit 383,(kO "_law_ways" 668 "_law_ways" 669 670 130 1 0 0 3 378 181 379 380 381 382 675 130 676)) ::
 (nat_lit 384,(fO 44 "_law_ways" "law_friezeyard_k87_unlike_cuttings" 635 383)) ::
 (nat_lit 385,oT []) ::
 (nat_lit 387,oT [(vs "_law_p" 681),(vs "_law_q" 682)]) ::
 (nat_lit 388,oT []) ::
 (nat_lit 390,(kO "_law_cross" 678 "_law_cross" 679 680 138 2 0 0 3 385 181 386 387 388 389 683 138 684)) ::
 (nat_lit 391,(fO 45 "_law_cross" "law_friezeyard_k87_unlike_cuttings" 635 390)) ::
 (nat_lit 392,oT []) ::
 (nat_lit 394,oT [(vs "_law_line" 689),(vs "_law_n" 690)]) ::
 (nat_lit 395,oT []) ::
 (nat_lit 397,(kO "_law_is_line" 686 "_law_is_line" 687 688 140 2 0 0 3 392 181 393 394 395 396 691 140 692)) ::
 (nat_lit 398,(fO 46 "_law_is_line" "law_friezeyard_k87_unlike_cuttings" 635 397)) ::
 (nat_lit 399,oT []) ::
 (nat_lit 402,(kCo "_law_is_cutting" 694 "_law_is_cutting" 695 696 144 2 0 0 3 399 181 400 401 697 144 698)) ::
 (nat_lit 403,(fO 47 "_law_is_cutting" "law_friezeyard_k87_unlike_cuttings" 635 402)) ::
 (nat_lit 404,oT []) ::
 (nat_lit 406,oT [(vs "_law_cut" 703),(vs "_law_n" 704),(vs "_law_found" 705),(vs "_law_by" 706),(vs "_law_sign" 707),(vs "_law_lines" 708),(vs "_law_a" 709),(vs "_law_b" 710),(vs "_law_ends" 711)]) ::
 (nat_lit 407,oT []) ::
 (nat_lit 409,(kO "_law_images" 700 "_law_images" 701 702 154 1 0 0 3 404 181 405 406 407 408 712 154 713)) ::
 (nat_lit 410,(fO 48 "_law_images" "law_friezeyard_k87_unlike_cuttings" 635 409)) ::
 (nat_lit 411,oT []) ::
 (nat_lit 413,oT [(vs "_law_n" 718),(vs "_law_told" 719),(vs "e" 720)]) ::
 (nat_lit 414,oT []) ::
 (nat_lit 416,(kO "_law_refused" 715 "_law_refused" 716 717 165 1 0 0 3 411 181 412 413 414 415 721 165 722)) ::
 (nat_lit 417,(fO 49 "_law_refused" "law_friezeyard_k87_unlike_cuttings" 635 416)) ::
 (nat_lit 418,oT []) ::
 (nat_lit 420,oT [(vs "_law_cell" 727),(vs "_law_far" 728),(vs "_law_bad" 729)]) ::
 (nat_lit 421,oT []) ::
 (nat_lit 423,(kO "_law_refusals" 724 "_law_refusals" 725 726 174 1 0 0 3 418 181 419 420 421 422 730 174 731)) ::
 (nat_lit 424,(fO 50 "_law_refusals" "law_friezeyard_k87_unlike_cuttings" 635 423)) ::
 (nat_lit 425,oT []) ::
 (nat_lit 428,(kCo "law" 733 "law" 734 735 180 1 0 0 3 425 181 426 427 736 180 737)) ::
 (nat_lit 429,(fO 51 "law" "law_friezeyard_k87_unlike_cuttings" 635 428))::[]
noncomputable def places:List Addr:=[2,3,15,22,23,24,25,28,35,36,37,40,47,48,49,52,59,61,62,64,65,66,67,68,71,78,80,81,83,84,85,86,87,90,97,98,99,102,109,110,111,114,121,122,123,126,133,134,135,138,145,147,148,150,151,152,153,154,157,164,165,166,169,176,177,178,181,188,189,190,193,200,201,202,205,212,213,214,217,224,225,226,229,236,237,238,241,248,249,250,253,255,256,258,259,260,262,263,265,266,267,269,270,272,273,274,276,277,279,280,281,283,284,286,287,288,290,291,293,294,295,297,298,300,301,302,305,306,307,310,311,312,314,315,317,318,319,320,323,324,325,328,329,330,333,334,335,338,339,340,342,343,345,346,347,350,351,352,354,355,357,358,359,361,362,364,365,366,369,370,371,373,374,376,377,378,380,381,383,384,385,387,388,390,391,392,394,395,397,398,399,402,403,404,406,407,409,410,411,413,414,416,417,418,420,421,423,424,425,428,429]
theorem wP:∀P,places=(K P).map (·.1):=fun _=>by kernel_rfl
def hook:PySem.W.Hook:=PySem.W.kHook K places wP
abbrev loose:List Str:=["spun"]
noncomputable def q:Program:=PySem.W.view PySem.Challenge.pw_friezeyard_k87_unlike_cuttings [1,2,3,4,5,6,7,8,9,10,11,12,13,14,15,16,17,18,20,21,22,23,25,26,28,29,30,31,34,35,36,37,38,40,41,42,43,44,45,46,47,48,49,50,51]
def xtH(s:Shared):Bool:=PySem.W.xlAt q [] s&&PySem.W.recOk (PySem.W.RowW.records PySem.Challenge.rw_friezeyard_k87_unlike_cuttings.row.toRowW) s
def out(w:World)(os:OsState):=outAt PySem.Challenge.pw_friezeyard_k87_unlike_cuttings q K87.loose xtH (fun s=>places.map s.heap.get?) 9680 w os
def good:=PySem.W.openGood q K87.loose
example:((fun (_:Params->Obj)(_:Str)=>true) PySem.W.boot_o_0 (Str.ofString "dull"))=true:=by k_qdec
lay_quick out good
theorem jD:∀w os,out w os=some (true,good,(K w.params).map fun p=>some p.2):=fun w os=>(congrFun (congrFun PySem.W.Fast.te12872188214049991572 w) os).trans (by rw[PySem.W.Fast.te2046591578936834980];kernel_rfl)
theorem left:PySem.W.LeftO PySem.Challenge.pw_friezeyard_k87_unlike_cuttings q K87.loose xtH (PySem.W.Hook.obs hook) (PySem.W.Hook.val hook) 9680:=qT (by kernel_rfl) (by kernel_rfl) (fun _=>by kernel_rfl) jD
end K87
namespace K87
open L2 Cu
local macro_rules | `(tactic|walk_at "dz")=>do
 let a:=("ki,Sg,y11,zvb,zva,y03,W7,sNx,y4k,P5,y09,Bd,B7,J5,zvc,zvd,zve,zq6,wK,zv0,zv1,zv4,zv2,zv3,zq4,zv6,zv7,zv8,zv9,zq5,zq7,wJ,y12,y13,y14,y15,y16,zvf,zvg,zq8,zq9,wI,zw9,y1i,y1j,y1k,zwa,zwb,zqk,zql,zu,zqa,zlc,zld,zle,zt,zw5,zV,zqq,zvh,zvi,yz,zvj,zqb,zqc,zqd,zqe,R6,Js,Option.bind_some,Bool.and_true,Bool.true_and,y17,y18,y19,y1a,y4v,y4w,eC,eOp,eUn,d9,d7,g6,eCB,n8,t0,eIf,eSl,oSo,oNo,zwc,y4c,bOr,w4,i7,J1,eOr,P6,Be,Q3,J6,Bx,Bw,o6,iL,zqo,zqp,zqj,zqh,zqi,L2.R.bind_ok,L2.R.of_some,v5,n6,B6,dLe,Dk,dGe,y1b,Bc,y1c,zng,zvk,zvl,zvm,zvn,zvo,zvp,zvq,wH,wG,zvr,Sf,zvs,zvt,wF,zvu,y1e,zw6,y1f,y1h,y1m,zwg,zwh,zqs,zqt,zr,zlk,y4y,zw7,y1g,y4z,y50,y0t,y0s,y1n,y1o,zwi,zwj,zwk,zwl,zwm,y1p,y1q,zlm,wD,wC,y1d,zvv,zvw,zqf,zvx,zvy,zvz,Se,wE,zw0,zw1,zw2,zw3,zw4,zqg,List.map_cons,List.map_nil,List.length_cons,List.length_nil,List.cons_append,List.nil_append,List.replicate_succ,List.replicate_zero,List.getElem?_cons_zero,List.getElem?_cons_succ,List.set_cons_zero,List.set_cons_succ,Option.map_some,Option.getD_some,if_true,if_false,Bool.false_eq_true,Bool.not_true,Bool.not_false,Bool.and_false,Bool.false_and,Bool.or_true,Bool.true_or,Bool.or_false,Bool.false_or,Nat.reduceAdd,Nat.reduceLeDiff,Nat.reduceEqDiff,reduceCtorEq,decide_true,decide_false,Int.reduceEq".splitOn ",").toArray.map fun s=>Lean.mkIdent s.toName
 `(tactic|try simp (implicitDefEqProofs:=false) only [$[$a:term],*])
theorem wO{α:Type}(ls:List α)(f:α->D)(n:Nat)(hn:n<=20)(h1:∀x,(f x).oi=true)(h2:∀x,(f x).dep<=n)(h3:∀x y,(i4 (f x) (f y)).isSome=true)(h4:((ls.map f).all isI||(ls.map f).all z7||(ls.map f).all G7)=true):A6 [.lst (ls.map f)]=some (.lst (p9 (ls.map f))):=by
 have ok:x0 (ls.map f)=true:=by unfold x0;rw[Jb _ _ h1,decide_eq_true (KM (Kg ls f n h2) hn),X1 ls f (fun d=>(ls.map f).all fun e=>(i4 d e).isSome) (fun x=>X1 _ _ _ fun y=>h3 x y),h4];rfl
 simp only[A6,ok,QN]
theorem sorted_T2(ls:List P2)(_:ls.length<64):A6 [.lst (ls.map T2)]=some (.lst ((so2 ls).map T2)):=by rw[wO ls T2 1 (by decide) Go Ja Pz (by rw[X1 ls T2 z7 fun _=>rfl,Bool.or_true,Bool.true_or]),Eh]
theorem Xf(c x:Int):x+(if decide (c<x)=true then 1 else 0)=sh c x:=by
 unfold sh;by_cases h:c<x
 . rw[decide_eq_true h,ξ rfl,ξ h]
 . rw[NO h,ψ η,ψ h];omega
theorem jC(h:a ρ=.nx ay):e9 a r ρ=r ay:=by rw[Sg,h,wK]
def pkv(ns:List Int)(k:Int):Int:=(x3 ns (some k) (some (k+1))++[0]).getD 0 0
theorem qP(ns:List Int)(a b:Option Int):(x3 ns a b).length<=ns.length:=by unfold x3;simp only[OA,NT];omega
theorem Hs(ns:List Int)(hl:ns.length<=63)(k:Int):K9 [.scr ns,.int k]=.ok (.int (pkv ns k)):=by have h:=qP ns (some k) (some (k+1));unfold K9 Wi pkv;walk_at "dz";generalize x3 ns (some k) (some (k+1))=xs at h;rw[show z9 (L xs) (D.lst [D.int 0])=some (L (xs++[0])) by simp only[L,z9,oQ,NM,TR,ξ (show xs.length+(0+1)<=100000 by omega),RH,NL,QR]];walk_at "dz";rw[y4x (by omega) (by simp)];rfl
theorem y2b(n:Int)(ls:List P2)(c:Int)(hl:ls.length<1000):Am [.int n,.lst (ls.map T2),.int c]=.ok (.lst ((ls.map (sh2 c)++[C7 n c]).map T2)):=by
 unfold Am Ws;walk_at "dz";rw[ξ (by rw[oQ];omega),Fg (en:=T2) (bs:=fun q=>[D.int q.1,D.int q.2]) (g:=fun q=>T2 (sh2 c q)) ls (fun x _=>rfl) (fun q _=>by unfold Wy;walk_at "dz";rw[Xf,Xf];rfl)];simp only[R.bind_ok];rw[show ls.map (fun q=>T2 (sh2 c q))=(ls.map (sh2 c)).map T2 by rw[QU];rfl];generalize iN:ls.map (sh2 c)=eD;have AU:eD.length<1000:=by rw[<-iN,oQ];exact hl
 walk_at "dz";by_cases q:c=n - 1
 . rw[decide_eq_true q];walk_at "dz";rw[show D.lst [D.tup [D.int 0,D.int (n - 1)]]=D.lst ([C7 n c].map T2) by unfold C7;rw[ξ q,<-q];rfl,Py _ _ (by simp;omega)];generalize eD++[C7 n c]=xs;walk_at "dz"
 . rw[NO q];walk_at "dz";rw[show D.lst [D.tup [D.int c,D.int (c+2)]]=D.lst ([C7 n c].map T2) by unfold C7;rw[ψ q];rfl,Py _ _ (by simp;omega)];generalize eD++[C7 n c]=xs;walk_at "dz"
def G6:D->Bool
 | .tup [.int _,.int _]=>true
 |_=>false
def K1:D->Bool
 | .tup [.int _,.tup ls]=>ls.all G6
 |_=>false
def U2:D->Bool
 | .tup [c,.bl _,.int _]=>K1 c
 |_=>false
theorem Ms(h:G6 d=true):∃a b,d=.tup [.int a,.int b]:=by
 unfold G6 at h;split at h
 . exact⟨_,_,rfl⟩
 . cases h
theorem Mr(h:K1 d=true):∃a ls,d=.tup [.int a,.tup ls]/\ls.all G6=true:=by
 unfold K1 at h;split at h
 . exact⟨_,_,rfl,h⟩
 . cases h
theorem Mq(h:U2 d=true):∃c a b,d=.tup [c,.bl a,.int b]/\K1 c=true:=by
 unfold U2 at h;split at h
 . exact⟨_,_,_,rfl,h⟩
 . cases h
theorem Ec:∀{ds:List D},(∀d∈ds,d.dep<=k)->i8 ds<=k
 | [],_=>OI _
 |d::ds,h=>by rw[i8];exact Nat.max_le.mpr ⟨h d NN,Ec fun e he=>h e (IR _ he)⟩
theorem Hr:∀{ds:List D},(∀d∈ds,d.oi=true)->ois ds=true
 | [],_=>rfl
 |d::ds,h=>by rw[ois,h d NN,Hr fun e he=>h e (IR _ he)];rfl
theorem Hq:∀{ds:List D},(∀d∈ds,d.ob=true)->obs ds=true
 | [],_=>rfl
 |d::ds,h=>by rw[obs,h d NN,Hq fun e he=>h e (IR _ he)];rfl
theorem E3{α:Type}{c:Prop}[Decidable c]{a b:Option α}(h1:a.isSome=true)(h2:b.isSome=true):(if c then a else b).isSome=true:=by
 by_cases h:c
 . rw[ξ h];exact h1
 . rw[ψ h];exact h2
theorem Pg(h:G6 d=true)(k:G6 e=true):(i4 d e).isSome=true/\(C2 d e).isSome=true:=by obtain⟨a,b,rfl⟩:=Ms h;obtain⟨x,y,rfl⟩:=Ms k;simp only[i4,t7,C2,A3];exact⟨E3 (E3 rfl rfl) rfl,E3 (E3 rfl rfl) rfl⟩
theorem Rb:∀{ds es:List D},ds.all G6=true->es.all G6=true->(t7 ds es).isSome=true/\(A3 ds es).isSome=true
 | [],[],_,_=>⟨rfl,rfl⟩
 | [],_::_,_,_=>⟨rfl,rfl⟩
 |_::_,[],_,_=>⟨rfl,rfl⟩
 |d::ds,e::es,h,k=>by simp only[List.all_cons,bI]at h k;have a:=Pg h.1 k.1;have b:=Rb h.2 k.2;rw[t7,A3];exact⟨E3 b.1 a.1,E3 b.2 a.2⟩
theorem Pf(h:K1 d=true)(k:K1 e=true):(i4 d e).isSome=true/\(C2 d e).isSome=true:=by obtain⟨a,b,rfl,h⟩:=Mr h;obtain⟨x,y,rfl,k⟩:=Mr k;have z:=Rb h k;simp only[i4,t7,C2,A3];exact⟨E3 (E3 rfl z.1) rfl,E3 (E3 rfl z.2) rfl⟩
theorem jB(h:U2 d=true)(k:U2 e=true):(C2 d e).isSome=true:=by obtain⟨a,b,c,rfl,h⟩:=Mq h;obtain⟨x,y,z,rfl,k⟩:=Mq k;have w:=Pf h k;rw[C2,A3,A3,A3,A3,C2,C2];exact E3 (E3 (E3 rfl rfl) rfl) w.2
theorem Cr(h:G6 d=true):d.oi=true/\d.ob=true/\d.dep<=1/\z7 d=true:=by obtain⟨a,b,rfl⟩:=Ms h;exact⟨rfl,rfl,ζ _,rfl⟩
theorem Xe(h:K1 d=true):d.oi=true/\d.ob=true/\d.dep<=3/\z7 d=true:=by
 obtain⟨a,b,rfl,h2⟩:=Mr h;clear h;have h:=KB.mp h2;have d1:i8 b<=1:=Ec fun x hx=>(Cr (h x hx)).2.2.1
 refine⟨?_,?_,?_,rfl⟩
 . simp only[D.oi,ois,Hr fun x hx=>(Cr (h x hx)).1,OW]
 . simp only[D.ob,obs,Hq fun x hx=>(Cr (h x hx)).2.1,OW]
 . simp only[D.dep,i8];omega
theorem okG(o:∀{d},P d=true->d.oi=true/\d.ob=true/\d.dep<=3/\z7 d=true)(c:∀{d e},P d=true->P e=true->(i4 d e).isSome=true)(h:ds.all P=true):x0 ds=true:=by rw[KB]at h;unfold x0;rw[Hr fun x hx=>(o (h x hx)).1,decide_eq_true (KM (Ec fun x hx=>(o (h x hx)).2.2.1) (by decide)),KB.mpr fun x hx=>KB.mpr fun y hy=>c (h x hx) (h y hy),KB.mpr fun x hx=>(o (h x hx)).2.2.2];simp
theorem y55(h:ds.all G6=true):x0 ds=true:=okG (fun k=>have z:=Cr k;⟨z.1,z.2.1,KM z.2.2.1 (by decide),z.2.2.2⟩) (fun a b=>(Pg a b).1) h
theorem Xd(h:ds.all K1=true):x0 ds=true:=okG Xe (fun a b=>(Pf a b).1) h
theorem y56(h0:0<ds.length)(h:ds.all U2=true):V7 ds=true:=by
 rw[KB]at h;have o:∀d∈ds,d.ob=true/\d.dep<=4:=fun d hd=>by obtain⟨c,a,b,rfl,k⟩:=Mq (h d hd);have:=Xe k;simp only[D.ob,obs,this.2.1,D.dep,i8,OW,true_and];omega
 unfold V7;rw[decide_eq_true h0,Hq fun x hx=>(o x hx).1,decide_eq_true (KM (Ec fun x hx=>(o x hx).2) (by decide)),KB.mpr fun x hx=>KB.mpr fun y hy=>jB (h x hx) (h y hy)];rfl
def By:List D->Option D
 | [.lst ds]=>if ds.all G6=true then some (.lst (p9 ds)) else A6 [.lst ds]
 |x=>A6 x
theorem Ju:A6=By:=by
 funext x;unfold By;split
 . split
   . rename_i h;rw[A6,ξ (y55 h)]
   . rfl
 . rfl
def Jt:List D->Option D
 | [.dn ks ds]=>if(ks.map t5).all K1=true then some (.lst (p9 (ks.map t5))) else S8 [.dn ks ds]
 |x=>S8 x
theorem qO:S8=Jt:=by
 funext x;unfold Jt;split
 . split
   . rename_i h;rw[S8,ξ (Xd h)]
   . rfl
 . rfl
def Ho:List D->Option D
 | [.lst ds]=>if 0<ds.length/\ds.all U2=true then some (Xj ds) else R8 [.lst ds]
 |x=>R8 x
theorem jA:R8=Ho:=by
 funext x;unfold Ho;split
 . split
   . rename_i h;rw[R8,ξ (y56 h.1 h.2)]
   . rfl
 . rfl
mutual
def bqK:NK->NK->Bool
 | .i a,.i b=>a==b
 | .t a,.t b=>P4 a b
 |_,_=>false
def P4:List NK->List NK->Bool
 | [],[]=>true
 |a::as,b::bs=>bqK a b&&P4 as bs
 |_,_=>false
end
mutual
theorem Nm:∀a b:NK,bqK a b=true->a=b
 | .i a,.i b,h=>by simp only[bqK,OY]at h;rw[h]
 | .t a,.t b,h=>by simp only[bqK]at h;rw[Pe a b h]
 | .i _,.t _,h=>by simp[bqK]at h
 | .t _,.i _,h=>by simp[bqK]at h
theorem Pe:∀a b:List NK,P4 a b=true->a=b
 | [],[],_=>rfl
 |a::as,b::bs,h=>by simp only[P4,bI]at h;rw[Nm a b h.1,Pe as bs h.2]
 | [],_::_,h=>by simp[P4]at h
 |_::_,[],h=>by simp[P4]at h
end
mutual
theorem Nl:∀a:NK,bqK a a=true
 | .i a=>by simp[bqK]
 | .t a=>by simp only[bqK];exact Pd a
theorem Pd:∀a:List NK,P4 a a=true
 | []=>rfl
 |a::as=>by simp only[P4,Nl a,Pd as,OW]
end
def dkK:DecidableEq NK:=fun a b=>if h:bqK a b=true then .isTrue (Nm a b h) else .isFalse fun e=>h (e ▸ Nl a)
def dSetNw(i:DecidableEq NK):D->D->D->Option D
 | .dn ks ds,.tup es,v=>match nkD (.tup es) with
  |some k=>if ks.length<100000/\k.dep<=8 then some (.dn (@Gv NK i ks k) (@E9 NK i D ks ds k v)) else none
  |none=>none
 |_,_,_=>none
def dSetNc:D->D->D->Option D:=dSetNw dkK
theorem jz:dSetN=dSetNc:=by rw[dSetNc,Subsingleton.elim dkK (inferInstance:DecidableEq NK)];funext a b c;cases a<;>cases b<;>rfl
def iDC(i j:Int):Decidable (P7 i j):=inferInstanceAs (Decidable (0<j/\j.natAbs<2 ^ 9000))
def dDivC:D->D->Option D:=@dIC P7 iDC fun i j=>.int (i / j)
theorem y2f:dDivH=dDivC:=by unfold dDivH dDivC;congr 1
def g_imageC:DS->SR:=
 (i5 [true,true] (n8 (d7 (eOp dIx (d6 0) (eC (.int 0))) (d7 (eCB J7 (d7 (eCB By (d7 (o6 (iL (eOp dIx (d6 0) (eC (.int 1)))) (bT 2) [1] p7 Uq) d9)) d9)) d9))))
def m_imageC:List D->R D:=mOf false 2 0 g_imageC
def g_spunC:DS->SR:=
 (e9 (g7 false 2 [true] (eOp dIx (d6 0) (eC (.int 0))))
  (i5 [true,true,true] (g6 m_imageC (d7 (d6 0) (d7 (o6 (x8 (d7 (d6 2) d9)) b1 [2,1] p7 Tm) d9)))))
def m_spunC:List D->R D:=mOf false 2 1 g_spunC
def g_mirroredC:DS->SR:=
 (e9 (g7 false 1 [true] (eOp dIx (d6 0) (eC (.int 0))))
  (i5 [true,true] (g6 m_imageC (d7 (d6 0) (d7 (o6 (x8 (d7 (d6 1) d9)) b1 [1] p7 Wq) d9)))))
def m_mirroredC:List D->R D:=mOf false 1 1 g_mirroredC
def h_all_images_0C:DE->R D:=
 (n8 (d7 (g6 m_spunC (d7 (d6 1) (d7 (d6 0) d9))) (d7 (eC (.bl false)) (d7 (d6 0) d9))))
def h_all_images_1C:DE->R D:=
 (n8 (d7 (g6 m_spunC (d7 (d6 1) (d7 (d6 0) d9))) (d7 (eC (.bl true)) (d7 (d6 0) d9))))
def g_all_imagesC:DS->SR:=
 (e9 (g7 true 1 [true] (o6 (x8 (d7 (eOp dIx (d6 0) (eC (.int 0))) d9)) b1 [0] p7 h_all_images_0C))
  (e9 (g7 false 2 [true] (g6 m_mirroredC (d7 (d6 0) d9)))
  (i5 [true,true,true] (eOp z9 (d6 1) (o6 (x8 (d7 (eOp dIx (d6 0) (eC (.int 0))) d9)) b1 [2] p7 h_all_images_1C)))))
def m_all_imagesC:List D->R D:=mOf true 1 2 g_all_imagesC
def g_least_imageC:DS->SR:=
 (e9 (g7 false 1 [true] (eCB Ho (d7 (g6 m_all_imagesC (d7 (d6 0) d9)) d9)))
  (i5 [false,true] (n8 (d7 (eOp dIx (d6 1) (eC (.int 0))) (d7 (eOp dIx (d6 1) (eC (.int 2))) (d7 (eOp dIx (d6 1) (eC (.int 1))) d9))))))
def m_least_imageC:List D->R D:=mOf false 1 1 g_least_imageC
def g_stretches_atC(M:List D->R D):DS->SR:=
 (e9 (sIf (i7 asB (eOp dEq (d6 2) (eOp v5 (d6 1) (eC (.int 1)))))
   (i5 [false,true,true] (t0 (d7 (n8 (d7 (d6 1) (d7 (d6 2) d9))) d9)))
   sNx)
  (e9 (g7 false 4 [false,true] (eOp v5 (d6 1) (eC (.int 1))))
  (e9 (g7 false 5 [false,false,false,true] (d6 3))
  (e9 (Bs 1000 Xa Wz)
  (e9 (g7 true 6 [true,true,true,false,true,true] (g6 M (d7 (d6 0) (d7 (d6 1) (d7 (d6 4) (d7 (eOp dDivC (d6 5) (eOp dIx (d6 0) (eOp n6 (d6 2) (d6 4)))) d9))))))
  (e9 (g7 true 7 [true,false,true,false,true,true] (g6 M (d7 (d6 0) (d7 (d6 4) (d7 (d6 2) (d7 (eOp v9 (d6 5) (eOp dIx (d6 0) (eOp n6 (d6 2) (d6 4)))) d9))))))
  (i5 [false,true,true,false,false,false,true,true] (eOp z9 (eOp z9 (t0 (d7 (n8 (d7 (d6 1) (d7 (d6 2) d9))) d9)) (d6 6)) (d6 7)))))))))
def m_stretches_atC:List D->R D:=L9 true 4 4 g_stretches_atC 64
def g_at_placeC:DS->SR:=
 (e9 (J5 (g6 E5 (d7 (d6 0) d9)))
  (e9 (g7 true 2 [true] (g6 U1 (d7 (d6 0) d9)))
  (e9 (sIf (bOr (w4 (i7 o9 (g6 O9 (d7 (d6 1) d9)))) (w4 (Be (eC (.int 0)) (Bw dLe (d6 1) (Bx B6 (eOp dIx (d6 2) (eOp n6 (d6 0) (eC (.int 1)))))))))
   (O3 "NoPlace" (d7 (eC (.str "no place of a cutting of the floor")) d9))
   sNx)
  (i5 [true,true,true] (n8 (d7 (d6 0) (d7 (eCB J7 (d7 (eCB By (d7 (o6 (iL (g6 m_stretches_atC (d7 (d6 2) (d7 (eC (.int 0)) (d7 (eOp n6 (d6 0) (eC (.int 1))) (d7 (d6 1) d9)))))) b1 [0] Wp Wo) d9)) d9)) d9)))))))
def m_at_placeC:List D->R D:=mOf false 2 1 g_at_placeC
def h_unlike_0C:DE->R D:=
 (eOp dIx (g6 m_least_imageC (d7 (g6 m_at_placeC (d7 (d6 1) (d7 (d6 0) d9))) d9)) (eC (.int 0)))
def h__law_images_1C:DS->SR:=
 (e9 (g7 true 5 [] (t0 d9))
  (e9 (B7 false [true] (iL (eOp dIx (d6 0) (eC (.int 1)))) (.t [6,7]) Wx)
  (Bd dSetNc 2 [false,true,false,false,false,true] (n8 (d7 (d6 1) (d7 (eCB J7 (d7 (eCB By (d7 (d6 5) d9)) d9)) d9))) (eC (.bl true)))))
def h__law_images_2C:DS->SR:=
 (B7 false [] (iL (t0 (d7 (eC (.int 1)) (d7 (eUn Bc (eC (.int 1))) d9)))) (.n 4) h__law_images_1C)
def g__law_imagesC:DS->SR:=
 (e9 (g7 false 1 [true] (eOp dIx (d6 0) (eC (.int 0))))
  (e9 (g7 true 2 [] Gk)
  (e9 (B7 true [false,true] (x8 (d7 (d6 1) d9)) (.n 3) h__law_images_2C)
  (i5 [false,false,true] (eCB Jt (d7 (d6 2) d9))))))
def m__law_imagesC:List D->R D:=mOf true 1 8 g__law_imagesC
theorem yh:Jw=g_imageC:=by unfold Jw g_imageC;rw[Ju]
theorem Up:Q5=m_imageC:=by unfold Q5 m_imageC;rw[yh]
theorem wN:Ht=g_spunC:=by unfold Ht g_spunC;rw[Up]
theorem Tl:O2=m_spunC:=by unfold O2 m_spunC;rw[wN]
theorem zP:Lv=g_mirroredC:=by unfold Lv g_mirroredC;rw[Up]
theorem zO:Z8=m_mirroredC:=by unfold Z8 m_mirroredC;rw[zP]
theorem z6g:Mm=h_all_images_0C:=by unfold Mm h_all_images_0C;rw[Tl]
theorem z6h:Ml=h_all_images_1C:=by unfold Ml h_all_images_1C;rw[Tl]
theorem z89:Mg=g_all_imagesC:=by unfold Mg g_all_imagesC;rw[zO,z6g,z6h]
theorem z8a:Ag=m_all_imagesC:=by unfold Ag m_all_imagesC;rw[z89]
theorem z7v:Mh=g_least_imageC:=by unfold Mh g_least_imageC;rw[jA,z8a]
theorem z7w:Al=m_least_imageC:=by unfold Al m_least_imageC;rw[z7v]
theorem z6i:Cq=g_stretches_atC:=by unfold Cq g_stretches_atC;rw[y2f]
theorem z6j:Cp=m_stretches_atC:=by unfold Cp m_stretches_atC;rw[z6i]
theorem zN:Lu=g_at_placeC:=by unfold Lu g_at_placeC;rw[Ju,z6j]
theorem zM:Z7=m_at_placeC:=by unfold Z7 m_at_placeC;rw[zN]
theorem zL:Ls=h_unlike_0C:=by unfold Ls h_unlike_0C;rw[z7w,zM]
theorem z5x:Mp=h__law_images_1C:=by unfold Mp h__law_images_1C;rw[jz,Ju]
theorem z5y:Mo=h__law_images_2C:=by unfold Mo h__law_images_2C;rw[z5x]
theorem z7x:Mj=g__law_imagesC:=by unfold Mj g__law_imagesC;rw[qO,z5y]
theorem Wv:L0=m__law_imagesC:=by unfold L0 m__law_imagesC;rw[z7x]
def cdU:Nat->List Nat
 | 3=>[0]
 | 4=>[2]
 | 5=>[203]
 | 6=>[20304,20335,20424]
 | 7=>[2030405,2030446,2030535,2033646]
 | 8=>[203040506,203040557,203040646,203044647,203044757,203050635,203053557,203063646,203353757,203363746,203374647,204062446]
 |_=>[]
def cdA:Nat->List Nat
 | 3=>[0]
 | 4=>[2,13]
 | 5=>[203,224,313,1314,1424]
 | 6=>[20304,20335,20424,22425,22535,30413,31335,41314,41424,131415,131535,141524,152425,152535]
 | 7=>[2030405,2030446,2030535,2033536,2033646,2040524,2042446,2052425,2052535,2242526,2242646,2252635,2263536,2263646,3040513,3041346,3051335,3133536,3133646,4051314,4051424,4131446,4142446,5131415,5131535,5141524,5152425,5152535,13141516,13141646,13151635,13163536,13163646,14151624,14162446,15162425,15162535,16242526,16242646,16252635,16263536,16263646]
 | 8=>[203040506,203040557,203040646,203044647,203044757,203050635,203053557,203063536,203063646,203353637,203353757,203363746,203374647,203374757,204050624,204052457,204062446,204244647,204244757,205062425,205062535,205242557,205253557,206242526,206242646,206252635,206263536,206263646,224252627,224252757,224262746,224274647,224274757,225262735,225273557,226273536,226273646,227353637,227353757,227363746,227374647,227374757,304050613,304051357,304061346,304134647,304134757,305061335,305133557,306133536,306133646,313353637,313353757,313363746,313374647,313374757,405061314,405061424,405131457,405142457,406131446,406142446,413144647,413144757,414244647,414244757,506131415,506131535,506141524,506152425,506152535,513141557,513153557,514152457,515242557,515253557,613141516,613141646,613151635,613163536,613163646,614151624,614162446,615162425,615162535,616242526,616242646,616252635,616263536,616263646,1314151617,1314151757,1314161746,1314174647,1314174757,1315161735,1315173557,1316173536,1316173646,1317353637,1317353757,1317363746,1317374647,1317374757,1415161724,1415172457,1416172446,1417244647,1417244757,1516172425,1516172535,1517242557,1517253557,1617242526,1617242646,1617252635,1617263536,1617263646,1724252627,1724252757,1724262746,1724274647,1724274757,1725262735,1725273557,1726273536,1726273646,1727353637,1727353757,1727363746,1727374647,1727374757]
 |_=>[]
def ix:Nat->List Nat
 | 3=>[0]
 | 4=>[0,0]
 | 5=>[0,0,0,0,0]
 | 6=>[0,1,2,1,0,1,0,0,1,0,1,2,1,0]
 | 7=>[0,1,2,3,1,2,2,2,2,1,3,2,1,0,1,3,2,1,0,1,0,3,1,0,1,2,3,1,0,1,2,3,1,2,2,2,2,1,3,2,1,0]
 | 8=>[0,1,2,4,3,5,6,7,6,4,10,8,9,1,2,8,11,8,2,6,5,7,6,2,8,11,8,2,1,9,8,10,4,6,7,6,5,3,4,2,1,0,1,9,8,10,4,6,7,6,5,3,4,2,1,0,3,4,2,1,0,4,10,8,9,1,1,0,9,1,8,2,10,4,4,3,0,1,2,4,3,5,6,7,6,4,10,8,9,1,0,1,2,4,3,5,6,7,6,4,10,8,9,1,2,8,11,8,2,6,5,7,6,2,8,11,8,2,1,9,8,10,4,6,7,6,5,3,4,2,1,0]
 |_=>[]
def wl:Nat->List Nat
 | 3=>[1]
 | 4=>[2]
 | 5=>[5]
 | 6=>[6,6,2]
 | 7=>[7,14,14,7]
 | 8=>[8,16,16,8,16,8,16,8,16,8,8,4]
 |_=>[]
mutual
def sqD:D->D->Bool
 | .int a,.int b=>a==b
 | .bl a,.bl b=>a==b
 | .tup a,.tup b=>Av a b
 | .lst a,.lst b=>Av a b
 |_,_=>false
def Av:List D->List D->Bool
 | [],[]=>true
 |a::as,b::bs=>sqD a b&&Av as bs
 |_,_=>false
end
mutual
theorem Au:∀{a b:D},sqD a b=true->a=b
 |a,b,h=>by
  unfold sqD at h;split at h
  . rw[OY]at h;rw[h]
  . rw[OY]at h;rw[h]
  . rw[Gg h]
  . rw[Gg h]
  . cases h
theorem Gg:∀{a b:List D},Av a b=true->a=b
 |a,b,h=>by
  unfold Av at h;split at h
  . rfl
  . rw[bI]at h;rw[Au h.1,Gg h.2]
  . cases h
end
def isR(r:R D)(d:D):Bool:=match r with
 | .ok e=>sqD e d
 |_=>false
theorem R7(h:isR r d=true):r=.ok d:=by
 unfold isR at h;split at h
 . rw[Au h]
 . cases h
def isS(r:Option D)(d:D):Bool:=match r with
 |some e=>sqD e d
 |_=>false
theorem Bf(h:isS r d=true):r=some d:=by
 unfold isS at h;split at h
 . rw[Au h]
 . cases h
def cD(n:Int)(ls:List P2):D:=.tup [.int n,.tup (ls.map T2)]
def dec:Nat->Nat->List P2
 | 0,_=>[]
 |k+1,c=>dec k (c / 100)++[(((c % 100 / 10:Nat):Int),((c % 10:Nat):Int))]
def enc(ls:List P2):Nat:=ls.foldl (fun a p=>a * 100+(p.1 * 10+p.2).toNat) 0
def kU(n i:Nat):D:=cD (n:Int) (dec (n - 3) ((cdU n).getD i 0))
def kA(n i:Nat):List P2:=dec (n - 3) ((cdA n).getD i 0)
def un1(n k:Nat):Bool:=isR (h_unlike_0C [some (.int (k:Int)),some (.int (n:Int))]) (kU n ((ix n).getD k 0))
def glR(r:R D)(n:Nat):Bool:=match r with
 | .ok (.lst (d::xs))=>(List.range (cdU n).length).any (fun i=>sqD d (kU n i))&&decide (xs.length<100)
 |_=>false
theorem y2g(h:glR r n=true):∃i xs,i<(cdU n).length/\r=.ok (.lst (kU n i::xs)):=by
 unfold glR at h;split at h
 . rw[bI,List.any_eq_true]at h;obtain⟨i,hi,q⟩:=h.1;exact⟨i,_,OE.mp hi,by rw[Au q]⟩
 . cases h
def gl1(n k:Nat):Bool:=glR (m__law_imagesC [cD (n:Int) (kA n k)]) n
def unOk(n a k:Nat):Bool:=(List.range' a k).all (un1 n)
def glOk(n a k:Nat):Bool:=(List.range' a k).all (gl1 n)
theorem j7(h:(List.range' a k).all f=true)(i:Nat)(h1:a<=i)(h2:i<a+k):f i=true:=
 KB.mp h i (List.mem_range'_1.mpr ⟨h1,h2⟩)
theorem y2h:unOk 3 0 1=true:=by decide +kernel
theorem un3:∀k,k<1->un1 3 k=true:=fun k hk=>by exact j7 y2h k (by omega) (by omega)
theorem y2i:glOk 3 0 1=true:=by decide +kernel
theorem gl3:∀k,k<1->gl1 3 k=true:=fun k hk=>by exact j7 y2i k (by omega) (by omega)
theorem y2j:unOk 4 0 2=true:=by decide +kernel
theorem un4:∀k,k<2->un1 4 k=true:=fun k hk=>by exact j7 y2j k (by omega) (by omega)
theorem y2k:glOk 4 0 2=true:=by decide +kernel
theorem gl4:∀k,k<2->gl1 4 k=true:=fun k hk=>by exact j7 y2k k (by omega) (by omega)
theorem y2l:unOk 5 0 5=true:=by decide +kernel
theorem un5:∀k,k<5->un1 5 k=true:=fun k hk=>by exact j7 y2l k (by omega) (by omega)
theorem y2m:glOk 5 0 5=true:=by decide +kernel
theorem gl5:∀k,k<5->gl1 5 k=true:=fun k hk=>by exact j7 y2m k (by omega) (by omega)
theorem y2n:unOk 6 0 14=true:=by decide +kernel
theorem un6:∀k,k<14->un1 6 k=true:=fun k hk=>by exact j7 y2n k (by omega) (by omega)
theorem y2o:glOk 6 0 14=true:=by decide +kernel
theorem gl6:∀k,k<14->gl1 6 k=true:=fun k hk=>by exact j7 y2o k (by omega) (by omega)
theorem y2p:unOk 7 0 14=true:=by decide +kernel
theorem jy:unOk 7 14 14=true:=by decide +kernel
theorem jx:unOk 7 28 14=true:=by decide +kernel
theorem un7:∀k,k<42->un1 7 k=true:=fun k hk=>by
 by_cases h0:k<14
 . exact j7 y2p k (by omega) (by omega)
 by_cases KR:k<28
 . exact j7 jy k (by omega) (by omega)
 exact j7 jx k (by omega) (by omega)
theorem y2q:glOk 7 0 14=true:=by decide +kernel
theorem jw:glOk 7 14 14=true:=by decide +kernel
theorem jv:glOk 7 28 14=true:=by decide +kernel
theorem gl7:∀k,k<42->gl1 7 k=true:=fun k hk=>by
 by_cases h0:k<14
 . exact j7 y2q k (by omega) (by omega)
 by_cases KR:k<28
 . exact j7 jw k (by omega) (by omega)
 exact j7 jv k (by omega) (by omega)
theorem y2r:unOk 8 0 12=true:=by decide +kernel
theorem ju:unOk 8 12 12=true:=by decide +kernel
theorem jt:unOk 8 24 12=true:=by decide +kernel
theorem jo:unOk 8 36 12=true:=by decide +kernel
theorem jm:unOk 8 48 12=true:=by decide +kernel
theorem jk:unOk 8 60 12=true:=by decide +kernel
theorem jj:unOk 8 72 12=true:=by decide +kernel
theorem ji:unOk 8 84 12=true:=by decide +kernel
theorem jh:unOk 8 96 12=true:=by decide +kernel
theorem qN:unOk 8 108 12=true:=by decide +kernel
theorem qM:unOk 8 120 12=true:=by decide +kernel
theorem un8:∀k,k<132->un1 8 k=true:=fun k hk=>by
 by_cases h0:k<12
 . exact j7 y2r k (by omega) (by omega)
 by_cases KS:k<24
 . exact j7 ju k (by omega) (by omega)
 by_cases KU:k<36
 . exact j7 jt k (by omega) (by omega)
 by_cases KW:k<48
 . exact j7 jo k (by omega) (by omega)
 by_cases KY:k<60
 . exact j7 jm k (by omega) (by omega)
 by_cases KZ:k<72
 . exact j7 jk k (by omega) (by omega)
 by_cases K':k<84
 . exact j7 jj k (by omega) (by omega)
 by_cases LA:k<96
 . exact j7 ji k (by omega) (by omega)
 by_cases LB:k<108
 . exact j7 jh k (by omega) (by omega)
 by_cases uQ:k<120
 . exact j7 qN k (by omega) (by omega)
 exact j7 qM k (by omega) (by omega)
theorem y2s:glOk 8 0 12=true:=by decide +kernel
theorem jg:glOk 8 12 12=true:=by decide +kernel
theorem jf:glOk 8 24 12=true:=by decide +kernel
theorem je:glOk 8 36 12=true:=by decide +kernel
theorem jd:glOk 8 48 12=true:=by decide +kernel
theorem jc:glOk 8 60 12=true:=by decide +kernel
theorem jb:glOk 8 72 12=true:=by decide +kernel
theorem ja:glOk 8 84 12=true:=by decide +kernel
theorem Zz:glOk 8 96 12=true:=by decide +kernel
theorem qK:glOk 8 108 12=true:=by decide +kernel
theorem qJ:glOk 8 120 12=true:=by decide +kernel
theorem gl8:∀k,k<132->gl1 8 k=true:=fun k hk=>by
 by_cases h0:k<12
 . exact j7 y2s k (by omega) (by omega)
 by_cases KS:k<24
 . exact j7 jg k (by omega) (by omega)
 by_cases KU:k<36
 . exact j7 jf k (by omega) (by omega)
 by_cases KW:k<48
 . exact j7 je k (by omega) (by omega)
 by_cases KY:k<60
 . exact j7 jd k (by omega) (by omega)
 by_cases KZ:k<72
 . exact j7 jc k (by omega) (by omega)
 by_cases K':k<84
 . exact j7 jb k (by omega) (by omega)
 by_cases LA:k<96
 . exact j7 ja k (by omega) (by omega)
 by_cases LB:k<108
 . exact j7 Zz k (by omega) (by omega)
 by_cases uQ:k<120
 . exact j7 qK k (by omega) (by omega)
 exact j7 qJ k (by omega) (by omega)
theorem Zy(h:3<=n)(h2:n<=8):∀k,k<(ix n).length->un1 n k=true:=by
 obtain rfl |rfl |rfl |rfl |rfl |rfl:n=3\/n=4\/n=5\/n=6\/n=7\/n=8:=by omega
 . exact un3
 . exact un4
 . exact un5
 . exact un6
 . exact un7
 . exact un8
theorem Zx(h:3<=n)(h2:n<=8):∀k,k<(cdA n).length->gl1 n k=true:=by
 obtain rfl |rfl |rfl |rfl |rfl |rfl:n=3\/n=4\/n=5\/n=6\/n=7\/n=8:=by omega
 . exact gl3
 . exact gl4
 . exact gl5
 . exact gl6
 . exact gl7
 . exact gl8
open Classical in
def dSSTw(i:DecidableEq NK)(ds:List D):Option D:=match Q6 ds with
 |some ks=>let us:=ks.foldl (fun a k=>if k∈a then a else a++[k]) []
  if us.length<64/\ks.all (fun k=>decide (k.dep<=8))=true/\ds.all Dv=true/\(us.map t5).all K1=true then some (.lst (p9 (us.map t5))) else none
 |none=>none
theorem y2t{ds:List D}{z:D}(h:dSSTw dkK ds=some z):dSST [.lst ds]=some z:=by
 rw[Subsingleton.elim dkK (inferInstance:DecidableEq NK)]at h;unfold dSSTw at h;unfold dSST;split at h
 . rename_i ks e;simp only[e];have ea:(fun (a:List NK)(k:NK)=>if k∈a then a else a++[k])=addK:=rfl;rw[ea]at h;dsimp only at h;split at h
   . rename_i c;rw[ξ ⟨c.1,fun k hk=>of_decide_eq_true (KB.mp c.2.1 k hk),c.2.2.1,Xd c.2.2.2⟩];exact h
   . cases h
 . cases h
abbrev fU(n:Nat):List D:=(List.range (cdU n).length).map (kU n)
def im1(r:R D)(u:D)(w:Nat):Bool:=match r with
 | .ok (.lst (d::xs))=>sqD d u&&(m8 xs&&decide (xs.length+1=w))
 |_=>false
theorem y2u{r:R D}{u:D}{w:Nat}(h:im1 r u w=true):∃xs,r=.ok (.lst (u::xs))/\m8 xs=true/\xs.length+1=w:=by
 unfold im1 at h;split at h
 . rename_i d xs;simp only[bI,NP]at h;exact⟨xs,by rw[Au h.1],h.2⟩
 . cases h
def wy(r:R D)(k w:D):Bool:=match r with
 | .ok (.lst ws)=>isS (dIx (.lst ws) k) w
 |_=>false
theorem y57{r:R D}{k w:D}(h:wy r k w=true):∃ws,r=.ok (.lst ws)/\dIx (.lst ws) k=some w:=by
 unfold wy at h;split at h
 . rename_i ws;exact⟨ws,rfl,Bf h⟩
 . cases h
def chk(n:Nat):Bool:=
 isR (X9 [.int (n:Int)]) (.int ((ix n).length:Int)) &&
 (isS (dSSTw dkK ((ix n).map (kU n))) (.lst (fU n)) &&
 ((List.range (cdU n).length).all (fun j=>isR (At [kU n j,.int (n:Int)]) (.bl true)&&(im1 (m__law_imagesC [kU n j]) (kU n j) ((wl n).getD j 0)&&(isS (dIn false (kU n j) (.lst (x3 (fU n) none (some (j:Int))))) (.bl false)&&isS (dIn false (kU n j) (.lst (fU n))) (.bl true)))) &&
 (isS (A6 [.lst (fU n)]) (.lst (fU n)) &&
 wy (T6 [.int ((n:Int) - 1)]) (.int ((n:Int) - 1)) (.int ((((List.range (cdU n).length).map fun j=>(wl n).getD j 0).sum:Nat):Int)))))
theorem y58:chk 3=true:=by decide +kernel
theorem y59:chk 4=true:=by decide +kernel
theorem y5a:chk 5=true:=by decide +kernel
theorem y5b:chk 6=true:=by decide +kernel
theorem y5c:chk 7=true:=by decide +kernel
theorem y5d:chk 8=true:=by decide +kernel
def clo(n:Nat):Bool:=(List.range (cdA n).length).all fun k=>(List.range n).all fun c=>
 (cdA (n+1)).contains (enc (so2 ((kA n k).map (sh2 (c:Int))++[C7 (n:Int) (c:Int)])))&&decide (dec (n - 2) (enc (so2 ((kA n k).map (sh2 (c:Int))++[C7 (n:Int) (c:Int)])))=so2 ((kA n k).map (sh2 (c:Int))++[C7 (n:Int) (c:Int)]))
theorem y5e:clo 3=true:=by decide +kernel
theorem y5f:clo 4=true:=by decide +kernel
theorem y5g:clo 5=true:=by decide +kernel
theorem y5h:clo 6=true:=by decide +kernel
theorem y5i:clo 7=true:=by decide +kernel
theorem qH{n:Nat}(h:3<=n)(h2:n<=8):chk n=true:=by
 obtain rfl |rfl |rfl |rfl |rfl |rfl:n=3\/n=4\/n=5\/n=6\/n=7\/n=8:=by omega
 . exact y58
 . exact y59
 . exact y5a
 . exact y5b
 . exact y5c
 . exact y5d
theorem qG{n:Nat}(h:3<=n)(h2:n<=7):clo n=true:=by
 obtain rfl |rfl |rfl |rfl |rfl:n=3\/n=4\/n=5\/n=6\/n=7:=by omega
 . exact y5e
 . exact y5f
 . exact y5g
 . exact y5h
 . exact y5i
theorem ixl{n:Nat}(h:3<=n)(h2:n<=8):(ix n).length<=132/\(cdU n).length<=12:=by
 obtain rfl |rfl |rfl |rfl |rfl |rfl:n=3\/n=4\/n=5\/n=6\/n=7\/n=8:=by omega
 all_goals decide
theorem Hm(n:Int)(v:List P2):(cD n v).noL=true:=by simp only[cD,D.noL,m8,zr,OW]
theorem y2v(n:Int)(v:List P2):(cD n v).pl=true:=by simp only[cD,D.pl,pls,kg v T2 y1l,OW]
theorem Zw(n:Int)(v:List P2):(cD n v).dep<=3:=by have:=Kg v T2 1 Ja;simp only[cD,D.dep,i8];omega
theorem Pc(n:Nat):∀l:List Nat,m8 (l.map (kU n))=true
 | []=>rfl
 |i::l=>by rw[NL,m8,show(kU n i).noL=true from Hm _ _,Pc n l];rfl
structure Kn(n:Nat):Prop where
 cnt:X9 [.int (n:Int)]=.ok (.int ((ix n).length:Int))
 sst:dSST [.lst ((ix n).map (kU n))]=some (.lst (fU n))
 cut:∀j,j<(cdU n).length->At [kU n j,.int (n:Int)]=.ok (.bl true)
 img:∀j,j<(cdU n).length->∃xs,L0 [kU n j]=.ok (.lst (kU n j::xs))/\m8 xs=true/\xs.length+1=(wl n).getD j 0
 nin:∀j,j<(cdU n).length->dIn false (kU n j) (.lst (x3 (fU n) none (some (j:Int))))=some (.bl false)
 isin:∀j,j<(cdU n).length->dIn false (kU n j) (.lst (fU n))=some (.bl true)
 srt:A6 [.lst (fU n)]=some (.lst (fU n))
 way:∃ws,T6 [.int ((n:Int) - 1)]=.ok (.lst ws)/\dIx (.lst ws) (.int ((n:Int) - 1))=some (.int ((((List.range (cdU n).length).map fun j=>(wl n).getD j 0).sum:Nat):Int))
theorem kn{n:Nat}(h:3<=n)(h2:n<=8):Kn n:=by have c:=qH h h2;unfold chk at c;simp only[bI,KB,OE]at c;obtain⟨c1,c2,c3,c4,c5⟩:=c;exact⟨R7 c1,y2t (Bf c2),fun j hj=>R7 (c3 j hj).1,fun j hj=>by rw[Wv];exact y2u (c3 j hj).2.1,fun j hj=>Bf (c3 j hj).2.2.1,fun j hj=>Bf (c3 j hj).2.2.2,Bf c4,y57 c5⟩
theorem Ra{n:Nat}(h:3<=n)(h2:n<=60):E5 [.int (n:Int)]=.ok .non:=by unfold E5 Mi O8 Lw O9 Lx;walk_at "dz";rw[decide_eq_true (show(3:Int)<=n by omega)];walk_at "dz";rw[decide_eq_true (show(n:Int)<=60 by omega)];walk_at "dz"
theorem wM{n:Nat}(h:3<=n)(h2:n<=8):A7 [.int (n:Int)]=.ok (.lst (fU n)):=by
 have K:=kn h h2;have hl:=ixl h h2;have hs:=K.sst;unfold A7 Er;walk_at "dz";rw[Ra h (by omega)];walk_at "dz";rw[NO (show ¬(8:Int)<n by omega)];walk_at "dz";simp only[eSST];walk_at "dz";rw[Ny ((ix n).length:Int) (by omega) (by walk_at "dz";rw[K.cnt];walk_at "dz")];walk_at "dz";rw[ξ (by rw[Qa];omega)];simp only[zD,Int.toNat_natCast];rw[Fg (en:=fun (i:Nat)=>D.int (0+(i:Int))) (bs:=fun (i:Nat)=>[D.int (0+(i:Int))]) (g:=fun (i:Nat)=>kU n ((ix n).getD i 0)) (List.range (ix n).length) (fun x _=>rfl) (fun i hi=>by rw[Int.zero_add,zL];exact R7 (Zy h h2 i (OE.mp hi)))];simp only[R.bind_ok];rw[show(List.range (ix n).length).map (fun i=>kU n ((ix n).getD i 0))=(ix n).map (kU n) by
  conv=>rhs;rw[kh (ix n) 0]
  rw[QU];rfl]
 rw[hs];generalize NF:fU n=us;walk_at "dz"
theorem Nk{d:D}{c:String}(hc:c="NoFloor"\/c="TooMany")(h:A7 [d]=.er ⟨c,[]⟩):T9 [d]=.ok (.lst [.bl true,.bl (decide (c="NoFloor")),.bl (decide (c="TooMany")),.bl false,.bl false]):=by
 have k:(R.er ⟨c,[]⟩:R D).kn knX=.er ⟨c,[]⟩:=by rcases hc with rfl |rfl<;>rfl
 have body:J5 (U6 knX A7 (d7 (d6 0) d9)) [.im d,.ow (.lst []),.em]=.er ⟨c,[]⟩:=by walk_at "dz";simp only[U6];walk_at "dz";rw[h,k];rfl
 have s1:g7 true 1 [] (t0 d9) [.im d,.em,.em]=.nx [.im d,.ow (.lst []),.em]:=by walk_at "dz"
 unfold T9;rw[ki,ξ (show [d].length=1 from rfl)];show SR.out true (Mk [.im d,.em,.em])=_;unfold Mk;rw[jC s1,Sg];unfold Cy;rw[body];rcases hc with rfl |rfl<;>rfl
theorem yg{d:D}(h:O8 [d]=.ok (.bl false)):A7 [d]=.er ⟨"NoFloor",[]⟩:=by
 have e:E5 [d]=.er ⟨"NoFloor",[]⟩:=by unfold E5 Mi;walk_at "dz";rw[h];walk_at "dz";simp only[O3];walk_at "dz"
 unfold A7 Er;walk_at "dz";rw[e];walk_at "dz"
theorem Bo{i:Int}(h:¬(3<=i/\i<=60)):O8 [.int i]=.ok (.bl false):=by
 unfold O8 Lw O9 Lx;walk_at "dz";by_cases h3:(3:Int)<=i
 . rw[decide_eq_true h3];walk_at "dz";rw[NO (show ¬i<=60 by omega)]
 . rw[NO h3];walk_at "dz"
theorem Zv{n:Int}(h:9<=n)(h2:n<=60):A7 [.int n]=.er ⟨"TooMany",[]⟩:=by have e:=Ra (n:=n.toNat) (by omega) (by omega);rw[Int.toNat_of_nonneg (by omega)]at e;unfold A7 Er;walk_at "dz";rw[e];walk_at "dz";rw[decide_eq_true (show(8:Int)<n by omega)];walk_at "dz";simp only[O3];walk_at "dz"
theorem Zu(c:Int):U0 [.int c]=.ok (.bl true):=by
 have r0:0<=c / 9 % 10 ^ 30:=SO _ (by decide);have q0:0<=c / 9 % 52:=SO _ (by decide);have q1:c / 9 % 52<52:=SQ _ (by decide);have m0:0<=c % 9:=SO _ (by decide);have m1:c % 9<9:=SQ _ (by decide);have LC:∃d:D,O8 [d]=.ok (.bl false)/\d.noL=true/\dIx (.lst [.int 2,.int 61,.int (2 - c / 9 % 10 ^ 30),.int (61+c / 9 % 10 ^ 30),.bl true,.non,.str "5",.tup [.int 5],.int 0]) (.int (c % 9))=some d:=by
  obtain e |e |e |e |e |e |e |e |e:c % 9=0\/c % 9=1\/c % 9=2\/c % 9=3\/c % 9=4\/c % 9=5\/c % 9=6\/c % 9=7\/c % 9=8:=by omega
  all_goals rw[e]
  . exact⟨_,Bo (by omega),rfl,rfl⟩
  . exact⟨_,Bo (by omega),rfl,rfl⟩
  . exact⟨_,Bo (by omega),rfl,rfl⟩
  . exact⟨_,Bo (by omega),rfl,rfl⟩
  . exact⟨.bl true,R7 (by decide +kernel),rfl,rfl⟩
  . exact⟨.non,R7 (by decide +kernel),rfl,rfl⟩
  . exact⟨.str "5",R7 (by decide +kernel),rfl,rfl⟩
  . exact⟨.tup [.int 5],R7 (by decide +kernel),rfl,rfl⟩
  . exact⟨_,Bo (by omega),rfl,rfl⟩
 obtain⟨d,h1,h2,h3⟩:=LC;have e1:=Nk (.inl rfl) (yg h1);have e2:=Nk (.inr rfl) (Zv (n:=9+c / 9 % 52) (by omega) (by omega));simp only[SS,show decide ("NoFloor"="TooMany")=false from rfl,show decide ("TooMany"="NoFloor")=false from rfl]at e1 e2;unfold U0 Ww;walk_at "dz";rw[Gp (by omega),show Ni (D.int 10) (D.int 30)=some (D.int (10 ^ 30)) from rfl];walk_at "dz";rw[S3 (by decide)];walk_at "dz";rw[S3 (by omega)];walk_at "dz";rw[h3];walk_at "dz";rw[show keeps false d=true from h2];walk_at "dz";rw[e1];walk_at "dz";rw[Ub (by simp[D.pl,pls]) (by simp[D.dep,i8])];walk_at "dz";rw[Gp (by omega)];walk_at "dz";rw[S3 (by omega)];walk_at "dz";rw[e2];walk_at "dz";rw[xy (by simp[D.pl,pls]) (by simp[D.dep,i8])];walk_at "dz"
theorem y2w{n:Nat}(h:3<=n)(h2:n<=7){k c:Nat}(hk:k<(cdA n).length)(hc:c<n):∃k',k'<(cdA (n+1)).length/\so2 ((kA n k).map (sh2 (c:Int))++[C7 (n:Int) (c:Int)])=kA (n+1) k':=by
 have z:=qG h h2;unfold clo at z;simp only[KB,OE,bI,NP]at z;obtain⟨z1,z2⟩:=z k hk c hc;rw[List.contains_iff_mem]at z1;obtain⟨k',cr,e⟩:=NR.mp z1;refine⟨k',cr,?_⟩;have e2:(cdA (n+1)).getD k' 0=enc (so2 ((kA n k).map (sh2 (c:Int))++[C7 (n:Int) (c:Int)])):=by rw[io,NG cr,TH];exact e
 show _=dec (n+1 - 3) ((cdA (n+1)).getD k' 0);rw[e2,show n+1 - 3=n - 2 by omega];exact z2.symm
theorem Zt(A0:Sl){n k:Nat}{ls:List P2}(h:3<=n)(h2:n<=7)(hk:k<(cdA n).length)(hl:ls.length<=60)(e:so2 ls=kA n k)(cell:Int) :
  ∃(k':Nat)(eD:List P2),k'<(cdA (n+1)).length/\eD.length=ls.length+1/\so2 eD=kA (n+1) k'/\Fs [A0,.im (.int (n:Int)),.ow (.lst (ls.map T2)),.im (.int cell)]=.nx [A0,.im (.int ((n+1:Nat):Int)),.ow (.lst (eD.map T2)),.im (.int cell)]:=by
 have m0:0<=cell % (n:Int):=SO _ (by omega)
 have m1:cell % (n:Int)<n:=SQ _ (by omega)
 obtain⟨c,hc⟩:∃c:Nat,cell % (n:Int)=c:=⟨(cell % (n:Int)).toNat,by omega⟩
 obtain⟨k',cr,e'⟩:=y2w h h2 hk (c:=c) (by omega)
 refine⟨k',ls.map (sh2 (c:Int))++[C7 (n:Int) (c:Int)],cr,by simp,?_,?_⟩
 . rw[<-e',<-e];exact xz (((xA ls).symm.map _).append_right _)
 . unfold Fs;walk_at "dz";rw[S3 (by omega)];walk_at "dz";rw[y2b _ _ _ (by omega),hc];generalize (ls.map (sh2 (c:Int))++[C7 (n:Int) (c:Int)])=xs;walk_at "dz";rfl
theorem qF(cs:List Int)(hl:cs.length<=5):∃k,k<(cdA (cs.length+3)).length/\T7 [L cs]=.ok (cD ((cs.length+3:Nat):Int) (kA (cs.length+3) k)):=by
 obtain⟨ay,e,n,k,ls,s3,hn,h3,hk,LD,es,hr⟩:=xD (tg:=.n 3) (g:=Fs) (en:=D.int)
  (fun r ρ=>∃(n k:Nat)(ls:List P2)(s3:Sl),n+r.length=cs.length+3/\3<=n/\k<(cdA n).length/\ls.length+3=n/\so2 ls=kA n k/\ρ=[.im (L cs),.im (.int (n:Int)),.ow (.lst (ls.map T2)),s3])
  cs [.im (L cs),.im (.int 3),.ow (.lst []),.em] ⟨3,0,[],.em,by omega,by omega,by decide,rfl,rfl,rfl⟩ (by rintro x r ρ ⟨n,k,ls,s3,hn,h3,hk,LD,es,rfl⟩;simp only[NM]at hn;obtain⟨k',eD,q1,q2,q3,q4⟩:=Zt (.im (L cs)) h3 (by omega) hk (by omega) es x;exact⟨_,_,rfl,Or.inl q4,n+1,k',eD,_,by omega,by omega,q1,by omega,q3,rfl⟩)
 simp only[TR,TW]at hn;subst hn;refine⟨k,hk,?_⟩;unfold T7 Wr;simp only[L]at e⊢;walk_at "dz";rw[e,hr];walk_at "dz";rw[sorted_T2 _ (by omega),es];unfold cD;walk_at "dz"
theorem y5j{n k:Nat}(h:3<=n)(h2:n<=8)(hk:k<(cdA n).length):∃i xs,i<(cdU n).length/\L0 [cD (n:Int) (kA n k)]=.ok (.lst (kU n i::xs)):=by rw[Wv];exact y2g (Zx h h2 k hk)
theorem y2x{n:Nat}(K:Kn n)(h8:n<=8){j:Nat}(hj:j<(cdU n).length)(hl:(cdU n).length<=12)(A0 A1 s7 s8:Sl)(t:Nat) :
  ∃oN,X8 [A0,A1,.im (.int (n:Int)),.im (.lst (fU n)),.im (.int (t:Int)),.im (.int (j:Int)),.im (kU n j),s7,s8]=.nx [A0,A1,.im (.int (n:Int)),.im (.lst (fU n)),.im (.int ((t+(wl n).getD j 0:Nat):Int)),.im (.int (j:Int)),.im (kU n j),oN,s8]:=by
 obtain⟨xs,i1,i3,i2⟩:=K.img j hj
 have nin:=K.nin j hj
 have srt:=K.srt
 have e0:dIx (.lst (kU n j::xs)) (.int 0)=some (kU n j):=Sf _ _
 have ej:dIx (.lst (fU n)) (.int (j:Int))=some (kU n j):=Qb (by rw[NS,List.getElem?_range hj];rfl)
 have ee:dNe (kU n j) (kU n j)=some (.bl false):=Ub (y2v _ _) (KM (Zw _ _) (by decide))
 have nl:(kU n j).noL=true:=Hm _ _
 generalize fU n=us at *
 generalize kU n j=u at *
 unfold X8
 walk_at "dz"
 rw[i1]
 walk_at "dz"
 rw[nl,i3]
 walk_at "dz"
 rw[ee]
 walk_at "dz"
 rw[show dSl (.lst us) none (some (j:Int))=some (.lst (x3 us none (some (j:Int)))) from rfl]
 walk_at "dz"
 rw[nin]
 walk_at "dz"
 rw[srt]
 walk_at "dz"
 rw[ej]
 walk_at "dz"
 rw[ee]
 walk_at "dz"
 exact⟨_,by rw[i2,Int.natCast_add]⟩
theorem Zs{n:Nat}(K:Kn n)(h8:n<=8)(hl:(cdU n).length<=12)(A0 A1 s8:Sl) :
  ∃s5 s6 s7,C5 (.t [5,6]) X8 ((List.range (cdU n).length).map fun (i:Nat)=>D.tup [.int (i:Int),kU n i]) [A0,A1,.im (.int (n:Int)),.im (.lst (fU n)),.im (.int 0),.em,.em,.em,s8]=.nx [A0,A1,.im (.int (n:Int)),.im (.lst (fU n)),.im (.int ((((List.range (cdU n).length).map fun j=>(wl n).getD j 0).sum:Nat):Int)),s5,s6,s7,s8]:=by
 obtain⟨ay,e,s5,s6,s7,hr⟩:=xC (tg:=.t [5,6]) (g:=X8) (cdU n).length (fun (i:Nat)=>D.tup [.int (i:Int),kU n i])
  (fun k ρ=>∃s5 s6 s7:Sl,ρ=[A0,A1,.im (.int (n:Int)),.im (.lst (fU n)),.im (.int ((((List.range k).map fun j=>(wl n).getD j 0).sum:Nat):Int)),s5,s6,s7,s8])
  [A0,A1,.im (.int (n:Int)),.im (.lst (fU n)),.im (.int 0),.em,.em,.em,s8] ⟨_,_,_,rfl⟩ (by
   rintro i hi ρ ⟨s5,s6,s7,rfl⟩;obtain⟨oN,q⟩:=y2x K h8 hi hl A0 A1 s7 s8 ((List.range i).map fun j=>(wl n).getD j 0).sum;refine⟨_,_,?_,Or.inl q,.im (.int (i:Int)),.im (kU n i),oN,?_⟩
   . generalize kU n i=u;rfl
   . rw[List.range_succ,RH,List.sum_append];simp only[NL,QR,List.sum_cons,List.sum_nil,TW])
 exact⟨s5,s6,s7,by rw[e,hr]⟩
def tl:DS->SR:=(e9 (g7 true 3 [false,false,true] (g6 A7 (d7 (d6 2) d9)))
 (e9 (sIf (bOr (w4 (i7 o9 (eUn (p8 "list") (d6 3)))) (w4 (i7 o9 (eCB R0 (d7 (o6 (iL (d6 3)) b1 [2] p7 Ed) d9)))))
  (i5 [] (eC (.bl false)))
  sNx)
 (e9 (g7 false 4 [] (eC (.int 0)))
 (e9 (B7 false [false,false,false,true] (iEn (d7 (d6 3) d9)) (.t [5,6]) X8)
 (e9 (g7 false 8 [true,false,true,false,false,true] (g6 T7 (d7 (o6 (x8 (d7 (eOp n6 (d6 2) (eC (.int 3))) d9)) b1 [0] p7 Jv) d9)))
 (i5 [false,false,true,true,true,false,false,false,true] (J1 (eOp dEq (d6 4) (eOp dIx (g6 T6 (d7 (eOp n6 (d6 2) (eC (.int 1))) d9)) (eOp n6 (d6 2) (eC (.int 1))))) (eOp (dIn false) (eOp dIx (g6 L0 (d7 (d6 8) d9)) (eC (.int 0))) (d6 3)))))))))
theorem Xb(ns:List Int)(dY:ns.length<=63)(c:Int){n:Nat}(h3:3<=n)(h8:n<=8):tl [.im (.scr ns),.im (.int c),.im (.int (n:Int)),.em,.em,.em,.em,.em,.em]=.rt (.bl true):=by
 have K:=kn h3 h8;have hl:=(ixl h3 h8).2;have hk:m8 (fU n)=true:=Pc n _;obtain⟨s5,s6,s7,lp⟩:=Zs K h8 hl (.im (.scr ns)) (.im (.int c)) .em;obtain⟨cs,gC⟩:∃cs,cs=(List.range (n - 3)).map fun (i:Nat)=>pkv ns (2+(i:Int)):=⟨_,rfl⟩
 have cN:cs.length+3=n:=by rw[gC,oQ,SD];omega
 obtain⟨k,k1,k2⟩:=qF cs (by omega);rw[cN]at k1 k2;obtain⟨i,xs,i1,i2⟩:=y5j h3 h8 k1;obtain⟨ws,w1,w2⟩:=K.way;have e0:dIx (.lst (kU n i::xs)) (.int 0)=some (kU n i):=Sf _ _;have isin:=K.isin i i1;have un:=wM h3 h8;have LF:(cD (n:Int) (kA n k)).noL=true:=Hm _ _;have all:J3 b1 p7 Ed [some (.int (n:Int))] (fU n)=.ok ((List.range (cdU n).length).map fun _=>D.bl true):=Fg (en:=kU n) (bs:=fun j=>[kU n j]) (g:=fun _=>D.bl true) _ (fun x _=>rfl) (fun j hj=>by unfold Ed;walk_at "dz";rw[K.cut j (OE.mp hj)]);have CU:=xB (cdU n).length (kU n);have fl:(fU n).length=(cdU n).length:=by rw[oQ,SD]
 change ((zD 0 (fU n).length).zip (fU n)).map (fun p=>D.tup [p.1,p.2])=_ at CU;rw[<-CU]at lp;generalize kU n i=u at *;generalize cD (n:Int) (kA n k)=gg at *;generalize fU n=us at *;unfold tl;walk_at "dz";rw[show A7 [.int (n:Int)]=.ok (.lst us) from un];walk_at "dz";rw[hk];walk_at "dz";rw[ξ (by omega),all];walk_at "dz";rw[all_map _ (fun _=>true),KB.mpr (fun _ _=>rfl)];walk_at "dz";simp only[iEn];walk_at "dz";rw[lp];walk_at "dz";rw[Ny ((n:Int) - 3) (by omega) (by walk_at "dz")];walk_at "dz";rw[ξ (by rw[Qa];omega)];simp only[zD];rw[show((n:Int) - 3).toNat=n - 3 by omega];rw[Fg (en:=fun (i:Nat)=>D.int (0+(i:Int))) (bs:=fun (i:Nat)=>[D.int (0+(i:Int))]) (g:=fun (i:Nat)=>D.int (pkv ns (2+(i:Int)))) (List.range (n - 3)) (fun x _=>rfl) (fun i hi=>by unfold Jv;walk_at "dz";rw[Hs ns dY,Int.zero_add])];simp only[R.bind_ok];rw[show D.lst ((List.range (n - 3)).map fun (i:Nat)=>D.int (pkv ns (2+(i:Int))))=L cs by rw[gC];unfold L;rw[QU];rfl];walk_at "dz";rw[k2];walk_at "dz";rw[show keeps false gg=true from LF];walk_at "dz";rw[w1];walk_at "dz";rw[w2];walk_at "dz";rw[i2];walk_at "dz";rw[isin];walk_at "dz"
theorem wL(ns:List Int)(dY:ns.length<=63):V3 [.scr ns]=.ok (.bl true):=by
 obtain⟨c,hc⟩:∃c,c=pkv ns 0:=⟨_,rfl⟩;have a0:0<=c / 16 % 5:=SO _ (by decide);have a1:c / 16 % 5<5:=SQ _ (by decide);have k8:=Xb ns dY c (n:=8) (by omega) (by omega);have kx:=Xb ns dY c (n:=(3+c / 16 % 5).toNat) (by omega) (by omega);rw[Int.toNat_of_nonneg (by omega)]at kx;unfold V3;rw[show Nn=(e9 (g7 false 1 [true] (g6 K9 (d7 (d6 0) (d7 (eC (.int 0)) d9))))
  (e9 (sIf (i7 asB (eOp dEq (eOp v9 (g6 K9 (d7 (d6 0) (d7 (eC (.int 1)) d9))) (eC (.int 5))) (eC (.int 4))))
   (i5 [false,true] (g6 U0 (d7 (d6 1) d9)))
   sNx)
  (e9 (g7 false 2 [false,true] (eOp v5 (eC (.int 3)) (eOp v9 (eOp R4 (d6 1) (eC (.int 16))) (eC (.int 5)))))
  (e9 (sIf (i7 asB (eOp dEq (eOp v9 (d6 1) (eC (.int 16))) (eC (.int 7))))
   (g7 false 2 [] (eC (.int 8)))
   sNx) tl)))) from rfl]
 walk_at "dz";rw[Hs ns dY];walk_at "dz";rw[Hs ns dY];walk_at "dz";rw[S3 (by omega)];walk_at "dz";rw[<-hc];by_cases h4:pkv ns 1 % 5=4
 . rw[decide_eq_true h4];walk_at "dz";rw[Zu];walk_at "dz"
 rw[NO h4];walk_at "dz";rw[Gp (by omega)];walk_at "dz";rw[S3 (by omega)];walk_at "dz";rw[S3 (by omega)];walk_at "dz";by_cases h7:c % 16=7
 . rw[decide_eq_true h7,ξ rfl];rw[show(8:Int)=((8:Nat):Int) from rfl,k8];walk_at "dz"
 . rw[NO h7,ψ η,kx];walk_at "dz"
end K87
namespace K87
open PySem PySem.Spec PyProof.Rows L2
theorem walk{l:PySem.W.OpenLaw}{q:Program}{loose:List Str}{XP:(Str->Option Value)->Heap->Prop}{YP:World->Heap->Prop}{d:DefRec}{K:Params->Frag}(hn:l.most=some 63)(gG:d.params.defaults=[])
  (hY:∀(w:World)(h:Heap),YP w h->(K w.params).In h)
  (F:∀(w:World)(mg:Str->Option Value)(fa:Addr)(h:Heap),(K w.params).In h->h.Ns mainGlobals mg->mg d.name=some (.ref fa) ->
   ∃fd:FuncData,(∀(s:Shared)(u:Value),BindsTo s fd ⟨[u],[]⟩ [("_law_script",u)])/\∀base:Heap,(K w.params).In base->base.Ns mainGlobals mg->FnOk l.prog w (K w.params) mg base (CX1 l.prog w) 70 fa fd ["_law_script"] (spL (K w.params) false V3 1)) :
  PySem.W.WalkO q loose XP YP l.row.toRowW d [] (fun f vs=>PySem.call f vs):=
 L2.walk_of (n:=63) (k:=70) (x:="_law_script") (CX:=fun w=>CX1 l.prog w) (sp:=fun w=>(spL (K w.params) false V3 1)) hn (by decide) gG ⟨rfl,by decide,by decide⟩ hY F (fun _ _ a ns hl hO hS=>kE hO hS (wL ns hl)) fun _ _ _ _ _ ⟨_,_,_,_,_,_,z⟩=>z
end K87
open PySem PySem.W PyProof.Rows
set_option maxRecDepth 100000 in
set_option maxHeartbeats 0 in
theorem PySem.Challenge.cw_friezeyard_k87_unlike_cuttings_holds : PySem.Challenge.rw_friezeyard_k87_unlike_cuttings.Holds := by
 w_on;o_law
 refine holds_open (q:=K87.q) (loose:=K87.loose) (Xt:=K87.xtH) (XP:=XL K87.q []) (Yf:=K87.hook.obs) (Ya:=K87.hook.val)
  (YP:=K87.hook.says) (N:=9680) K87.left K87.hook.of K87.hook.keeps
  (fun s e=>xl_of s (Bool.and_eq_true_iff.mp e).1) XL.keeps (by rfl) (by rfl) (by rfl)
  (fun s e=>recFacts_of (Bool.and_eq_true_iff.mp e).2) (by rfl) (by assumption) (by decide +kernel)
  ⟨rfl,rfl,rfl,rfl,rfl,by decide +kernel⟩ ?hw ?hc
 (case hw=>w_witness2)
 refine K87.walk (l:=PySem.Challenge.rw_friezeyard_k87_unlike_cuttings) (K:=K87.K) rfl rfl (fun w h Y=>Y) ?F
 case F=>
  intro w mg fa h KX G hmg
  k_fill
  refine' K87.all_mk KX G hmg ?a0 ?l0 ?c0 ?k0 ?a1 ?l1 ?c1 ?k1 ?a2 ?l2 ?c2 ?k2 ?a3 ?l3 ?c3 ?k3 ?a4 ?l4 ?c4 ?k4 ?a5 ?l5 ?c5 ?k5 ?a6 ?l6 ?c6 ?k6 ?a7 ?l7 ?c7 ?k7 ?a8 ?l8 ?c8 ?k8 ?a9 ?l9 ?c9 ?k9 ?a10 ?l10 ?c10 ?k10 ?a11 ?l11 ?c11 ?k11 ?a12 ?l12 ?c12 ?k12 ?a13 ?l13 ?c13 ?k13 ?a14 ?l14 ?c14 ?k14 ?a15 ?l15 ?c15 ?k15 ?a16 ?l16 ?c16 ?k16 ?t16 ?a17 ?l17 ?c17 ?k17 ?a18 ?l18 ?c18 ?k18 ?a19 ?l19 ?c19 ?k19 ?a20 ?l20 ?c20 ?k20 ?a21 ?l21 ?c21 ?k21 ?a22 ?l22 ?c22 ?k22 ?a23 ?l23 ?c23 ?k23 ?a24 ?l24 ?c24 ?k24 ?a25 ?l25 ?c25 ?k25 ?a26 ?l26 ?c26 ?k26 ?a27 ?l27 ?c27 ?k27 ?z_ValueError ?z_all ?z_any ?z_bool ?z_enumerate ?z_int ?z_isinstance ?z_len ?z_list ?z_max ?z_min ?z_range ?z_set ?z_sorted ?z_sum ?z_tuple ?n_Crossed ?n_Fallen ?n_FloorError ?n_NoBand ?n_NoCorner ?n_NoDeed ?n_NoEar ?n_NoFloor ?n_NoLine ?n_NoName ?n_NoPlace ?n_NoQuotient ?n_NoRow ?n_NoText ?n_NoTurn ?n_NotAlike ?n_NotFull ?n_TooMany ?q_FloorError ?q_NoFloor ?q_NoPlace ?q_TooMany ?fo_NoFloor ?fb_NoFloor ?fc_NoFloor ?fg_NoFloor ?ft_NoFloor ?m_NoFloor_FloorError ?k_NoFloor_TooMany ?k_NoFloor_NoFloor ?k_NoFloor_ValueError ?kt_NoFloor_0 ?kt_NoFloor_1 ?fo_NoPlace ?fb_NoPlace ?fc_NoPlace ?fg_NoPlace ?ft_NoPlace ?m_NoPlace_FloorError ?k_NoPlace_TooMany ?k_NoPlace_NoFloor ?k_NoPlace_ValueError ?kt_NoPlace_0 ?kt_NoPlace_1 ?fo_TooMany ?fb_TooMany ?fc_TooMany ?fg_TooMany ?ft_TooMany ?m_TooMany_FloorError ?k_TooMany_TooMany ?k_TooMany_NoFloor ?k_TooMany_ValueError ?kt_TooMany_0 ?kt_TooMany_1
  (case a0=>k_is)
  (case l0=>k_is)
  (case c0=>k_is)
  (case k0=>k_is)
  (case a1=>k_is)
  (case l1=>k_is)
  (case c1=>k_is)
  (case k1=>k_is)
  (case a2=>k_is)
  (case l2=>k_is)
  (case c2=>k_is)
  (case k2=>k_is)
  (case a3=>k_is)
  (case l3=>k_is)
  (case c3=>k_is)
  (case k3=>k_is)
  (case a4=>k_is)
  (case l4=>k_is)
  (case c4=>k_is)
  (case k4=>k_is)
  (case a5=>k_is)
  (case l5=>k_is)
  (case c5=>k_is)
  (case k5=>k_is)
  (case a6=>k_is)
  (case l6=>k_is)
  (case c6=>k_is)
  (case k6=>k_is)
  (case a7=>k_is)
  (case l7=>k_is)
  (case c7=>k_is)
  (case k7=>k_is)
  (case a8=>k_is)
  (case l8=>k_is)
  (case c8=>k_is)
  (case k8=>k_is)
  (case a9=>k_is)
  (case l9=>k_is)
  (case c9=>k_is)
  (case k9=>k_is)
  (case a10=>k_is)
  (case l10=>k_is)
  (case c10=>k_is)
  (case k10=>k_is)
  (case a11=>k_is)
  (case l11=>k_is)
  (case c11=>k_is)
  (case k11=>k_is)
  (case a12=>k_is)
  (case l12=>k_is)
  (case c12=>k_is)
  (case k12=>k_is)
  (case a13=>k_is)
  (case l13=>k_is)
  (case c13=>k_is)
  (case k13=>k_is)
  (case a14=>k_is)
  (case l14=>k_is)
  (case c14=>k_is)
  (case k14=>k_is)
  (case a15=>k_is)
  (case l15=>k_is)
  (case c15=>k_is)
  (case k15=>k_is)
  (case a16=>k_is)
  (case l16=>k_is)
  (case c16=>k_is)
  (case k16=>k_is)
  (case t16=>k_is)
  (case a17=>k_is)
  (case l17=>k_is)
  (case c17=>k_is)
  (case k17=>k_is)
  (case a18=>k_is)
  (case l18=>k_is)
  (case c18=>k_is)
  (case k18=>k_is)
  (case a19=>k_is)
  (case l19=>k_is)
  (case c19=>k_is)
  (case k19=>k_is)
  (case a20=>k_is)
  (case l20=>k_is)
  (case c20=>k_is)
  (case k20=>k_is)
  (case a21=>k_is)
  (case l21=>k_is)
  (case c21=>k_is)
  (case k21=>k_is)
  (case a22=>k_is)
  (case l22=>k_is)
  (case c22=>k_is)
  (case k22=>k_is)
  (case a23=>k_is)
  (case l23=>k_is)
  (case c23=>k_is)
  (case k23=>k_is)
  (case a24=>k_is)
  (case l24=>k_is)
  (case c24=>k_is)
  (case k24=>k_is)
  (case a25=>k_is)
  (case l25=>k_is)
  (case c25=>k_is)
  (case k25=>k_is)
  (case a26=>k_is)
  (case l26=>k_is)
  (case c26=>k_is)
  (case k26=>k_is)
  (case a27=>k_is)
  (case l27=>k_is)
  (case c27=>k_is)
  (case k27=>k_is)
  (case z_ValueError=>k_is)
  (case z_all=>k_is)
  (case z_any=>k_is)
  (case z_bool=>k_is)
  (case z_enumerate=>k_is)
  (case z_int=>k_is)
  (case z_isinstance=>k_is)
  (case z_len=>k_is)
  (case z_list=>k_is)
  (case z_max=>k_is)
  (case z_min=>k_is)
  (case z_range=>k_is)
  (case z_set=>k_is)
  (case z_sorted=>k_is)
  (case z_sum=>k_is)
  (case z_tuple=>k_is)
  (case n_Crossed=>k_is)
  (case n_Fallen=>k_is)
  (case n_FloorError=>k_is)
  (case n_NoBand=>k_is)
  (case n_NoCorner=>k_is)
  (case n_NoDeed=>k_is)
  (case n_NoEar=>k_is)
  (case n_NoFloor=>k_is)
  (case n_NoLine=>k_is)
  (case n_NoName=>k_is)
  (case n_NoPlace=>k_is)
  (case n_NoQuotient=>k_is)
  (case n_NoRow=>k_is)
  (case n_NoText=>k_is)
  (case n_NoTurn=>k_is)
  (case n_NotAlike=>k_is)
  (case n_NotFull=>k_is)
  (case n_TooMany=>k_is)
  (case q_FloorError=>k_exc)
  (case q_NoFloor=>k_exc)
  (case q_NoPlace=>k_exc)
  (case q_TooMany=>k_exc)
  (case fo_NoFloor=>k_is)
  (case fb_NoFloor=>k_is)
  (case fc_NoFloor=>k_is)
  (case fg_NoFloor=>k_is)
  (case ft_NoFloor=>k_is)
  (case m_NoFloor_FloorError=>k_is)
  (case k_NoFloor_TooMany=>kit_is)
  (case k_NoFloor_NoFloor=>kit_is)
  (case k_NoFloor_ValueError=>kit_is)
  (case kt_NoFloor_0=>kit_is)
  (case kt_NoFloor_1=>kit_is)
  (case fo_NoPlace=>k_is)
  (case fb_NoPlace=>k_is)
  (case fc_NoPlace=>k_is)
  (case fg_NoPlace=>k_is)
  (case ft_NoPlace=>k_is)
  (case m_NoPlace_FloorError=>k_is)
  (case k_NoPlace_TooMany=>kit_is)
  (case k_NoPlace_NoFloor=>kit_is)
  (case k_NoPlace_ValueError=>kit_is)
  (case kt_NoPlace_0=>kit_is)
  (case kt_NoPlace_1=>kit_is)
  (case fo_TooMany=>k_is)
  (case fb_TooMany=>k_is)
  (case fc_TooMany=>k_is)
  (case fg_TooMany=>k_is)
  (case ft_TooMany=>k_is)
  (case m_TooMany_FloorError=>k_is)
  (case k_TooMany_TooMany=>kit_is)
  (case k_TooMany_NoFloor=>kit_is)
  (case k_TooMany_ValueError=>kit_is)
  (case kt_TooMany_0=>kit_is)
  (case kt_TooMany_1=>kit_is)
