import PyProof.Rows.All
import Wide.All
import OpenK.AllK
import Wide.FinOn
import Lean
import PyProof.EqAt
import PyProof.EqKinds
import PyProof.TupleCall
import KE.KIsAll
import KE.RegKIsAll
import PyProof.ExcArgsOwn
import PyProof.InstStoreFacts
import PyProof.Rows.MinMaxN
import PyProof.Rows.CallKwBuiltin
import KE.KMinKey
import KE.KDictOf
import PyProof.AttrMissSeq
import KE.KSortAsk
import PySem.Challenge.RW_friezeyard_k65_letters_and_fractions
set_option compiler.extract_closed false
noncomputable section
open PySem.W (Frag Looks codeIn hideAll hideAll_get hideAll_none keepIn kia_one kitOne mroIn nsIn of_hideAll)
def bI:=@List.length_map
def dg:=@List.map_cons
def ee:=@List.mem_cons
def gc:=@List.getD_eq_getElem?_getD
def io:=@List.length_cons
def mK:=@List.size_toArray
def pp:=@PySem.wpAny_loadPart'
def pr:=@Bool.and_eq_true
def sg:=@Nat.le_trans
def tB:=@List.mem_cons_of_mem
def AO:=@List.getElem?_eq_getElem
def AQ:=@List.mem_append
def AR:=@decide_eq_true_eq
def AS:=@List.mem_map
def AT:=@decide_eq_false_iff_not
def AU:=@PySem.Heap.get?_update_self
def AV:=@List.mem_singleton
def AW:=@Array.length_toList
def AX:=@List.zip_cons_cons
def AY:=@Nat.lt_of_lt_of_le
def AZ:=@List.not_mem_nil
def BA:=@List.length_take
def BB:=@Nat.ne_of_lt
def BC:=@Bool.false_eq_true
def BE:=@List.mem_append_right
def BF:=@List.getElem?_map
def BG:=@List.map_append
def BH:=@PySem.Heap.get?_update_ne
def BI:=@List.map_map
def BJ:=@Nat.mod_eq_of_lt
def BK:=@List.mem_cons_self
def BL:=@Option.map_some
def BM:=@PySem.Heap.size_update
def BN:=@List.length_drop
def BO:=@List.mem_iff_getElem
def BQ:=@Nat.zero_le
def BR:=@PySem.wpAny_mono
def BS:=@List.getElem?_eq_some_iff
def BU:=@List.getElem?_set_ne
def BV:=@List.perm_append_comm
def BW:=@List.length_zip
def BX:=@List.length_set
def BY:=@List.getElem?_append_right
def BZ:=@List.filter_cons_of_pos
def CA:=@List.take_of_length_le
def CB:=@List.map_nil
def CC:=@List.cons_append
def CD:=@PySem.Heap.get?_update_other
def CF:=@Array.toList_append
def CG:=@List.pairwise_map
def CH:=@List.nodup_cons
def CI:=@if_true
def CJ:=@PySem.F.plain_max_loop
def CK:=@Nat.zero_add
def CL:=@List.all_eq_true
def CM:=@List.getElem?_append_left
def CN:=@PySem.wpAny_holding
def CO:=@Bool.not_eq_true'
def CP:=@congrArg
def CQ:=@PyProof.Rows.boot_isinstance
def CS:=@PySem.F.slot_dict_itemiterator_next
def CT:=@if_false
def CU:=@PySem.F.plainAttrs_list
def CV:=@PySem.wpAny_callSpecial?_slot
def CW:=@List.mem_range
def CY:=@List.getElem?_set_self
def CZ:=@PyProof.Rows.wpS_forRange
def DA:=@Bool.eq_iff_iff
def DB:=@List.getElem?_zip_eq_some
def DC:=@List.extract_eq_take_drop
def DF:=@List.drop_eq_getElem_cons
def DG:=@List.getElem?_eq_none
def DH:=@Nat.lt_irrefl
def DI:=@List.mem_of_getElem?
def DJ:=@List.filter_cons_of_neg
def DK:=@List.append_assoc
def DL:=@List.length_nil
def DM:=@or_false
def DO:=@PySem.mem_of_lookup
def DP:=@List.filterMap_cons
def DQ:=@PyProof.Rows.callWith_type1
def DR:=@Ne.symm
def DT:=@List.zipWith_cons_cons
def DU:=@PySem.PassesOwn.leaving
def DV:=@List.pairwise_cons
def DW:=@List.mem_filterMap
def DX:=@List.pairwise_iff_getElem
def DY:=@List.mem_filter
def DZ:=@List.append_nil
def EA:=@Nat.mul_le_mul_right
def EB:=@Nat.le_of_lt
def EC:=@List.mem_append_left
def ED:=@Array.toList_extract
def EE:=@List.map_congr_left
def EF:=@PySem.wpAny_truthy_bool
def EG:=@PySem.wpAny_loadPart_at
def EH:=@Nat.max_eq_right
def EI:=@List.eq_nil_of_length_eq_zero
def EJ:=@Option.map_eq_some_iff
def EK:=@List.find?_cons_of_pos
def EL:=@List.find?_cons_of_neg
def EM:=@List.nil_append
def EN:=@List.find?_cons
def EO:=@List.take_append_drop
def EQ:=@List.length_singleton
def ER:=@List.length_filter_le
def ES:=@Array.getElem?_toList
def ET:=@List.getElem_take
def EU:=@List.getElem_drop
def EV:=@PySem.wpAny_passesOwn
def EW:=@beq_iff_eq
def EY:=@PySem.F.excBase_ValueError
def EZ:=@List.pairwise_append
def FA:=@Array.perm_iff_toList_perm
def FC:=@Array.getElem?_eq_some_iff
def FD:=@Nat.mod_self
def FE:=@List.lookup_cons
def FF:=@PySem.F.type_list_append
def FG:=@PySem.F.slot_list_append
def FH:=@Bool.and_true
def FI:=@Array.mem_def
def FJ:=@Nat.min_eq_left
def FK:=@decide_true
def FL:=@decide_false
def FM:=@PySem.F.entry_max_loop
def FN:=@Nat.zero_max
def FO:=@Nat.mul_comm
def FP:=@List.length_range
def FQ:=@PySem.wpAny_execs_nil
def FR:=@PySem.wpAny_Call_Name_kw
def FS:=@List.any_cons
def FT:=@List.mem_of_mem_take
def FU:=@PySem.Heap.size_push
def FV:=@PySem.Calls.callWith_builtin
def FW:=@Array.toList_reverse
def FX:=@Bool.or_eq_true
def FY:=@PyProof.Rows.boot_tuple
def FZ:=@List.filter_sublist
def GA:=@Int.toNat_of_nonneg
def GB:=@PySem.F.typeOf_object_class
def GC:=@Nat.zero_mul
def GD:=@Nat.min_self
def GF:=@PySem.sizeLine_eq
def GG:=@PySem.Calls.evalArgs_plain
def GH:=@PySem.Around.under_plainId
def GI:=@PyProof.Rows.wpS_mono
def GJ:=@PySem.wpAny_updateSeq
def GK:=@PySem.codeAny_builtin
def GL:=@Classical.byContradiction
def GN:=@Option.isSome_map
def GO:=@List.zip_nil_left
def GP:=@Int.toNat_natCast
def GQ:=@PySem.W.mg_of
def GR:=@PySem.F.args_tuple_add_2
def GU:=@Bool.and_self
def GV:=@Array.getElem?_replicate
set_option Elab.async false
set_option linter.all false
set_option maxRecDepth 100000
def ψ:=@if_neg
def ξ:=@if_pos
def ζ:=@Nat.le_refl
def η:=@Bool.false_ne_true
def θ:=@List.length_append
namespace L2
open PySem PySem.Spec PyProof.Rows
def χ:=@wpAny_bind
def δ:=@wpS_bind
def ω:=@wpAny_pure
def π:=@wpS_pure
def Ψ:=@Heap.get?_push_of_some
def Φ:=@Heap.lt_size
def Ξ:=@Heap.get?_push_size
abbrev Key:=Sum Int Str
noncomputable def W7:Key->Value->Bool
 | .inl k,v=>Value.isInt k v
 | .inr x,v=>Value.isStrOf x v
noncomputable def y4t(w:World):Key->Int
 | .inl k=>hashInt k
 | .inr x=>hashStr w x
theorem N8:∀{k:Key}{v:Value},W7 k v=true->(∃i t,k=Sum.inl i/\v=Value.int i t)\/(∃x t,k=Sum.inr x/\v=Value.str x t)
 | .inl i,v,h=>by obtain⟨t,e⟩:=Value.isInt_shape (k:=i) (v:=v) h;exact .inl ⟨i,t,rfl,e⟩
 | .inr x,v,h=>by obtain⟨t,e⟩:=Value.isStrOf_shape (x:=x) (v:=v) h;exact .inr ⟨x,t,rfl,e⟩
def zi1(i:Int)(t:Tok):W7 (.inl i) (.int i t)=true:=by simp[W7,Value.isInt]
def zi2(x:Str)(t:Tok):W7 (.inr x) (.str x t)=true:=by simp[W7,Value.isStrOf]
def vS(a b:Int):decide ((Sum.inl a:Key)=Sum.inl b)=(a==b):=by
 by_cases e:a=b
 . subst e;simp
 . have h:¬(Sum.inl a:Key)=Sum.inl b:=fun q=>e (Sum.inl.inj q)
   rw[decide_eq_false h];exact(beq_eq_false_iff_ne.mpr e).symm
def vR(a b:Str):decide ((Sum.inr a:Key)=Sum.inr b)=decide (a=b):=by
 by_cases e:a=b
 . subst e;simp
 . have h:¬(Sum.inr a:Key)=Sum.inr b:=fun q=>e (Sum.inr.inj q)
   rw[decide_eq_false h,decide_eq_false e]
def vQ(a:Int)(b:Str):decide ((Sum.inl a:Key)=Sum.inr b)=false:=decide_eq_false (fun q=>nomatch q)
def vP(a:Str)(b:Int):decide ((Sum.inr a:Key)=Sum.inl b)=false:=decide_eq_false (fun q=>nomatch q)
def z9(prog:Program)(w:World):PySem.KeyKind prog w Key where
 is:=W7
 hash:=y4t w
 inj:=fun v a b ha hb=>by
  rcases N8 ha with⟨i,t,rfl,rfl⟩ |⟨x,t,rfl,rfl⟩
  . rcases N8 hb with⟨j,u,rfl,e⟩ |⟨y,u,rfl,e⟩
    . injection e with e1 _;rw[e1]
    . exact nomatch e
  . rcases N8 hb with⟨j,u,rfl,e⟩ |⟨y,u,rfl,e⟩
    . exact nomatch e
    . injection e with e1 _;rw[e1]
 byValue:=fun k v h=>by rcases N8 h with⟨i,t,rfl,rfl⟩ |⟨x,t,rfl,rfl⟩<;>rfl
 pyHash:=fun hv h=>by
  rcases N8 hv with⟨i,t,rfl,rfl⟩ |⟨x,t,rfl,rfl⟩
  . exact wpAny_pyHash_int h
  . exact wpAny_pyHash_str h
 eqBool:=fun hu hv h=>by
  rcases N8 hu with⟨i,t,rfl,rfl⟩ |⟨x,t,rfl,rfl⟩
  . rcases N8 hv with⟨j,u,rfl,rfl⟩ |⟨y,u,rfl,rfl⟩
    . rw[vS]at h;exact wpAny_eqBool_int h
    . rw[vQ]at h;exact SeqAt.EqAt.int_str i t y u _ _ _ _ h
  . rcases N8 hv with⟨j,u,rfl,rfl⟩ |⟨y,u,rfl,rfl⟩
    . rw[vP]at h;exact SeqAt.EqAt.str_int x t j u _ _ _ _ h
    . rw[vR]at h;exact wpAny_eqBool_str h
 «strs»:=fun k x t v h=>by
  rcases N8 h with⟨i,u,rfl,e⟩ |⟨y,u,rfl,e⟩
  . exact nomatch e
  . injection e with e1 _;subst e1;cases v<;>rfl
def zdu(prog:Program)(w:World)(i:Int)(t:Tok):(z9 prog w).is (.inl i) (.int i t)=true:=zi1 i t
def zdv(prog:Program)(w:World)(x:Str)(t:Tok):(z9 prog w).is (.inr x) (.str x t)=true:=zi2 x t
inductive V where
 |non |bl (b:Bool) |int (i:Int) |str (x:Str) |byt (b:Array UInt8) |flt (b:UInt64) |ref (a:Addr) |ty (n:String)
 deriving DecidableEq
def RelV:V->Value->Prop
 | .non,u=>u=Value.none
 | .bl b,u=>u=Value.bool b
 | .int i,u=>∃t,u=Value.int i t
 | .str x,u=>∃t,u=Value.str x t
 | .byt b,u=>∃t,u=Value.bytes b t
 | .flt b,u=>∃t,u=Value.float b t
 | .ref a,u=>u=Value.ref a
 | .ty n,u=>u=Value.type n
abbrev Vals:List V->List Value->Prop:=Paired RelV
def Vals.length(r:Vals xs us):xs.length=us.length:=Paired.length r
theorem Vals.get:∀{xs:List V}{us:List Value}{i:Nat}{x:V},Vals xs us->xs[i]?=some x->∃u,us[i]?=some u/\RelV x u
 |_,_,_,_,.nil,e=>by simp at e
 |_,_,0,_,.cons r _,e=>by simp at e;subst e;exact⟨_,rfl,r⟩
 |_,_,i+1,x,.cons _ t,e=>by obtain⟨u,h1,h2⟩:=Vals.get (i:=i) (x:=x) t (by simpa using e);exact⟨u,by simpa using h1,h2⟩
theorem Vals.set(r:RelV x u):∀{xs:List V}{us:List Value}(i:Nat),Vals xs us->Vals (xs.set i x) (us.set i u)
 |_,_,_,.nil=>.nil
 |_,_,0,.cons _ t=>.cons r t
 |_,_,i+1,.cons q t=>.cons q (Vals.set r i t)
theorem Vals.append:∀{xs ys:List V}{us ws:List Value},Vals xs us->Vals ys ws->Vals (xs++ys) (us++ws)
 |_,_,_,_,.nil,s=>s
 |_,_,_,_,.cons r t,s=>.cons r (Vals.append t s)
theorem Vals.take:∀{xs:List V}{us:List Value}(n:Nat),Vals xs us->Vals (xs.take n) (us.take n)
 |_,_,0,_=>.nil
 |_,_,_+1,.nil=>.nil
 |_,_,n+1,.cons r t=>.cons r (Vals.take n t)
theorem Vals.drop:∀{xs:List V}{us:List Value}(n:Nat),Vals xs us->Vals (xs.drop n) (us.drop n)
 |_,_,0,r=>r
 |_,_,_+1,.nil=>.nil
 |_,_,n+1,.cons _ t=>Vals.drop n t
def RelO:Option V->Option Value->Prop
 |some v,some u=>RelV v u
 |none,none=>True
 |_,_=>False
def KV{κ:Type}:List (κ×V)->List (κ×Value)->Prop:=Paired fun (p:κ×V)(q:κ×Value)=>p.1=q.1/\RelV p.2 q.2
noncomputable def kV:Key->V
 | .inl i=>.int i
 | .inr x=>.str x
def IsTp(h:Heap)(a:Addr)(its:Array Value):Prop:=∃o,h.get? a=some o/\o.cls=.type "tuple"/\(∃n,o.data=.seq its n)/\o.dict=none
def IsTp.tup(p:IsTp h a its):IsTup h a its:=by obtain⟨o,e,c,d,_⟩:=p;exact⟨o,e,c,d⟩
def IsTp.lt(p:IsTp h a its):a<h.objs.size:=by obtain⟨o,e,_⟩:=p;exact Φ e
def IsTp.mk'(e:h.get? a=some { cls:=.type "tuple",data:=.seq its n,slots:=sl }):IsTp h a its:=⟨_,e,rfl,⟨n,rfl⟩,rfl⟩
inductive HO where
 /-- a list -/
 |lst (xs:List V)
 /-- a tuple (never changes) -/
 |tup (xs:List V)
 /-- a dict whose keys are ints and texts;one whose keys are tuples of ints and texts (the empty one is both) -/
 |dK (kvs:List (Key×V)) |dT (kvs:List (List Key×V))
 /-- a set of ints: its members,its size -/
 |set (S:Int->Bool) (n:Nat)
 /-- an instance of the class at C,its dict at dx,its attributes -/
 |ins (C dx:Addr) (fs:List (Str×V))
 /-- the dict of the instance at x -/
 |own (x:Addr)
 /-- the dict of an exception -/
 |xd (fs:List (Str×V))
 /-- a bound method,f of x -/
 |met (f x:Addr)
 /-- a range object lo,lo+1,.. below hi -/
 |rng (lo hi:Int)
 /-- a thing that is known to the object (the script;a dict while a loop walks it): read,never written while it is so -/
 |frz (o:Obj) (u:HO)
 /-- a code object's table -/
 |tbl (ps:Array Value)
 /-- the table of a def that makes lambdas,all of the qualname q -/
 |ctb (q:Str)
 /-- any other thing,by what is true of its one object (a def of one's own: SetO a S n:=HO.ext fun h=>..) -/
 |ext (φ:Heap->Prop)
abbrev Hp:=Addr->Option HO
noncomputable def upd(H:Hp)(a:Addr)(o:HO):Hp:=fun b=>if b=a then some o else H b
def l4:upd H a o a=some o:=by unfold upd;rw[ξ rfl]
def d9(h:b≠a):upd H a o b=H b:=by unfold upd;rw[ψ h]
def y0f{H:Hp}{a b:Addr}{o u:HO}(h:H a=some o)(h':H b=some u)(d:o≠u):a≠b:=by intro e;subst e;rw[h]at h';exact d (Option.some.inj h')
def v7{H:Hp}{a b:Addr}{o:HO}(h:H a=some o)(h':H b=none):a≠b:=by intro e;subst e;rw[h]at h';cases h'
section
variable (P:Program)(w:World)
def ObjOk(H:Hp)(h:Heap)(a:Addr):HO->Prop
 | .lst xs=>xs.length<=sizeLine/\∃(its:List Value)(n:Nat),Vals xs its/\h.get? a=some { cls:=.type "list",data:=.seq its.toArray n }
 | .tup xs=>xs.length<=sizeLine/\∃its:List Value,Vals xs its/\IsTp h a its.toArray
 | .dK kvs=>kvs.length<=sizeLine/\(a==sysModules)=false/\∃vs,KV kvs vs/\h.DictOf (z9 P w) a vs
 | .dT kvs=>kvs.length<=sizeLine/\(a==sysModules)=false/\∃xs:List (List Key×Addr×Value),
  Paired (fun (p:List Key×V)(q:List Key×Addr×Value)=>p.1=q.1/\H q.2.1=some (.tup (p.1.map kV))/\RelV p.2 q.2.2) kvs xs /\
  ∃o es ep,h.get? a=some o/\o.ExactDict/\o.data=.dict es ep/\es.toList=xs.map (entryOfKey (tupleKind (z9 P w)))/\(xs.map (·.1)).Nodup
 | .set S n=>h.SetOf (intKind P w) a S n
 | .ins C dx fs=>H dx=some (.own a)/\fs.length<=1000/\dx≠a/\h.get? a=some (PySem.W.instObj C dx) /\
  ∃mA,h.Ns1 dx mA/\(∀f,RelO (fs.lookup f) (mA f))/\PySem.Within mA (fs.map (·.1))
 | .own _=>∃o,h.get? a=some o
 | .xd fs=>∃mA,h.Ns1 a mA/\∀f,RelO (fs.lookup f) (mA f)
 | .rng lo hi=>∃t u v,h.get? a=some { cls:=.type "range",data:=.fields #[.int lo t,.int hi u,.int 1 v] }
 | .frz o u=>h.get? a=some o/\ObjOk H h a u
 | .tbl ps=>h.get? a=some { cls:=.none,data:=.fields ps }
 | .ctb q=>∃ps:Array Value,h.get? a=some { cls:=.none,data:=.fields ps }/\TriplesOk ps.toList/\∀(pos:Pos)(v:Value),codeAmong pos ps.toList=some v->∃c,v=.ref c/\H c=some (.own a)/\h.CodeRec (.ref c) q
 | .met f x=>h.get? a=some (PySem.W.methodObj (.ref f) (.ref x))
 | .ext φ=>φ h/\(∃o,h.get? a=some o)/\∀h1 h2:Heap,φ h1->(∀o,h1.get? a=some o->h2.get? a=some o)->φ h2
def HOk(H:Hp)(h:Heap):Prop:=∀a o,H a=some o->ObjOk P w H h a o
end
section
variable {P:Program}{w:World}{H H':Hp}{h h':Heap}{a:Addr}{o:HO}
def ObjOk.lt(x:ObjOk P w H h a o):a<h.objs.size:=by
 cases o with
 |lst xs=>obtain⟨_,_,_,_,e⟩:=x;exact Φ e
 |tup xs=>obtain⟨_,_,_,p⟩:=x;exact p.lt
 |dK kvs=>obtain⟨_,_,_,_,o,_,_,e,_⟩:=x;exact Φ e
 |dT kvs=>obtain⟨_,_,_,_,o,_,_,e,_⟩:=x;exact Φ e
 |set S n=>obtain⟨o,_,_,_,e,_⟩:=x;exact Φ e
 |ins C dx fs=>obtain⟨_,_,_,e,_⟩:=x;exact Φ e
 |own y=>obtain⟨_,e⟩:=x;exact Φ e
 |xd fs=>obtain⟨_,⟨_,_,_,e,_⟩,_⟩:=x;exact Φ e
 |rng lo hi=>obtain⟨_,_,_,e⟩:=x;exact Φ e
 |frz ob u=>obtain⟨e,_⟩:=x;exact Φ e
 |tbl ps=>exact Φ (show h.get? a=some _ from x)
 |ctb q=>obtain⟨_,e,_⟩:=x;exact Φ e
 |met f y=>exact Φ (show h.get? a=some _ from x)
 |ext φ=>obtain⟨_,⟨_,e⟩,_⟩:=x;exact Φ e
theorem Paired.mapP:∀{l₁:List α}{l₂:List β},Paired F l₁ l₂->(∀a b,F a b->G a b)->Paired G l₁ l₂
 |_,_,.nil,_=>.nil
 |_,_,.cons r t,f=>.cons (f _ _ r) (Paired.mapP t f)
def ObjOk.stay(x:ObjOk P w H h a o)(k:∀b u,(b=a\/H b=some (.own a))->h.get? b=some u->h'.get? b=some u)
  (ho:∀b,H b=some (.own a)->H' b=some (.own a)) (ht:∀b xs,H b=some (.tup xs)->H' b=some (.tup xs)):ObjOk P w H' h' a o:=by
 induction o with
 |lst xs=>obtain⟨z,its,n,r,e⟩:=x;exact⟨z,its,n,r,k _ _ (.inl rfl) e⟩
 |tup xs=>obtain⟨z,its,r,ob,e,c⟩:=x;exact⟨z,its,r,ob,k _ _ (.inl rfl) e,c⟩
 |dK kvs=>obtain⟨z,y,vs,r,ob,es,ep,e,c⟩:=x;exact⟨z,y,vs,r,ob,es,ep,k _ _ (.inl rfl) e,c⟩
 |dT kvs=>
  obtain⟨z,y,xs,r,ob,es,ep,e,c⟩:=x
  exact⟨z,y,xs,Paired.mapP r fun p q z=>⟨z.1,ht _ _ z.2.1,z.2.2⟩,ob,es,ep,k _ _ (.inl rfl) e,c⟩
 |set S n=>obtain⟨ob,es,ep,t,e,c⟩:=x;exact⟨ob,es,ep,t,k _ _ (.inl rfl) e,c⟩
 |ins C dx fs=>
  obtain⟨d,z,ne,e,mA,⟨od,es,ep,e2,c⟩,r⟩:=x
  exact⟨ho _ d,z,ne,k _ _ (.inl rfl) e,mA,⟨od,es,ep,k _ _ (.inr d) e2,c⟩,r⟩
 |own y=>obtain⟨ob,e⟩:=x;exact⟨ob,k _ _ (.inl rfl) e⟩
 |xd fs=>obtain⟨mA,⟨od,es,ep,e,c⟩,r⟩:=x;exact⟨mA,⟨od,es,ep,k _ _ (.inl rfl) e,c⟩,r⟩
 |rng lo hi=>obtain⟨t,u,v,e⟩:=x;exact⟨t,u,v,k _ _ (.inl rfl) e⟩
 |frz ob u ih=>obtain⟨e,q⟩:=x;exact⟨k _ _ (.inl rfl) e,ih q⟩
 |tbl ps=>
  have e:h.get? a=some { cls:=.none,data:=.fields ps }:=x
  show h'.get? a=some { cls:=.none,data:=.fields ps }
  exact k a _ (.inl rfl) e
 |ctb q=>
  obtain⟨ps,e,t,c⟩:=x
  refine⟨ps,k _ _ (.inl rfl) e,t,fun pos v hb=>?_⟩
  obtain⟨b,rfl,z,c2,oc,vs,tq,e1,e2,e3⟩:=c pos v hb
  cases e1
  exact⟨b,rfl,ho _ z,b,oc,vs,tq,rfl,k _ _ (.inr z) e2,e3⟩
 |met f y=>
  have e:h.get? a=some (PySem.W.methodObj (.ref f) (.ref y)):=x
  show h'.get? a=some (PySem.W.methodObj (.ref f) (.ref y))
  exact k a _ (.inl rfl) e
 |ext φ=>obtain⟨p,⟨o,e⟩,st⟩:=x;exact⟨st _ _ p fun o q=>k _ _ (.inl rfl) q,⟨o,k _ _ (.inl rfl) e⟩,st⟩
def HOk.lt(x:HOk P w H h)(e:H a=some o):a<h.objs.size:=(x a o e).lt
def HOk.fresh(x:HOk P w H h)(e:h.objs.size<=a):H a=none:=by
 cases q:H a with
 |none=>rfl
 |some u=>exact absurd (AY (x.lt q) e) (DH _)
def HOk.kept(x:HOk P w H h)(k:∀b u,h.get? b=some u->h'.get? b=some u):HOk P w H h':=fun a o e=>
 (x a o e).stay (fun b u _ q=>k b u q) (fun _ q=>q) fun _ _ q=>q
def HOk.laid(x:HOk P w H h)(k:∀b u,h.get? b=some u->h'.get? b=some u)(hp:h.objs.size<=a)(new:ObjOk P w (upd H a o) h' a o):HOk P w (upd H a o) h':=fun b u e=>by
 have hn:=x.fresh hp;by_cases hb:b=a
 . subst hb;rw[l4]at e;cases e;exact new
 . rw[d9 hb]at e;exact(x b u e).stay (fun c v _ q=>k c v q) (fun c q=>by rw[d9 (v7 q hn)];exact q) fun c xs q=>by rw[d9 (v7 q hn)];exact q
end
def Rd(H:Hp)(a:Addr)(u:HO):Prop:=H a=some u\/∃o,H a=some (.frz o u)
def Rd.ok(r:Rd H a u)(x:HOk P w H h):ObjOk P w H h a u:=by
 rcases r with r |⟨o,r⟩
 . exact x a u r
 . obtain⟨_,q⟩:=x a _ r;exact q
def Mut:Option HO->Prop
 |some (.lst _)=>True
 |some (.dK _)=>True
 |some (.dT _)=>True
 |some (.set _ _)=>True
 |some (.ins _ _ _)=>True
 |some (.ext _)=>True
 |_=>False
section
variable {P:Program}{w:World}{H:Hp}{h h':Heap}{x e:Addr}{o':HO}
def HOk.write(ok:HOk P w H h)(mu:Mut (H x))(he:e=x\/H e=some (.own x))(k:∀b u,b≠e->h.get? b=some u->h'.get? b=some u)(fq:∃u,h'.get? e=some u)
  (new:ObjOk P w (upd H x o') h' x o'):HOk P w (upd H x o') h':=fun b u q=>by
 have iC:∀c y,H c=some (.own y)->c≠x:=fun c y r z=>by subst z;rw[r]at mu;exact mu
 have mL:∀c xs,H c=some (.tup xs)->c≠x:=fun c xs r z=>by subst z;rw[r]at mu;exact mu
 by_cases hb:b=x
 . subst hb;rw[l4]at q;cases q;exact new
 . rw[d9 hb]at q;by_cases eE:b=e
   . have q':H b=some (.own x):=by
      rcases he with z |z
      . exact absurd (eE.trans z) hb
      . rw[eE];exact z
     rw[q]at q';cases q'
     obtain⟨v,hv⟩:=fq
     exact⟨v,by rw[eE];exact hv⟩
   . refine(ok b u q).stay (fun c v hc r=>k c v ?_ r) (fun c r=>by rw[d9 (iC c b r)];exact r) fun c xs r=>by rw[d9 (mL c xs r)];exact r
     rcases hc with rfl |hc
     . exact eE
     . rintro rfl;rcases he with z |z
       . exact iC c b hc z
       . rw[hc]at z;cases z;exact hb rfl
end
structure Un(fs ex:List Addr)(H H':Hp)(h h':Heap):Prop where
 keep:∀b o,h.get? b=some o->H b=none->b∉fs->b∉ex->h'.get? b=some o
 slot:∀b o,h.get? b=some o->H b=none->b∈fs->b∉ex->∃sl,h'.get? b=some { o with slots:=sl }
 free:∀b o,h.get? b=some o->H b=none->b∉ex->H' b=none
 there:∀b o,h.get? b=some o->b∉ex->∃o',h'.get? b=some o'
 tups:∀b xs,H b=some (.tup xs)->H' b=some (.tup xs)
 frzs:∀b o u,H b=some (.frz o u)->H' b=some (.frz o u)
 tbls:∀b ps,H b=some (.tbl ps)->∃more,H' b=some (.tbl (ps++more))
section
variable {fs ex:List Addr}{H H1:Hp}{h h1 h':Heap}{a x e:Addr}{o:HO}
def Un.any(u:Un fs ex H H1 h h1)(q:h.get? b=some ob)(n:H b=none)(hx:b∉ex):∃sl,h1.get? b=some { ob with slots:=sl }:=by
 by_cases hb:b∈fs
 . exact u.slot b ob q n hb hx
 . exact⟨ob.slots,u.keep b ob q n hb hx⟩
def Un.kept(k:∀b u,h.get? b=some u->h'.get? b=some u):Un fs ex H H h h':=
 ⟨fun b ob q _ _ _=>k b ob q,fun b ob q _ _ _=>⟨ob.slots,k b ob q⟩,fun _ _ _ n _=>n,fun b ob q _=>⟨ob,k b ob q⟩,fun _ _ q=>q,fun _ _ _ q=>q,fun _ ps q=>⟨#[],by rw[q];simp⟩⟩
def Un.refl:Un fs ex H H h h:=Un.kept fun _ _ q=>q
def Un.laid(k:∀b u,h.get? b=some u->h'.get? b=some u)(hp:h.objs.size<=a)(hn:H a=none):Un fs ex H (upd H a o) h h' where
 keep:=fun b u q _ _ _=>k b u q
 slot:=fun b u q _ _ _=>⟨u.slots,k b u q⟩
 free:=fun b u q n _=>by rw[d9 (BB (AY (Φ q) hp))];exact n
 there:=fun b u q _=>⟨u,k b u q⟩
 tups:=fun b xs q=>by rw[d9 (v7 q hn)];exact q
 frzs:=fun b u xs q=>by rw[d9 (v7 q hn)];exact q
 tbls:=fun b ps q=>⟨#[],by rw[d9 (v7 q hn),q];simp⟩
def Un.write(mu:Mut (H x))(he:e=x\/H e=some (.own x))(k:∀b u,b≠e->h.get? b=some u->h'.get? b=some u)(fq:∃u,h'.get? e=some u):Un fs ex H (upd H x o) h h':=by
 have hx:∀b,H b=none->b≠x:=fun b n z=>by subst z;rw[n]at mu;exact mu
 have hb:∀b,H b=none->b≠e:=fun b n z=>by
  subst z;rcases he with r |r
  . exact hx b n r
  . rw[n]at r;cases r
 have hm:∀b u,H b=some u->¬Mut (some u)->b≠x:=fun b u q nm z=>by subst z;rw[q]at mu;exact nm mu
 refine⟨fun b u q n _ _=>k b u (hb b n) q,fun b u q n _ _=>⟨u.slots,k b u (hb b n) q⟩,fun b u q n _=>by rw[d9 (hx b n)];exact n,fun b u q _=>?_,
  fun b xs q=>by rw[d9 (hm b _ q fun z=>z)];exact q,fun b u xs q=>by rw[d9 (hm b _ q fun z=>z)];exact q,fun b ps q=>⟨#[],by rw[d9 (hm b _ q fun z=>z),q];simp⟩⟩
 by_cases eE:b=e
 . subst eE;exact fq
 . exact⟨u,k b u eE q⟩
end
noncomputable def trk(h:Heap)(H:Hp):List Addr:=(List.range h.objs.size).filter fun a=>(H a).isSome
def K8(h:Heap)(H:Hp):Heap:=hideAll h (trk h H)
def zi3(h:Heap)(H:Hp):(K8 h H).objs.size=h.objs.size:=PySem.W.hideAll_size _ _
def zi(e:h.get? b=some o)(n:H b=none):(K8 h H).get? b=some o:=
 hideAll_get _ e fun hm=>by have q:(H b).isSome=true:=(DY.mp hm).2;rw[n]at q;simp at q
def xU(e:(K8 h H).get? b=some o):h.get? b=some o/\H b=none:=by
 have e':h.get? b=some o:=of_hideAll (trk h H) e;refine⟨e',?_⟩;cases q:H b with
 |none=>rfl
 |some x=>
  have hm:b∈trk h H:=DY.mpr ⟨CW.mpr (Φ e'),by simp[q]⟩
  have z:(K8 h H).get? b=none:=hideAll_none (trk h H) hm
  rw[z]at e;cases e
noncomputable def Dz(g h:Heap)(L:Addr):List (Addr×Obj):=(List.range h.objs.size).filterMap fun a=>if a=L\/(g.get? a).isSome=true then none else(h.get? a).map fun o=>(a,o)
def zdw(h1:a≠L)(h2:g.get? a=none)(h3:h.get? a=some o):(a,o)∈Dz g h L:=
 DW.mpr ⟨a,CW.mpr (Φ h3),by simp[h1,h2,h3]⟩
def z9j(hp:p∈Dz g h L):p.1≠L/\g.get? p.1=none/\h.get? p.1=some p.2:=by
 obtain⟨b,_,e⟩:=DW.mp hp;split at e
 . cases e
 . rename_i hn;cases q:h.get? b with
   |none=>rw[q]at e;simp at e
   |some u=>
    rw[q]at e
    simp only[BL,Option.some.injEq]at e
    subst e
    refine⟨fun z=>hn (.inl z),?_,q⟩
    show g.get? b=none
    cases r:g.get? b with
    |none=>rfl
    |some v=>exact(hn (.inr (by simp[r]))).elim
def Lw:News g L h (Dz g h L):=fun p hp=>let ⟨a,b,c⟩:=z9j hp;⟨c,a,b⟩
structure Mod(K:Frag)(mg:Str->Option Value)(base:Heap):Prop where
 kin:K.In base
 glob:base.Ns mainGlobals mg
 blt:∃mb,base.Ns builtinsNs mb/\∀x:Str,x≠"__name__"->mb x=bootBuiltins x
 nolimit:base.NoLimit
structure Cx where
 prog:Program
 w:World
 K:Frag
 mg:Str->Option Value
 base:Heap
 A:Around
 N:List Str
 s₀:Shared
 H₀:Hp
 env:Env
 outer:List Env
 stack:List Env
 ex:List Addr
 fn:Str->Bool
 calm:Bool
 pn:List (Addr×Obj)
 xe:Value->Shared->Prop
noncomputable def frs(l:List Env):List Addr:=l.filterMap (·.frame)
abbrev Cx.fs(X:Cx):List Addr:=frs X.outer
def Vis(sc:Scope)(x:Str):Prop:=sc.names.lookup x=some .local\/sc.names.lookup x=some .cell\/sc.names.lookup x=some .free
def Loc(sc:Scope)(x:Str):Prop:=sc.names.lookup x=some .local\/sc.names.lookup x=some .cell
def y4u(env:Env)(h:Heap)(m:Str->Option Value)(x:Str)(u:Value):Prop:=
 (env.kindOf x=some .local/\m x=some u)\/((env.kindOf x=some .cell\/env.kindOf x=some .free)/\∃c,env.cells.lookup x=some c/\h.IsCell c (some u))
structure Cx.Ok(X:Cx):Prop where
 mod:Mod X.K X.mg X.base
 kind:X.env.scope.kind=.function
 glob:X.env.globals=mainGlobals
 blt:X.env.builtins=builtinsNs
 above:X.s₀.heap.objs.size<=X.env.locals
 inj:∀x y c,X.env.cells.lookup x=some c->X.env.cells.lookup y=some c->x=y
 has:∀x,(X.env.kindOf x=some .cell\/X.env.kindOf x=some .free)->∃c,X.env.cells.lookup x=some c
 cab:∀x c,X.fn x=true->X.env.cells.lookup x=some c->X.s₀.heap.objs.size<=c
 hd:X.calm=true->X.A.handled=none
 frames:X.A.frames=some X.stack
 stk:X.stack=X.outer\/(X.stack=X.env::X.outer/\X.env.frame=some X.env.locals)
 exf:∀b∈X.ex,b≠X.env.locals/\∀x c,X.env.cells.lookup x=some c->c≠b
 bs:∀b o,X.base.get? b=some o->X.s₀.heap.get? b=some o/\X.H₀ b=none
 bsz:X.base.objs.size<=X.s₀.heap.objs.size
 noex:∀b o,X.base.get? b=some o->b∉X.ex
 exfs:∀b∈X.ex,b∉X.fs
 funs:X.s₀.heap.FunFrames X.base X.outer
 frf:∀b∈X.fs,X.H₀ b=none
structure Inv(X:Cx)(pins:List (Addr×Obj))(U:List (Option V))(H:Hp)(s:Shared):Prop where
 ok:X.Ok
 os:s.os=X.s₀.os
 bare:AllBare s.gens
 base:Un X.fs X.ex X.H₀ H X.s₀.heap s.heap
 loc:∃m,s.heap.Ns X.env.locals m/\∀(i:Nat)(x:Str)(v:V),X.N[i]?=some x->U[i]?=some (some v)->Vis X.env.scope x->∃u,RelV v u/\y4u X.env s.heap m x u
 cell:∀x c,X.env.cells.lookup x=some c->∃v,s.heap.IsCell c v
 free:H X.env.locals=none
 freeC:∀x c,X.env.cells.lookup x=some c->H c=none
 pin:∀p∈X.pn++pins,s.heap.get? p.1=some p.2/\H p.1=none/\p.1≠X.env.locals/\p.1∉X.fs/\∀v,p.2.data≠.cell v
 hok:HOk X.prog X.w H s.heap
 len:U.length=X.N.length
section
variable {X:Cx}{pins:List (Addr×Obj)}{U:List (Option V)}{H H':Hp}{s:Shared}{h':Heap}
def Cx.Ok.nofr(ok:X.Ok)(e:X.base.get? b=some o):b∉X.fs:=fun hb=>by have:=(ok.funs.mem hb).1;rw[e]at this;cases this
def Inv.bs(I:Inv X pins U H s):∀b o,X.base.get? b=some o->s.heap.get? b=some o/\H b=none:=fun b o e=>
 ⟨I.base.keep b o (I.ok.bs b o e).1 (I.ok.bs b o e).2 (I.ok.nofr e) (I.ok.noex b o e),I.base.free b o (I.ok.bs b o e).1 (I.ok.bs b o e).2 (I.ok.noex b o e)⟩
def Inv.bk(I:Inv X pins U H s):∀b o,X.base.get? b=some o->s.heap.get? b=some o:=fun b o e=>(I.bs b o e).1
def Inv.mod(I:Inv X pins U H s):Mod X.K X.mg X.base:=I.ok.mod
def Inv.kIn(I:Inv X pins U H s):X.K.In s.heap:=I.ok.mod.kin.keeps I.bk
def Inv.lt(I:Inv X pins U H s):X.env.locals<s.heap.objs.size:=let ⟨_,hn,_⟩:=I.loc;hn.lt
def Inv.sz(I:Inv X pins U H s):X.s₀.heap.objs.size<=s.heap.objs.size:=sg I.ok.above (EB I.lt)
def Inv.nofs(I:Inv X pins U H s)(h:s.heap.objs.size<=a):a∉X.fs:=fun hb=>by obtain⟨_,o,ho,_⟩:=I.ok.funs.mem hb;exact absurd (AY (Φ ho) (sg I.sz h)) (DH _)
def Inv.cne(I:Inv X pins U H s):∀x c,X.env.cells.lookup x=some c->c≠X.env.locals:=fun x c e z=>by obtain⟨v,o,ho,hd⟩:=I.cell x c e;obtain⟨m,⟨o',es,ep,aT,cw,_⟩,_⟩:=I.loc;rw[z,aT]at ho;cases ho;rw[cw]at hd;cases hd
def Inv.funs(I:Inv X pins U H s):s.heap.FunFrames X.base X.outer:=by
 have all:∀(l:List Env),(∀b∈frs l,b∈X.fs)->X.s₀.heap.FunFrames X.base l->s.heap.FunFrames X.base l:=by
  intro l;induction l with
  |nil=>intro _ _;trivial
  |cons env r ih=>
   intro hs hl
   obtain⟨hk,⟨L,o,hf,hn,ho,hd⟩,hr⟩:=hl
   have hL:L∈X.fs:=hs L (by unfold frs;rw[DP,hf];exact BK)
   obtain⟨sl,e⟩:=I.base.slot L o ho (I.ok.frf L hL) hL fun z=>I.ok.exfs L z hL
   exact⟨hk,⟨L,_,hf,hn,e,hd⟩,ih (fun b hb=>hs b (by unfold frs;rw[DP,hf];exact tB _ hb)) hr⟩
 exact all X.outer (fun _ hb=>hb) I.ok.funs
def Inv.stack(I:Inv X pins U H s):s.heap.FunFrames X.base X.stack:=by
 rcases I.ok.stk with e |⟨e,hf⟩
 . rw[e];exact I.funs
 . rw[e];obtain⟨m,hn,_⟩:=I.loc;refine .cons (by rw[I.ok.kind];decide) hf hn ?_ I.funs;exact Heap.get?_none_of_le (sg I.ok.bsz I.ok.above)
def Inv.stkSub(I:Inv X pins U H s):∀b∈frs X.stack,b∈X.env.locals::X.fs:=fun b hb=>by
 rcases I.ok.stk with e |⟨e,hf⟩
 . rw[e]at hb;exact tB _ hb
 . rw[e]at hb;unfold frs at hb;rw[DP,hf]at hb;exact hb
def Inv.stkFree(I:Inv X pins U H s):∀b∈frs X.stack,H b=none:=fun b hb=>by
 rcases ee.mp (I.stkSub b hb) with e |hb
 . rw[e];exact I.free
 . obtain⟨_,o,ho,_⟩:=I.ok.funs.mem hb;exact I.base.free b o ho (I.ok.frf b hb) fun z=>I.ok.exfs b z hb
def Inv.step{g':Array GenState}{t':Nat}{d':Drawn}{ch:List Addr}(I:Inv X pins U H s)
  (cx:∀b∈ch,(b∈X.ex\/X.s₀.heap.objs.size<=b)/\b≠X.env.locals/\(∀x c,X.env.cells.lookup x=some c->c≠b)/\∀p∈X.pn++pins,p.1≠b)
  (keep:∀b o,b≠X.env.locals->b∉X.fs->b∉ch->s.heap.get? b=some o->H b=none->h'.get? b=some o)
  (slot:∀b o,b≠X.env.locals->b∈X.fs->b∉ch->s.heap.get? b=some o->H b=none->∃sl,h'.get? b=some { o with slots:=sl }) (free:∀b o,b∉ch->s.heap.get? b=some o->H b=none->H' b=none)
  (there:∀b o,b∉ch->s.heap.get? b=some o->∃o',h'.get? b=some o')
  (tups:∀b xs,H b=some (.tup xs)->H' b=some (.tup xs)) (frzs:∀b o u,H b=some (.frz o u)->H' b=some (.frz o u)) (tbls:∀b ps,H b=some (.tbl ps)->∃more,H' b=some (.tbl (ps++more)))
  (ns:∀m,s.heap.Ns X.env.locals m->h'.Ns X.env.locals m) (hok:HOk X.prog X.w H' h') (hg:AllBare g') :
  Inv X pins U H' { s with heap:=h',gens:=g',drawn:=d',toks:=t' }:=by
 have dR:∀b o,X.s₀.heap.get? b=some o->b≠X.env.locals:=fun b o e=>BB (AY (Φ e) I.ok.above)
 have hG:∀b o,X.s₀.heap.get? b=some o->b∉X.ex->b∉ch:=fun b o e hx hb=>by
  rcases (cx b hb).1 with z |z
  . exact hx z
  . exact absurd (AY (Φ e) z) (DH _)
 have fG:∀x c,X.env.cells.lookup x=some c->∀v,s.heap.IsCell c v->h'.IsCell c v:=fun x c e v ⟨o,ho,hd⟩=>by
  have fU:c∉ch:=fun z=>(cx c z).2.2.1 x c e rfl
  by_cases hc:c∈X.fs
  . obtain⟨sl,q⟩:=slot c o (I.cne x c e) hc fU ho (I.freeC x c e);exact⟨_,q,hd⟩
  . exact⟨o,keep c o (I.cne x c e) hc fU ho (I.freeC x c e),hd⟩
 refine⟨I.ok,I.os,hg,⟨fun b o e n hb hx=>?_,fun b o e n hb hx=>?_,fun b o e n hx=>?_,fun b o e hx=>?_,fun b xs e=>tups b xs (I.base.tups b xs e),fun b o xs e=>frzs b o xs (I.base.frzs b o xs e),fun b ps e=>?_⟩,?_,fun x c e=>?_,?_,fun x c e=>?_,fun p hp=>?_,hok,I.len⟩
 . exact keep b o (dR b o e) hb (hG b o e hx) (I.base.keep b o e n hb hx) (I.base.free b o e n hx)
 . obtain⟨sl,e1⟩:=I.base.slot b o e n hb hx;obtain⟨pE,e2⟩:=slot b _ (dR b o e) hb (hG b o e hx) e1 (I.base.free b o e n hx);exact⟨pE,e2⟩
 . obtain⟨o',e1⟩:=I.base.there b o e hx;exact free b o' (hG b o e hx) e1 (I.base.free b o e n hx)
 . obtain⟨o',e1⟩:=I.base.there b o e hx;exact there b o' (hG b o e hx) e1
 . obtain⟨m1,e1⟩:=I.base.tbls b ps e;obtain⟨m2,e2⟩:=tbls b _ e1;exact⟨m1++m2,by rw[e2,Array.append_assoc]⟩
 . obtain⟨m,hn,hl⟩:=I.loc;refine⟨m,ns m hn,fun i x v e1 e2 e3=>?_⟩;obtain⟨u,r,l⟩:=hl i x v e1 e2 e3;refine⟨u,r,?_⟩;rcases l with l |⟨k,c,e,z⟩
   . exact .inl l
   . exact .inr ⟨k,c,e,fG x c e _ z⟩
 . obtain⟨v,z⟩:=I.cell x c e;exact⟨v,fG x c e v z⟩
 . obtain⟨m,⟨o,_,_,ho,_⟩,_⟩:=I.loc;exact free _ o (fun z=>(cx _ z).2.1 rfl) ho I.free
 . obtain⟨v,o,ho,hd⟩:=I.cell x c e;exact free c o (fun z=>(cx c z).2.2.1 x c e rfl) ho (I.freeC x c e)
 . obtain⟨e,n,ne,nf,d⟩:=I.pin p hp;have fU:p.1∉ch:=fun z=>(cx p.1 z).2.2.2 p hp rfl
   exact⟨keep p.1 p.2 ne nf fU e n,free p.1 p.2 fU e n,ne,nf,d⟩
def Inv.un(I:Inv X pins U H s)(u:Un X.fs [] H H' s.heap h')(hok:HOk X.prog X.w H' h'):Inv X pins U H' { s with heap:=h',toks:=t' }:=by obtain⟨m,⟨o,es,ep,ho,r⟩,_⟩:=id I.loc;obtain⟨sl,hL⟩:=u.any ho I.free (by simp);exact I.step (g':=s.gens) (d':=s.drawn) (ch:=[]) (fun _ z=>nomatch z) (fun b o _ hb _ e n=>u.keep b o e n hb (by simp)) (fun b o _ hb _ e n=>u.slot b o e n hb (by simp)) (fun b o _ e n=>u.free b o e n (by simp)) (fun b o _ e=>u.there b o e (by simp)) u.tups u.frzs u.tbls (fun m' hm=>by obtain⟨o',eF,eG,aT,r'⟩:=hm;rw[ho]at aT;cases aT;exact⟨_,eF,eG,hL,r'⟩) hok I.bare
def Inv.call(I:Inv X pins U H s)(u:Un (frs X.stack) ch H H' s.heap h')(hok:HOk X.prog X.w H' h')(hg:AllBare g')
  (cx:∀b∈ch,(b∈X.ex\/X.s₀.heap.objs.size<=b)/\b≠X.env.locals/\(∀x c,X.env.cells.lookup x=some c->c≠b)/\∀p∈X.pn++pins,p.1≠b) :
  Inv X pins U H' { s with heap:=h',gens:=g',drawn:=d',toks:=t' }:=by
 obtain⟨m,⟨o,es,ep,ho,r⟩,_⟩:=id I.loc
 obtain⟨sl,hL⟩:=u.any ho I.free fun z=>(cx _ z).2.1 rfl
 exact I.step (ch:=ch) cx (fun b o hL hb hc e n=>u.keep b o e n (fun z=>(ee.mp (I.stkSub b z)).elim hL hb) hc) (fun b o _ _ hc e n=>u.any e n hc) (fun b o hc e n=>u.free b o e n hc) (fun b o hc e=>u.there b o e hc) u.tups u.frzs u.tbls (fun m' hm=>by obtain⟨o',eF,eG,aT,r'⟩:=hm;rw[ho]at aT;cases aT;exact⟨_,eF,eG,hL,r'⟩) hok hg
def Inv.turned(I:Inv X pins U H s)(k:∀b o,b≠it->s.heap.get? b=some o->h'.get? b=some o)(hn:H it=none)(hL:it≠X.env.locals)
  (h1:it∈X.ex\/X.s₀.heap.objs.size<=it) (h2:∀x c,X.env.cells.lookup x=some c->c≠it) (h3:∀p∈X.pn++pins,p.1≠it):Inv X pins U H { s with heap:=h',toks:=t' }:=by
 have nI:∀b u,H b=some u->b≠it:=fun b u e z=>by rw[z,hn]at e;cases e
 refine I.step (g':=s.gens) (d':=s.drawn) (ch:=[it]) (fun b hb=>?_) (fun b o _ _ hc e _=>k b o (fun z=>hc (by simp[z])) e) (fun b o _ _ hc e _=>⟨o.slots,k b o (fun z=>hc (by simp[z])) e⟩) (fun _ _ _ _ n=>n)
  (fun b o hc e=>⟨o,k b o (fun z=>hc (by simp[z])) e⟩) (fun _ _ e=>e) (fun _ _ _ e=>e) (fun b ps e=>⟨#[],by rw[e];simp⟩) (fun m hm=>?_) (fun b u e=>?_) I.bare
 . have e:b=it:=by simpa using hb
   subst e;exact⟨h1,hL,h2,h3⟩
 . obtain⟨o,es,ep,ho,r⟩:=hm;exact⟨o,es,ep,k _ o (DR hL) ho,r⟩
 . refine(I.hok b u e).stay (fun c v hc q=>k c v ?_ q) (fun _ q=>q) fun _ _ q=>q
   rcases hc with z |z
   . rw[z];exact nI b u e
   . exact nI c _ z
def Inv.tok(I:Inv X pins U H s)(t:Nat):Inv X pins U H { s with toks:=t }:=I.un (h':=s.heap) (t':=t) Un.refl I.hok
def Inv.kept(I:Inv X pins U H s)(k:∀b u,s.heap.get? b=some u->h'.get? b=some u):Inv X pins U H { s with heap:=h',toks:=t' }:=I.un (Un.kept k) (I.hok.kept k)
def Inv.laid(I:Inv X pins U H s)(k:∀b u,s.heap.get? b=some u->h'.get? b=some u)(hp:s.heap.objs.size<=a)(new:ObjOk X.prog X.w (upd H a o) h' a o) :
 Inv X pins U (upd H a o) { s with heap:=h',toks:=t' }:=I.un (Un.laid k hp (I.hok.fresh hp)) (I.hok.laid k hp new)
def Inv.write(I:Inv X pins U H s)(mu:Mut (H x))(he:e=x\/H e=some (.own x))(k:∀b u,b≠e->s.heap.get? b=some u->h'.get? b=some u)(fq:∃u,h'.get? e=some u)
 (new:ObjOk X.prog X.w (upd H x o) h' x o):Inv X pins U (upd H x o) { s with heap:=h',toks:=t' }:=I.un (Un.write mu he k fq) (I.hok.write mu he k fq new)
def Inv.pins_of(I:Inv X pins U H s)(h:∀p∈lg,s.heap.get? p.1=some p.2/\H p.1=none/\p.1≠X.env.locals/\p.1∉X.fs/\∀v,p.2.data≠.cell v):Inv X lg U H s:=
 ⟨I.ok,I.os,I.bare,I.base,I.loc,I.cell,I.free,I.freeC,fun p hp=>(AQ.mp hp).elim (fun z=>I.pin p (EC _ z)) (h p),I.hok,I.len⟩
def Lv{N:List Str}(hN:N.Nodup){i j:Nat}{x:Str}(a:N[i]?=some x)(b:N[j]?=some x):i=j:=by obtain⟨h1,e1⟩:=BS.mp a;obtain⟨h2,e2⟩:=BS.mp b;exact(List.getElem_inj hN).mp (e1.trans e2.symm)
def Yi(I:Inv X pins U H s)(hN:X.N.Nodup)(hi:X.N[i]?=some x)(hx:Loc X.env.scope x)(r:RelV v u)
  (h:∀s',Inv X pins (U.set i (some v)) H s'->(∃a,Heap.SameBut a s.heap s'.heap/\(a=X.env.locals\/X.env.cells.lookup x=some a))->Q () s') (hf:X.fn x=true\/X.env.scope.names.lookup x=some .local):wpAny M A (storeName X.env x u) Q E s:=by
 obtain⟨m,hn,hl⟩:=id I.loc
 have dG:(X.env.scope.kind==.class||(X.env.scope.kind==.module&&X.env.locals != X.env.globals))=false:=by rw[I.ok.kind];rfl
 have iD:i<U.length:=by rw[I.len];exact(BS.mp hi).1
 have cne:=I.cne
 have dE:∀{a:Addr}{h':Heap},(∃o,s.heap.get? a=some o/\H a=none)->Heap.SameBut a s.heap h'->HOk X.prog X.w H h':=fun {a h'} ha hs b ob e=>by
  obtain⟨_,_,fH⟩:=ha;refine(I.hok b ob e).stay (fun c w' hc q=>(hs.2 c ?_).trans q) (fun _ q=>q) fun _ _ q=>q
  rintro rfl;rcases hc with rfl |hc
  . rw[fH]at e;cases e
  . rw[fH]at hc;cases hc
 rcases hx with hk |hk
 . refine wpAny_storeName_local hk hn (fun h' lu hs=>?_) dG;obtain⟨oL,_,_,fV,_⟩:=id hn;refine h _ ⟨I.ok,I.os,I.bare,⟨fun b o e n hb hx=>?_,fun b o e n hb hx=>?_,I.base.free,fun b o e hx=>?_,I.base.tups,I.base.frzs,I.base.tbls⟩,⟨_,lu,fun j y v' e1 e2 e3=>?_⟩,fun y c e=>?_,I.free,I.freeC,fun p hp=>?_,dE ⟨oL,fV,I.free⟩ hs,by simpa using I.len⟩ ⟨_,hs,.inl rfl⟩
   . exact(hs.2 b (BB (AY (Φ e) I.ok.above))).trans (I.base.keep b o e n hb hx)
   . obtain⟨sl,e1⟩:=I.base.slot b o e n hb hx;exact⟨sl,(hs.2 b (BB (AY (Φ e) I.ok.above))).trans e1⟩
   . obtain⟨o',e1⟩:=I.base.there b o e hx;exact⟨o',(hs.2 b (BB (AY (Φ e) I.ok.above))).trans e1⟩
   . by_cases hj:j=i
     . subst hj;rw[hi]at e1;cases e1;rw[CY iD]at e2;cases e2;exact⟨u,r,.inl ⟨hk,by simp⟩⟩
     . rw[BU (DR hj)]at e2;obtain⟨u',r',q⟩:=hl j y v' e1 e2 e3;refine⟨u',r',?_⟩;rcases q with⟨k,e⟩ |⟨k,c,e,z⟩
       . refine .inl ⟨k,?_⟩;have:y≠x:=fun e=>hj (Lv hN e1 (e ▸ hi))
         simp[this,e]
       . exact .inr ⟨k,c,e,z.sameBut hs (cne y c e)⟩
   . obtain⟨w',z⟩:=I.cell y c e;exact⟨w',z.sameBut hs (cne y c e)⟩
   . obtain⟨e,n,ne,nf,d⟩:=I.pin p hp;exact⟨(hs.2 p.1 ne).trans e,n,ne,nf,d⟩
 . have fW:X.fn x=true:=by
    rcases hf with z |z
    . exact z
    . rw[z]at hk;cases hk
   obtain⟨c,hc⟩:=I.ok.has x (.inl hk)
   obtain⟨w',z⟩:=I.cell x c hc
   refine wpAny_storeName_cell I.ok.kind hk hc z (fun h' ar hs=>?_)
   obtain⟨oc,hJ,mM⟩:=id z
   refine h { s with heap:=h' } ⟨I.ok,I.os,I.bare,⟨fun b o e n hb hx=>?_,fun b o e n hb hx=>?_,I.base.free,fun b o e hx=>?_,I.base.tups,I.base.frzs,I.base.tbls⟩,⟨m,hn.sameBut hs (DR (cne x c hc)),fun j y v' e1 e2 e3=>?_⟩,fun y c' e=>?_,I.free,I.freeC,fun p hp=>?_,dE ⟨oc,hJ,I.freeC x c hc⟩ hs,by simpa using I.len⟩ ⟨c,hs,.inr hc⟩
   . exact(hs.2 b (BB (AY (Φ e) (I.ok.cab x c fW hc)))).trans (I.base.keep b o e n hb hx)
   . obtain⟨sl,e1⟩:=I.base.slot b o e n hb hx;exact⟨sl,(hs.2 b (BB (AY (Φ e) (I.ok.cab x c fW hc)))).trans e1⟩
   . obtain⟨o',e1⟩:=I.base.there b o e hx;exact⟨o',(hs.2 b (BB (AY (Φ e) (I.ok.cab x c fW hc)))).trans e1⟩
   . by_cases hj:j=i
     . subst hj;rw[hi]at e1;cases e1;rw[CY iD]at e2;cases e2;exact⟨u,r,.inr ⟨.inl hk,c,hc,ar⟩⟩
     . rw[BU (DR hj)]at e2;obtain⟨u',r',q⟩:=hl j y v' e1 e2 e3;refine⟨u',r',?_⟩;rcases q with q |⟨k,c',e,z'⟩
       . exact .inl q
       . refine .inr ⟨k,c',e,z'.sameBut hs ?_⟩;rintro rfl;exact hj (Lv hN e1 (I.ok.inj _ _ _ e hc ▸ hi))
   . by_cases dS:c'=c
     . subst dS;exact⟨_,ar⟩
     . obtain⟨w2,z2⟩:=I.cell y c' e;exact⟨w2,z2.sameBut hs dS⟩
   . obtain⟨e,n,ne,nf,d⟩:=I.pin p hp;refine⟨(hs.2 p.1 ?_).trans e,n,ne,nf,d⟩;intro q;rw[q,hJ]at e;have q':oc=p.2:=Option.some.inj e;exact d w' (by rw[<-q'];exact mM)
def Lu(I:Inv X pins U H s)(hN:X.N.Nodup)(hi:X.N[i]?=some x)(hx:Loc X.env.scope x)(r:RelV v u)
  (h:∀s',Inv X pins (U.set i (some v)) H s'->Q () s') (hf:X.fn x=true\/X.env.scope.names.lookup x=some .local):wpAny M A (storeName X.env x u) Q E s:=
 Yi I hN hi hx r (fun s' I' _=>h s' I') hf
def Inv.call'(I:Inv X pins U H s)(ho:s'.os=s.os)(u:Un (frs X.stack) ch H H' s.heap s'.heap)(hok:HOk X.prog X.w H' s'.heap)(hg:AllBare s'.gens)
  (cx:∀b∈ch,(b∈X.ex\/X.s₀.heap.objs.size<=b)/\b≠X.env.locals/\(∀x c,X.env.cells.lookup x=some c->c≠b)/\∀p∈X.pn++pins,p.1≠b):Inv X pins U H' s':=by
 obtain⟨h',g',d',t',o'⟩:=s'
 have e:o'=s.os:=ho
 subst e
 exact I.call (g':=g') (t':=t') (d':=d') u hok hg cx
end
abbrev XK:=Value->Option Addr->Hp->Prop
abbrev St:=List (Option V)
abbrev VK:=V->Hp->Prop
abbrev TE:=St->Hp->VK->Prop
abbrev TT:=St->Hp->(Bool->Hp->Prop)->Prop
abbrev TA:=St->Hp->(List V->Hp->Prop)->Prop
structure Ends where
 nx:St->Hp->Prop
 rt:VK
 bk:St->Hp->Prop:=fun _ _=>False
 ct:St->Hp->Prop:=fun _ _=>False
abbrev TS:=Ends->St->Hp->Prop
def EP(X:Cx)(pins:List (Addr×Obj))(U:St)(Q:VK)(u:Value)(s':Shared):Prop:=∃v H',Inv X pins U H' s'/\RelV v u/\Q v H'
def TP(X:Cx)(pins:List (Addr×Obj))(U:St)(Q:Bool->Hp->Prop)(b:Bool)(s':Shared):Prop:=∃H',Inv X pins U H' s'/\Q b H'
def AP(X:Cx)(pins:List (Addr×Obj))(U:St)(Q:List V->Hp->Prop)(us:List Value)(s':Shared):Prop:=∃vs H',Inv X pins U H' s'/\Vals vs us/\Q vs H'
def SP(X:Cx)(pins:List (Addr×Obj))(D:Ends)(f:Flow)(s':Shared):Prop:=
 match f with
 | .next=>∃af H',Inv X pins af H' s'/\D.nx af H'
 | .brk=>∃af H',Inv X pins af H' s'/\D.bk af H'
 | .cont=>∃af H',Inv X pins af H' s'/\D.ct af H'
 | .ret u=>∃v af H',Inv X pins af H' s'/\RelV v u/\D.rt v H'
def PE(X:Cx)(e:Expr)(t:TE):Prop:=
 ∀(pins:List (Addr×Obj))(s:Shared)(U:St)(H:Hp)(Q:VK),Inv X pins U H s->t U H Q->wpAny (model X.prog X.w) X.A (eval e X.env) (EP X pins U Q) X.xe s
def PT(X:Cx)(e:Expr)(t:TT):Prop:=
 ∀(pins:List (Addr×Obj))(s:Shared)(U:St)(H:Hp)(Q:Bool->Hp->Prop),Inv X pins U H s->t U H Q->wpAny (model X.prog X.w) X.A (isTrue e X.env (eval e X.env)) (TP X pins U Q) X.xe s
def PW(X:Cx)(e:Expr)(t:TT):Prop:=
 ∀(whole:Sem Value)(pins:List (Addr×Obj))(s:Shared)(U:St)(H:Hp)(Q:Bool->Hp->Prop),Inv X pins U H s->t U H Q->wpAny (model X.prog X.w) X.A (isTrue e X.env whole) (TP X pins U Q) X.xe s
def PW.pt(h:PW X e t):PT X e t:=h _
def PA(X:Cx)(es:List Expr)(t:TA):Prop:=
 ∀(pos:Pos)(pins:List (Addr×Obj))(s:Shared)(U:St)(H:Hp)(Q:List V->Hp->Prop),Inv X pins U H s->t U H Q->wpAny (model X.prog X.w) X.A (spliced (backTo pos (starEach es X.env))) (AP X pins U Q) X.xe s
def PS(X:Cx)(st:Stmt)(t:TS):Prop:=
 ∀(pins:List (Addr×Obj))(s:Shared)(U:St)(H:Hp)(D:Ends),Inv X pins U H s->t D U H->wpAny (model X.prog X.w) X.A (exec st X.env) (SP X pins D) X.xe s
def PSs(X:Cx)(st:List Stmt)(t:TS):Prop:=
 ∀(pins:List (Addr×Obj))(s:Shared)(U:St)(H:Hp)(D:Ends),Inv X pins U H s->t D U H->wpAny (model X.prog X.w) X.A (execs st X.env) (SP X pins D) X.xe s
def thn(h:wpAny M A t Q E s)(hQ:∀a s,Q a s->Q' a s):wpAny M A t Q' E s:=BR h hQ fun _ _ x=>x
section
variable {X:Cx}
def bin{a b:Expr}{ta tb:TE}(ha:PE X a ta)(hb:PE X b tb){pins:List (Addr×Obj)}{s:Shared}{U:St}{H:Hp}{R:V->V->Hp->Prop}(I:Inv X pins U H s)(h:ta U H fun x H1=>tb U H1 fun y H2=>R x y H2)
  {α:Type} {Q:α->Shared->Prop} {f:Value->Value->Sem α}
  (hf:∀v u s2 x y H2,Inv X pins U H2 s2->RelV x v->RelV y u->R x y H2->wpAny (model X.prog X.w) X.A (f v u) Q X.xe s2) :
  wpAny (model X.prog X.w) X.A (eval a X.env) (fun v ae=>wpAny (model X.prog X.w) X.A (eval b X.env) (fun u ba=>wpAny (model X.prog X.w) X.A (f v u) Q X.xe ba) X.xe ae) X.xe s:=by
 refine thn (ha pins s U H _ I h) fun v s1 ⟨x,H1,I1,r1,q1⟩=>?_
 refine thn (hb pins s1 U H1 _ I1 q1) fun u s2 ⟨y,H2,I2,r2,q2⟩=>?_
 exact hf v u s2 x y H2 I2 r1 r2 q2
noncomputable def kB(i:Nat):TE:=fun U H Q=>∃v,U[i]?=some (some v)/\Q v H
noncomputable def tC(v:V):TE:=fun _ H Q=>Q v H
def Ty(hN:X.N[i]?=some x)(hv:Vis X.env.scope x)(hd:(x==("__debug__":Str))=false)(bN:(x==("__classdict__":Str))=false):PE X (.Name x pos) (kB i):=by
 intro pins s U H Q I h;obtain⟨v,e,h⟩:=h;obtain⟨m,hn,hl⟩:=I.loc;obtain⟨u,r,l⟩:=hl i x v hN e hv;have fin:EP X pins U Q u s:=⟨v,H,I,r,h⟩;rcases l with⟨hk,hm⟩ |⟨hk,c,hc,fI⟩
 . exact wpAny_Name (wpAny_loadName_local I.ok.kind hk hn hm fin) hd
 . rcases hk with hk |hk
   . exact wpAny_Name (wpAny_loadName_cell I.ok.kind hk hc fI fin) hd
   . exact wpAny_Name (wpAny_loadName_free I.ok.kind hk hc fI fin bN) hd
def pe_int:PE X (.Constant (.int i) j pos) (tC (.int i)):=fun _ _ _ H _ I h=>wpAny_Constant_int ⟨.int i,H,I.tok _,⟨_,rfl⟩,h⟩
def pe_bl:PE X (.Constant (.bool b) j pos) (tC (.bl b)):=fun _ _ _ H _ I h=>Constant_bool ⟨.bl b,H,I,rfl,h⟩
def pe_str:PE X (.Constant (.str x) j pos) (tC (.str x)):=fun _ _ _ H _ I h=>Calls.Constant_str ⟨.str x,H,I.tok _,⟨_,rfl⟩,h⟩
def Gl(X:Cx)(x:Str):Prop:=X.env.kindOf x=some .globalImplicit
def Be(I:Inv X pins U H s)(hg:Gl X x)(hm:X.mg x=some u)(h:Q u s)
  (hd:(x==("__debug__":Str))=false):wpAny (model X.prog X.w) X.A (eval (.Name x pos) X.env) Q E s:=
 Calls.Name_function_global I.ok.kind hg (Calls.loadGlobal_global (by rw[I.ok.glob];exact I.mod.glob.keeps I.bk) hm h) hd
def P8(I:Inv X pins U H s)(hg:Gl X x)(hm:X.mg x=none)(hv:bootBuiltins x=some u)(h:Q u s)
  (hn:x≠"__name__":=by decide) (hd:(x==("__debug__":Str))=false:=by decide):wpAny (model X.prog X.w) X.A (eval (.Name x pos) X.env) Q E s:=by
 obtain⟨mb,h1,h2⟩:=I.mod.blt
 exact Calls.Name_function_global I.ok.kind hg (Calls.loadGlobal_builtin (by rw[I.ok.glob];exact I.mod.glob.keeps I.bk) hm (by rw[I.ok.blt];exact h1.keeps I.bk) ((h2 x hn).trans hv) h) hd
def Wg(hg:Gl X x)(hm:X.mg x=some u)(r:RelV v u)(hd:(x==("__debug__":Str))=false:=by decide):PE X (.Name x pos) (tC v):=
 fun _ _ _ H _ I h=>Be I hg hm ⟨v,H,I,r,h⟩ hd
def J7(hg:Gl X x)(hm:X.mg x=none)(hv:bootBuiltins x=some u)(r:RelV v u)(hn:x≠"__name__":=by decide)(hd:(x==("__debug__":Str))=false:=by decide):PE X (.Name x pos) (tC v):=
 fun _ _ _ H _ I h=>P8 I hg hm hv ⟨v,H,I,r,h⟩ hn hd
variable {a b:Expr}{ta tb:TE}{pos:Pos}
variable {tA hU:TT}{rest:List Expr}
noncomputable def kA(t u:TT):TT:=fun U H Q=>t U H fun c H1=>if c=true then u U H1 Q else Q false H1
noncomputable def tOr(t u:TT):TT:=fun U H Q=>t U H fun c H1=>if c=true then Q true H1 else u U H1 Q
noncomputable def kz(t:TT):TT:=fun U H Q=>t U H fun c H1=>Q (!c) H1
def xT(ha:PT X a tA):PW X (.BoolOp .And [a] pos) tA:=by
 intro wh pins s U H Q I h;refine isTrue_and (thn (ha pins s U H Q I h) fun c s1 e=>?_);cases c with
 |true=>exact isTrue_and_nil e
 |false=>exact e
def vO(ha:PT X a tA):PW X (.BoolOp .Or [a] pos) tA:=by
 intro wh pins s U H Q I h;refine isTrue_or (thn (ha pins s U H Q I h) fun c s1 e=>?_);cases c with
 |false=>exact isTrue_or_nil e
 |true=>exact e
def vN(ha:PT X a tA)(hb:PW X (.BoolOp .And (b::rest) pos) hU):PW X (.BoolOp .And (a::b::rest) pos) (kA tA hU):=by
 intro wh pins s U H Q I h;refine isTrue_and (thn (ha pins s U H _ I h) fun c s1 ⟨H1,I1,q1⟩=>?_);cases c with
 |true=>exact hb wh pins s1 U H1 Q I1 q1
 |false=>exact⟨H1,I1,q1⟩
def y0g(ha:PT X a tA)(hb:PW X (.BoolOp .Or (b::rest) pos) hU):PW X (.BoolOp .Or (a::b::rest) pos) (tOr tA hU):=by
 intro wh pins s U H Q I h;refine isTrue_or (thn (ha pins s U H _ I h) fun c s1 ⟨H1,I1,q1⟩=>?_);cases c with
 |true=>exact⟨H1,I1,q1⟩
 |false=>exact hb wh pins s1 U H1 Q I1 q1
def vM(ha:PT X a tA):PT X (.UnaryOp .Not a pos) (kz tA):=by intro pins s U H Q I h;exact isTrue_not (ha pins s U H (fun c H1=>Q (!c) H1) I h)
def vL(h:PE X a t):PE X (.BoolOp op [a] pos) t:=fun pins s U H Q I hw=>BoolOp_one (h pins s U H Q I hw)
noncomputable def tIf(t:TT)(ta tb:TE):TE:=fun U H Q=>t U H fun c H1=>if c=true then ta U H1 Q else tb U H1 Q
def zh(hc:PT X c tA)(ha:PE X a ta)(hb:PE X b tb):PE X (.IfExp c a b pos) (tIf tA ta tb):=by
 intro pins s U H Q I h;refine wpAny_IfExp (thn (hc pins s U H _ I h) fun d s1 ⟨H1,I1,q1⟩=>?_);cases d with
 |true=>exact ha pins s1 U H1 Q I1 q1
 |false=>exact hb pins s1 U H1 Q I1 q1
end
def SqL(K:Frag)(H:Hp)(a:Addr)(xs:List V):Prop:=
 Rd H a (.lst xs) \/
  ∃(o:Obj)(its:Array Value)(n:Nat),K.lookup a=some o/\o.cls=.type "list"/\o.dict=none/\o.data=.seq its n/\its.size<=sizeLine/\Vals xs its.toList
def SqT(K:Frag)(H:Hp)(a:Addr)(xs:List V):Prop:=
 Rd H a (.tup xs) \/
  ∃(o:Obj)(its:Array Value)(n:Nat),K.lookup a=some o/\o.cls=.type "tuple"/\o.data=.seq its n/\its.size<=sizeLine/\Vals xs its.toList
noncomputable def ku:Value->Option V
 | .none=>some .non
 | .bool b=>some (.bl b)
 | .int i _=>some (.int i)
 | .str x _=>some (.str x)
 | .bytes b _=>some (.byt b)
 | .float b _=>some (.flt b)
 | .ref a=>some (.ref a)
 | .type n=>some (.ty n)
 |_=>none
def RelV.abs(r:RelV x u):ku u=some x:=by
 cases x with
 |non=>cases r;rfl
 |bl _=>cases r;rfl
 |int _=>obtain⟨t,rfl⟩:=r;rfl
 |str _=>obtain⟨t,rfl⟩:=r;rfl
 |byt _=>obtain⟨t,rfl⟩:=r;rfl
 |flt _=>obtain⟨t,rfl⟩:=r;rfl
 |ref _=>cases r;rfl
 |ty _=>cases r;rfl
def RelV.inj(r:RelV x u)(q:RelV y u):x=y:=Option.some.inj (r.abs.symm.trans q.abs)
theorem Vals.inj:∀{xs ys:List V}{us:List Value},Vals xs us->Vals ys us->xs=ys
 |_,_,_,.nil,.nil=>rfl
 |_,_,_,.cons r t,.cons r' t'=>by rw[r.inj r',Vals.inj t t']
section
variable {X:Cx}{pins:List (Addr×Obj)}{U:St}{H:Hp}{s:Shared}{a:Addr}{xs ys:List V}
def SqL.of{K:Frag}(h:H a=some (.lst xs)):SqL K H a xs:=.inl (.inl h)
def SqT.of{K:Frag}(h:H a=some (.tup xs)):SqT K H a xs:=.inl (.inl h)
def Inv.list(I:Inv X pins U H s)(h:SqL X.K H a xs):∃its:List Value,Vals xs its/\PlainL s.heap a its.toArray/\xs.length<=sizeLine:=by
 rcases h with h |⟨o,its,n,hk,hc,hd,hs,hz,r⟩
 . obtain⟨z,its,n,r,e⟩:=h.ok I.hok;exact⟨its,r,⟨_,n,e,rfl,rfl,rfl⟩,z⟩
 . refine⟨its.toList,r,⟨o,n,I.kIn a o hk,hc,hd,by simpa using hs⟩,?_⟩;have e:=r.length;simp only[AW]at e
   lia
def Inv.tuple(I:Inv X pins U H s)(h:SqT X.K H a xs):∃its:List Value,Vals xs its/\IsTup s.heap a its.toArray/\xs.length<=sizeLine:=by
 rcases h with h |⟨o,its,n,hk,hc,hs,hz,r⟩
 . obtain⟨z,its,r,p⟩:=h.ok I.hok;exact⟨its,r,p.tup,z⟩
 . refine⟨its.toList,r,⟨o,I.kIn a o hk,hc,n,by simpa using hs⟩,?_⟩;have e:=r.length;simp only[AW]at e
   lia
def Inv.list_inj(I:Inv X pins U H s)(h:SqL X.K H a xs)(h':SqL X.K H a ys):xs=ys:=by
 obtain⟨its,r,⟨o,n,e,_,_,d⟩,_⟩:=I.list h;obtain⟨its',r',⟨o',n',e',_,_,d'⟩,_⟩:=I.list h';rw[e]at e';cases e';rw[d]at d';injection d' with d1 _;have:its=its':=by simpa using CP Array.toList d1
 subst this;exact r.inj r'
def Inv.tuple_inj(I:Inv X pins U H s)(h:SqT X.K H a xs)(h':SqT X.K H a ys):xs=ys:=by
 obtain⟨its,r,⟨o,e,_,n,d⟩,_⟩:=I.tuple h;obtain⟨its',r',⟨o',e',_,n',d'⟩,_⟩:=I.tuple h';rw[e]at e';cases e';rw[d]at d';injection d' with d1 _;have:its=its':=by simpa using CP Array.toList d1
 subst this;exact r.inj r'
end
abbrev Cx.wish(X:Cx)(E:Value->Shared->Prop):Cx:={ X with xe:=E }
abbrev Cx.nox(X:Cx):Cx:=X.wish fun _ _=>False
section
variable {X:Cx}{st:Stmt}{rest:List Stmt}{t u:TS}{e:Expr}{te:TE}{pos:Pos}
noncomputable def Qs:TS:=fun D U H=>D.nx U H
noncomputable def kr(t u:TS):TS:=fun D U H=>t { D with nx:=u D } U H
def pss_nil:PSs X [] Qs:=fun _ _ U H _ I h=>FQ ⟨U,H,I,h⟩
def zg(h1:PS X st t)(h2:PSs X rest u):PSs X (st::rest) (kr t u):=by
 intro pins s U H D I h;refine wpAny_execs_cons (thn (h1 pins s U H { D with nx:=u D } I h) fun f s1 q=>?_);cases f with
 |next=>
  obtain⟨af,H',I',q⟩:=q
  exact h2 pins s1 af H' D I' q
 |ret v=>exact q
 |brk=>exact q
 |cont=>exact q
def xS(h1:PS X st t):PSs X [st] t:=by
 intro pins s U H D I h;refine wpAny_execs_cons (thn (h1 pins s U H D I h) fun f s1 q=>?_);cases f with
 |next=>exact FQ q
 |ret v=>exact q
 |brk=>exact q
 |cont=>exact q
def Inv.quiet(I:Inv X pins U H s):interactive X.env=false:=by simp[interactive,I.ok.kind]
noncomputable def Cp(te:TE):TS:=fun D U H=>te U H fun _ H1=>D.nx U H1
def Wf(he:PE X e te)(hs:swapsWith e none pos.line X.env=pure false):PS X (.Expr e pos) (Cp te):=by intro pins s U H D I h;exact wpAny_Expr_any (thn (he pins s U H _ I h) fun v s1 ⟨x,H1,I1,r1,q1⟩=>⟨U,H1,I1,q1⟩) I.quiet hs
noncomputable def Oy(te:TE):TS:=fun D U H=>te U H D.rt
def Tx(he:PE X e te):PS X (.Return (some e) pos) (Oy te):=by intro pins s U H D I h;exact wpAny_Return_some (thn (he pins s U H _ I h) fun v s1 ⟨x,H1,I1,r1,q1⟩=>⟨x,U,H1,I1,r1,q1⟩)
noncomputable def kq(c:TT)(t u:TS):TS:=fun D U H=>c U H fun b H1=>if b=true then t D U H1 else u D U H1
def y0i(hc:PT X c tc)(ha:PSs X a t)(hb:PSs X b u):PS X (.If c a b pos) (kq tc t u):=by
 intro pins s U H D I h;refine wpAny_If (thn (hc pins s U H _ I h) fun d s1 ⟨H1,I1,q1⟩=>?_);cases d with
 |true=>exact ha pins s1 U H1 D I1 q1
 |false=>exact hb pins s1 U H1 D I1 q1
end
abbrev TG:=V->St->Hp->(St->Hp->Prop)->Prop
abbrev TGs:=List V->St->Hp->(St->Hp->Prop)->Prop
def PG(X:Cx)(target:Expr)(t:TG):Prop:=
 ∀(pins:List (Addr×Obj))(s:Shared)(U:St)(H:Hp)(v:V)(u:Value)(Q:St->Hp->Prop),Inv X pins U H s->RelV v u->t v U H Q ->
  wpAny (model X.prog X.w) X.A (assign target X.env u) (fun _ s'=>∃af H',Inv X pins af H' s'/\Q af H') X.xe s
def PGs(X:Cx)(ts:List Expr)(t:TGs):Prop:=
 ∀(pins:List (Addr×Obj))(s:Shared)(U:St)(H:Hp)(vs:List V)(us:List Value)(Q:St->Hp->Prop),Inv X pins U H s->Vals vs us->t vs U H Q ->
  wpAny (model X.prog X.w) X.A (assignInOrder ((assignEach ts X.env).map (·.2)) us) (fun _ s'=>∃af H',Inv X pins af H' s'/\Q af H') X.xe s
abbrev V3:=V->V->V->Hp->(Hp->Prop)->Prop
def Fn(X:Cx)(t:V3):Prop:=
 ∀(pins:List (Addr×Obj))(s:Shared)(U:St)(H:Hp)(o i v:V)(ov iv u:Value)(Q:Hp->Prop),Inv X pins U H s->RelV o ov->RelV i iv->RelV v u->t o i v H Q ->
  wpAny (model X.prog X.w) X.A (setItem ov iv u) (fun _ s'=>∃H',Inv X pins U H' s'/\Q H') X.xe s
section
variable {X:Cx}{pos:Pos}
noncomputable def y8(i:Nat):TG:=fun v U H Q=>Q (U.set i (some v)) H
def Kr(hN:X.N.Nodup)(hi:X.N[i]?=some x)(hx:Loc X.env.scope x)(hf:X.fn x=true\/X.env.scope.names.lookup x=some .local):PG X (.Name x pos) (y8 i):=by intro pins s U H v u Q I r h;exact wpAny_assign_Name (Lu I hN hi hx r (fun s' I'=>⟨_,H,I',h⟩) hf)
noncomputable def Ox:TGs:=fun vs U H Q=>vs=[]/\Q U H
noncomputable def Ak(t:TG)(u:TGs):TGs:=fun vs U H Q=>∃v r,vs=v::r/\t v U H fun af H'=>u r af H' Q
def pgs_nil:PGs X [] Ox:=by intro pins s U H vs us Q I r h;obtain⟨e,h⟩:=h;subst e;cases r;exact assignInOrder_nil ⟨U,H,I,h⟩
def Lr(h1:PG X e t)(h2:PGs X es u)
  (hs:(assignEach (e::es) X.env).map (·.2)=assign e X.env::(assignEach es X.env).map (·.2):=by rfl):PGs X (e::es) (Ak t u):=by
 intro pins s U H vs us Q I r h
 obtain⟨v,vr,e1,h⟩:=h
 subst e1
 cases r with
 |cons r rr=>
  rw[hs]
  refine assignInOrder_cons (thn (h1 pins s U H _ _ _ I r h) fun _ s1 ⟨ft,H1,I1,q1⟩=>?_)
  exact h2 pins s1 ft H1 _ _ Q I1 rr q1
noncomputable def Ow(K:Frag)(n:Nat)(t:TGs):TG:=fun v U H Q=>∃a xs,v=.ref a/\SqT K H a xs/\xs.length=n/\t xs U H Q
def Tw(hc:X.calm=true)(h:PGs X es t)
  (hn:(assignEach es X.env).length=n) (aU:(assignEach es X.env).findIdx? (·.1)=none):PG X (.Tuple es k pos) (Ow X.K n t):=by
 intro pins s U H v u Q I r hw
 obtain⟨a,xs,e1,hq,hl,hw⟩:=hw
 subst e1
 cases r
 obtain⟨its,rv,ht,hz⟩:=I.tuple hq
 refine assign_Tuple_tuple (I.ok.hd hc) ht (by simp[hn,<-hl,rv.length]) aU fun h' hx=>?_
 have I1:Inv X pins U H { s with heap:=h' }:=I.kept (t':=s.toks) fun b o e=>hx b o (BB (Φ e)) e
 exact h pins _ U H xs _ Q I1 (by simpa using rv) hw
noncomputable def Ov(to ti:TE)(t:V3):TG:=fun v U H Q=>to U H fun o H1=>ti U H1 fun i H2=>t o i v H2 fun H3=>Q U H3
def Tv(ho:PE X o to)(hi:PE X i ti)(hs:Fn X t)
  (ha:∀v,assign (.Subscript o i pos) X.env v=(do
   let ov <-holding [v] (eval o X.env)
   let iv <-holding [v,ov] (eval i X.env)
   standAt pos
   holding [v,ov,iv] (setItem ov iv v)
   release [v,ov,iv] [])):PG X (.Subscript o i pos) (Ov to ti t):=by
 intro pins s U H v u Q I r h
 rw[ha]
 refine χ (CN (thn (ho pins s U H _ I h) fun ov s1 ⟨x,H1,I1,r1,q1⟩=>?_))
 refine χ (CN (thn (hi pins s1 U H1 _ I1 q1) fun iv s2 ⟨y,H2,I2,r2,q2⟩=>?_))
 refine χ (wpAny_standAt (χ (CN (thn (hs pins s2 U H2 x y v ov iv u _ I2 r1 r2 r q2) fun _ s3 ⟨H3,I3,q3⟩=>?_))))
 exact wpAny_release ⟨U,H3,I3,q3⟩
noncomputable def G9(te:TE)(g:TG):TS:=fun D U H=>te U H fun x H1=>g x U H1 D.nx
def Jg(he:PE X e te)(hg:PG X tg g)(hs:swapsWithSole [tg] e pos.line X.env=pure false)(hw:swappedStores [tg] e X.env=pure none)
  (h1:(assignEach [tg] X.env).map (·.2)=[assign tg X.env]):PS X (.Assign [tg] e pos) (G9 te g):=by
 intro pins s U H D I h
 refine wpAny_Assign_stores (thn (he pins s U H _ I h) fun v s1 ⟨x,H1,I1,r1,q1⟩=>?_) hs hw
 rw[h1]
 exact thn (hg pins s1 U H1 x v _ I1 r1 q1) fun _ s2 q=>q
def vK(hN:X.N.Nodup)(hi:X.N[i]?=some x)(hx:Loc X.env.scope x)(he:PE X e te)(hs:swapsWith e (some (.Name x dH)) pos.line X.env=pure false)(hf:X.fn x=true\/X.env.scope.names.lookup x=some .local) :
  PS X (.Assign [.Name x dH] e pos) (G9 te (y8 i)):=by
 intro pins s U H D I h
 refine wpAny_Assign_Name (thn (he pins s U H _ I h) fun v s1 ⟨y,H1,I1,r1,q1⟩=>?_) hs
 exact Lu I1 hN hi hx r1 (fun s2 I2=>⟨_,H1,I2,q1⟩) hf
end
section
variable {X:Cx}{pos:Pos}
noncomputable def Tu(c:TT)(tb:TS):TS:=fun D U H=>∃W:Nat->St->Hp->Prop,(∃m,W m U H)/\∀m U H,W m U H ->
 c U H fun b H1=>if b=true then ∃N:St->Hp->Prop,(∀af H',N af H'->∃m',m'<m/\W m' af H')/\tb { D with nx:=N,ct:=N,bk:=D.nx } U H1 else D.nx U H1
def zf(hp:PassesOwn (model X.prog X.w) X.A X.env X.xe)(hc:PT X c tc)(hb:PSs X body tb):PS X (.While c body [] pos) (Tu tc tb):=by
 intro pins s U H D I h;obtain⟨W,⟨m0,w0⟩,turn⟩:=h;refine wpAny_While (codeAny_whileLoop (fun n s'=>∃af H',Inv X pins af H' s'/\W n af H') ?_ m0 ⟨U,H,I,w0⟩);rintro n s1 ⟨ft,H1,I1,w1⟩;refine EV hp (thn (hc pins s1 ft H1 _ I1 (turn n ft H1 w1)) fun b s2 ⟨H2,I2,q2⟩=>?_);cases b with
 |true=>
  obtain⟨N,hN,q2⟩:=q2
  rw[ξ rfl]
  refine EV hp (thn (hb pins s2 ft H2 _ I2 q2) fun f s3 q3=>?_)
  cases f with
  |next=>
   obtain⟨cH,H3,I3,n3⟩:=q3
   obtain⟨m',hm,w3⟩:=hN cH H3 n3
   exact⟨m',hm,cH,H3,I3,w3⟩
  |cont=>
   obtain⟨cH,H3,I3,n3⟩:=q3
   obtain⟨m',hm,w3⟩:=hN cH H3 n3
   exact⟨m',hm,cH,H3,I3,w3⟩
  |brk=>exact q3
  |ret v=>exact q3
 |false=>
  rw[ψ η]
  exact FQ ⟨ft,H2,I2,q2⟩
end
structure It where
 go:Nat->Hp->Prop
 yld:Nat->Hp->V->Hp->Prop
 stop:Nat->Hp->Prop
def t9(X:Cx)(pins:List (Addr×Obj))(H:Hp)(b:Addr):Prop:=
 H b=none/\b≠X.env.locals/\b∉X.fs/\(b∈X.ex\/X.s₀.heap.objs.size<=b)/\(∀x c,X.env.cells.lookup x=some c->c≠b)/\∀p∈X.pn++pins,p.1≠b
def Inv.fpOk(I:Inv X pins U H s)(hb:s.heap.objs.size<=b)(hn:H' b=none):t9 X pins H' b:=by
 refine⟨hn,Nat.ne_of_gt (AY I.lt hb),I.nofs hb,.inr (sg I.sz hb),fun x c e z=>?_,fun p hp z=>?_⟩
 . obtain⟨v,q⟩:=I.cell x c e;exact absurd (AY q.lt (by rw[z];exact hb)) (DH _)
 . exact absurd (AY (Φ (I.pin p hp).1) (by rw[z];exact hb)) (DH _)
structure Turn(P:Program)(w:World)(K:Frag)(tg:Expr)(J:It)(fp:List Addr)(it:Addr)(tn:Nat->Heap->Prop):Prop where
 mem:it∈fp
 obj:∀i h,tn i h->∀b∈fp,∃o,h.get? b=some o/\∀v,o.data≠.cell v
 keep:∀i h h',tn i h->(∀b∈fp,∀o,h.get? b=some o->h'.get? b=some o)->tn i h'
 item:∀(X:Cx),X.prog=P->X.w=w->X.K=K->X.calm=true->∀(i:Nat)(pins:List (Addr×Obj))(s:Shared)(U:St)(H:Hp)(E:Value->Shared->Prop),Inv X pins U H s->(∀b∈fp,t9 X pins H b)->tn i s.heap->J.go i H ->
  wpAny (model P w) X.A (pyNext (.ref it)) (fun r s1=>∃u,r=some u /\
   wpAny (model P w) X.A (letOwnedTupleGo tg (.ref it) u) (fun _ s2=>∃x H',Inv X pins U H' s2/\RelV x u/\J.yld i H x H'/\tn (i+1) s2.heap/\∀b∈fp,H' b=none) E s1) E s
 done:∀(X:Cx),X.prog=P->X.w=w->X.K=K->X.calm=true->∀(i:Nat)(pins:List (Addr×Obj))(s:Shared)(U:St)(H:Hp)(E:Value->Shared->Prop),Inv X pins U H s->(∀b∈fp,t9 X pins H b)->tn i s.heap->J.stop i H ->
  wpAny (model P w) X.A (pyNext (.ref it)) (fun r s1=>r=none/\Inv X pins U H s1) E s
 self:∀(A:Around)(i:Nat)(s:Shared)(Q:Value->Shared->Prop)(E:Value->Shared->Prop),tn i s.heap->Q (.ref it) s->wpAny (model P w) A (pyIter (.ref it)) Q E s
abbrev TI:=St->Hp->(It->Hp->Prop)->Prop
def PIE(X:Cx)(pins:List (Addr×Obj))(U:St)(tg:Expr)(R:It->Hp->Prop)(fu:Value)(s2:Shared):Prop:=
 ∃(it:Addr)(fp:List Addr)(tn:Nat->Heap->Prop)(J:It)(H':Hp),fu=.ref it/\Inv X pins U H' s2/\Turn X.prog X.w X.K tg J fp it tn/\tn 0 s2.heap/\(∀b∈fp,t9 X pins H' b)/\R J H'
def PI(X:Cx)(tg iter:Expr)(wi:TI):Prop:=
 ∀(pins:List (Addr×Obj))(s:Shared)(U:St)(H:Hp)(R:It->Hp->Prop),Inv X pins U H s->wi U H R ->
  wpAny (model X.prog X.w) X.A (eval iter X.env) (fun v s1=>wpAny (model X.prog X.w) X.A (pyIter v) (PIE X pins U tg R) X.xe s1) X.xe s
def Hd(ho:s.heap.get? it=some o)(hc:o.cls=.type n)(hd:o.data=.fields vs)
  (hn:["enumerate","zip","dict_itemiterator","dict_reverseitemiterator","odict_iterator","itertools.zip_longest","itertools.pairwise"].contains n=false) (hQ:Q () s):wpAny M A (letOwnedTupleGo tg (.ref it) u) Q E s:=by
 unfold letOwnedTupleGo
 cases tg<;>first
  |exact ω hQ
  | (cases u<;>first
   |exact ω hQ
   | (refine χ (wpAny_load ho ?_)
      rw[hc,hd]
      show wpAny M A (if(["enumerate","zip","dict_itemiterator","dict_reverseitemiterator","odict_iterator","itertools.zip_longest","itertools.pairwise"].contains n&&vs[0]?==some (rawInt _))=true then _ else _) Q E s
      rw[ψ (by intro h;rw[hn,Bool.false_and]at h;cases h)]
      exact ω hQ))
noncomputable def Itl(K:Frag)(a:Addr):It:=
 ⟨fun i H=>∃xs x,SqL K H a xs/\xs[i]?=some x,fun i H x H'=>H'=H/\∀xs,SqL K H a xs->xs[i]?=some x,fun i H=>∃xs,SqL K H a xs/\xs.length<=i⟩
noncomputable def Itt(K:Frag)(a:Addr):It:=
 ⟨fun i H=>∃xs x,SqT K H a xs/\xs[i]?=some x,fun i H x H'=>H'=H/\∀xs,SqT K H a xs->xs[i]?=some x,fun i H=>∃xs,SqT K H a xs/\xs.length<=i⟩
noncomputable def Itr(lo:Int)(n:Nat):It:=⟨fun i _=>i<n,fun i H x H'=>H'=H/\x=.int (lo+i),fun i _=>n<=i⟩
def zi8{P:Program}{w:World}{K:Frag}{tg:Expr}(a it:Addr):Turn P w K tg (Itl K a) [it] it (fun i h=>h.IsListIter it a i) where
 mem:=by simp
 obj:=fun i h st b hb=>by
  have e:b=it:=by simpa using hb
  subst e;obtain⟨o,e,c,d⟩:=st;exact⟨o,e,fun v z=>by rw[d]at z;cases z⟩
 keep:=fun i h h' st k=>st.at fun o e=>k it (by simp) o e
 item:=by
  intro X hP hw hK hc i pins s U H E I hf st hg;subst hP hw hK;obtain⟨xs,x,hq,hx⟩:=hg;obtain⟨its,rv,p,hz⟩:=I.list hq;obtain⟨u,hu,ru⟩:=rv.get hx;obtain⟨f0,f1,f2,f3,f4,f5⟩:=hf it (by simp);refine wpAny_pyNext_list_item st p.isList (x:=u) (by simpa using hu) fun h' st' sb=>?_
  have I1:Inv X pins U H { s with heap:=h' }:=I.turned (t':=s.toks) (fun b o hb e=>(sb.2 b hb).trans e) f0 f1 f3 f4 f5;obtain⟨o,e,c,d⟩:=id st';exact⟨u,rfl,Hd (s:={ s with heap:=h' }) e c d (by decide) ⟨x,H,I1,ru,⟨rfl,fun ys hy=>by rw[I.list_inj hy hq];exact hx⟩,st',fun b hb=>(hf b hb).1⟩⟩
 done:=by intro X hP hw hK hc i pins s U H E I hf st hg;subst hP hw hK;obtain⟨xs,hq,hx⟩:=hg;obtain⟨its,rv,p,hz⟩:=I.list hq;obtain⟨f0,f1,f2,f3,f4,f5⟩:=hf it (by simp);have hl:=rv.length;exact wpAny_pyNext_list_end (I.ok.hd hc) st p.isList (by simp;lia) fun h' eb=>⟨rfl,I.turned (t':=s.toks) (fun b o hb e=>eb b o hb e) f0 f1 f3 f4 f5⟩
 self:=fun _ _ _ _ _ st h=>wpAny_pyIter_listiter st h
def zgo{P:Program}{w:World}{K:Frag}{tg:Expr}(a it:Addr):Turn P w K tg (Itt K a) [it] it (fun i h=>h.IsTupleIter it a i) where
 mem:=by simp
 obj:=fun i h st b hb=>by
  have e:b=it:=by simpa using hb
  subst e;obtain⟨o,e,c,d⟩:=st;exact⟨o,e,fun v z=>by rw[d]at z;cases z⟩
 keep:=fun i h h' st k=>st.at fun o e=>k it (by simp) o e
 item:=by
  intro X hP hw hK hc i pins s U H E I hf st hg;subst hP hw hK;obtain⟨xs,x,hq,hx⟩:=hg;obtain⟨its,rv,p,hz⟩:=I.tuple hq;obtain⟨u,hu,ru⟩:=rv.get hx;obtain⟨f0,f1,f2,f3,f4,f5⟩:=hf it (by simp);refine wpAny_pyNext_tuple_item st (show s.heap.IsTuple a its.toArray from p) (x:=u) (by simpa using hu) fun h' st' sb=>?_
  have I1:Inv X pins U H { s with heap:=h' }:=I.turned (t':=s.toks) (fun b o hb e=>(sb.2 b hb).trans e) f0 f1 f3 f4 f5;obtain⟨o,e,c,d⟩:=id st';exact⟨u,rfl,Hd (s:={ s with heap:=h' }) e c d (by decide) ⟨x,H,I1,ru,⟨rfl,fun ys hy=>by rw[I.tuple_inj hy hq];exact hx⟩,st',fun b hb=>(hf b hb).1⟩⟩
 done:=by intro X hP hw hK hc i pins s U H E I hf st hg;subst hP hw hK;obtain⟨xs,hq,hx⟩:=hg;obtain⟨its,rv,p,hz⟩:=I.tuple hq;obtain⟨f0,f1,f2,f3,f4,f5⟩:=hf it (by simp);have hl:=rv.length;exact wpAny_pyNext_tuple_end (I.ok.hd hc) st (show s.heap.IsTuple a its.toArray from p) (by simp;lia) fun h' eb=>⟨rfl,I.turned (t':=s.toks) (fun b o hb e=>eb b o hb e) f0 f1 f3 f4 f5⟩
 self:=fun _ _ _ _ _ st h=>wpAny_pyIter_tupleiter st h
def zgp{P:Program}{w:World}{K:Frag}{tg:Expr}(it:Addr)(lo:Int)(n:Nat):Turn P w K tg (Itr lo n) [it] it (fun i h=>IsRangeIter h it (lo+(i:Nat) * 1) ((n:Int) - (i:Nat)) 1) where
 mem:=by simp
 obj:=fun i h st b hb=>by
  have e:b=it:=by simpa using hb
  subst e;exact⟨_,st,fun v z=>by have z':Data.fields _=Data.cell v:=z;cases z'⟩
 keep:=fun i h h' st k=>k it (by simp) _ st
 item:=by
  intro X hP hw hK hc i pins s U H E I hf st hg;subst hP hw hK;obtain⟨f0,f1,f2,f3,f4,f5⟩:=hf it (by simp);have W:=Walks.range (prog:=X.prog) (w:=X.w) (I.ok.hd hc) it lo 1 n;refine W.item i s _ _ hg st fun v h' tk hv st' kk=>?_
  obtain⟨t,rfl⟩:=hv;have I1:Inv X pins U H { s with heap:=h',toks:=tk }:=I.turned (fun b o hb e=>kk b o (by simpa using hb) e) f0 f1 f3 f4 f5;refine⟨_,rfl,Hd (s:={ s with heap:=h',toks:=tk }) (n:="range_iterator") st' rfl rfl (by decide) ⟨.int (lo+i),H,I1,⟨t,?_⟩,⟨rfl,rfl⟩,st',fun b hb=>(hf b hb).1⟩⟩;rw[Int.mul_one]
 done:=by intro X hP hw hK hc i pins s U H E I hf st hg;subst hP hw hK;obtain⟨f0,f1,f2,f3,f4,f5⟩:=hf it (by simp);exact wpAny_pyNext_range_end (I.ok.hd hc) st (by have:n<=i:=hg;lia) fun h' eb=>⟨rfl,I.turned (t':=s.toks) (fun b o hb e=>eb b o hb e) f0 f1 f3 f4 f5⟩
 self:=fun _ _ _ _ _ st h=>wpAny_pyIter_rangeiter st h
section
variable {X:Cx}{tg:Expr}
def Xf{pins:List (Addr×Obj)}{U:St}{H:Hp}{s:Shared}{R:It->Hp->Prop}{E:Value->Shared->Prop}{lo hi:Int}{t u v:Tok}{tk:Nat}(I:Inv X pins U H s)(h1:-(2 ^ 62)<=lo)(h2:lo<2 ^ 62)(h3:-(2 ^ 62)<=hi)(h4:hi<2 ^ 62)
  (q:R (Itr lo (hi - lo).toNat) H):wpAny (model X.prog X.w) X.A (pyIter (.ref s.heap.objs.size)) (PIE X pins U tg R) E { s with heap:=s.heap.push { cls:=.type "range",data:=.fields #[.int lo t,.int hi u,.int 1 v] },toks:=tk }:=by
 refine wpAny_pyIter_range (IsRange.new ..) (small_one h1 h2 h3 h4) ?_
 have I1:Inv X pins U H { s with heap:=s.heap.push { cls:=.type "range",data:=.fields #[.int lo t,.int hi u,.int 1 v] },toks:=tk }:=I.kept fun b o e=>Ψ _ e
 refine⟨(s.heap.push { cls:=.type "range",data:=.fields #[.int lo t,.int hi u,.int 1 v] }).objs.size,[(s.heap.push { cls:=.type "range",data:=.fields #[.int lo t,.int hi u,.int 1 v] }).objs.size],_,_,H,rfl,
  I1.kept (t':=tk) fun b o e=>Ψ _ e,zgp _ lo (hi - lo).toNat,?_,fun b hb=>?_,q⟩
 . have e1:lo+((0:Nat):Int) * 1=lo:=by simp
   have e2:(((hi - lo).toNat:Nat):Int) - ((0:Nat):Int)=Builtin.Range.rangeSize lo hi 1:=by rw[rangeSize_one];split<;>lia
   show IsRangeIter _ _ (lo+((0:Nat):Int) * 1) ((((hi - lo).toNat:Nat):Int) - ((0:Nat):Int)) 1;rw[e1,e2];exact Ξ _ rfl
 . have e:b=(s.heap.push { cls:=.type "range",data:=.fields #[.int lo t,.int hi u,.int 1 v] }).objs.size:=by simpa using hb
   subst e;exact I1.fpOk (ζ _) (I1.hok.fresh (ζ _))
noncomputable def y4v(wi:TI)(g:TG)(tb:TS):TS:=fun D U H=>wi U H fun J H1=>∃W:Nat->Nat->St->Hp->Prop,(∃m,W 0 m U H1)/\∀i m U H,W i m U H ->
 (J.stop i H/\D.nx U H)\/(J.go i H/\∃N:St->Hp->Prop,(∀af H',N af H'->∃m',m'<m/\W (i+1) m' af H')/\∀x H',J.yld i H x H'->g x U H' fun bv H2=>tb { D with nx:=N,ct:=N,bk:=D.nx } bv H2)
noncomputable def Av(fp:List Addr)(h:Heap):List (Addr×Obj):=fp.filterMap fun b=>(h.get? b).map fun o=>(b,o)
def En(hb:b∈fp)(e:h.get? b=some o):(b,o)∈Av fp h:=DW.mpr ⟨b,hb,by rw[e];rfl⟩
def zi9(hp:p∈Av fp h):p.1∈fp/\h.get? p.1=some p.2:=by
 obtain⟨b,hb,e⟩:=DW.mp hp;cases q:h.get? b with
 |none=>rw[q]at e;cases e
 |some o=>
  rw[q]at e
  have e':(b,o)=p:=Option.some.inj e
  subst e'
  exact⟨hb,q⟩
def Inv.pinned(I:Inv X pins U H s)(hf:∀b∈fp,t9 X pins H b)(ho:∀b∈fp,∃o,s.heap.get? b=some o/\∀v,o.data≠.cell v):Inv X (pins++Av fp s.heap) U H s:=
 I.pins_of fun p hp=>(AQ.mp hp).elim (fun z=>I.pin p (BE _ z)) fun z=>by obtain⟨hb,e⟩:=zi9 z;obtain⟨f0,f1,f2,_⟩:=hf p.1 hb;obtain⟨o,e',d⟩:=ho p.1 hb;rw[e]at e';cases e';exact⟨e,f0,f1,f2,d⟩
def Inv.unpinned(I:Inv X (pins++pl) U H s):Inv X pins U H s:=I.pins_of fun p hp=>I.pin p (BE _ (EC _ hp))
def vJ(hp:PassesOwn (model X.prog X.w) X.A X.env X.xe)(hc:X.calm=true)(hi:PI X tg iter wi)(hg:PG X tg g)(hb:PSs X body tb)
  (hs:∀x,foldedSetIterable iter X.env x=pure x):PS X (.For tg iter body [] pos) (y4v wi g tb):=by
 intro pins s U H D I h
 refine wpAny_For (thn (hi pins s U H _ I h) fun v s1 h1=>thn h1 fun fu s2 h2=>?_) hs
 obtain⟨it,fp,tn,J,H2,e,I2,T,st2,f2,W,⟨m0,w0⟩,turn⟩:=h2
 subst e
 have cG:∀{H':Hp},(∀b∈fp,H' b=none)->∀b∈fp,t9 X pins H' b:=fun hn b hb=>⟨hn b hb,(f2 b hb).2⟩
 refine codeAny_forLoop_any (fun n s'=>∃i af H',Inv X pins af H' s'/\tn i s'.heap/\(∀b∈fp,H' b=none)/\W i n af H') ?_ m0 ⟨0,U,H2,I2,st2,fun b hb=>(f2 b hb).1,w0⟩
 rintro n s3 ⟨i,cH,H3,I3,cP,fr3,w3⟩
 rcases turn i n cH H3 w3 with⟨stop,qn⟩ |⟨go,N,hN,step⟩
 . refine EV hp (thn (T.done X rfl rfl rfl hc i pins s3 cH H3 X.xe I3 (cG fr3) cP stop) fun r s4 ⟨hr,I4⟩=>?_);subst hr;exact FQ ⟨cH,H3,I4,qn⟩
 . refine EV hp (thn (T.item X rfl rfl rfl hc i pins s3 cH H3 X.xe I3 (cG fr3) cP go) fun r s4 ⟨u,hr,h4⟩=>?_);subst hr;refine EV hp (thn h4 fun _ s5 ⟨x,H5,I5,r5,y5,fw,hV⟩=>?_);have pF:=I5.pinned (cG hV) (T.obj _ _ fw);refine EV hp (thn (hg _ s5 cH H5 x u _ pF r5 (step x H5 y5)) fun _ s6 ⟨pG,H6,I6,q6⟩=>?_);refine EV hp (thn (hb _ s6 pG H6 _ I6 q6) fun f s7 q7=>?_);have again:∀{cJ:St}{H7:Hp},Inv X (pins++Av fp s5.heap) cJ H7 s7->N cJ H7->∃m,m<n/\∃i af H',Inv X pins af H' s7/\tn i s7.heap/\(∀b∈fp,H' b=none)/\W i m af H':=fun {cJ H7} I7 n7=>by obtain⟨m',hm,w7⟩:=hN cJ H7 n7;refine⟨m',hm,i+1,cJ,H7,I7.unpinned,T.keep _ _ _ fw fun b hb o e=>(I7.pin (b,o) (BE _ (BE _ (En hb e)))).1,fun b hb=>?_,w7⟩;obtain⟨o,e,d⟩:=T.obj _ _ fw b hb;exact(I7.pin (b,o) (BE _ (BE _ (En hb e)))).2.1
   cases f with
   |next=>obtain⟨cJ,H7,I7,n7⟩:=q7;exact again I7 n7
   |cont=>obtain⟨cJ,H7,I7,n7⟩:=q7;exact again I7 n7
   |brk=>obtain⟨cJ,H7,I7,q7⟩:=q7;exact⟨cJ,H7,I7.unpinned,q7⟩
   |ret v=>obtain⟨x7,cJ,H7,I7,r7,q7⟩:=q7;exact⟨x7,cJ,H7,I7.unpinned,r7,q7⟩
end
abbrev R2:=V->V->Hp->VK->Prop
def OpR(X:Cx)(f:Value->Value->Sem Value)(r:R2):Prop:=
 ∀(pins:List (Addr×Obj))(s:Shared)(U:St)(H:Hp)(x y:V)(v u:Value)(Q:VK),Inv X pins U H s->RelV x v->RelV y u->r x y H Q ->
  wpAny (model X.prog X.w) X.A (f v u) (EP X pins U Q) X.xe s
def UnR(X:Cx)(f:Value->Sem Value)(r:V->Hp->VK->Prop):Prop:=
 ∀(pins:List (Addr×Obj))(s:Shared)(U:St)(H:Hp)(x:V)(v:Value)(Q:VK),Inv X pins U H s->RelV x v->r x H Q ->
  wpAny (model X.prog X.w) X.A (f v) (EP X pins U Q) X.xe s
def CallR(X:Cx)(f:Value)(r:List V->Hp->VK->Prop):Prop:=
 ∀(pins:List (Addr×Obj))(s:Shared)(U:St)(H:Hp)(xs:List V)(us:List Value)(Q:VK),Inv X pins U H s->Vals xs us->r xs H Q ->
  wpAny (model X.prog X.w) X.A (call f us) (EP X pins U Q) X.xe s
def y4w(X:Cx)(r:V->Hp->(Bool->Hp->Prop)->Prop):Prop:=
 ∀(pins:List (Addr×Obj))(s:Shared)(U:St)(H:Hp)(x:V)(v:Value)(Q:Bool->Hp->Prop),Inv X pins U H s->RelV x v->r x H Q ->
  wpAny (model X.prog X.w) X.A (truthy v) (TP X pins U Q) X.xe s
noncomputable def tOp(r:R2)(ta tb:TE):TE:=fun U H Q=>ta U H fun x H1=>tb U H1 fun y H2=>r x y H2 Q
noncomputable def tUn(r:V->Hp->VK->Prop)(ta:TE):TE:=fun U H Q=>ta U H fun x H1=>r x H1 Q
noncomputable def rI(C:Int->Int->Prop)(g:Int->Int->V):R2:=fun x y H Q=>∃i j,x=.int i/\y=.int j/\C i j/\Q (g i j) H
noncomputable def rI0(g:Int->Int->V):R2:=fun x y H Q=>∃i j,x=.int i/\y=.int j/\Q (g i j) H
def rU(g:Int->V):V->Hp->VK->Prop:=fun x H Q=>∃i,x=.int i/\Q (g i) H
section
variable {X:Cx}{a b:Expr}{ta tb:TE}{pos:Pos}
def Ou(ha:PE X a ta)(hb:PE X b tb){pins:List (Addr×Obj)}{s:Shared}{U:St}{H:Hp}{R:V->V->Hp->Prop}(I:Inv X pins U H s)
  (h:ta U H fun x H1=>tb U H1 fun y H2=>R x y H2) {Q:Value->Shared->Prop} {f:Value->Value->Sem Value}
  (hf:∀v u s2 x y H2,Inv X pins U H2 s2->RelV x v->RelV y u->R x y H2->wpAny (model X.prog X.w) X.A (f v u) Q X.xe s2) :
  wpAny (model X.prog X.w) X.A (eval a X.env) (fun v ae=>wpAny (model X.prog X.w) X.A (eval b X.env) (fun u ba=>wpAny (model X.prog X.w) X.A (f v u) Q X.xe ba) X.xe ae) X.xe s:=by
 refine thn (ha pins s U H _ I h) fun v s1 ⟨x,H1,I1,r1,q1⟩=>?_
 refine thn (hb pins s1 U H1 _ I1 q1) fun u s2 ⟨y,H2,I2,r2,q2⟩=>?_
 exact hf v u s2 x y H2 I2 r1 r2 q2
def y0n(ho:OpR X (binaryOp op) r)(ha:PE X a ta)(hb:PE X b tb):PE X (.BinOp a op b pos) (tOp r ta tb):=by intro pins s U H Q I h;exact wpAny_BinOp (Ou ha hb I h fun v u s2 x y H2 I2 rx ry q=>ho pins s2 U H2 x y v u Q I2 rx ry q)
def y0o(ho:UnR X (unaryOp op) r)(ha:PE X a ta):PE X (.UnaryOp op a pos) (tUn r ta):=by intro pins s U H Q I h;exact UnaryOp_ (thn (ha pins s U H _ I h) fun v s1 ⟨x,H1,I1,r1,q1⟩=>ho pins s1 U H1 x v Q I1 r1 q1)
def opI{f:Value->Value->Sem Value}{C:Int->Int->Prop}{g:Int->Int->Int}
  (rule:∀(i j:Int)(t u:Tok)(s:Shared)(Q:Value->Shared->Prop)(E:Value->Shared->Prop),C i j->Q (.int (g i j) s.toks) { s with toks:=s.toks+1 }->wpAny (model X.prog X.w) X.A (f (.int i t) (.int j u)) Q E s) :
  OpR X f (rI C fun i j=>.int (g i j)):=by
 intro pins s U H x y v u Q I rx ry h
 obtain⟨i,j,rfl,rfl,hc,q⟩:=h
 obtain⟨t,rfl⟩:=rx
 obtain⟨t',rfl⟩:=ry
 exact rule i j t t' s _ _ hc ⟨.int (g i j),H,I.tok _,⟨_,rfl⟩,q⟩
def ko{f:Value->Value->Sem Value}{g:Int->Int->Int}
  (rule:∀(i j:Int)(t u:Tok)(s:Shared)(Q:Value->Shared->Prop)(E:Value->Shared->Prop),Q (.int (g i j) s.toks) { s with toks:=s.toks+1 }->wpAny (model X.prog X.w) X.A (f (.int i t) (.int j u)) Q E s) :
  OpR X f (rI0 fun i j=>.int (g i j)):=by
 intro pins s U H x y v u Q I rx ry h
 obtain⟨i,j,rfl,rfl,q⟩:=h
 obtain⟨t,rfl⟩:=rx
 obtain⟨t',rfl⟩:=ry
 exact rule i j t t' s _ _ ⟨.int (g i j),H,I.tok _,⟨_,rfl⟩,q⟩
def Fm{f:Value->Value->Sem Value}{g:Int->Int->Bool}
  (rule:∀(i j:Int)(t u:Tok)(s:Shared)(Q:Value->Shared->Prop)(E:Value->Shared->Prop),Q (.bool (g i j)) s->wpAny (model X.prog X.w) X.A (f (.int i t) (.int j u)) Q E s) :
  OpR X f (rI0 fun i j=>.bl (g i j)):=by
 intro pins s U H x y v u Q I rx ry h
 obtain⟨i,j,rfl,rfl,q⟩:=h
 obtain⟨t,rfl⟩:=rx
 obtain⟨t',rfl⟩:=ry
 exact rule i j t t' s _ _ ⟨.bl (g i j),H,I,rfl,q⟩
def Q9(i j:Int):Prop:=0<j/\j<1073741824
def CMul(i j:Int):Prop:=(-(2 ^ 64)<i/\i<2 ^ 64)\/(-(2 ^ 64)<j/\j<2 ^ 64)
def CMul.ok(h:CMul i j):IntMulOk i j:=by
 rcases h with⟨h1,h2⟩ |⟨h1,h2⟩
 . exact .of_left (intBits_le_64 h1 h2)
 . exact .of_right (intBits_le_64 h1 h2)
def op_add:OpR X (binaryOp .Add) (rI0 fun i j=>.int (i+j)):=ko fun _ _ _ _ _ _ _ q=>add_int q
def op_sub:OpR X (binaryOp .Sub) (rI0 fun i j=>.int (i - j)):=ko fun _ _ _ _ _ _ _ q=>sub_int q
def op_mul:OpR X (binaryOp .Mult) (rI CMul fun i j=>.int (i * j)):=opI fun _ _ _ _ _ _ _ hc q=>mul_int q hc.ok
def op_fdiv:OpR X (binaryOp .FloorDiv) (rI Q9 fun i j=>.int (i / j)):=opI fun i j _ _ _ _ _ hc q=>by have h1:(0:Int)<j:=hc.1;have h2:j<1073741824:=hc.2;exact floordiv_int (by omega) (by rw[Int.fdiv_eq_ediv_of_nonneg i (by omega)];exact q) (.inl (PyProof.noPylong_small (by omega)))
def op_mod:OpR X (binaryOp .Mod) (rI (fun _ j=>0<j) fun i j=>.int (i % j)):=opI fun i j _ _ _ _ _ hc q=>by have h1:(0:Int)<j:=hc;exact mod_int' (by lia) (by rw[Int.fmod_eq_emod_of_nonneg i (by lia)];exact q)
def unI{f:Value->Sem Value}{g:Int->Int}
  (rule:∀(i:Int)(t:Tok)(s:Shared)(Q:Value->Shared->Prop)(E:Value->Shared->Prop),Q (.int (g i) s.toks) { s with toks:=s.toks+1 }->wpAny (model X.prog X.w) X.A (f (.int i t)) Q E s) :
  UnR X f (rU fun i=>.int (g i)):=by
 intro pins s U H x v Q I rx h
 obtain⟨i,rfl,q⟩:=h
 obtain⟨t,rfl⟩:=rx
 exact rule i t s _ _ ⟨.int (g i),H,I.tok _,⟨_,rfl⟩,q⟩
def un_neg:UnR X (unaryOp .USub) (rU fun i=>.int (-i)):=unI fun _ _ _ _ _ q=>neg_int q
end
section
variable {X:Cx}{a b:Expr}{ta tb:TE}{pos:Pos}
def op_lt:OpR X (compareOp .Lt) (rI0 fun i j=>.bl (decide (i<j))):=Fm fun _ _ _ _ _ _ _ q=>lt_int q
def op_le:OpR X (compareOp .LtE) (rI0 fun i j=>.bl (decide (i<=j))):=Fm fun _ _ _ _ _ _ _ q=>le_int q
def op_gt:OpR X (compareOp .Gt) (rI0 fun i j=>.bl (decide (j<i))):=Fm fun _ _ _ _ _ _ _ q=>gt_int q
def op_ge:OpR X (compareOp .GtE) (rI0 fun i j=>.bl (decide (j<=i))):=Fm fun _ _ _ _ _ _ _ q=>ge_int q
def OpR.or(h:OpR X f r)(h':OpR X f r'):OpR X f (fun x y H Q=>r x y H Q\/r' x y H Q):=by
 intro pins s U H x y v u Q I rx ry q;rcases q with q |q
 . exact h pins s U H x y v u Q I rx ry q
 . exact h' pins s U H x y v u Q I rx ry q
def h8(b:Expr)(h:op≠.In:=by decide)(h2:op≠.NotIn:=by decide):behindInMarks op b=false:=by
 have e1:(op==CmpOp.In)=false:=by cases op<;>first |rfl |exact absurd rfl h
 have e2:(op==CmpOp.NotIn)=false:=by cases op<;>first |rfl |exact absurd rfl h2
 cases b<;>simp[behindInMarks,e1,e2]
def xR(ho:OpR X (compareOp op) r)(ha:PE X a ta)(hb:PE X b tb)(hm:behindInMarks op b=false):PE X (.Compare a [op] [b] pos) (tOp r ta tb):=by intro pins s U H Q I h;exact wpAny_Compare1 (Ou ha hb I h fun v u s2 x y H2 I2 rx ry q=>ho pins s2 U H2 x y v u Q I2 rx ry q) hm
def km(K:Frag)(x:V)(H:Hp)(k:Bool):Prop:=
 match x with
 | .non=>k=false
 | .bl b=>k=b
 | .int i=>k=(i != 0)
 | .str y=>y.length<=sizeLine/\k=((y.length:Int) != 0)
 | .byt y=>y.size<=sizeLine/\k=((y.size:Int) != 0)
 | .ref p=>(∃xs,SqL K H p xs/\k=!xs.isEmpty)\/(∃xs,SqT K H p xs/\k=!xs.isEmpty)\/∃kvs,H p=some (.dK kvs)/\k=!kvs.isEmpty
 |_=>False
def zgq(r:KV kvs vs):(!vs.isEmpty)=!kvs.isEmpty:=by cases r<;>rfl
def Zc(r:Vals xs its):(!its.toArray.isEmpty)=!xs.isEmpty:=by cases r<;>simp
def S3:(sizeLine:Nat)<2 ^ 63:=by rw[GF];decide
def Tt:y4w X (fun x H Q=>∃k,km X.K x H k/\Q k H):=by
 intro pins s U H x v Q I rx h;obtain⟨k,e,q⟩:=h;have hl:=S3;have hs:sizeLine=16777216:=GF;cases x with
 |non=>
  cases rx
  have e':k=false:=e
  subst e'
  exact truthy_none ⟨H,I,q⟩
 |bl b=>
  cases rx
  have e':k=b:=e
  subst e'
  exact EF ⟨H,I,q⟩
 |int i=>
  obtain⟨t,rfl⟩:=rx
  have e':k=(i != 0):=e
  subst e'
  exact PySem.P.truthy_int ⟨H,I,q⟩
 |str y=>
  obtain⟨t,rfl⟩:=rx
  obtain⟨hy,e'⟩:y.length<=sizeLine/\k=((y.length:Int) != 0):=e
  subst e'
  exact PySem.P.truthy_str (by lia) ⟨H,I.tok _,q⟩
 |byt y=>
  obtain⟨t,rfl⟩:=rx
  obtain⟨hy,e'⟩:y.size<=sizeLine/\k=((y.size:Int) != 0):=e
  subst e'
  exact PySem.W.truthy_bytes (by lia) ⟨H,I.tok _,q⟩
 |ref p=>
  cases rx
  have e':(∃xs,SqL X.K H p xs/\k=!xs.isEmpty)\/(∃xs,SqT X.K H p xs/\k=!xs.isEmpty)\/∃kvs,H p=some (.dK kvs)/\k=!kvs.isEmpty:=e
  rcases e' with⟨xs,hx,e'⟩ |⟨xs,hx,e'⟩ |⟨kvs,hx,e'⟩
  . subst e';obtain⟨its,r,pl,hz⟩:=I.list hx;have ag:=r.length;exact wpAny_truthy_list pl.isList (by simp only[mK];lia) ⟨H,I.tok _,by rw[Zc r];exact q⟩
  . subst e';obtain⟨its,r,pl,hz⟩:=I.tuple hx;have ag:=r.length;exact truthy_tuple pl (by simp only[mK];lia) ⟨H,I.tok _,by rw[Zc r];exact q⟩
  . subst e';obtain⟨hz,hS,vs,r,m⟩:kvs.length<=sizeLine/\(p==sysModules)=false/\∃vs,KV kvs vs/\s.heap.DictOf (z9 X.prog X.w) p vs:=I.hok p _ hx;have ag:kvs.length=vs.length:=Paired.length r;exact wpAny_truthy_dict hS m (by lia) ⟨H,I.tok _,by rw[zgq r];exact q⟩
 |_=>exact(show False from e).elim
def C3(r:Vals [x] us):∃u,us=[u]/\RelV x u:=by
 cases r with
 |cons r1 r2=>cases r2;exact⟨_,rfl,r1⟩
def Ha(r:Vals [x,y] us):∃u w',us=[u,w']/\RelV x u/\RelV y w':=by
 cases r with
 |cons r1 r2=>
  cases r2 with
  |cons r3 r4=>cases r4;exact⟨_,_,rfl,r1,r3⟩
def call_int1:CallR X (.type "int") (fun xs H Q=>(∃i,xs=[.int i]/\Q (.int i) H)\/∃k,xs=[.bl k]/\Q (.int (if k then 1 else 0)) H):=by
 intro pins s U H xs us Q I r h;rcases h with⟨i,rfl,q⟩ |⟨k,rfl,q⟩
 . obtain⟨u,rfl,t,rfl⟩:=C3 r;exact call_int_int ⟨.int i,H,I,⟨_,rfl⟩,q⟩
 . obtain⟨u,rfl,r1⟩:=C3 r;cases r1;exact call_int_bool ⟨.int (if k then 1 else 0),H,I.tok _,⟨_,rfl⟩,q⟩
end
structure ObjM(h:Heap)(x dx C:Addr)(mA:Str->Option Value):Prop where
 obj:h.get? x=some (PySem.W.instObj C dx)
 ns:h.Ns1 dx mA
 ne:dx≠x
def zia{h:Heap}{dx:Addr}{mA:Str->Option Value}(n:h.Ns1 dx mA):∃od,h.get? dx=some od/\∀name,PySem.W.lookIn name od=some (mA name):=by
 obtain⟨o,es,ep,ho,hd,hk,_,hm⟩:=n;refine⟨o,ho,fun name=>?_⟩;have e:=hm name;unfold nsFind findBy at e;rw[<-Array.find?_toList]at e;unfold PySem.W.lookIn;rw[hd];dsimp only;split
 . rename_i y q;rw[q]at e;exact CP some e
 . rename_i q;rw[q]at e;have a:es.toList.any (·.refKey)=false:=by rw[List.any_eq_false];intro y hy;obtain⟨z,t,mO⟩:=hk y (Array.mem_toList_iff.mp hy);simp[DictEntry.refKey,mO]
   have a':¬es.toList.any (·.refKey)=true:=by rw[a];exact η
   rw[ψ a'];exact CP some e
def ObjM.look(I:ObjM h x dx C mA):∃od,PySem.W.InstAt h x (PySem.W.instObj C dx) C (some od)/\∀name,PySem.W.lookIn name od=some (mA name):=
 let ⟨od,ho,hl⟩:=zia I.ns
 ⟨od,⟨I.obj,rfl,rfl,ho⟩,hl⟩
def RelO.some_of(r:RelO (some v) o):∃u,o=some u/\RelV v u:=by
 cases o with
 |none=>exact(show False from r).elim
 |some u=>exact⟨u,rfl,r⟩
section
variable {P:Program}{w:World}{H:Hp}{h:Heap}{a C dx:Addr}{fs:List (Str×V)}
def xQ(hok:HOk P w H h)(e:H a=some (.ins C dx fs)):∃mA,ObjM h a dx C mA/\(∀f,RelO (fs.lookup f) (mA f))/\PySem.Within mA (fs.map (·.1))/\fs.length<=1000/\H dx=some (.own a):=by obtain⟨d,z,ne,ob,mA,n,r,q⟩:=(show ObjOk P w H h a (.ins C dx fs) from hok a _ e);exact⟨mA,⟨ob,n,ne⟩,r,q,z,d⟩
end
structure Cls(K:Frag)(C:Addr):Prop where
 pg:PySem.W.plainGet K C Str.empty=true
 hd:PySem.W.hasDictIn K C=true
 po:PySem.W.plainOver K C=true
 sa:PySem.W.findIn K (.ref C) "__setattr__"=some (some (.builtin "object.__setattr__"))
def Cls.get{K:Frag}{C:Addr}(c:Cls K C)(f:Str):PySem.W.plainGet K C f=true:=c.pg
section
variable {X:Cx}{pins:List (Addr×Obj)}{U:St}{H:Hp}{s:Shared}{A:Around}{E:Value->Shared->Prop}{Q:Value->Shared->Prop}{c:Value}{b:Bool}
inductive TyOf (K:Frag) (H:Hp):V->Value->Prop where
 |non:TyOf K H .non (.type "NoneType")
 |bl (x:Bool):TyOf K H (.bl x) (.type "bool")
 |int (i:Int):TyOf K H (.int i) (.type "int")
 |str (x:Str):TyOf K H (.str x) (.type "str")
 |flt (x:UInt64):TyOf K H (.flt x) (.type "float")
 |lst {a:Addr} {xs:List V} (e:H a=some (.lst xs)):TyOf K H (.ref a) (.type "list")
 |frz {a:Addr} {o:Obj} {xs:List V} (e:H a=some (.frz o (.lst xs))):TyOf K H (.ref a) (.type "list")
 |tup {a:Addr} {xs:List V} (e:H a=some (.tup xs)):TyOf K H (.ref a) (.type "tuple")
 |dK {a:Addr} {kvs:List (Key×V)} (e:H a=some (.dK kvs)):TyOf K H (.ref a) (.type "dict")
 |dT {a:Addr} {kvs:List (List Key×V)} (e:H a=some (.dT kvs)):TyOf K H (.ref a) (.type "dict")
 |ins {a C dx:Addr} {fs:List (Str×V)} (e:H a=some (.ins C dx fs)) (cl:Cls K C) (ha:PySem.W.findIn K (.ref C) "__class__"=some (some (.builtin "object.__class__")))
  (hn:PySem.W.specialIn K (.builtin "object.__class__") "__get__"=some (some (.builtin "getset_descriptor.__get__"))) (htk:PySem.W.takesIn K (.builtin "object.__class__")=some true)
  (hm:mroIn K C (.type "object")=some true):TyOf K H (.ref a) (.ref C)
def N7(I:Inv X pins U H s)(rx:RelV x u)(ty:TyOf X.K H x t)(e:kitOne X.K t c=some b)(h:∀tk,Q (.bool b) { s with toks:=tk }) :
  wpAny (model X.prog X.w) A (call (.builtin "isinstance") [u,c]) Q E s:=by
 cases ty with
 |non=>cases (show u=Value.none from rx);exact kia_one PySem.W.kitx_none I.kIn True.intro e (fun z=>nomatch z) h
 |bl y=>cases (show u=Value.bool y from rx);exact kia_one PySem.W.kitx_bool I.kIn True.intro e (fun z=>nomatch z) h
 |int i=>obtain⟨t,q⟩:=(show ∃t,u=Value.int i t from rx);cases q;exact kia_one PySem.W.kitx_int I.kIn True.intro e (fun z=>nomatch z) h
 |str y=>obtain⟨t,q⟩:=(show ∃t,u=Value.str y t from rx);cases q;exact kia_one PySem.W.kitx_str I.kIn True.intro e (fun z=>nomatch z) h
 |flt y=>obtain⟨t,q⟩:=(show ∃t,u=Value.float y t from rx);cases q;exact kia_one PySem.W.kitx_float I.kIn True.intro e (fun z=>nomatch z) h
 | @lst a xs ea=>
  cases (show u=Value.ref a from rx)
  obtain⟨_,_,n,_,h1⟩:=(show ObjOk X.prog X.w H s.heap a (.lst xs) from I.hok a _ ea)
  exact kia_one PySem.W.kitx_list I.kIn ⟨_,h1,rfl⟩ e (fun z=>nomatch z) h
 | @frz a ob xs ea=>
  cases (show u=Value.ref a from rx)
  obtain⟨_,_,_,n,_,h1⟩:=(show ObjOk X.prog X.w H s.heap a (.frz ob (.lst xs)) from I.hok a _ ea)
  exact kia_one PySem.W.kitx_list I.kIn ⟨_,h1,rfl⟩ e (fun z=>nomatch z) h
 | @tup a xs ea=>
  cases (show u=Value.ref a from rx)
  obtain⟨_,_,_,p⟩:=(show ObjOk X.prog X.w H s.heap a (.tup xs) from I.hok a _ ea)
  obtain⟨o,h1,h2,_⟩:=p
  exact kia_one PySem.W.kitx_tuple I.kIn ⟨o,h1,h2⟩ e (fun z=>nomatch z) h
 | @dK a kvs ea=>
  cases (show u=Value.ref a from rx)
  obtain⟨_,_,vs,_,p⟩:=(show ObjOk X.prog X.w H s.heap a (.dK kvs) from I.hok a _ ea)
  obtain⟨o,es,ep,h1,h2,_⟩:=p
  exact kia_one PySem.W.kitx_dict I.kIn ⟨o,h1,h2.1⟩ e (fun z=>nomatch z) h
 | @dT a kvs ea=>
  cases (show u=Value.ref a from rx)
  obtain⟨_,_,xs,_,o,es,ep,h1,h2,_⟩:=(show ObjOk X.prog X.w H s.heap a (.dT kvs) from I.hok a _ ea)
  exact kia_one PySem.W.kitx_dict I.kIn ⟨o,h1,h2.1⟩ e (fun z=>nomatch z) h
 | @ins a C dx fs ea cl ha hn htk hm=>
  cases (show u=Value.ref a from rx)
  obtain⟨mA,O,_⟩:=xQ I.hok ea
  obtain⟨od,J,_⟩:=O.look
  exact kia_one (PySem.W.kitx_own (cl.get _) cl.hd ha hn htk hm) I.kIn J e (fun z=>nomatch z) h
end
structure Room(k:Nat)(A:Around):Prop where
 hd:A.handled=none
 dp:A.depth+3 * k+5<recursionLimit
 un:A.units+16 * k+200<cLine
def Room.mono(r:Room k A)(h:j<=k):Room j A:=⟨r.hd,by have:=r.dp;lia,by have:=r.un;lia⟩
def Room.deeper(r:Room (k+1) A)(env:Env):Room k (A.deeper env):=
 ⟨r.hd,by have:=r.dp;show A.depth+1+3 * k+5<_;lia,by have:=r.un;show A.units+3+16 * k+200<_;lia⟩
def Room.depth(r:Room k A):A.depth<recursionLimit:=by have:=r.dp;omega
def Room.units(r:Room k A):A.units+64<cLine:=by have:=r.un;lia
noncomputable def Q8:TA:=fun _ H Q=>Q [] H
noncomputable def J1(ta:TE)(tr:TA):TA:=fun U H Q=>ta U H fun x H1=>tr U H1 fun xs H2=>Q (x::xs) H2
section
variable {X:Cx}{e:Expr}{es:List Expr}{te:TE}{t:TA}{pos:Pos}
def pa_nil:PA X [] Q8:=fun _ _ _ _ H Q I h=>Calls.spliced_nil ⟨[],H,I,.nil,h⟩
def Q1(ha:PE X e te)(hr:PA X es t)(hs:starEach (e::es) X.env=(false,eval e X.env)::starEach es X.env):PA X (e::es) (J1 te t):=by intro pos pins s U H Q I h;rw[hs];show wpAny _ _ (spliced ((false,eval e X.env)::backTo pos (starEach es X.env))) _ _ s;refine Calls.spliced_cons (thn (ha pins s U H _ I h) fun u s1 ⟨x,H1,I1,r1,q1⟩=>?_);exact thn (hr pos pins s1 U H1 _ I1 q1) fun us s2 ⟨xs,H2,I2,r2,q2⟩=>⟨x::xs,H2,I2,.cons r1 r2,q2⟩
def kj(t:TA):TE:=fun U H Q=>t U H fun xs H1=>xs.length<=sizeLine/\∀p,H1 p=none->Q (.ref p) (upd H1 p (.tup xs))
def ki(t:TA):TE:=fun U H Q=>t U H fun xs H1=>xs.length<=sizeLine/\∀p,H1 p=none->Q (.ref p) (upd H1 p (.lst xs))
def vI(h:PA X es t):PE X (.Tuple es x1 pos) (kj t):=by intro pins s U H Q I hq;refine wpAny_Tuple_spliced (thn (h pos pins s U H _ I hq) fun us s1 ⟨xs,H1,I1,r,z,q⟩=>⟨by rw[<-r.length];exact z,?_⟩);have hf:H1 s1.heap.objs.size=none:=I1.hok.fresh (ζ _);refine⟨.ref s1.heap.objs.size,upd H1 s1.heap.objs.size (.tup xs),I1.laid (t':=s1.toks) (fun b u e=>Ψ _ e) (ζ _) ?_,rfl,q _ hf⟩;exact⟨z,us,r,.mk' (Ξ _ rfl)⟩
def vH(h:PA X es t):PE X (.List es pos) (ki t):=by intro pins s U H Q I hq;refine wpAny_List_spliced (thn (h pos pins s U H _ I hq) fun us s1 ⟨xs,H1,I1,r,z,q⟩=>⟨by rw[<-r.length];exact z,?_⟩);have hf:H1 s1.heap.objs.size=none:=I1.hok.fresh (ζ _);refine⟨.ref s1.heap.objs.size,upd H1 s1.heap.objs.size (.lst xs),I1.laid (t':=s1.toks) (fun b u e=>Ψ _ e) (ζ _) ?_,rfl,q _ hf⟩;exact⟨z,us,0,r,Ξ _ rfl⟩
end
abbrev Sp:=List V->Hp->VK->XK->Prop
abbrev CXT:=List Env->Hp->Shared->XK->Value->Shared->Prop
structure Env0(P:Program)(w:World)(K:Frag)(mg:Str->Option Value)(base:Heap)(A:Around)(outer:List Env)(s:Shared)(H:Hp):Prop where
 frames:A.frames=some outer
 mod:Mod K mg base
 bs:∀b o,base.get? b=some o->s.heap.get? b=some o/\H b=none
 bsz:base.objs.size<=s.heap.objs.size
 funs:s.heap.FunFrames base outer
 frf:∀b∈frs outer,H b=none
 hok:HOk P w H s.heap
 bare:AllBare s.gens
def CE(outer:List Env)(P:Program)(w:World)(H:Hp)(s:Shared)(Q:VK)(u:Value)(s':Shared):Prop:=
 ∃v H',s'.os=s.os/\AllBare s'.gens/\Un (frs outer) [] H H' s.heap s'.heap/\HOk P w H' s'.heap/\RelV v u/\Q v H'
def CR(CX:CXT)(outer:List Env)(P:Program)(w:World)(H:Hp)(s:Shared)(Q:VK)(E:XK)(r:Result)(s':Shared):Prop:=
 match r with
 | .ok (.ret u)=>CE outer P w H s Q u s'
 | .ok _=>False
 | .error e=>CX outer H s E e s'
structure FnOk(P:Program)(w:World)(K:Frag)(mg:Str->Option Value)(base:Heap)(CX:CXT)(k:Nat)(f:Addr)(fd:FuncData)(ps:List Str)(sp:Sp):Prop where
 len:∀vs H Q E,sp vs H Q E->vs.length=ps.length
 run:∀(A:Around)(outer:List Env)(s:Shared)(H:Hp)(args:Args)(us:List Value)(vs:List V)(Q:VK)(E:XK),Room k A->Env0 P w K mg base A outer s H->BindsTo s fd args (ps.zip us)->Vals vs us->sp vs H Q E ->
  codeAny (model P w) A (.call (.ref f) args) (CR CX outer P w H s Q E) s
def FnOk.imp{P:Program}{w:World}{K:Frag}{mg:Str->Option Value}{base:Heap}{CX:CXT}{k:Nat}{f:Addr}{fd:FuncData}{ps:List Str}{sp nJ:Sp}(F:FnOk P w K mg base CX k f fd ps sp)
  (h:∀vs H Q E,nJ vs H Q E->sp vs H Q E):FnOk P w K mg base CX k f fd ps nJ:=
 ⟨fun vs H Q E q=>F.len vs H Q E (h _ _ _ _ q),fun A outer s H args us vs Q E hr he hb hv hs=>F.run A outer s H args us vs Q E hr he hb hv (h _ _ _ _ hs)⟩
section
variable {X:Cx}{pins:List (Addr×Obj)}{U:St}{H:Hp}{s s':Shared}
def Inv.env0(I:Inv X pins U H s):Env0 X.prog X.w X.K X.mg X.base X.A X.stack s H:=
 ⟨I.ok.frames,I.ok.mod,I.bs,sg I.ok.bsz I.sz,I.stack,I.stkFree,I.hok,I.bare⟩
def Inv.after(I:Inv X pins U H s)(h:CE X.stack X.prog X.w H s Q u s'):EP X pins U Q u s':=by obtain⟨v,H',os,bare,un,hok,r,q⟩:=h;obtain⟨hh,g,d,t,pH⟩:=s';obtain rfl:pH=s.os:=os;exact⟨v,H',I.call (h':=hh) (g':=g) (d':=d) (t':=t) (ch:=[]) un hok bare (fun b z=>absurd z (by simp)),r,q⟩
end
noncomputable def Qr(sp:Sp)(dU:List V)(E:XK)(t:TA):TE:=fun U H Q=>t U H fun vs H1=>sp (vs++dU) H1 Q E
def Binds(K:Frag)(fd:FuncData)(ps:List Str)(ds:List Value):Prop:=
 ∀(s:Shared)(us:List Value),K.In s.heap->(us++ds).length=ps.length->BindsTo s fd ⟨us,[]⟩ (ps.zip (us++ds))
def Binds.all{K:Frag}{fd:FuncData}{ps:List Str}(h:∀us:List Value,us.length=ps.length->bindArgs fd ⟨us,[]⟩=pure (ps.zip us)):Binds K fd ps []:=fun s us _ hl=>by rw[DZ]at hl⊢;exact .of_eq (h us hl)
def Dh(CX:CXT)(X:Cx)(E:XK):Prop:=∀(pins:List (Addr×Obj))(U:St)(H:Hp)(s:Shared)(e:Value)(s':Shared),Inv X pins U H s->CX X.stack H s E e s'->X.xe e s'
section
variable {X:Cx}{CX:CXT}{k:Nat}{f:Addr}{fd:FuncData}{ps:List Str}{sp:Sp}{dU:List V}{ds:List Value}{E:XK}{x:Str}{p pos:Pos}{e:Expr}{es:List Expr}{t:TA}
def vG(F:FnOk X.prog X.w X.K X.mg X.base CX k f fd ps sp)(hr:Room k X.A)(hb:Binds X.K fd ps ds)(hd:Vals dU ds)(hx:Dh CX X E)
  (I:Inv X pins U H s) (r:Vals vs us) (h:sp (vs++dU) H Q E):wpAny (model X.prog X.w) X.A (call (.ref f) us) (EP X pins U Q) X.xe s:=by
 have r2:Vals (vs++dU) (us++ds):=r.append hd
 have hl:(us++ds).length=ps.length:=by rw[<-r2.length];exact F.len _ _ _ _ h
 refine wpAny_call (codeAny_mono (F.run X.A X.stack s H ⟨us,[]⟩ (us++ds) (vs++dU) Q E hr I.env0 (hb s us I.kIn hl) r2 h) fun r s' hq=>?_)
 cases r with
 |error e=>exact hx pins U H s e s' I hq
 |ok fl=>
  cases fl with
  |ret u=>exact I.after hq
  |next=>exact False.elim hq
  |brk=>exact False.elim hq
  |cont=>exact False.elim hq
def xP(F:FnOk X.prog X.w X.K X.mg X.base CX k f fd ps sp)(hr:Room k X.A)(hg:Gl X x)(hm:X.mg x=some (.ref f))(hk:keepIn X.K (.ref f)=true)(hb:Binds X.K fd ps ds)(hd:Vals dU ds)(hx:Dh CX X E)
  (ha:PA X (e::es) t) (aI:(x==("__debug__":Str))=false) (he:starEach (e::es) X.env=(false,eval e X.env)::starEach es X.env) (hpl:(backTo pos (starEach es X.env)).any (·.1)=false) :
  PE X (.Call (.Name x p) (e::es) [] pos) (Qr sp dU E t):=by
 intro pins s U H Q I h
 refine FR (Be I hg hm ?_ aI)
 refine PySem.W.callWith_K (h₀:=X.base) I.ok.mod.kin hk (thn (ha pos pins s U H _ I h) fun us s1 ⟨vs,H1,I1,r,q⟩=>⟨I1.kIn,?_⟩) he hpl
 exact vG F hr hb hd hx I1 r q
end
structure FnScope(N P:List Str)(sc:Scope):Prop where
 kind:sc.kind=.function
 co:sc.isCoroutine=false
 gen:sc.isGenerator=false
 nd:N.Nodup
 pre:N.take P.length=P
 par:∀x∈P,sc.names.lookup x=some .local\/sc.names.lookup x=some .cell
 nofree:∀y∈sc.names,y.2≠.free
theorem Yh{kindOf:Str->Option NameKind}{x:Str}:∀{binds:List (Str×Value)}{m:Str->Option Value},(∀v,(x,v)∉binds)->bindL kindOf binds m x=m x
 | [],_,_=>rfl
 | (n,v)::r,m,h=>by
  unfold bindL;rw[Yh fun w hw=>h w (tB _ hw)];split
  . have:x≠n:=by rintro rfl;exact h v BK
    simp[this]
  . rfl
theorem Yg{kindOf:Str->Option NameKind}{x:Str}:∀{binds:List (Str×Value)}{m:Str->Option Value},(∀v,(x,v)∉binds)->bindC kindOf binds m x=m x
 | [],_,_=>rfl
 | (n,v)::r,m,h=>by
  unfold bindC;rw[Yg fun w hw=>h w (tB _ hw)];split
  . rfl
  . have:x≠n:=by rintro rfl;exact h v BK
    simp[this]
theorem Ye{kindOf:Str->Option NameKind}{x:Str}{v:Value}:∀{P:List Str}{vs:List Value}{i:Nat}{m:Str->Option Value},P.Nodup->P[i]?=some x->vs[i]?=some v->kindOf x=some .local ->
  bindL kindOf (P.zip vs) m x=some v
 | [],_,_,_,_,h,_,_=>by simp at h
 |_::_,[],_,_,_,_,h,_=>by simp at h
 |p::P,w::vs,0,m,nd,h1,h2,hk=>by simp at h1 h2;subst h1;subst h2;show bindL kindOf ((p,w)::P.zip vs) m p=_;unfold bindL;rw[Yh fun v hv=>(CH.mp nd).1 (List.of_mem_zip hv).1,ξ hk];simp
 |p::P,w::vs,i+1,m,nd,h1,h2,hk=>by show bindL kindOf ((p,w)::P.zip vs) m x=_;unfold bindL;exact Ye (i:=i) (CH.mp nd).2 (by simpa using h1) (by simpa using h2) hk
theorem Yd{kindOf:Str->Option NameKind}{x:Str}{v:Value}:∀{P:List Str}{vs:List Value}{i:Nat}{m:Str->Option Value},P.Nodup->P[i]?=some x->vs[i]?=some v->kindOf x≠some .local ->
  bindC kindOf (P.zip vs) m x=some v
 | [],_,_,_,_,h,_,_=>by simp at h
 |_::_,[],_,_,_,_,h,_=>by simp at h
 |p::P,w::vs,0,m,nd,h1,h2,hk=>by simp at h1 h2;subst h1;subst h2;show bindC kindOf ((p,w)::P.zip vs) m p=_;unfold bindC;rw[Yg fun v hv=>(CH.mp nd).1 (List.of_mem_zip hv).1,ψ hk];simp
 |p::P,w::vs,i+1,m,nd,h1,h2,hk=>by show bindC kindOf ((p,w)::P.zip vs) m x=_;unfold bindC;exact Yd (i:=i) (CH.mp nd).2 (by simpa using h1) (by simpa using h2) hk
noncomputable def J0(N:List Str)(vs:List V):St:=vs.map some++List.replicate (N.length - vs.length) none
noncomputable def O5(CX:CXT)(P:Program)(w:World)(K:Frag)(mg:Str->Option Value)(base:Heap)(N:List Str)(qual:Str)(scope:Scope)(f:Addr)(cd:Value)(A:Around)(outer:List Env)(s:Shared)(H:Hp)(E:XK):Cx where
 prog:=P
 w:=w
 K:=K
 mg:=mg
 base:=base
 A:=A.deeper (envOfC qual scope s.heap.objs.size f cd)
 N:=N
 s₀:=s
 H₀:=H
 env:=envOfC qual scope s.heap.objs.size f cd
 outer:=outer
 stack:=envOfC qual scope s.heap.objs.size f cd::outer
 ex:=[]
 calm:=true
 fn:=fun _=>true
 pn:=[]
 xe:=fun e s'=>wpAny (model P w) (A.deeper (envOfC qual scope s.heap.objs.size f cd)) (leaving (envOfC qual scope s.heap.objs.size f cd) e) (fun _ eI=>CX outer H s E e eI) (fun e' eI=>CX outer H s E e' eI) s'
def Xe{sc:Scope}{n:Nat}{x:Str}(h:sc.names.lookup x=some .cell):∃c,(cellsFrom n sc.names []).lookup x=some c:=by have q:=PySem.W.cellsFrom_some sc.names n [] (.inl h);exact Option.isSome_iff_exists.mp q
def zib{CX:CXT}{P:Program}{w:World}{K:Frag}{mg:Str->Option Value}{base:Heap}{N ps:List Str}{qual:Str}{scope:Scope}{f:Addr}{cd:Value}{A:Around}{outer:List Env}{s s1:Shared}{H:Hp}{E:XK}{us:List Value}{vs:List V}
  (S:FnScope N ps scope) (hd:A.handled=none) (e0:Env0 P w K mg base A outer s H) (hl:vs.length=ps.length) (r:Vals vs us)
  (x:InCallC s s.heap.objs.size (bindL (envOfC qual scope s.heap.objs.size f cd).kindOf (ps.zip us) fun _=>none) (cellsFrom (s.heap.objs.size+1) scope.names []) (bindC (envOfC qual scope s.heap.objs.size f cd).kindOf (ps.zip us) fun _=>none) s1) :
  Inv (O5 CX P w K mg base N qual scope f cd A outer s H E) [] (J0 N vs) H s1:=by
 have hpl:ps.length<=N.length:=by have:=CP List.length S.pre;rw[BA]at this;lia
 obtain⟨h1,tk,rfl,hk⟩:=x.done
 have fX:∀b:Addr,b∉(O5 CX P w K mg base N qual scope f cd A outer s H E).ex:=fun b z=>absurd (show b∈([]:List Addr) from z) (by simp)
 refine⟨⟨e0.mod,S.kind,rfl,rfl,ζ _,fun y z c h1 h2=>?_,fun y hy=>?_,fun y c _ h=>?_,fun _=>hd,Around.frames_deeper e0.frames,.inr ⟨rfl,rfl⟩,fun b z=>absurd z (fX b),e0.bs,e0.bsz,fun b _ _=>fX b,fun b z=>absurd z (fX b),e0.funs,e0.frf⟩,
  rfl,e0.bare,Un.kept hk,⟨_,x.toInCall.ns,fun i y v h1 h2 h3=>?_⟩,fun y c h=>⟨_,x.cell y c h⟩,e0.hok.fresh (ζ _),fun y c h=>?_,fun p hp=>absurd (show p∈([]:List (Addr×Obj)) from hp) (by simp),e0.hok.kept hk,?_⟩
 . exact name_of_addr x.apart (DO h1) (DO h2)
 . have hy:scope.names.lookup y=some .cell\/scope.names.lookup y=some .free:=hy;rcases hy with hy |hy
   . exact Xe hy
   . exact absurd rfl (S.nofree _ (DO hy))
 . exact EB (x.above y c (DO h))
 . have hi:i<vs.length:=by
    unfold J0 at h2
    by_cases hi:i<vs.length
    . exact hi
    . rw[BY (by simpa using hi)]at h2;rw[List.getElem?_replicate]at h2;split at h2<;>cases h2
   have ha:vs[i]?=some v:=by
    unfold J0 at h2;rw[CM (by simpa using hi),BF]at h2;cases e:vs[i]? with
    |none=>rw[e]at h2;cases h2
    |some a=>rw[e]at h2;cases h2;rfl
   obtain⟨u,hu,rv⟩:=r.get ha
   have hp:ps[i]?=some y:=by rw[<-S.pre,List.getElem?_take_of_lt (by lia)];exact h1
   have nK:ps.Nodup:=by rw[<-S.pre];exact S.nd.sublist (List.take_sublist _ _)
   refine⟨u,rv,?_⟩
   rcases S.par y (DI hp) with k |k
   . exact .inl ⟨k,Ye nK hp hu k⟩
   . obtain⟨c,e⟩:=Xe (n:=s.heap.objs.size+1) k;refine .inr ⟨.inl k,c,e,?_⟩;have q:=x.cell y c e;rw[Yd nK hp hu (by show scope.names.lookup y≠_;rw[k];decide)]at q;exact q
 . exact e0.hok.fresh (EB (x.above y c (DO h)))
 . unfold J0;show _=N.length;rw[θ,bI,List.length_replicate]
   lia
def y0p{CX:CXT}{P:Program}{w:World}{K:Frag}{mg:Str->Option Value}{base:Heap}{k:Nat}{f:Addr}{name qual:Str}{params:Arguments}{body:List Stmt}{scope:Scope}{dV kV doc pm cdv ct oc:Value}{an od:Option Addr}
  {osl:Array (Option Value)} {N ps:List Str} {sp:Sp} (lk:K.lookup f=some ⟨oc,od,.func (PySem.W.fnOf name qual params body scope dV kV doc pm an cdv ct),osl⟩) (bN:codeIn K cdv qual=true) (S:FnScope N ps scope)
  (len:∀vs H Q E,sp vs H Q E->vs.length=ps.length)
  (cD:∀(A:Around)(outer:List Env)(s:Shared)(H:Hp)(vs:List V)(Q:VK)(E:XK),Room k (A.deeper (envOfC qual scope s.heap.objs.size f cdv))->sp vs H Q E ->
   ∃t,PSs (O5 CX P w K mg base N qual scope f cdv A outer s H E) body t/\t { nx:=fun _ H'=>Q .non H',rt:=Q } (J0 N vs) H) :
  FnOk P w K mg base CX (k+1) f (PySem.W.fnOf name qual params body scope dV kV doc pm an cdv ct) ps sp:=by
 refine⟨len,fun A outer s H args us vs Q E hr e0 hb r dW=>?_⟩
 have hl:=len _ _ _ _ dW
 have KX:K.In s.heap:=e0.mod.kin.keeps fun b o e=>(e0.bs b o e).1
 have pI:s.heap.NoLimit:=e0.mod.nolimit.keeps fun b o e=>(e0.bs b o e).1
 have cc:∀y∈ps.zip us,scope.names.lookup y.1=some .local\/(scope.names.lookup y.1=some .cell/\((cellsFrom (s.heap.objs.size+1) scope.names []).lookup y.1).isSome=true):=fun⟨n,v⟩ hy=>by
  rcases S.par n (List.of_mem_zip hy).1 with q |q
  . exact .inl q
  . exact .inr ⟨q,PySem.W.cellsFrom_some _ _ _ (.inl q)⟩
 refine codeAny_call_function hr.depth (KX _ _ lk) rfl S.co S.gen rfl (PySem.W.codeRec_of KX bN) (hb _ _ _ _ ?_)
 refine wpAny_newFunctionEnv_cells S.kind cc fun env he s1 x=>?_
 subst he
 refine⟨pI.keeps x.toInCall.keep,codeAny_func ?_⟩
 obtain⟨t,ht,hq⟩:=cD A outer s H vs Q E (hr.deeper _) dW
 have I:Inv (O5 CX P w K mg base N qual scope f cdv A outer s H E) [] (J0 N vs) H s1:=zib S hr.hd e0 hl r x
 refine BR (ht [] s1 (J0 N vs) H _ I hq) (fun fl s' hs=>?_) fun e s' hs=>hs
 have fin:∀{af:St}{H':Hp}{v:V}{u:Value},Inv (O5 CX P w K mg base N qual scope f cdv A outer s H E) [] af H' s'->RelV v u->Q v H'->CE outer P w H s Q u s':=
  fun {af H' v u} J rv q=>⟨v,H',J.os,J.bare,J.base,J.hok,rv,q⟩
 cases fl with
 |ret u=>
  obtain⟨v,af,H',J,rv,q⟩:=hs
  exact fin J rv q
 |next=>
  obtain⟨af,H',J,q⟩:=hs
  exact fin (v:=V.non) (u:=Value.none) J rfl q
 |brk=>
  obtain⟨_,_,_,q⟩:=hs
  exact False.elim q
 |cont=>
  obtain⟨_,_,_,q⟩:=hs
  exact False.elim q
section
variable {X:Cx}{x:Str}{p pos:Pos}{e:Expr}{es:List Expr}{t:TA}{id T:String}{r:List V->Hp->VK->Prop}
noncomputable def tCB(r:List V->Hp->VK->Prop)(t:TA):TE:=fun U H Q=>t U H fun vs H1=>r vs H1 Q
def Lq(hc:CallR X (.builtin id) r)(hg:Gl X x)(hm:X.mg x=none)(hv:bootBuiltins x=some (.builtin id))(ha:PA X (e::es) t)(hn:x≠"__name__")(aI:(x==("__debug__":Str))=false)
  (he:starEach (e::es) X.env=(false,eval e X.env)::starEach es X.env) (hpl:(backTo pos (starEach es X.env)).any (·.1)=false):PE X (.Call (.Name x p) (e::es) [] pos) (tCB r t):=by
 intro pins s U H Q I h
 refine FR (P8 I hg hm hv ?_ hn aI)
 exact PyProof.Rows.callWith_builtin1 (thn (ha pos pins s U H _ I h) fun us s1 ⟨vs,H1,I1,r1,q1⟩=>hc pins s1 U H1 vs us Q I1 r1 q1) he hpl
def zic(hc:CallR X (.type T) r)(hg:Gl X x)(hm:X.mg x=none)(hv:bootBuiltins x=some (.type T))(ha:PA X (e::es) t)(hn:x≠"__name__")(aI:(x==("__debug__":Str))=false)
  (he:starEach (e::es) X.env=(false,eval e X.env)::starEach es X.env) (hpl:(backTo pos (starEach es X.env)).any (·.1)=false):PE X (.Call (.Name x p) (e::es) [] pos) (tCB r t):=by
 intro pins s U H Q I h
 refine FR (P8 I hg hm hv ?_ hn aI)
 exact DQ (thn (ha pos pins s U H _ I h) fun us s1 ⟨vs,H1,I1,r1,q1⟩=>hc pins s1 U H1 vs us Q I1 r1 q1) he hpl
end
end L2
namespace HT
open PySem PyProof.Rows
def lexLt:List Int->List Int->Bool
 | [],[]=>false
 | [],_::_=>true
 |_::_,[]=>false
 |x::xs,y::ys=>if x=y then lexLt xs ys else decide (x<y)
def lexLt_cons(x y:Int)(xs ys:List Int):lexLt (x::xs) (y::ys)=if x=y then lexLt xs ys else decide (x<y):=rfl
def ze(A:Around)(s:Shared)(a:Int)(t:Tok)(c:Int)(u:Tok):∃e,SeqAt.EqAt A s (.int a t) (.int c u) e/\(e=true↔a=c):=
 ⟨(a==c),SeqAt.EqAt.int_int a t c u,by simp⟩
def rcLt_int(A:Around)(s:Shared)(a:Int)(t:Tok)(c:Int)(u:Tok)(prog:Program)(w:World)(E:Value->Shared->Prop)(Q:Value->Shared->Prop)(h:Q (.bool (decide (a<c))) s) :
  wpAny (model prog w) A (richCompare .Lt (.int a t) (.int c u)) Q E s:=
 (PyProof.Rows.lt_int h:wpAny (model prog w) A (compareOp .Lt (.int a t) (.int c u)) Q E s)
section
open PySem.SeqAt
open PySem.AutoSeq1 (wpAny_loadPart')
open PySem.MeetsSeq PySem.MeetsSeq2 PySem.MeetsSeq3
end
section
variable {prog:Program}{w:World}{A:Around}{E:Value->Shared->Prop}{s:Shared}
def cat_tup(ht:IsTup s.heap t vs.toArray)(hb:IsTup s.heap b ws.toArray)(hv:vs≠[])
  (h1:ws=[]->Q (.ref t) s) (h2:ws≠[]->Q (.ref s.heap.objs.size) { s with heap:=s.heap.push { cls:=.type "tuple",data:=.seq (vs++ws).toArray } })
  (hsz:vs.length+ws.length<=sizeLine):wpAny (model prog w) A (binaryOp .Add (.ref t) (.ref b)) Q E s:=by
 obtain⟨⟨cls,dd,data,sl⟩,ho,hc,n,hd⟩:=id ht
 obtain⟨⟨iE,dm,data2,cK⟩,bS,cQ,n2,cg⟩:=id hb
 simp only at hc hd cQ cg
 subst hc hd cQ cg
 have e:vs.toArray++ws.toArray=(vs++ws).toArray:=by simp
 by_cases hw:ws=[]
 . exact concat_meets ⟨_,ho,rfl⟩ ⟨_,bS,rfl⟩ noFill_tuple_add seq_tuple_add PySem.F.slot_tuple_add PySem.F.entry_tuple_add (GR _ _)
    (tuple_addW1 t b vs.toArray ws.toArray n n2 dd dm sl cK (by simpa using hv) (by simp[hw])) ⟨ho,bS,h1 hw⟩
 . refine concat_meets ⟨_,ho,rfl⟩ ⟨_,bS,rfl⟩ noFill_tuple_add seq_tuple_add PySem.F.slot_tuple_add PySem.F.entry_tuple_add (GR _ _)
    (tuple_addW2 t b vs.toArray ws.toArray n n2 dd dm sl cK (by simpa using hv) (by simpa using hw) (by rw[mK,mK];exact hsz)) ⟨ho,bS,?_⟩
   rw[e]
   exact h2 hw
def sIx(n d:Nat):Option Int->Nat
 |none=>d
 |some v=>if v<0 then(v+(n:Int)).toNat else min v.toNat n
end
end HT
namespace L2
open PySem PySem.Spec PyProof.Rows
abbrev TO:=St->Hp->(Option Int->Hp->Prop)->Prop
def PO(X:Cx)(e:Option Expr)(t:TO):Prop:=
 ∀(pins:List (Addr×Obj))(s:Shared)(U:St)(H:Hp)(Q:Option Int->Hp->Prop),Inv X pins U H s->t U H Q ->
  wpAny (model X.prog X.w) X.A (evalPart e X.env) (fun u s'=>∃o H',Inv X pins U H' s'/\IsPart u o/\Q o H') X.xe s
noncomputable def y0q(t:TE):TO:=fun U H Q=>t U H fun x H1=>∃i,x=.int i/\Q (some i) H1
def Em:∀{us:List Value},Vals (ns.map V.int) us->IntsAre us ns:=by
 induction ns with
 |nil=>intro us r;rw[CB]at r;cases r;exact .nil
 |cons n ns ih=>
  intro us r
  rw[dg]at r
  cases r with
  |cons r1 r2=>
   obtain⟨t,e⟩:=r1
   subst e
   exact .cons n t (ih r2)
section
variable {X:Cx}{e:Expr}{te:TE}{lo hi:Option Expr}{tl th:TO}{pos p2:Pos}
def xO(h:PE X e te):PO X (some e) (y0q te):=by
 intro pins s U H Q I hw;rw[evalPart_some];refine thn (h pins s U H _ I hw) fun u s1 ⟨x,H1,I1,r1,q1⟩=>?_
 obtain⟨i,rfl,q⟩:=q1;obtain⟨t,rfl⟩:=r1;exact⟨some i,H1,I1,.int i t,q⟩
def SlR(X:Cx)(r:V->Option Int->Option Int->Hp->VK->Prop):Prop:=
 ∀(pins:List (Addr×Obj))(s:Shared)(U:St)(H:Hp)(x:V)(v vl vu:Value)(lo hi:Option Int)(sl:Addr)(Q:VK),Inv X pins U H s->RelV x v->s.heap.IsSliceOf sl vl vu .none->IsPart vl lo->IsPart vu hi->r x lo hi H Q ->
  ∃T id,typeLookup (.type T) "__getitem__"=pure (some (.builtin id))/\s.TypeIs v T/\wpAny (model X.prog X.w) X.A (getItem v (.ref sl)) (EP X pins U Q) X.xe s
noncomputable def tSl(r:V->Option Int->Option Int->Hp->VK->Prop)(te:TE)(tl th:TO):TE:=fun U H Q=>te U H fun x H1=>tl U H1 fun l H2=>th U H2 fun u H3=>r x l u H3 Q
def zc(hr:SlR X r)(he:PE X e te)(hl:PO X lo tl)(hu:PO X hi th):PE X (.Subscript e (.Slice lo hi none p2) pos) (tSl r te tl th):=by
 intro pins s U H Q I h;refine Subscript_ (thn (he pins s U H _ I h) fun v s1 ⟨x,H1,I1,r1,q1⟩=>?_);refine wpAny_Slice (thn (hl pins s1 U H1 _ I1 q1) fun vl s2 ⟨l,H2,I2,pl,q2⟩=>thn (hu pins s2 U H2 _ I2 q2) fun vu s3 ⟨u,H3,I3,pu,q3⟩=>?_);rw[evalPart_none];refine ω ?_;have I4:Inv X pins U H3 { s3 with heap:=s3.heap.push { cls:=.type "slice",data:=.fields #[vl,vu,.none] } }:=I3.kept (t':=s3.toks) fun b ob q=>Ψ _ q
 obtain⟨T,id,hT,ht,hg⟩:=hr pins { s3 with heap:=s3.heap.push { cls:=.type "slice",data:=.fields #[vl,vu,.none] } } U H3 x v vl vu l u s3.heap.objs.size Q I4 r1 (Heap.IsSliceOf.new ..) pl pu q3;show wpAny (model X.prog X.w) X.A (subscriptTail e (.Slice lo hi none p2) v (.ref s3.heap.objs.size)) (EP X pins U Q) X.xe { s3 with heap:=s3.heap.push { cls:=.type "slice",data:=.fields #[vl,vu,.none] } };exact tail_any (ops:=[.ref s3.heap.objs.size,v]) ht hT hg (by with_unfolding_all rfl)
noncomputable def V2(xs:List V)(lo hi:Option Int):List V:=(xs.drop (HT.sIx xs.length 0 lo)).take (HT.sIx xs.length xs.length hi - HT.sIx xs.length 0 lo)
def zdy(xs:List V)(lo hi:Option Int):(V2 xs lo hi).length<=xs.length:=by unfold V2;rw[BA,BN];omega
def y0r(K:Frag):R2:=fun x y H Q=>∃a b xs ys,x=.ref a/\y=.ref b/\SqT K H a xs/\SqT K H b ys/\xs≠[]/\xs.length+ys.length<=sizeLine /\
 (ys=[]->Q (.ref a) H)/\(ys≠[]->∀p,H p=none->Q (.ref p) (upd H p (.tup (xs++ys))))
def Vals.nil_iff(r:Vals xs us):us=[]↔xs=[]:=by
 cases r with
 |nil=>simp
 |cons _ _=>simp
def xN:OpR X (binaryOp .Add) (y0r X.K):=by intro pins s U H x y v u Q I rx ry h;obtain⟨a,b,xs,ys,rfl,rfl,ha,hb,hx,hz,q1,q2⟩:=h;cases rx;cases ry;obtain⟨its,r1,p1,_⟩:=I.tuple ha;obtain⟨ao,r2,p2,_⟩:=I.tuple hb;refine HT.cat_tup p1 p2 (fun z=>hx (r1.nil_iff.mp z)) (fun z=>⟨.ref a,H,I,rfl,q1 (r2.nil_iff.mp z)⟩) (fun z=>?_) (by rw[<-r1.length,<-r2.length];exact hz);refine⟨.ref s.heap.objs.size,_,I.laid (t':=s.toks) (o:=.tup (xs++ys)) (fun b ob q=>Ψ _ q) (ζ _) ?_,rfl,q2 (fun w=>z (r2.nil_iff.mpr w)) _ (I.hok.fresh (ζ _))⟩;exact⟨by rw[θ];exact hz,_,r1.append r2,.mk' (Ξ _ rfl)⟩
end
noncomputable def ixN(n:Nat)(i:Int):Option Nat:=if 0<=i then(if i<n then some i.toNat else none) else if -(n:Int)<=i then some (i+n).toNat else none
def atI{α:Type}(xs:List α)(i:Int):Option α:=(ixN xs.length i).bind fun j=>xs[j]?
def We(h:ixN n i=some j):seqIndex? i n=some j/\j<n/\-(n:Int)<=i/\i<n:=by
 unfold ixN at h;by_cases h0:0<=i
 . rw[ξ h0]at h;by_cases h1:i<n
   . rw[ξ h1]at h;have e:i.toNat=j:=Option.some.inj h;exact⟨by rw[seqIndex_of h0 h1,e],by lia,by lia,h1⟩
   . rw[ψ h1]at h;cases h
 . rw[ψ h0]at h;by_cases h1:-(n:Int)<=i
   . rw[ξ h1]at h;have e:(i+n).toNat=j:=Option.some.inj h;exact⟨by rw[seqIndex_neg (by lia) h1,e],by lia,h1,by lia⟩
   . rw[ψ h1]at h;cases h
def Kq(h:atI xs i=some v):∃j,seqIndex? i xs.length=some j/\xs[j]?=some v/\j<xs.length/\-(xs.length:Int)<=i/\i<xs.length:=by
 unfold atI at h;cases e:ixN xs.length i with
 |none=>rw[e]at h;cases h
 |some j=>
  rw[e]at h
  obtain⟨h1,h2,h3,h4⟩:=We e
  exact⟨j,h1,h,h2,h3,h4⟩
def Kp{α:Type}{xs:List α}{j:Nat}{v:α}(h:xs[j]?=some v):atI xs (j:Int)=some v:=by
 have hj:j<xs.length:=(BS.mp h).1;have e:ixN xs.length (j:Int)=some j:=by unfold ixN;rw[ξ (by lia),ξ (by lia)];simp
 unfold atI;rw[e];exact h
def zb(xs:List α)(v:α):atI (xs++[v]) (-1)=some v:=by
 have hl:(xs++[v]).length=xs.length+1:=by simp
 have e:ixN (xs++[v]).length (-1)=some xs.length:=by
  unfold ixN;rw[hl,ψ (by decide),ξ (by lia)];congr 1
  lia
 unfold atI;rw[e];show(xs++[v])[xs.length]?=some v;simp
def Ko(b:Expr):Prop:=∀o i,subscripted b false o i=operate [o,i] (getItem o i)
def IxR(X:Cx)(r:R2):Prop:=
 ∀(value slice:Expr)(pins:List (Addr×Obj))(s:Shared)(U:St)(H:Hp)(x y:V)(v u:Value)(Q:VK),Inv X pins U H s->RelV x v->RelV y u->r x y H Q ->
  subscripted slice false v u=operate [v,u] (getItem v u)->wpAny (model X.prog X.w) X.A (subscriptTail value slice v u) (EP X pins U Q) X.xe s
def MtR(X:Cx)(id:String)(r:V->List V->Hp->VK->Prop):Prop:=
 ∀(pins:List (Addr×Obj))(s:Shared)(U:St)(H:Hp)(x:V)(xs:List V)(v:Value)(us:List Value)(Q:VK),Inv X pins U H s->RelV x v->Vals xs us->r x xs H Q ->
  wpAny (model X.prog X.w) X.A (call (.builtin id) (v::us)) (EP X pins U Q) X.xe s
section
variable {X:Cx}{a b:Expr}{ta tb:TE}{pos:Pos}
def IxR.or(h:IxR X r)(h':IxR X r'):IxR X (fun x y H Q=>r x y H Q\/r' x y H Q):=by
 intro value slice pins s U H x y v u Q I rx ry q hs;rcases q with q |q
 . exact h value slice pins s U H x y v u Q I rx ry q hs
 . exact h' value slice pins s U H x y v u Q I rx ry q hs
def y0s(hr:IxR X r)(ha:PE X a ta)(hb:PE X b tb)(hs:Ko b):PE X (.Subscript a b pos) (tOp r ta tb):=by intro pins s U H Q I h;exact Subscript_ (Ou ha hb I h fun v u s2 x y H2 I2 rx ry q=>hr a b pins s2 U H2 x y v u Q I2 rx ry q (hs _ _))
def kh(K:Frag):R2:=fun x y H Q=>∃p xs i v,x=.ref p/\y=.int i/\SqL K H p xs/\atI xs i=some v/\Q v H
def kg(K:Frag):R2:=fun x y H Q=>∃p xs i v,x=.ref p/\y=.int i/\SqT K H p xs/\atI xs i=some v/\Q v H
def ke:R2:=fun x y H Q=>∃z i c,x=.str z/\y=.int i/\z.length<=sizeLine/\atI z.cps.toList i=some c/\Q (.str ⟨#[c]⟩) H
def ix_list:IxR X (kh X.K):=by
 intro value slice pins s U H x y v u Q I rx ry h hs;obtain⟨p,xs,i,z,rfl,rfl,hq,he,q⟩:=h;cases rx;obtain⟨t,rfl⟩:=ry;obtain⟨its,r,pl,hz⟩:=I.list hq;obtain⟨j,h1,h2,h3,h4,h5⟩:=Kq he;obtain⟨w,ew,rw'⟩:=r.get h2;have hl:=r.length;have hn:=S3;have fin:EP X pins U Q w s:=⟨z,H,I,rw',q⟩;by_cases h0:0<=i
 . have hj:i.toNat=j:=by
    rw[seqIndex_of h0 h5]at h1
    exact Option.some.inj h1
   exact item_listR pl.isList h0 (by lia) (by rw[hj];simpa using ew) fin hs
 . have hj:(i+(its.toArray.size:Int)).toNat=j:=by
    rw[seqIndex_neg (by lia) h4]at h1
    rw[mK,<-hl]
    exact Option.some.inj h1
   exact subscriptTail_builtinR (x:=w) pl.isList.typeIs slot_list_getitem.lookup
    (wpAny_getItem_list_neg (Q:=fun r s'=>r=w/\EP X pins U Q r s') pl.isList (by lia) (by rw[mK]<;>lia) (by lia) (by rw[hj];simpa using ew) ⟨rfl,fin⟩) hs
def ix_tup:IxR X (kg X.K):=by
 intro value slice pins s U H x y v u Q I rx ry h hs;obtain⟨p,xs,i,z,rfl,rfl,hq,he,q⟩:=h;cases rx;obtain⟨t,rfl⟩:=ry;obtain⟨its,r,pl,hz⟩:=I.tuple hq;obtain⟨j,h1,h2,h3,h4,h5⟩:=Kq he;obtain⟨w,ew,rw'⟩:=r.get h2;have hl:=r.length;have hn:=S3;have fin:EP X pins U Q w s:=⟨z,H,I,rw',q⟩;exact subscriptTail_builtinR (x:=w) pl.typeIs slot_tuple_getitem.lookup
  (getItem_tuple (j:=j) (Q:=fun r s'=>r=w/\EP X pins U Q r s') pl (by lia) (by lia) (by rw[mK,<-hl];exact h1) (by simpa using ew) ⟨rfl,fin⟩) hs
def vF:IxR X ke:=by
 intro value slice pins s U H x y v u Q I rx ry h hs;obtain⟨z,i,c,rfl,rfl,hz,he,q⟩:=h;obtain⟨t,rfl⟩:=rx;obtain⟨t',rfl⟩:=ry;obtain⟨j,h1,h2,h3,h4,h5⟩:=Kq he;have hl:z.cps.toList.length=z.length:=by simp[Str.length]
 rw[hl]at h1 h4 h5;have hn:=S3;exact tail_any (typeIs_str s z t) slot_str_getitem.lookup (getItem_str (c:=c) (by have e1:decide (i < -(2 ^ 63:Int))=false:=decide_eq_false (by lia);have e2:decide (i ≥ 2 ^ 63)=false:=decide_eq_false (by lia);rw[e1,e2,Bool.or_false]) (by rw[h1];simpa using h2) ⟨.str ⟨#[c]⟩,H,I.tok _,⟨_,rfl⟩,q⟩) hs
def rIx(K:Frag):R2:=fun x y H Q=>kh K x y H Q\/kg K x y H Q\/ke x y H Q
def ix_seq:IxR X (rIx X.K):=ix_list.or (ix_tup.or vF)
def zgr(its:List Value)(n j:Nat)(u:Value):Obj.mapSeq (·.setIfInBounds j u) { cls:=.type "list",data:=.seq its.toArray n }={ cls:=.type "list",data:=.seq (its.set j u).toArray n }:=by simp[Obj.mapSeq]
def Inv.lst(I:Inv X pins U H s)(h:H p=some (.lst xs)) :
  ∃(its:List Value)(n:Nat),Vals xs its/\s.heap.get? p=some { cls:=.type "list",data:=.seq its.toArray n }/\xs.length<=sizeLine:=by
 obtain⟨z,its,n,r,e⟩:=I.hok p _ h
 exact⟨its,n,r,e,z⟩
def Inv.lstUpd{pins:List (Addr×Obj)}{U:St}{H:Hp}{s:Shared}{p:Addr}{xs ys:List V}{its its':List Value}{n n':Nat}{f:Obj->Obj}(I:Inv X pins U H s)(h:H p=some (.lst xs))
  (ho:s.heap.get? p=some { cls:=.type "list",data:=.seq its.toArray n }) (hf:f { cls:=.type "list",data:=.seq its.toArray n }={ cls:=.type "list",data:=.seq its'.toArray n' }) (r:Vals ys its') (hz:ys.length<=sizeLine) (t:Nat) :
  Inv X pins U (upd H p (.lst ys)) { s with heap:=s.heap.update p f,toks:=t }:=by
 have e:(s.heap.update p f).get? p=some { cls:=.type "list",data:=.seq its'.toArray n' }:=by rw[AU f ho (by rw[hf]<;>rfl),hf]
 refine I.write (x:=p) (e:=p) (by rw[h];trivial) (.inl rfl) (fun b u hb q=>(CD _ _ (DR hb)).trans q) ⟨_,e⟩ ?_
 exact⟨hz,its',n',r,e⟩
def Qq:V->V->V->Hp->(Hp->Prop)->Prop:=fun o i v H Q=>∃p xs k j,o=.ref p/\i=.int k/\H p=some (.lst xs)/\ixN xs.length k=some j/\Q (upd H p (.lst (xs.set j v)))
def za:Fn X Qq:=by
 intro pins s U H o i v ov iv u Q I ro ri rv h;obtain⟨p,xs,k,j,rfl,rfl,hp,hj,q⟩:=h;cases ro;obtain⟨t,rfl⟩:=ri;obtain⟨its,n,r,ho,hz⟩:=I.lst hp;obtain⟨h1,h2,h3,h4⟩:=We hj;have hl:=r.length;have hn:=S3;have I':Inv X pins U (upd H p (.lst (xs.set j v))) { s with heap:=s.heap.update p (Obj.mapSeq (·.setIfInBounds j u)) }:=
  I.lstUpd hp ho (zgr its n j u) (r.set rv j) (by rw[BX];exact hz) s.toks
 by_cases h0:0<=k
 . have hk:k.toNat=j:=by
    rw[seqIndex_of h0 h4]at h1
    exact Option.some.inj h1
   exact PySem.W.ki_setAt ho h0 (by lia) (by rw[mK,<-hl];exact h4) (by rw[hk];exact⟨_,I',q⟩)
 . have hk:(k+(its.toArray.size:Int)).toNat=j:=by
    rw[seqIndex_neg (by lia) h3]at h1
    rw[mK,<-hl]
    exact Option.some.inj h1
   exact PySem.W.ki_setBack ho (by lia) (by rw[mK,<-hl];exact h3) (by lia) (by rw[hk];exact⟨_,I',q⟩)
def zch(lo hi:Option Int)(n:Nat):(sliceBounds lo hi none n).1=((HT.sIx n 0 lo:Nat):Int)/\(sliceBounds lo hi none n).2.1=((HT.sIx n n hi:Nat):Int)/\(sliceBounds lo hi none n).2.2=1:=by
 refine⟨?_,?_,rfl⟩
 . cases lo with
   |none=>simp[sliceBounds,HT.sIx]
   |some i=>
    simp only[sliceBounds,HT.sIx,Option.getD_none,show(1:Int) > 0 by decide,CI]
    by_cases h:i<0
    . simp only[h,CI]<;>lia
    . simp only[h,CT]<;>lia
 . cases hi with
   |none=>simp[sliceBounds,HT.sIx]
   |some i=>
    simp only[sliceBounds,HT.sIx,Option.getD_none,show(1:Int) > 0 by decide,CI]
    by_cases h:i<0
    . simp only[h,CI]<;>lia
    . simp only[h,CT]<;>lia
def zal(its:List Value)(lo hi:Option Int):slicePick its.toArray lo hi none=((its.drop (HT.sIx its.length 0 lo)).take (HT.sIx its.length its.length hi - HT.sIx its.length 0 lo)).toArray:=by obtain⟨h1,h2,h3⟩:=zch lo hi its.toArray.size;unfold slicePick;rw[h1,h2,h3];simp only[sliceRange_one,pick_run,mK]<;>rfl
def kd(K:Frag):V->Option Int->Option Int->Hp->VK->Prop:=fun x lo hi H Q=>∃a xs,x=.ref a/\SqL K H a xs/\∀p,H p=none->Q (.ref p) (upd H p (.lst (V2 xs lo hi)))
def Wd:SlR X (kd X.K):=by intro pins s U H x v vl vu lo hi sl Q I rx hs pl pu h;obtain⟨a,xs,rfl,hx,q⟩:=h;cases rx;obtain⟨its,r,ht,hz⟩:=I.list hx;have ag:=r.length;refine⟨"list",_,slot_list_getitem.lookup,ht.isList.typeIs,?_⟩;refine wpAny_getItem_list_slice ht.isList hs pl pu .none (by simp) ?_ (by rw[mK]<;>lia);rw[zal,<-ag];refine⟨.ref s.heap.objs.size,_,I.laid (t':=s.toks) (o:=.lst (V2 xs lo hi)) (fun b ob q=>Ψ _ q) (ζ _) ?_,rfl,q _ (I.hok.fresh (ζ _))⟩;exact⟨sg (zdy xs lo hi) hz,_,0,(r.drop (HT.sIx xs.length 0 lo)).take (HT.sIx xs.length xs.length hi - HT.sIx xs.length 0 lo),Ξ _ rfl⟩
def call_len_seq:CallR X (.builtin "len") (fun xs H Q=>∃p ys,xs=[.ref p]/\(SqL X.K H p ys\/SqT X.K H p ys)/\Q (.int ys.length) H):=by
 intro pins s U H xs us Q I r h;obtain⟨p,ys,rfl,hq,q⟩:=h;obtain⟨u,rfl,rx⟩:=C3 r;cases rx;have hn:=S3;rcases hq with hq |hq
 . obtain⟨its,r',pl,hz⟩:=I.list hq;have ag:=r'.length;exact Calls.call_len_list pl.isList (by simp only[mK]<;>lia) ⟨.int ys.length,H,I.tok _,⟨s.toks+1,by rw[mK,ag]⟩,q⟩
 . obtain⟨its,r',pl,hz⟩:=I.tuple hq;have ag:=r'.length;exact len_tuple pl (by simp only[mK]<;>lia) ⟨.int ys.length,H,I.tok _,⟨s.toks+1,by rw[mK,ag]⟩,q⟩
def zci:CallR X (.builtin "len") (fun xs H Q=>∃z,xs=[.str z]/\z.length<=sizeLine/\Q (.int z.length) H):=by intro pins s U H xs us Q I r h;obtain⟨z,rfl,hz,q⟩:=h;obtain⟨u,rfl,t,rfl⟩:=C3 r;have hn:=S3;exact len_str (by lia) ⟨.int z.length,H,I.tok _,⟨_,rfl⟩,q⟩
def CallR.or(h:CallR X f r)(h':CallR X f r'):CallR X f (fun xs H Q=>r xs H Q\/r' xs H Q):=by
 intro pins s U H xs us Q I rs q;rcases q with q |q
 . exact h pins s U H xs us Q I rs q
 . exact h' pins s U H xs us Q I rs q
def zcj:CallR X (.type "list") (fun xs H Q=>∃p ys,xs=[.ref p]/\(SqL X.K H p ys\/SqT X.K H p ys)/\∀l,H l=none->Q (.ref l) (upd H l (.lst ys))):=by
 intro pins s U H xs us Q I r h;obtain⟨p,ys,rfl,hq,q⟩:=h;obtain⟨u,rfl,rx⟩:=C3 r;cases rx;have fin:∀(its:List Value),Vals ys its->ys.length<=sizeLine->∀(h':Heap)(c':Nat),(∀b o',s.heap.get? b=some o'->h'.get? b=some o') ->
   h'.get? s.heap.objs.size=some { cls:=.type "list",dict:=none,data:=.seq its.toArray c',slots:=#[] }->EP X pins U Q (.ref s.heap.objs.size) { s with heap:=h' }:=fun its r' hz h' c' kp e=>
  ⟨.ref s.heap.objs.size,_,I.laid (t':=s.toks) kp (ζ _) (show ObjOk X.prog X.w _ h' _ (.lst ys) from⟨hz,its,c',r',e⟩),rfl,q _ (I.hok.fresh (ζ _))⟩
 rcases hq with hq |hq
 . obtain⟨its,r',pl,hz⟩:=I.list hq;have ag:=r'.length;obtain⟨o,ho,hc,n,hd⟩:=pl.isList;exact call_list_seq p (.inl rfl) ho hc hd (fun h' c' kp e=>fin its r' hz h' c' kp e) (by simp only[mK]<;>lia)
 . obtain⟨its,r',pl,hz⟩:=I.tuple hq;have ag:=r'.length;obtain⟨o,ho,hc,n,hd⟩:=pl;exact call_list_seq p (.inr rfl) ho hc hd (fun h' c' kp e=>fin its r' hz h' c' kp e) (by simp only[mK]<;>lia)
def zam:CallR X (.type "tuple") (fun xs H Q=>∃p ys,xs=[.ref p]/\((SqL X.K H p ys/\∀l,H l=none->Q (.ref l) (upd H l (.tup ys)))\/(SqT X.K H p ys/\Q (.ref p) H))):=by
 intro pins s U H xs us Q I r h;obtain⟨p,ys,rfl,h⟩:=h;obtain⟨u,rfl,rx⟩:=C3 r;cases rx;rcases h with⟨hq,q⟩ |⟨hq,q⟩
 . obtain⟨its,r',pl,hz⟩:=I.list hq;have ag:=r'.length;refine call_tuple_list pl.isList (fun h' kp=>?_) (by simp only[mK]<;>lia);have I1:Inv X pins U H { s with heap:=h' }:=I.kept (t':=s.toks) kp;have I2:Inv X pins U (upd H h'.objs.size (.tup ys)) { s with heap:=h'.push { cls:=.type "tuple",data:=.seq its.toArray } }:=
    I1.laid (t':=s.toks) (fun b o e=>Ψ _ e) (ζ _) (show ObjOk X.prog X.w _ _ _ (.tup ys) from⟨hz,its,r',.mk' (Ξ _ rfl)⟩)
   exact⟨.ref h'.objs.size,_,I2,rfl,q _ (I1.hok.fresh (ζ _))⟩
 . obtain⟨its,r',pl,hz⟩:=I.tuple hq;exact call_tuple_same pl ⟨.ref p,H,I,rfl,q⟩
def tyV(K:Frag)(T:String)(x:V)(H:Hp):Prop:=match x with
 | .str _=>T="str"
 | .int _=>T="int"
 | .ref p=>(T="list"/\∃xs,SqL K H p xs)\/(T="tuple"/\∃o,K.lookup p=some o/\o.cls=.type "tuple"/\o.dict=none) \/
  (T="dict"/\((∃kvs,H p=some (.dK kvs))\/∃kvs,H p=some (.dT kvs)))\/(T="set"/\∃S n,H p=some (.set S n))
 |_=>False
def vE(I:Inv X pins U H s)(r:RelV x v)(ty:tyV X.K T x H) :
  s.TypeIs v T/\∀a,v=.ref a->∃ob,s.heap.get? a=some ob/\ob.dict=none:=by
 cases x with
 |str z=>
  obtain⟨t,rfl⟩:=r
  cases (show T="str" from ty)
  exact⟨typeIs_str s z t,fun _ e=>nomatch e⟩
 |int i=>
  obtain⟨t,rfl⟩:=r
  cases (show T="int" from ty)
  exact⟨typeIs_int s i t,fun _ e=>nomatch e⟩
 |ref p=>
  cases r
  rcases ty with⟨rfl,xs,hq⟩ |⟨rfl,o,hk,hc,hd⟩ |⟨rfl,hk⟩ |⟨rfl,S,n,hk⟩
  . obtain⟨its,_,pl,_⟩:=I.list hq;refine⟨pl.isList.typeIs,fun a e=>?_⟩;cases e;obtain⟨o,n,e,c,hd,_⟩:=pl;exact⟨o,e,hd⟩
  . refine⟨⟨o,I.kIn p o hk,hc⟩,fun a e=>?_⟩;cases e;exact⟨o,I.kIn _ o hk,hd⟩
  . have z:∃o,s.heap.get? p=some o/\o.ExactDict:=by
     rcases hk with⟨kvs,hk⟩ |⟨kvs,hk⟩
     . obtain⟨_,_,_,_,o,_,_,e,ex,_⟩:=I.hok p _ hk;exact⟨o,e,ex⟩
     . obtain⟨_,_,_,_,o,_,_,e,ex,_⟩:=I.hok p _ hk;exact⟨o,e,ex⟩
    obtain⟨o,e,ex⟩:=z
    refine⟨⟨o,e,ex.1⟩,fun a e2=>?_⟩
    cases e2
    exact⟨o,e,ex.2.1⟩
  . obtain⟨o,_,_,_,e,ex,_⟩:=I.hok p _ hk;refine⟨⟨o,e,ex.1⟩,fun a e2=>?_⟩;cases e2;exact⟨o,e,ex.2.1⟩
 |_=>exact False.elim ty
noncomputable def tBM(K:Frag)(T:String)(r:V->List V->Hp->VK->Prop)(to:TE)(t:TA):TE:=fun U H Q=>to U H fun x H1=>tyV K T x H1/\t U H1 fun xs H2=>r x xs H2 Q
variable {o e:Expr}{es:List Expr}{to:TE}{t:TA}{name:Str}{apos cpos:Pos}{T id:String}{r:V->List V->Hp->VK->Prop}
def Qp(pa:PlainAttrs T)(slot:Slot T name id)(eJ:typeOf (.builtin id)=pure (.type "method_descriptor"))(hm:MtR X id r)(ho:PE X o to)(ha:PA X (e::es) t)
  (az:attributeBase o name X.env (eval o X.env)=eval o X.env)
  (bW:((backTo cpos (starEach (e::es) X.env)).all (fun x=>!x.1)&&(backToKw cpos (keywordEach [] X.env)).all (fun x=>x.1.isSome)
   && decide ((e::es).length+([]:List Keyword).length+(if([]:List Keyword).isEmpty then 0 else 1)<30))=true)
  (aS:(apos.endLine==cpos.line)=true) (hs:starEach (e::es) X.env=(false,eval e X.env)::starEach es X.env) (bb:(backTo cpos (starEach es X.env)).any (·.1)=false) :
  PE X (.Call (.Attribute o name apos) (e::es) [] cpos) (tBM X.K T r to t):=by
 intro pins s U H Q I h
 refine wpAny_Call_method_late az bW aS rfl (thn (ho pins s U H _ I h) fun v s1 ⟨x,H1,I1,r1,ty,q1⟩=>?_)
 obtain⟨h1,h2⟩:=vE I1 r1 ty
 refine⟨T,id,pa,slot,eJ,h1,h2,?_⟩
 have hA:=ha cpos pins s1 U H1 _ I1 q1
 rw[hs]at hA⊢
 refine FV (by show(false||(backTo cpos (starEach es X.env)).any (·.1))=false;rw[bb]<;>rfl) (GG ?_)
 exact thn hA fun us s2 ⟨vs,H2,I2,r2,q2⟩=>hm pins s2 U H2 x vs v us Q I2 r1 r2 q2
end
def MtM(X:Cx)(id:String)(r:V->List V->Hp->VK->Prop):Prop:=
 ∀(pins:List (Addr×Obj))(s:Shared)(U:St)(H:Hp)(x:V)(xs:List V)(v:Value)(us:List Value)(Q:VK),Inv X pins U H s->RelV x v->Vals xs us->r x xs H Q ->
  wpAny (model X.prog X.w) X.A (call (.builtin id) (v::us)) (EP X pins U Q) X.xe s
theorem Vals.one:∀{x:V}{us:List Value},Vals [x] us->∃u,us=[u]/\RelV x u
 |_,_,.cons r .nil=>⟨_,rfl,r⟩
theorem Vals.two:∀{x y:V}{us:List Value},Vals [x,y] us->∃u v,us=[u,v]/\RelV x u/\RelV y v
 |_,_,_,.cons r (.cons q .nil)=>⟨_,_,rfl,r,q⟩
section
variable {X:Cx}{pins:List (Addr×Obj)}{U:St}{H:Hp}{s:Shared}{l:Addr}{xs ys:List V}
def Inv.lset{its its':List Value}{n:Nat}{f:Array Value->Array Value}{t':Nat}(I:Inv X pins U H s)(hH:H l=some (.lst xs))
  (e:s.heap.get? l=some { cls:=.type "list",data:=.seq its.toArray n }) (hf:f its.toArray=its'.toArray) (hv:Vals ys its') (hz:ys.length<=sizeLine) :
  Inv X pins U (upd H l (.lst ys)) { s with heap:=s.heap.update l (Obj.mapSeq f),toks:=t' }:=by
 have q:=PySem.IsL.update e f
 rw[hf]at q
 refine I.write (x:=l) (e:=l) (by rw[hH];exact trivial) (.inl rfl) (fun b' u hb hu=>(CD s.heap (Obj.mapSeq f) (DR hb)).trans hu) ⟨_,q⟩ ?_
 exact⟨hz,its',_,hv,q⟩
def Inv.lnew(I:Inv X pins U H s)(hv:Vals ys its)(hz:ys.length<=sizeLine) :
  Inv X pins U (upd H s.heap.objs.size (.lst ys)) { s with heap:=s.heap.push { cls:=.type "list",data:=.seq its.toArray },toks:=t' }:=
 I.laid (fun _ _ q=>Ψ _ q) (ζ _) ⟨hz,its,0,hv,Ξ _ rfl⟩
def Inv.fresh(I:Inv X pins U H s):H s.heap.objs.size=none:=I.hok.fresh (ζ _)
def Inv.lstM(I:Inv X pins U H s)(hH:H l=some (.lst xs)):xs.length<=sizeLine/\∃(its:List Value)(n:Nat),Vals xs its/\xs.length=its.length/\s.heap.get? l=some { cls:=.type "list",data:=.seq its.toArray n }:=by obtain⟨z,its,n,r,e⟩:=I.hok l _ hH;exact⟨z,its,n,r,r.length,e⟩
def yZ(h:n<=sizeLine):Builtin.List.listTooLong n=false:=by unfold Builtin.List.listTooLong;exact decide_eq_false (by lia)
end
section
variable {X:Cx}
def Wc:V->List V->Hp->VK->Prop:=fun x vs H Q=>∃l xs y,x=.ref l/\vs=[y]/\H l=some (.lst xs)/\xs.length<sizeLine/\Q .non (upd H l (.lst (xs++[y])))
def Br:MtM X "list.append" Wc:=by
 intro pins s U H x vs v us Q I rx rv h;obtain⟨l,xs,y,rfl,rfl,hH,hz,q⟩:=h;cases rx;obtain⟨u,rfl,ru⟩:=rv.one;obtain⟨z,its,n,r,hl,e⟩:=I.lstM hH;refine call_meets F.slot_list_append ⟨_,e,rfl⟩ F.entry_list_append (F.args_list_append_2 _ _) (PySem.list_append l its.toArray n u (by rw[mK];lia)) ⟨e,?_⟩;refine⟨.non,_,I.lset (its':=its++[u]) hH e (by simp) (r.append (.cons ru .nil)) ?_,rfl,q⟩;rw[θ,EQ]
 lia
def Wb:V->List V->Hp->VK->Prop:=fun x vs H Q=>∃l b xs zs,x=.ref l/\vs=[.ref b]/\H l=some (.lst xs)/\H b=some (.lst zs)/\xs.length+zs.length<=sizeLine/\Q .non (upd H l (.lst (xs++zs)))
def zih:MtM X "list.extend" Wb:=by
 intro pins s U H x vs v us Q I rx rv h;obtain⟨l,b,xs,zs,rfl,rfl,hH,hB,hz,q⟩:=h;cases rx;obtain⟨u,rfl,ru⟩:=rv.one;cases ru;obtain⟨z,its,n,r,hl,e⟩:=I.lstM hH;obtain⟨z2,ao,n2,r2,fY,e2⟩:=I.lstM hB;have hsz:its.toArray.size+ao.toArray.size<=sizeLine:=by rw[mK,mK];lia
 have lh:¬(!its.toArray.isEmpty&&Builtin.List.listTooLong (its.toArray.size+ao.toArray.size))=true:=by rw[yZ hsz,Bool.and_false];exact η
 refine call_meets F.slot_list_extend ⟨_,e,rfl⟩ F.entry_list_extend (F.args_list_extend_2 _ _)
  (AutoSeq1.list_extend_list_list_0 l its.toArray n b ao.toArray n2 lh (by rw[mK];lia) (by lia)) ⟨e,e2,?_⟩
 refine⟨.non,_,I.lset (its':=its++ao) hH e (by simp) (r.append r2) ?_,rfl,q⟩;rw[θ]
 lia
def kc:R2:=fun x y H Q=>∃l b xs zs,x=.ref l/\y=.ref b/\H l=some (.lst xs)/\H b=some (.lst zs)/\xs.length+zs.length<=sizeLine/\∀p,H p=none->Q (.ref p) (upd H p (.lst (xs++zs)))
def Dg:OpR X (binaryOp .Add) kc:=by
 intro pins s U H x y v u Q I rx ry h;obtain⟨l,b,xs,zs,rfl,rfl,hH,hB,hz,q⟩:=h;cases rx;cases ry;obtain⟨z,its,n,r,hl,e⟩:=I.lstM hH;obtain⟨z2,ao,n2,r2,fY,e2⟩:=I.lstM hB;refine PySem.P.add_list e e2 ?_ (by rw[mK,mK];omega);have ea:its.toArray++ao.toArray=(its++ao).toArray:=by simp
 rw[ea];exact⟨.ref _,_,I.lnew (t':=s.toks) (r.append r2) (by rw[θ];omega),rfl,q _ I.fresh⟩
end
section
variable {κ:Type}[DecidableEq κ]
noncomputable def w8(kvs:List (κ×V))(k:κ):Option V:=(kvs.find? fun kv=>decide (kv.1=k)).map (·.2)
noncomputable def y0(kvs:List (κ×V))(k:κ)(v:V):List (κ×V):=
 if(kvs.any fun kv=>decide (kv.1=k))=true then kvs.map (fun kv=>if kv.1=k then(kv.1,v) else kv) else kvs++[(k,v)]
def Lo{p:κ×V}{r:List (κ×V)}{k:κ}(e:p.1=k):w8 (p::r) k=some p.2:=by simp[w8,EN,e]
def Ln{p:κ×V}{r:List (κ×V)}{k:κ}(e:¬p.1=k):w8 (p::r) k=w8 r k:=by simp[w8,EN,e]
theorem Xd(k:κ):∀kvs:List (κ×V),(kvs.any fun kv=>decide (kv.1=k))=(w8 kvs k).isSome
 | []=>rfl
 |p::r=>by
  rw[FS];by_cases e:p.1=k
  . simp only[Lo e,decide_eq_true e,Bool.true_or,Option.isSome_some]
  . rw[Ln e,decide_eq_false e,Bool.false_or];exact Xd k r
def Zj(kvs:List (κ×V))(k:κ)(v:V):(y0 kvs k v).length<=kvs.length+1:=by
 unfold y0;split
 . rw[bI];lia
 . rw[θ,io,DL];lia
def RelO.isSome_eq(r:RelO o u):o.isSome=u.isSome:=by
 cases o with
 |none=>cases u with
  |none=>rfl
  |some _=>exact(show False from r).elim
 |some _=>cases u with
  |none=>exact(show False from r).elim
  |some _=>rfl
def KV.val(r:KV kvs vs)(k:κ):RelO (w8 kvs k) (valueAt vs k):=by
 unfold KV at r;induction r with
 |nil=>exact True.intro
 | @cons p q ps qs h t ih=>
  obtain⟨h1,h2⟩:=h
  by_cases e:p.1=k
  . have e':q.1=k:=h1.symm.trans e;have b:valueAt (q::qs) k=some q.2:=by simp[valueAt,EN,e']
    rw[Lo e,b];exact h2
  . have e':¬q.1=k:=fun z=>e (h1.trans z)
    have b:valueAt (q::qs) k=valueAt qs k:=by simp[valueAt,EN,e']
    rw[Ln e,b];exact ih
def KV.any(r:KV kvs vs)(k:κ):(kvs.any fun kv=>decide (kv.1=k))=vs.any fun kv=>decide (kv.1=k):=by
 unfold KV at r;induction r with
 |nil=>rfl
 |cons h t ih=>rw[FS,FS,ih,h.1]
def KV.repl(r:KV kvs vs)(k:κ)(ry:RelV y u) :
  KV (kvs.map fun kv=>if kv.1=k then(kv.1,y) else kv) (vs.map fun kv=>if kv.1=k then(kv.1,u) else kv):=by
 unfold KV at r⊢
 induction r with
 |nil=>exact .nil
 | @cons p q ps qs h t ih=>
  rw[dg,dg]
  refine .cons ?_ ih
  obtain⟨h1,h2⟩:=h
  by_cases e:p.1=k
  . rw[ξ e,ξ (h1.symm.trans e)];exact⟨h1,ry⟩
  . rw[ψ e,ψ (fun z=>e (h1.trans z))];exact⟨h1,h2⟩
def KV.put(r:KV kvs vs)(k:κ)(ry:RelV y u):KV (y0 kvs k y) (stored vs k u):=by
 unfold y0 stored;rw[r.any k];by_cases e:(vs.any fun kv=>decide (kv.1=k))=true
 . rw[ξ e,ξ e];exact r.repl k ry
 . rw[ψ e,ψ e];exact Paired.snoc r ⟨rfl,ry⟩
def KV.length(r:KV kvs vs):kvs.length=vs.length:=Paired.length r
end
def Aj(r:RelV (kV k) u):(z9 P w).is k u=true:=by
 cases k with
 |inl i=>obtain⟨t,e⟩:=(show ∃t,u=Value.int i t from r);subst e;exact zdu P w i t
 |inr x=>obtain⟨t,e⟩:=(show ∃t,u=Value.str x t from r);subst e;exact zdv P w x t
theorem Yc:∀{ks:List Key}{us:List Value},Vals (ks.map kV) us->ItemsAre (z9 P w) ks us
 | [],_,r=>by rw[CB]at r;cases r;exact .nil
 |k::ks,_,r=>by
  rw[dg]at r;cases r with
  |cons h t=>exact .cons (Aj h) (Yc t)
abbrev KT(H:Hp):List (List Key×V)->List (List Key×Addr×Value)->Prop:=Paired fun p q=>p.1=q.1/\H q.2.1=some (.tup (p.1.map kV))/\RelV p.2 q.2.2
def KT.val(r:KT H kvs xs)(k:List Key):RelO (w8 kvs k) ((atKey xs k).map (·.2)):=by
 induction r with
 |nil=>exact True.intro
 | @cons p q ps qs h t ih=>
  obtain⟨h1,_,h2⟩:=h
  by_cases e:p.1=k
  . have e':q.1=k:=h1.symm.trans e;have b:atKey (q::qs) k=some q.2:=by simp[atKey,EN,e']
    rw[Lo e,b];exact h2
  . have e':¬q.1=k:=fun z=>e (h1.trans z)
    have b:atKey (q::qs) k=atKey qs k:=by simp[atKey,EN,e']
    rw[Ln e,b];exact ih
def KT.repl(r:KT H kvs xs)(k:List Key)(ry:RelV y u) :
  KT H (kvs.map fun kv=>if kv.1=k then(kv.1,y) else kv) (xs.map (putAt k u)):=by
 induction r with
 |nil=>exact .nil
 | @cons p q ps qs h t ih=>
  rw[dg,dg]
  refine .cons ?_ ih
  obtain⟨h1,h2,h3⟩:=h
  unfold putAt
  by_cases e:p.1=k
  . rw[ξ e,ξ (h1.symm.trans e)];exact⟨h1,h2,ry⟩
  . rw[ψ e,ψ (fun z=>e (h1.trans z))];exact⟨h1,h2,h3⟩
def KT.put(r:KT H kvs xs)(k:List Key)(hb:H b=some (.tup (k.map kV)))(ry:RelV y u) :
  KT H (y0 kvs k y) (storedH xs k b u):=by
 have e:(kvs.any fun kv=>decide (kv.1=k))=(atKey xs k).isSome:=by rw[Xd,(r.val k).isSome_eq,GN]
 unfold y0 storedH
 rw[e]
 by_cases q:(atKey xs k).isSome=true
 . rw[ξ q,ξ q];exact r.repl k ry
 . rw[ψ q,ψ q];exact Paired.snoc r ⟨rfl,hb,ry⟩
def KT.keeps(r:KT H kvs xs)(ht:∀b ys,H b=some (.tup ys)->H' b=some (.tup ys)):KT H' kvs xs:=
 Paired.mapP r fun _ _ z=>⟨z.1,ht _ _ z.2.1,z.2.2⟩
section
variable {P:Program}{w:World}{H:Hp}{h:Heap}{a:Addr}
def Qo(ok:HOk P w H h)(e:Rd H a u):ObjOk P w H h a u:=e.ok ok
def W6(ok:HOk P w H h)(e:Rd H a (.dK kvs)):kvs.length<=sizeLine/\(a==sysModules)=false/\∃vs,KV kvs vs/\h.DictOf (z9 P w) a vs:=
 show ObjOk P w H h a (.dK kvs) from Qo ok e
def y0t(ok:HOk P w H h)(e:H a=some (.dK kvs)):kvs.length<=sizeLine/\(a==sysModules)=false/\∃vs,KV kvs vs/\h.DictOf (z9 P w) a vs:=W6 ok (.inl e)
def Au(ok:HOk P w H h)(e:H a=some (.tup (ks.map kV))):(tupleKind (z9 P w)).is h ks a:=by obtain⟨_,its,r,o,h1,h2,⟨n,h3⟩,_⟩:=(show ObjOk P w H h a (.tup (ks.map kV)) from ok a _ e);exact⟨o,its.toArray,n,h1,h2,h3,by simpa using Yc r⟩
def Ai(ok:HOk P w H h)(e:Rd H a (.dT kvs)):kvs.length<=sizeLine/\(a==sysModules)=false /\
  ∃xs,KT H kvs xs/\h.DictOfH (tupleKind (z9 P w)) a xs:=by
 obtain⟨z,y,xs,r,o,es,ep,h1,h2,h3,h4,h5⟩:=(show ObjOk P w H h a (.dT kvs) from Qo ok e)
 refine⟨z,y,xs,r,o,es,ep,h1,h2,h3,h4,fun x hx=>?_,h5⟩
 have all:∀{l:List (List Key×V)}{m:List (List Key×Addr×Value)},KT H l m->∀x∈m,(tupleKind (z9 P w)).is h x.1 x.2.1:=by
  intro l m q;induction q with
  |nil=>intro x hx;exact nomatch hx
  | @cons p q ps qs hq t ih=>
   intro x hx
   rcases ee.mp hx with e |hx
   . subst e;exact Au ok (by rw[<-hq.1];exact hq.2.1)
   . exact ih x hx
 exact all r x hx
def y0u(ok:HOk P w H h)(e:H a=some (.dT kvs)):kvs.length<=sizeLine/\(a==sysModules)=false /\
 ∃xs,KT H kvs xs/\h.DictOfH (tupleKind (z9 P w)) a xs:=Ai ok (.inl e)
end
def DGet(H:Hp)(a:Addr)(y:V)(r:Option V):Prop:=
 (∃kvs k,Rd H a (.dK kvs)/\y=kV k/\r=w8 kvs k)\/∃kvs k b,Rd H a (.dT kvs)/\y=.ref b/\H b=some (.tup (k.map kV))/\r=w8 kvs k
def DPut(H:Hp)(a:Addr)(y v:V)(H':Hp):Prop:=
 (∃kvs k,H a=some (.dK kvs)/\y=kV k/\kvs.length<sizeLine/\H'=upd H a (.dK (y0 kvs k v))) \/
 ∃kvs k b,H a=some (.dT kvs)/\y=.ref b/\H b=some (.tup (k.map kV))/\kvs.length<sizeLine/\H'=upd H a (.dT (y0 kvs k v))
def DGet.k{H:Hp}{a:Addr}{kvs:List (Key×V)}{k:Key}(e:H a=some (.dK kvs)):DGet H a (kV k) (w8 kvs k):=.inl ⟨kvs,k,.inl e,rfl,rfl⟩
def DGet.t{H:Hp}{a b:Addr}{kvs:List (List Key×V)}{k:List Key}(e:H a=some (.dT kvs))(eb:H b=some (.tup (k.map kV))):DGet H a (.ref b) (w8 kvs k):=.inr ⟨kvs,k,b,.inl e,rfl,eb,rfl⟩
def DPut.k{H:Hp}{a:Addr}{kvs:List (Key×V)}{k:Key}{v:V}(e:H a=some (.dK kvs))(hl:kvs.length<sizeLine):DPut H a (kV k) v (upd H a (.dK (y0 kvs k v))):=.inl ⟨kvs,k,e,rfl,hl,rfl⟩
def DPut.t{H:Hp}{a b:Addr}{kvs:List (List Key×V)}{k:List Key}{v:V}(e:H a=some (.dT kvs))(eb:H b=some (.tup (k.map kV)))(hl:kvs.length<sizeLine) :
 DPut H a (.ref b) v (upd H a (.dT (y0 kvs k v))):=.inr ⟨kvs,k,b,e,rfl,eb,hl,rfl⟩
section
variable {X:Cx}{pins:List (Addr×Obj)}{U:St}{H:Hp}{s:Shared}{a:Addr}{y v:V}{u r:Value}{o:Option V}{A:Around}{E:Value->Shared->Prop}
def Inv.big(I:Inv X pins U H s):sysModules<s.heap.objs.size:=by have h:mainGlobals<s.heap.objs.size:=(I.mod.glob.keeps I.bk).lt;exact Nat.lt_trans (by decide) h
def zZ(hu:A.units+1<cLine)(I:Inv X pins U H s)(g:DGet H a y (some v))(ry:RelV y u)(h:∀w' s',Inv X pins U H s'->RelV v w'->Q w' s') :
  wpAny (model X.prog X.w) A (getItem (.ref a) u) Q E s:=by
 rcases g with⟨kvs,k,e,ey,l⟩ |⟨kvs,k,b,e,ey,eb,l⟩
 . subst ey;obtain⟨z,hd,vs,rel,dd⟩:=W6 I.hok e;obtain⟨w',hw,rw'⟩:=RelO.some_of (v:=v) (o:=valueAt vs k) (by rw[l];exact rel.val k);exact wpAny_getItem_of (Aj ry) dd.mapOf hw (h w' _ (I.tok _) rw')
 . subst ey;cases (show u=Value.ref b from ry);obtain⟨z,hd,xs,rel,dd⟩:=Ai I.hok e;obtain⟨w',hw,rw'⟩:=RelO.some_of (v:=v) (o:=(atKey xs k).map (·.2)) (by rw[l];exact rel.val k);obtain⟨p,hp,lv⟩:=EJ.mp hw;refine wpAny_getItem_heap (tupleKind_room_in1 hu) (Au I.hok eb) dd hp ?_;rw[lv];exact h w' _ (I.tok _) rw'
def y4x(hu:A.units+1<cLine)(I:Inv X pins U H s)(g:DGet H a y o)(ry:RelV y u)(h:∀s',Inv X pins U H s'->Q (.bool o.isSome) s') :
  wpAny (model X.prog X.w) A (compareOp .In u (.ref a)) Q E s:=by
 rcases g with⟨kvs,k,e,ey,l⟩ |⟨kvs,k,b,e,ey,eb,l⟩
 . subst ey;obtain⟨z,hd,vs,rel,dd⟩:=W6 I.hok e;refine wpAny_in_of (Aj ry) hd dd.mapOf ?_;rw[<-(rel.val k).isSome_eq,<-l];exact h _ (I.tok _)
 . subst ey;cases (show u=Value.ref b from ry);obtain⟨z,hd,xs,rel,dd⟩:=Ai I.hok e;refine wpAny_in_heap (tupleKind_room_in1 hu) (Au I.hok eb) hd dd ?_;have q:=(rel.val k).isSome_eq;rw[GN]at q;rw[<-q,<-l];exact h _ (I.tok _)
def xM(hu:A.units+1<cLine)(I:Inv X pins U H s)(g:DGet H a y o)(ry:RelV y u)(h:∀s',Inv X pins U H s'->Q (.bool (!o.isSome)) s') :
  wpAny (model X.prog X.w) A (compareOp .NotIn u (.ref a)) Q E s:=by
 rcases g with⟨kvs,k,e,ey,l⟩ |⟨kvs,k,b,e,ey,eb,l⟩
 . subst ey;obtain⟨z,hd,vs,rel,dd⟩:=W6 I.hok e;refine wpAny_notIn_of (Aj ry) hd dd.mapOf ?_;rw[<-(rel.val k).isSome_eq,<-l];exact h _ (I.tok _)
 . subst ey;cases (show u=Value.ref b from ry);obtain⟨z,hd,xs,rel,dd⟩:=Ai I.hok e;refine wpAny_notIn_heap (tupleKind_room_in1 hu) (Au I.hok eb) hd dd ?_;have q:=(rel.val k).isSome_eq;rw[GN]at q;rw[<-q,<-l];exact h _ (I.tok _)
def Kn(I:Inv X pins U H s)(mu:Mut (H a))(hs:Heap.SameBut a s.heap h')(he:∃q,h'.get? a=some q)(new:ObjOk X.prog X.w (upd H a ob) h' a ob) :
  Inv X pins U (upd H a ob) { s with heap:=h',toks:=t' }:=
 I.write (x:=a) (e:=a) mu (.inl rfl) (fun b q hb z=>(hs.2 b hb).trans z) he new
def vD(z:kvs.length<=sizeLine)(hd:(a==sysModules)=false)(rel:KV kvs vs)(dd:h'.DictOf (z9 P w) a vs) :
 ObjOk P w H' h' a (.dK kvs):=⟨z,hd,vs,rel,dd⟩
def zY(hu:A.units+1<cLine)(I:Inv X pins U H s)(g:DPut H a y v H')(ry:RelV y u)(rv:RelV v r)(h:∀s',Inv X pins U H' s'->Q () s') :
  wpAny (model X.prog X.w) A (setItem (.ref a) u r) Q E s:=by
 rcases g with⟨kvs,k,e,ey,l,eH⟩ |⟨kvs,k,b,e,ey,eb,l,eH⟩
 . subst ey eH;obtain⟨z,hd,vs,rel,dd⟩:=y0t I.hok e;have hz:vs.length<=sizeLine:=by rw[<-rel.length];exact z
   have hl:(y0 kvs k v).length<=sizeLine:=by have:=Zj kvs k v;lia
   refine wpAny_setItem_pairs (hsz:=hz) (Aj ry) dd fun h' eK hs=>h _ ?_
   have he:∃q,h'.get? a=some q:=let ⟨q,_,_,hq,_⟩:=eK;⟨q,hq⟩
   exact Kn I (by rw[e];exact True.intro) hs he (vD hl hd (rel.put k rv) eK)
 . subst ey eH;cases (show u=Value.ref b from ry);obtain⟨z,hd,xs,rel,dd⟩:=y0u I.hok e;have hz:xs.length<=sizeLine:=by rw[<-Paired.length rel];exact z
   have hl:(y0 kvs k v).length<=sizeLine:=by have:=Zj kvs k v;lia
   refine wpAny_setItem_heap (hsz:=hz) (tupleKind_room_in1 hu) (Au I.hok eb) dd fun h' eK hs=>h _ ?_
   obtain⟨q,es,ep,hq,h2,h3,h4,_,h5⟩:=eK;refine Kn I (by rw[e];exact True.intro) hs ⟨q,hq⟩ ⟨hl,hd,_,(rel.put k eb rv).keeps fun c ys ec=>?_,q,es,ep,hq,h2,h3,h4,h5⟩;rw[d9 (y0f ec e (fun z=>nomatch z))];exact ec
end
section
variable {X:Cx}{pins:List (Addr×Obj)}{U:St}{H:Hp}{s:Shared}{a:Addr}{kvs:List (Key×V)}{A:Around}{E:Value->Shared->Prop}
def y0v(I:Inv X pins U H s)(e:Rd H a (.dK kvs))(h:∀t s',Inv X pins U H s'->Q (.int kvs.length t) s'):wpAny (model X.prog X.w) A (call (.builtin "len") [.ref a]) Q E s:=by obtain⟨z,hd,vs,rel,dd⟩:=W6 I.hok e;refine call_len_dict hd dd (by rw[<-rel.length];rw[GF]at z;lia) ?_;rw[<-rel.length];exact h _ _ (I.tok _)
end
def ze4(I:Inv X pins U H s)(g:DGet H a y o):s.TypeIs (.ref a) "dict":=by
 rcases g with⟨kvs,k,e,_,_⟩ |⟨kvs,k,b,e,_,_,_⟩
 . obtain⟨_,_,vs,_,dd⟩:=W6 I.hok e;exact dd.typeIs
 . obtain⟨_,_,xs,_,dd⟩:=Ai I.hok e;exact dd.typeIs
structure M2(X:Cx)(o:Expr)(m:Str)(apos:Pos)(e f:Expr)(cpos:Pos):Prop where
 base:attributeBase o m X.env (eval o X.env)=eval o X.env
 few:((backTo cpos (starEach [e,f] X.env)).all (fun x=>!x.1)&&(backToKw cpos (keywordEach [] X.env)).all (fun x=>x.1.isSome)
  && decide (([e,f]:List Expr).length+([]:List Keyword).length+(if([]:List Keyword).isEmpty then 0 else 1)<30))=true
 line:(apos.endLine==cpos.line)=true
 trees:backTo cpos (starEach [e,f] X.env)=[(false,eval e X.env),(false,eval f X.env)]
end L2
namespace Att
open PySem PySem.W PySem.Calls PyProof.Rows
def z8f:∀(ns:List Int)(vs:List Value),WellAll P h vs (ns.map WData.int)->IntsAre vs ns:=by
 intro ns;induction ns with
 |nil=>
  intro vs w
  rw[CB]at w
  cases w
  exact .nil
 |cons n ns ih=>
  intro vs w
  rw[dg]at w
  cases w with
  |cons a b=>
   cases a
   exact .cons _ _ (ih _ b)
def zX{l:OpenLaw}{n:Nat}(hn:l.most=some n){P:Params}{h:Heap}{args:List WData}{am:List Value}
  (fj:l.row.toRowW.claim.pre args=true) (lw:WellAll P h am args) :
  ∃a vs ns,am=[Value.ref a]/\args=[WData.list (ns.map WData.int)]/\h.get? a=some { cls:=.type "list",data:=.seq vs.toArray }/\IntsAre vs ns/\ns.length<=n:=by
 have pJ:WShape.hasAll [] args [.list .int]=true:=(pre_splitW fj).1
 have hc:l.pre.holds [] { args:=args }=true:=(pre_splitW fj).2
 obtain⟨d,r,rfl,h1,h2⟩:=hasAllW_cons pJ
 obtain rfl:=hasAllW_nil h2
 obtain⟨xs,rfl,h3⟩:=hasW_list h1
 obtain⟨ns,rfl⟩:=items_int h3
 have ag:ns.length<=n:=by
  unfold OpenLaw.pre at hc;have h4:(WTm.not (.lt (.lit (.int (n:Int))) (.len (.arg 0)))).holds [] { args:=[.list (ns.map .int)] }=true:=by have h4:=(holds_andW hc).1;rw[hn]at h4;exact h4
  have h5:=condW_of h4 (w_not (w_lt w_lit (w_len_list (w_arg rfl))));rw[bI]at h5;refine Nat.le_of_not_lt fun q=>?_
  have q':(n:Int)<((ns.length:Nat):Int):=by omega
  first
   | (rw[decide_eq_true q']at h5;exact absurd h5 (by decide))
   | (simp at h5;omega)
 cases lw with
 |cons w1 w2=>
  cases w2
  cases w1 with
  |list ho fN=>exact⟨_,_,ns,rfl,rfl,ho,z8f ns _ fN,ag⟩
def zW(l:OpenLaw)(args:List WData):l.row.toRowW.claim.post args (.bool true) args=true:=
 postW_of (r:=l.row.toRowW) (X:=(true==true))
  (show WShape.has [] (.bool true) .bool=true by first |rfl |decide |simp[WShape.has,WShape.arms,WShape.armsAll])
  (show(WTm.eq .res (.lit (.bool true))).value [] { args:=args,res:=some (.bool true),after:=args }=some (.bool (true==true)) from w_eq_bool (w_res rfl) w_lit) rfl
def attach_call{l:OpenLaw}{n:Nat}{q:Program}{loose:List Str}{XP:(Str->Option Value)->Heap->Prop}{YP:World->Heap->Prop}{d:DefRec}
  (hn:l.most=some n) (fZ:d.params.defaults=[])
  (call:∀(w:World)(s₀ ae:Shared)(mg mb:Str->Option Value)(fa:Addr)(o:Obj)(pm cd doc:Value)(a:Addr)(vs:List Value)(ns:List Int),
   Ground q loose [] XP w s₀ mg mb ae.heap->YP w ae.heap ->
   ae.heap.get? fa=some o->o.data=.func (docDef d.name d.params d.body d.scope pm cd doc)->ae.heap.CodeRec cd d.name->mg d.name=some (.ref fa) ->
   ae.heap.get? a=some { cls:=.type "list",data:=.seq vs.toArray }->IntsAre vs ns->ns.length<=n->ae.gens=#[] ->
   codeAny (model l.prog w) callerA (.call (.ref fa) ⟨[.ref a],[]⟩) (fun r s'=>r=.ok (.ret (.bool true))/\OldK ae.heap s'.heap/\s'.os=ae.os/\AllBare s'.gens) ae) :
  WalkO q loose XP YP l.row.toRowW d [] (fun f vs=>PySem.call f vs):=by
 intro w s₀ ae mg mb G Y fa o pm cd doc dV kV ho hd bN hD bU hg args am as fj uC uJ lw uK
 obtain rfl:dV=.none:=Dflts.none hD fZ
 obtain rfl:kV=.none:=Dflts.noKw hD
 obtain⟨a,vs,ns,rfl,rfl,fP,eB,ag⟩:=zX hn fj lw
 refine enter_call (codeAny_mono (call w s₀ ae mg mb fa o pm cd doc a vs ns G Y ho (fd_plain hd) bN bU fP eB ag hg) fun r s' hq=>?_)
 obtain⟨rfl,h2,h3,h4⟩:=hq
 exact⟨.inl ⟨.bool true,.bool true,[],rfl,fun _=>rfl,.bool true,zW l _,fun _=>⟨List.Pairwise.nil,fun _ hm=>(nomatch hm)⟩⟩,h2,h3,h4⟩
section
def noObjs(h:Heap):Heap:={ h with objs:=#[] }
def noObjs_get(h:Heap)(b:Addr):(noObjs h).get? b=none:=by
 cases e:(noObjs h).get? b with
 |none=>rfl
 |some o=>exact absurd (Heap.lt_size e) (Nat.not_lt_zero _)
def fr_all(n:h.Ns L m):Fr (noObjs h) L h m:=
 ⟨n,fun b o e=>(by rw[noObjs_get]at e;cases e),BQ _⟩
end
end Att
namespace L2
open PySem PySem.Spec PyProof.Rows
theorem Yb:∀{vs:List Value}{ns:List Int},IntsAre vs ns->Vals (ns.map V.int) vs
 |_,_,.nil=>.nil
 |_,_,.cons n t h=>.cons ⟨t,rfl⟩ (Yb h)
def Fl(H:Hp):Prop:=∀b,H b=none\/∃o xs,H b=some (.frz o (.lst xs))
def yY{P:Program}{w:World}{K:Frag}{mg mb:Str->Option Value}{CX:CXT}{k:Nat}{fa a:Addr}{fd:FuncData}{x:Str}{sp:Sp}{ae:Shared}{vs:List Value}{ns:List Int}
  (KX:K.In ae.heap) (lz:ae.heap.Ns mainGlobals mg) (hb:ae.heap.Ns builtinsNs mb) (pK:∀x:Str,x≠"__name__"->mb x=bootBuiltins x) (mP:ae.heap.NoLimit) (hg:ae.gens=#[])
  (ha:ae.heap.get? a=some { cls:=.type "list",data:=.seq vs.toArray }) (hi:IntsAre vs ns) (hl:ns.length<=sizeLine) (hr:Room k callerA)
  (F:∀base:Heap,K.In base->base.Ns mainGlobals mg->FnOk P w K mg base CX k fa fd [x] sp) (li:∀(s:Shared)(u:Value),BindsTo s fd ⟨[u],[]⟩ [(x,u)])
  (dW:∀H:Hp,Fl H->SqL K H a (ns.map V.int)->sp [.ref a] H (fun v _=>v=.bl true) fun _ _ _=>False)
  (lA:∀H e s',CX [] H ae (fun _ _ _=>False) e s'->False) :
  codeAny (model P w) callerA (.call (.ref fa) ⟨[.ref a],[]⟩) (fun r s'=>r=.ok (.ret (.bool true))/\OldK ae.heap s'.heap/\s'.os=ae.os/\AllBare s'.gens) ae:=by
 have rv:=Yb hi
 have mQ:=hi.length
 have iF:∀H:Hp,Fl H->SqL K H a (ns.map V.int)->HOk P w H ae.heap->(∀b,H b≠none->b=a)->(H a≠none->K.lookup a=none) ->
   codeAny (model P w) callerA (.call (.ref fa) ⟨[.ref a],[]⟩) (fun r s'=>r=.ok (.ret (.bool true))/\OldK ae.heap s'.heap/\s'.os=ae.os/\AllBare s'.gens) ae:=by
  intro H hO hS hok hA hK
  have dF:∀{b:Addr}{o:Obj},ae.heap.get? b=some o->H b=none->(K8 ae.heap H).get? b=some o:=fun e n=>zi e n
  have fX:∀{b:Addr}{o:Obj}{es:Array DictEntry}{ep:Nat},ae.heap.get? b=some o->o.data=.dict es ep->H b=none:=fun {b o es ep} e d=>by
   cases q:H b with
   |none=>rfl
   |some u=>
    have e':b=a:=hA b (by rw[q];simp)
    subst e'
    rw[ha]at e;cases e
    have d':Data.seq vs.toArray _=Data.dict es ep:=d
    cases d'
  have ie:∀{b:Addr}{m:Str->Option Value},ae.heap.Ns b m->(K8 ae.heap H).Ns b m:=fun {b m} ⟨o,es,ep,e,d,r⟩=>⟨o,es,ep,dF e (fX e d),d,r⟩
  have nL:K.In (K8 ae.heap H):=fun b o e=>dF (KX b o e) (by
   cases q:H b with
   |none=>rfl
   |some u=>
    have e':b=a:=hA b (by rw[q];simp)
    subst e'
    rw[hK (by rw[q];simp)]at e;cases e)
  have hM:Mod K mg (K8 ae.heap H):=⟨nL,ie lz,⟨mb,ie hb,pK⟩,let ⟨mc,h1,h2⟩:=mP;⟨mc,ie h1,h2⟩⟩
  have e0:Env0 P w K mg (K8 ae.heap H) callerA [] ae H:=⟨rfl,hM,fun b o e=>xU e,Nat.le_of_eq (zi3 _ _),trivial,fun b hb=>absurd (show b∈([]:List Addr) from hb) (by simp),hok,.of_eq hg⟩
  refine codeAny_mono ((F _ nL (ie lz)).run callerA [] ae H ⟨[.ref a],[]⟩ [.ref a] [.ref a] _ _ hr e0 (li ae (.ref a)) (.cons rfl .nil) (dW H hO hS)) fun r s' h=>?_
  cases r with
  |error e=>exact(lA H e s' h).elim
  |ok fl=>
   cases fl with
   |next=>exact False.elim h
   |brk=>exact False.elim h
   |cont=>exact False.elim h
   |ret u=>
    obtain⟨v,H',os,bare,un,mR,r',q⟩:=h
    have q':v=.bl true:=q
    subst q'
    obtain rfl:u=Value.bool true:=r'
    refine⟨rfl,OldK.of_keep fun b o e=>?_,os,bare⟩
    cases q:H b with
    |none=>exact un.keep b o e q (by intro z;exact absurd (show b∈([]:List Addr) from z) (by simp)) (by simp)
    |some u=>
     rcases hO b with z |⟨ob,xs,z⟩
     . rw[q]at z;cases z
     . have z2:=un.frzs b ob _ z;obtain⟨e1,_⟩:=hok b _ z;obtain⟨e2,_⟩:=mR b _ z2;rw[e]at e1;cases e1;exact e2
 cases hk:K.lookup a with
 |some o=>
  have e:=KX a o hk
  rw[ha]at e
  cases e
  refine iF (fun _=>none) (fun _=>.inl rfl) (.inr ⟨_,vs.toArray,_,hk,rfl,rfl,rfl,by rw[mK,mQ];exact hl,by simpa using rv⟩) (fun b u z=>by have z':(none:Option HO)=some u:=z;cases z') (fun b z=>absurd rfl z) fun z=>absurd rfl z
 |none=>
  refine iF (fun b=>if b=a then some (.frz { cls:=.type "list",data:=.seq vs.toArray } (.lst (ns.map V.int))) else none) (fun b=>?_) (.inl (.inr ⟨{ cls:=.type "list",data:=.seq vs.toArray },ξ rfl⟩)) (fun b u z=>?_) (fun b z=>?_) fun _=>hk
  . by_cases hb:b=a
    . exact .inr ⟨_,_,ξ hb⟩
    . exact .inl (ψ hb)
  . by_cases hb:b=a
    . have z':=(ξ hb).symm.trans z;cases z';subst hb;exact⟨ha,by rw[bI];exact hl,vs,_,rv,ha⟩
    . have z':=(ψ hb).symm.trans z;cases z'
  . by_cases hb:b=a
    . exact hb
    . exact absurd (ψ hb) z
def walk_of{l:PySem.W.OpenLaw}{n k:Nat}{q:Program}{loose:List Str}{XP:(Str->Option Value)->Heap->Prop}{YP:World->Heap->Prop}{d:DefRec}{K:Params->Frag}{CX:World->CXT}{sp:World->Sp}{x:Str}
  (hn:l.most=some n) (ig:n<=sizeLine) (fZ:d.params.defaults=[]) (hr:Room k callerA)
  (hY:∀(w:World)(h:Heap),YP w h->(K w.params).In h)
  (F:∀(w:World)(mg:Str->Option Value)(fa:Addr)(h:Heap),(K w.params).In h->h.Ns mainGlobals mg->mg d.name=some (.ref fa) ->
   ∃fd:FuncData,(∀(s:Shared)(u:Value),BindsTo s fd ⟨[u],[]⟩ [(x,u)]) /\
    ∀base:Heap,(K w.params).In base->base.Ns mainGlobals mg->FnOk l.prog w (K w.params) mg base (CX w) k fa fd [x] (sp w))
  (dW:∀(w:World)(H:Hp)(a:Addr)(ns:List Int),ns.length<=n->Fl H->SqL (K w.params) H a (ns.map V.int)->sp w [.ref a] H (fun v _=>v=.bl true) fun _ _ _=>False)
  (lA:∀(w:World)(H:Hp)(s:Shared)(e:Value)(s':Shared),CX w [] H s (fun _ _ _=>False) e s'->False) :
  PySem.W.WalkO q loose XP YP l.row.toRowW d [] (fun f vs=>PySem.call f vs):=by
 refine Att.attach_call hn fZ fun w s₀ ae mg mb fa o pm cd doc a vs ns G Y ho hd bN bU fP eB ag hg=>?_
 have KX:=hY w _ Y
 obtain⟨fd,hb,hF⟩:=F w mg fa _ KX G.T.g bU
 exact yY KX G.T.g G.T.b G.T.builtins G.T.nolimit hg fP eB (sg ag ig) hr hF hb (fun H hO hS=>dW w H a ns ag hO hS) fun H e s'=>lA w H ae e s'
noncomputable def Q0(s:Stmt):Arguments:=match s with
 | .FunctionDef _ a _ _ _ _ _ _ _ _=>a
 |_=>{ posonlyargs:=[],args:=[],vararg:=none,kwonlyargs:=[],kw_defaults:=[],kwarg:=none,defaults:=[] }
noncomputable def J6(s:Stmt):List Stmt:=match s with
 | .FunctionDef _ _ b _ _ _ _ _ _ _=>b
 |_=>[]
noncomputable def h7(s:Stmt):Scope:=match s with
 | .FunctionDef _ _ _ _ _ _ sc _ _ _=>sc
 |_=>{ kind:=.function,names:=[],isGenerator:=false,isCoroutine:=false }
abbrev E0:XK:=fun _ _ _=>False
structure Fun(K:Frag)(x qual:Str)(st:Stmt)(f:Addr)(fd:FuncData):Prop where
 ex:∃(oc:Value)(od:Option Addr)(kV doc pm:Value)(an:Option Addr)(cdv ct:Value)(osl:Array (Option Value)),
  fd=PySem.W.fnOf x qual (Q0 st) (J6 st) (h7 st) .none kV doc pm an cdv ct/\K.lookup f=some ⟨oc,od,.func fd,osl⟩/\codeIn K cdv qual=true
 kp:keepIn K (.ref f)=true
section
variable {K:Frag}
def Fun.binds{x qual:Str}{st:Stmt}{f:Addr}{fd:FuncData}{ps:List Str}(F:Fun K x qual st f fd)
  (h:∀(kV doc pm:Value)(an:Option Addr)(cdv ct:Value)(us:List Value),us.length=ps.length->bindArgs (PySem.W.fnOf x qual (Q0 st) (J6 st) (h7 st) .none kV doc pm an cdv ct) ⟨us,[]⟩=pure (ps.zip us)):Binds K fd ps []:=by
 obtain⟨oc,od,kV,doc,pm,an,cdv,ct,osl,rfl,lk,bN⟩:=F.ex
 exact .all (h kV doc pm an cdv ct)
def vC{x qual:Str}{st:Stmt}{f:Addr}{oc:Value}{od an:Option Addr}{osl:Array (Option Value)}{kV doc pm cdv ct:Value}(l:K.lookup f=some ⟨oc,od,.func (PySem.W.fnOf x qual (Q0 st) (J6 st) (h7 st) .none kV doc pm an cdv ct),osl⟩)
 (c:codeIn K cdv qual=true) (k:keepIn K (.ref f)=true):Fun K x qual st f (PySem.W.fnOf x qual (Q0 st) (J6 st) (h7 st) .none kV doc pm an cdv ct):=⟨⟨oc,od,kV,doc,pm,an,cdv,ct,osl,rfl,l,c⟩,k⟩
end
section
variable {X:Cx}
def call_lenD:CallR X (.builtin "len") (fun xs H Q=>∃a kvs,xs=[V.ref a]/\H a=some (.dK kvs)/\Q (.int kvs.length) H):=by intro pins s U H xs us Q I r h;obtain⟨a,kvs,rfl,ha,q⟩:=h;obtain⟨u,rfl,ru⟩:=C3 r;cases ru;exact y0v I (.inl ha) fun t s' I'=>⟨.int kvs.length,H,I',⟨t,rfl⟩,q⟩
end
def Same(H H':Hp):Prop:=∀b o,H b=some o->H' b=some o
def Same.refl(H:Hp):Same H H:=fun _ _ h=>h
def Same.trans(a:Same H H1)(b:Same H1 H2):Same H H2:=fun c o h=>b c o (a c o h)
end L2
set_option maxHeartbeats 4000000
namespace L2
open PySem PySem.Spec PyProof.Rows
noncomputable def v5(cells:List (Str×Addr)):List (Str×NameKind)->List (Str×Addr)->List (Str×Addr)
 | [],acc=>acc
 | (n,k)::r,acc=>v5 cells r (if k==.free then(n,(cells.lookup n).getD 0)::acc else acc)
theorem jk:∀{names:List (Str×NameKind)}{acc:List (Str×Addr)},
  (∀y∈names,y.2=.free->∃c,cells.lookup y.1=some c)->(∀y c,acc.lookup y=some c->cells.lookup y=some c)->(v5 cells names acc).lookup x=some c->cells.lookup x=some c
 | [],acc,_,ha,h=>ha x c h
 | (n,k)::r,acc,hf,ha,h=>by
  refine jk (names:=r) (fun y hy=>hf y (tB _ hy)) (fun y c'=>?_) h;by_cases hk:k=.free
  . subst hk;obtain⟨c0,e0⟩:=hf (n,.free) BK rfl;intro e;have e1:(if(NameKind.free==NameKind.free)=true then(n,(cells.lookup n).getD 0)::acc else acc)=(n,(cells.lookup n).getD 0)::acc:=ξ (show(NameKind.free==NameKind.free)=true from rfl);rw[e1,FE]at e;cases f':y==n with
    |true=>
     rw[f']at e
     have e2:y=n:=by simpa using f'
     subst e2
     have e3:=Option.some.inj e
     have pL:cells.lookup y=some c0:=e0
     rw[pL]at e3⊢
     exact CP some e3
    |false=>rw[f']at e;exact ha y c' e
  . have e1:(if(k==NameKind.free)=true then(n,(cells.lookup n).getD 0)::acc else acc)=acc:=ψ (by simpa using hk);rw[e1];exact ha y c'
theorem Mx:∀{names:List (Str×NameKind)}{acc:List (Str×Addr)},
  ((∃c,acc.lookup x=some c)\/∃y∈names,y.2=.free/\y.1=x)->∃c,(v5 cells names acc).lookup x=some c
 | [],acc,h=>by
  rcases h with h |⟨y,hy,_⟩
  . exact h
  . cases hy
 | (n,k)::r,acc,h=>by
  refine Mx (names:=r) ?_;by_cases hk:k=.free
  . subst hk;have e1:(if(NameKind.free==NameKind.free)=true then(n,(cells.lookup n).getD 0)::acc else acc)=(n,(cells.lookup n).getD 0)::acc:=ξ (show(NameKind.free==NameKind.free)=true from rfl);rw[e1,FE];cases pM:x==n with
    |true=>exact .inl ⟨_,rfl⟩
    |false=>
     rcases h with h |⟨y,hy,hf,e⟩
     . exact .inl h
     . rcases ee.mp hy with z |z
       . subst z;have e':n=x:=e;subst e';simp at pM
       . exact .inr ⟨y,z,hf,e⟩
  . have e1:(if(k==NameKind.free)=true then(n,(cells.lookup n).getD 0)::acc else acc)=acc:=ψ (by simpa using hk);rw[e1];rcases h with h |⟨y,hy,hf,e⟩
    . exact .inl h
    . rcases ee.mp hy with z |z
      . subst z;exact absurd hf hk
      . exact .inr ⟨y,z,hf,e⟩
def jc(hf:∀y∈scope.names,y.2=.free->∃c,env.cells.lookup y.1=some c):closureFor scope env=pure (v5 env.cells scope.names []):=by
 have go:∀(names:List (Str×NameKind))(acc:List (Str×Addr)),(∀y∈names,y.2=.free->∃c,env.cells.lookup y.1=some c) ->
   (forIn names acc fun x cs=>if(x.2==NameKind.free)=true then do let a <-cellOf env x.1;pure (ForInStep.yield ((x.1,a)::cs)) else pure (ForInStep.yield cs):Sem (List (Str×Addr)))=pure (v5 env.cells names acc):=by
  intro names
  induction names with
  |nil=>intro acc _;rfl
  |cons p r ih=>
   intro acc h
   obtain⟨n,k⟩:=p
   rw[List.forIn_cons]
   by_cases hk:k=.free
   . subst hk;obtain⟨c,e⟩:=h (n,.free) BK rfl;have e':env.cells.lookup n=some c:=e;have e1:cellOf env n=pure c:=by unfold cellOf;rw[e']
     have e2:v5 env.cells ((n,NameKind.free)::r) acc=v5 env.cells r ((n,c)::acc):=by show v5 env.cells r (if(NameKind.free==NameKind.free)=true then(n,(env.cells.lookup n).getD 0)::acc else acc)=_;rw[ξ (show(NameKind.free==NameKind.free)=true from rfl),e'];rfl
     rw[e2,<-ih _ fun y hy=>h y (tB _ hy)];show((if(NameKind.free==NameKind.free)=true then do let a <-cellOf env n;pure (ForInStep.yield ((n,a)::acc)) else pure (ForInStep.yield acc)) >>= _:Sem _)=_;rw[ξ (show(NameKind.free==NameKind.free)=true from rfl),e1];rfl
   . have lB:(k==NameKind.free)=false:=by simpa using hk
     have e2:v5 env.cells ((n,k)::r) acc=v5 env.cells r acc:=by show v5 env.cells r (if(k==NameKind.free)=true then _ else acc)=_;rw[ψ (by rw[lB];exact η)]
     rw[e2,<-ih _ fun y hy=>h y (tB _ hy)];show((if(k==NameKind.free)=true then do let a <-cellOf env n;pure (ForInStep.yield ((n,a)::acc)) else pure (ForInStep.yield acc)) >>= _:Sem _)=_;rw[ψ (by rw[lB];exact η)];rfl
 have:=go scope.names [] hf;unfold closureFor;simpa using this
def zcn(I:Nat->Shared->Prop)
  (turn:∀n s,I n s->wpAny (model prog w) A (pyNext it) (fun r ae=>match r with
   |none=>R (.ok .next) ae
   |some v=>wpAny (model prog w) A (letOwnedTupleGo target it v) (fun _ fJ=>wpAny (model prog w) A (assign target env v) (fun _ ba=>
    wpAny (model prog w) A (forIn aC true fun c r=>if r=true then do let ok <-isTrue c env (eval c env);pure (ForInStep.yield ok) else pure (ForInStep.yield r)) (fun ok ax=>
     if ok=true then wpAny (model prog w) A (eval aH env) (fun x cu=>
      wpAny (model prog w) A (call (.builtin "list.append") [acc,x]) (fun _ iG=>∃m,m<n/\I m iG) (fun _ _=>False) cu) (fun _ _=>False) ax
     else ∃m,m<n/\I m ax) (fun _ _=>False) ba) (fun _ _=>False) fJ) (fun _ _=>False) ae) (fun _ _=>False) s)
  (n:Nat) (h:I n s) :
  codeAny (model prog w) A (.compLoop (.ListComp aH [⟨target,iter,aC,0⟩] scope pos) 0 it acc env) R s:=by
 refine codeAny_loop rfl I (fun n s hI=>?_) n h
 show wpAny _ A ((compTurn (.ListComp aH [⟨target,iter,aC,0⟩] scope pos) 0 it acc env).onRaise (fun x=>do noteFrame x env;theTreesLotGoes x)) _ _ s
 refine wpAny_noted ?_
 rw[compTurn_list]
 refine χ (wpAny_standAt (χ (BR (turn n s hI) (fun r ae cZ=>?_) fun _ _ h'=>h'.elim)))
 cases r with
 |none=>exact ω cZ
 |some v=>
  refine χ (BR cZ (fun _ fJ lj=>?_) fun _ _ h'=>h'.elim)
  refine χ (BR lj (fun _ ba mS=>χ (BR mS (fun ok ax iH=>?_) fun _ _ h'=>h'.elim)) fun _ _ h'=>h'.elim)
  cases ok with
  |false=>exact ω ⟨rfl,iH⟩
  |true=>
   exact χ (χ (BR iH (fun x cu mT=>χ (BR mT (fun _ iG mU=>ω (ω ⟨rfl,mU⟩)) fun _ _ h'=>h'.elim)) fun _ _ h'=>h'.elim))
theorem Nv{env:Env}:∀{names:List (Str×NameKind)}{x:Str},
  (names.map fun (n,k)=>if(k==NameKind.free&&env.scope.kind==.function&&env.kindOf n==some .cell) then(n,NameKind.cell) else(n,k)).lookup x =
   (names.lookup x).map fun k=>if(k==NameKind.free&&env.scope.kind==.function&&env.kindOf x==some .cell) then NameKind.cell else k
 | [],_=>rfl
 | (n,k)::r,x=>by
  have ih:=@Nv env r x;show List.lookup x ((if(k==NameKind.free&&env.scope.kind==.function&&env.kindOf n==some .cell)=true then(n,NameKind.cell) else(n,k))::_)=_;cases hx:x==n with
  |true=>
   have e:x=n:=by simpa using hx
   subst e
   by_cases hc:(k==NameKind.free&&env.scope.kind==.function&&env.kindOf x==some .cell)=true
   . rw[ξ hc];simp only[FE,hx,BL,hc,CI]
   . rw[ψ hc];simp only[FE,hx,BL,hc,CT];rfl
  |false=>
   by_cases hc:(k==NameKind.free&&env.scope.kind==.function&&env.kindOf n==some .cell)=true
   . rw[ξ hc];simp only[FE,hx];exact ih
   . rw[ψ hc];simp only[FE,hx];exact ih
def j9(X:Cx)(sc:Scope)(N':List Str)(fp:List Addr)(ax:Shared)(mV:Hp):Cx:=
 { X with env:=compEnvC sc (v5 X.env.cells sc.names []) ax.heap.objs.size X.env,N:=N',s₀:=ax,H₀:=mV,outer:=X.stack,ex:=fp,fn:=fun _=>false,pn:=[],xe:=fun _ _=>False }
noncomputable def G8(ix:List Nat)(U:St):St:=ix.map fun j=>(U[j]?).getD none
structure CompOk(X:Cx)(sc:Scope)(caps:List Str)(ix:List Nat):Prop where
 calm:X.calm=true
 kind:sc.kind=.function
 ncell:∀y∈sc.names,y.2≠.cell
 free:∀y∈sc.names,y.2=.free->X.env.kindOf y.1=some .cell\/X.env.kindOf y.1=some .free
 names:∀y∈sc.names,y.2=.local->sc.names.lookup y.1=some .local
 cap:∀(j:Nat) x,caps[j]?=some x->sc.names.lookup x=some .free/\∃i,ix[j]?=some i/\X.N[i]?=some x
 len:ix.length=caps.length
noncomputable def Xz(fsc:Scope)(N:List Str)(sc:Scope)(caps:List Str)(ix:List Nat):Bool:=
 sc.kind==.function&&sc.names.all (fun y=>y.2 != .cell)&&sc.names.all (fun y=>y.2 != .free||(fsc.names.lookup y.1==some .cell||fsc.names.lookup y.1==some .free)) &&
  sc.names.all (fun y=>y.2 != .local||sc.names.lookup y.1==some .local)&&caps.all (fun x=>sc.names.lookup x==some .free)&&(ix.map fun i=>N[i]?)==caps.map some
def v6(hc:X.calm=true)(h:Xz X.env.scope X.N sc caps ix=true):CompOk X sc caps ix:=by
 unfold Xz at h;simp only[pr]at h;obtain⟨⟨⟨⟨⟨h1,h2⟩,h3⟩,h4⟩,h5⟩,h6⟩:=h;have e6:(ix.map fun i=>X.N[i]?)=caps.map some:=by simpa using h6
 have iI:ix.length=caps.length:=by simpa using CP List.length e6
 refine⟨hc,by simpa using h1,fun y hy=>?_,fun y hy hf=>?_,fun y hy hl=>?_,fun j x hj=>⟨?_,?_⟩,iI⟩
 . have:=CL.mp h2 y hy;simpa using this
 . have:=CL.mp h3 y hy;rw[hf]at this;simp only[bne_self_eq_false,Bool.false_or,FX,EW]at this;exact this
 . have:=CL.mp h4 y hy;rw[hl]at this;simpa using this
 . have:=CL.mp h5 x (DI hj);simpa using this
 . have nM:j<ix.length:=by rw[iI];exact(BS.mp hj).1
   refine⟨ix[j],AO nM,?_⟩;have q:=CP (fun l=>l[j]?) e6;simp only[BF,AO nM,hj,BL]at q;exact Option.some.inj q
section
variable {X:Cx}{sc:Scope}{tgs caps:List Str}{ix:List Nat}{pins:List (Addr×Obj)}{U:St}{H:Hp}{s:Shared}{fp:List Addr}
def CompOk.free_cell(C:CompOk X sc caps ix)(I:Inv X pins U H s):∀y∈sc.names,y.2=.free->∃c,X.env.cells.lookup y.1=some c:=fun y hy hf=>I.ok.has y.1 (C.free y hy hf)
def CompOk.sub(C:CompOk X sc caps ix)(I:Inv X pins U H s)(h:(v5 X.env.cells sc.names []).lookup x=some c):X.env.cells.lookup x=some c:=
 jk (C.free_cell I) (fun _ _ e=>by cases e) h
def zgt(C:CompOk X sc caps ix)(I:Inv X pins U H s)(hf:∀b∈fp,t9 X pins H b)(hl:∀b∈fp,b<s.heap.objs.size)(hn:h'.Ns s.heap.objs.size m)
  (hk:∀b o,s.heap.get? b=some o->h'.get? b=some o) :
  Inv (j9 X sc (tgs++caps) fp s H) [] (List.replicate tgs.length none++G8 ix U) H { s with heap:=h',toks:=t' }:=by
 have sub:∀{x c},(v5 X.env.cells sc.names []).lookup x=some c->X.env.cells.lookup x=some c:=fun h=>C.sub I h
 have uL:∀{x c},X.env.cells.lookup x=some c->c<s.heap.objs.size:=fun {x c} h=>by obtain⟨v,q⟩:=I.cell x c h;exact q.lt
 refine⟨⟨I.ok.mod,C.kind,I.ok.glob,I.ok.blt,ζ _,fun x y c h1 h2=>I.ok.inj x y c (sub h1) (sub h2),fun x hx=>?_,fun x c fW _=>?_,I.ok.hd,I.ok.frames,.inl rfl,fun b hb=>⟨?_,fun x c h z=>?_⟩,fun b o e=>I.bs b o e,sg I.ok.bsz I.sz,fun b o e hb=>?_,fun b hb ge=>?_,I.stack,I.stkFree⟩,
  rfl,I.bare,Un.kept hk,⟨m,hn,fun i x v e1 e2 e3=>?_⟩,fun x c h=>?_,I.hok.fresh (ζ _),fun x c h=>I.freeC x c (sub h),fun p hp=>absurd (show p∈([]:List (Addr×Obj)) from hp) (by simp),I.hok.kept hk,?_⟩
 . -- a cell or free name of the pA has a cell
   have cR:(relabel sc X.env).names.lookup x=some .cell\/(relabel sc X.env).names.lookup x=some .free:=hx;have e:(relabel sc X.env).names.lookup x=(sc.names.lookup x).map fun k=>if(k==NameKind.free&&X.env.scope.kind==.function&&X.env.kindOf x==some .cell) then NameKind.cell else k:=Nv
   rw[e]at cR;cases q:sc.names.lookup x with
   |none=>rw[q]at cR;rcases cR with z |z<;>cases z
   |some k=>
    have hm:(x,k)∈sc.names:=DO q
    have pN:k=.free:=by
     rw[q]at cR;simp only[BL]at cR;by_cases fy:k=.free
     . exact fy
     . have:(k==NameKind.free)=false:=by simpa using fy
       simp only[this,Bool.false_and,BC,CT]at cR;rcases cR with z |z
       . exact absurd (Option.some.inj z) (C.ncell _ hm)
       . exact Option.some.inj z
    subst pN
    exact Mx (.inr ⟨_,hm,rfl,rfl⟩)
 . exact absurd (show false=true from fW) η
 . exact BB (hl b hb)
 . exact(hf b hb).2.2.2.2.1 x c (sub h) z
 . obtain⟨_,_,_,hx,_⟩:=hf b hb;rcases hx with z |z
   . exact I.ok.noex b o e z
   . exact absurd (AY (Φ e) (sg I.ok.bsz z)) (DH _)
 . obtain⟨_,h1,h2,_⟩:=hf b hb;rcases ee.mp (I.stkSub b ge) with z |z
   . exact h1 z
   . exact h2 z
 . -- the mH pi pj
   have hi:tgs.length<=i:=by
    by_cases hi:i<tgs.length
    . rw[CM (by simpa using hi),List.getElem?_replicate]at e2;split at e2<;>cases e2
    . lia
   have pO:caps[i - tgs.length]?=some x:=by have:(tgs++caps)[i]?=some x:=e1;rw[BY hi]at this;exact this
   rw[BY (by simpa using hi),List.length_replicate]at e2;obtain⟨bA,j,hj,pP⟩:=C.cap _ x pO;have pQ:U[j]?=some (some v):=by
    unfold G8 at e2;rw[BF,hj]at e2;simp only[BL]at e2;have e2:=Option.some.inj e2;cases q:U[j]? with
    |none=>rw[q]at e2;cases e2
    |some o=>rw[q]at e2;exact CP some e2
   have iJ:(x,NameKind.free)∈sc.names:=DO bA;have cc:=C.free _ iJ rfl;obtain⟨m0,uM,lC⟩:=I.loc;have mW:Vis X.env.scope x:=cc.elim (fun z=>.inr (.inl z)) fun z=>.inr (.inr z)
   obtain⟨u,r,look⟩:=lC j x v pP pQ mW;refine⟨u,r,?_⟩;rcases look with⟨k,_⟩ |⟨_,c,hc,z⟩
   . rcases cc with q |q
     . rw[show X.env.kindOf x=some .cell from q]at k;cases k
     . rw[show X.env.kindOf x=some .free from q]at k;cases k
   . obtain⟨c',ar⟩:=Mx (cells:=X.env.cells) (names:=sc.names) (acc:=[]) (x:=x) (.inr ⟨_,iJ,rfl,rfl⟩);have dS:c'=c:=by have:=sub ar;rw[hc]at this;exact(Option.some.inj this).symm
     subst dS;refine .inr ⟨?_,c',ar,?_⟩
     . have e:(relabel sc X.env).names.lookup x=(sc.names.lookup x).map fun k=>if(k==NameKind.free&&X.env.scope.kind==.function&&X.env.kindOf x==some .cell) then NameKind.cell else k:=Nv
       show(relabel sc X.env).names.lookup x=some .cell\/(relabel sc X.env).names.lookup x=some .free;rw[e,bA];simp only[BL];split
       . exact .inl rfl
       . exact .inr rfl
     . obtain⟨o,ho,hd⟩:=z;exact⟨o,hk _ o ho,hd⟩
 . obtain⟨v,o,ho,hd⟩:=I.cell x c (sub h);exact⟨v,o,hk _ o ho,hd⟩
 . show _=(tgs++caps).length;unfold G8;rw[θ,List.length_replicate,bI,θ,C.len]
inductive PTs (X:Cx):List Expr->TT->Prop where
 |nil:PTs X [] (fun _ H Q=>Q true H)
 |one {c:Expr} {t:TT} (h:PT X c t):PTs X [c] t
def PTs.run(h:PTs X aC t)(I:Inv X pins U H s)(q:t U H Q) :
  wpAny (model X.prog X.w) X.A (forIn aC true fun c r=>if r=true then do let ok <-isTrue c X.env (eval c X.env);pure (ForInStep.yield ok) else pure (ForInStep.yield r)) (TP X pins U Q) X.xe s:=by
 cases h with
 |nil=>exact wpAny_tests_nil ⟨H,I,q⟩
 |one h=>exact wpAny_tests_one (h pins s U H Q I q)
def Qn(J:It)(D:Addr)(B:V->Hp->(List V->Hp->Prop)->Prop)(cs:St)(tt:TT)(te:TE)(Q:VK)(H1:Hp):Prop:=
 ∃W:Nat->Nat->List V->Hp->Prop,(∃m,W 0 m [] (upd H1 D (.lst [])))/\∀i m ys H,W i m ys H ->
  H D=some (.lst ys)/\((J.stop i H/\Q (.ref D) H)\/(J.go i H/\∀x H',J.yld i H x H'->B x H' fun am H2=>tt (am.map some++cs) H2 fun b H3=>
   if b=true then te (am.map some++cs) H3 fun y H4=>H4 D=some (.lst ys)/\ys.length<sizeLine/\∃m',m'<m/\W (i+1) m' (ys++[y]) (upd H4 D (.lst (ys++[y])))
   else ∃m',m'<m/\W (i+1) m' ys H3))
def P5(wi:TI)(B:V->Hp->(List V->Hp->Prop)->Prop)(ix:List Nat)(tt:TT)(te:TE):TE:=fun U H Q=>wi U H fun J H1=>∀D,H1 D=none->Qn J D B (G8 ix U) tt te Q H1
variable {aH tg iter:Expr}{aC:List Expr}{pos:Pos}{g:TG}{B:V->Hp->(List V->Hp->Prop)->Prop}{tt:TT}{te:TE}
def Zb(C:CompOk X sc caps ix)(hg:∀fp s H,PG (j9 X sc (tgs++caps) fp s H) tg g)
  (hB:∀(x:V)(bw cs:St)(H:Hp)(Q:St->Hp->Prop),bw.length=tgs.length->B x H (fun am H2=>Q (am.map some++cs) H2)->g x (bw++cs) H fun bv H2=>(∃am:List V,am.length=tgs.length/\bv=am.map some++cs)/\Q bv H2)
  (ht:∀fp s H,PTs (j9 X sc (tgs++caps) fp s H) aC tt) (he:∀fp s H,PE (j9 X sc (tgs++caps) fp s H) aH te)
  {J:It} {it:Addr} {tn:Nat->Heap->Prop} {Q:VK} {E:Value->Shared->Prop} (I2:Inv X pins U H s) (T:Turn X.prog X.w X.K tg J fp it tn) (st:tn 0 s.heap) (hf:∀b∈fp,t9 X pins H b)
  (hw:∀D,H D=none->Qn J D B (G8 ix U) tt te Q H) {RR:Value->Addr->Result->Shared->Prop}
  (pR:∀D Cc H' s' m,s'.heap.Ns Cc m->Inv X pins U H' s'->t9 X pins H' Cc->Q (.ref D) H'->RR (.ref D) Cc (.ok .next) s') :
  wpAny (model X.prog X.w) X.A (newList []) (fun acc ax=>wpAny (model X.prog X.w) X.A (newFunctionEnv sc X.env.globals (v5 X.env.cells sc.names []) [] X.env.qual none .none (some X.env)) (fun iK cu=>
   codeAny (model X.prog X.w) X.A (.compStart (.ListComp aH [⟨tg,iter,aC,0⟩] sc pos) 0 (.ref it) acc { iK with scope:=relabel sc X.env }) (RR acc iK.locals) cu) E ax) E s:=by
 refine wpAny_newObj_type (wpAny_newFunctionEnv C.ncell (by intro y hy;simp at hy) (fun cZ fc fe=>?_) C.kind)
 have I3:Inv X pins U (upd H s.heap.objs.size (.lst [])) { s with heap:=s.heap.push { cls:=.type "list",dict:=none,data:=.seq ([]:List Value).toArray } }:=I2.lnew (t':=s.toks) (its:=[]) .nil (BQ _)
 have pS:H s.heap.objs.size=none:=I2.fresh
 have nN:∀b∈fp,b<s.heap.objs.size:=fun b hb=>by obtain⟨o,e,_⟩:=T.obj _ _ st b hb;exact Φ e
 have pT:∀b∈fp,b≠s.heap.objs.size:=fun b hb=>BB (nN b hb)
 have nO:∀b∈fp,t9 X pins (upd H s.heap.objs.size (.lst [])) b:=fun b hb=>⟨by rw[d9 (pT b hb)];exact(hf b hb).1,(hf b hb).2⟩
 generalize pU:({ s with heap:=s.heap.push { cls:=.type "list",dict:=none,data:=.seq ([]:List Value).toArray } }:Shared)=ax at I3 fc fe⊢
 have iM:ax.heap=s.heap.push { cls:=.type "list",dict:=none,data:=.seq ([]:List Value).toArray }:=by rw[<-pU]
 have cP:tn 0 ax.heap:=T.keep _ _ _ st fun b _ o e=>by rw[iM];exact Ψ _ e
 have nP:∀b∈fp,b<ax.heap.objs.size:=fun b hb=>by rw[iM,FU];exact Nat.lt_succ_of_lt (nN b hb)
 generalize uN:s.heap.objs.size=D at *
 have nQ:∀b o,ax.heap.get? b=some o->cZ.get? b=some o:=fun b o e=>fe.extBut b o (BB (Φ e)) (Ψ _ e)
 have I4:=zgt (tgs:=tgs) (t':=ax.toks+([]:List (Str×Value)).length) C I3 nO nP fc nQ
 have ci:tn 0 cZ:=T.keep _ _ _ cP fun b _ o e=>nQ b o e
 have pV:∀b∈fp,(upd H D (.lst [])) b=none:=fun b hb=>(nO b hb).1
 generalize cj:j9 X sc (tgs++caps) fp ax (upd H D (.lst []))=Xc at I4
 have bu:Xc.prog=X.prog:=by rw[<-cj];rfl
 have cS:Xc.w=X.w:=by rw[<-cj];rfl
 have nR:Xc.K=X.K:=by rw[<-cj];rfl
 have ce:Xc.calm=true:=by rw[<-cj];exact C.calm
 have hA:Xc.A=X.A:=by rw[<-cj];rfl
 have dJ:Xc.env=compEnvC sc (v5 X.env.cells sc.names []) ax.heap.objs.size X.env:=by rw[<-cj];rfl
 have ii:Xc.xe=fun _ _=>False:=by rw[<-cj];rfl
 have du:=hg fp ax (upd H D (.lst []))
 have nS:=ht fp ax (upd H D (.lst []))
 have fA:=he fp ax (upd H D (.lst []))
 rw[cj]at du nS fA
 obtain⟨W,⟨m0,w0⟩,turn⟩:=hw D pS
 have cG:∀{H':Hp},(∀b∈fp,H' b=none)->∀b∈fp,t9 Xc [] H' b:=fun {H'} hn b hb=>by
  refine⟨hn b hb,?_,?_,.inl ?_,fun x c e z=>?_,fun p hp=>?_⟩
  . rw[dJ];exact BB (nP b hb)
  . rw[<-cj];intro z;obtain⟨_,h1,h2,_⟩:=hf b hb;rcases ee.mp (I3.stkSub b z) with q |q
    . exact h1 q
    . exact h2 q
  . rw[<-cj];exact hb
  . rw[dJ]at e;exact(hf b hb).2.2.2.2.1 x c (C.sub I2 e) z
  . rw[<-cj]at hp;exact absurd (show p∈([]:List (Addr×Obj)) from hp) (by simp)
 have loop:∀cu:Shared,cu={ ax with heap:=cZ,toks:=ax.toks+([]:List (Str×Value)).length } ->
   codeAny (model X.prog X.w) X.A (.compLoop (.ListComp aH [⟨tg,iter,aC,0⟩] sc pos) 0 (.ref it) (.ref D) (compEnvC sc (v5 X.env.cells sc.names []) ax.heap.objs.size X.env)) (RR (.ref D) ax.heap.objs.size) cu:=by
  intro cu nU
  rw[<-bu,<-cS,<-hA,<-dJ]
  refine zcn (fun n s'=>∃(i:Nat)(ys:List V)(bw:St)(H':Hp),bw.length=tgs.length/\Inv Xc [] (bw++G8 ix U) H' s'/\tn i s'.heap/\(∀b∈fp,H' b=none)/\W i n ys H') ?_ m0
   ⟨0,[],List.replicate tgs.length none,upd H D (.lst []),by simp,by rw[nU];exact I4,by rw[nU];exact ci,pV,w0⟩
  rintro n s5 ⟨i,ys,bw,H5,pW,I5,fw,hV,w5⟩
  obtain⟨uO,lm⟩:=turn i n ys H5 w5
  rcases lm with⟨stop,q⟩ |⟨go,step⟩
  . rw[bu,cS];refine thn (T.done Xc bu cS nR ce i [] s5 _ H5 _ I5 (cG hV) fw stop) fun r s6 ⟨hr,I6⟩=>?_
    subst hr;obtain⟨m6,nV,_⟩:=I6.loc;rw[dJ]at nV;have pX:∀b∈fp,(b∈X.ex\/X.s₀.heap.objs.size<=b)/\b≠X.env.locals/\(∀x c,X.env.cells.lookup x=some c->c≠b)/\∀p∈X.pn++pins,p.1≠b:=fun b hb=>⟨(hf b hb).2.2.2.1,(hf b hb).2.1,(hf b hb).2.2.2.2.1,(hf b hb).2.2.2.2.2⟩
    have gh:s6.os=ax.os:=by have:=I6.os;rw[<-cj]at this;exact this
    have pY:Un (frs X.stack) fp (upd H D (.lst [])) H5 ax.heap s6.heap:=by have:=I6.base;rw[<-cj]at this;exact this
    have mX:HOk X.prog X.w H5 s6.heap:=by have:=I6.hok;rw[bu,cS]at this;exact this
    have I7:Inv X pins U H5 s6:=I3.call' gh pY mX I6.bare pX;refine pR D _ H5 s6 m6 nV I7 ?_ q;have pZ:H5 ax.heap.objs.size=none:=by have:=I6.free;rw[dJ]at this;exact this
    exact I3.fpOk (ζ _) pZ
  . rw[bu,cS];refine thn (T.item Xc bu cS nR ce i [] s5 _ H5 _ I5 (cG hV) fw go) fun r s6 ⟨u,hr,h6⟩=>?_
    subst hr;refine thn h6 fun _ s7 ⟨x,H7,I7,r7,y7,lD,rf⟩=>?_
    have rg:=I7.pinned (cG rf) (T.obj _ _ lD);have aU:=du _ s7 _ H7 x u _ rg r7 (hB x bw (G8 ix U) H7 (fun bv H2=>tt bv H2 fun b H3=>if b=true then te bv H3 fun y H4=>H4 D=some (.lst ys)/\ys.length<sizeLine/\∃m',m'<n/\W (i+1) m' (ys++[y]) (upd H4 D (.lst (ys++[y]))) else ∃m',m'<n/\W (i+1) m' ys H3) pW (step x H7 y7));rw[bu,cS,ii]at aU;refine thn aU fun _ s8 ⟨rh,H8,I8,⟨am,nW,mY⟩,q8⟩=>?_
    have again:∀{H9:Hp}{s9:Shared},Inv Xc ([]++Av fp s7.heap) rh H9 s9->tn (i+1) s9.heap/\∀b∈fp,H9 b=none:=fun {H9 s9} I9=>
     ⟨T.keep _ _ _ lD fun b hb o e=>(I9.pin (b,o) (BE _ (BE _ (En hb e)))).1,fun b hb=>by obtain⟨o,e,d⟩:=T.obj _ _ lD b hb;exact(I9.pin (b,o) (BE _ (BE _ (En hb e)))).2.1⟩
    subst mY;have nZ:=nS.run I8 q8;rw[bu,cS,ii]at nZ;refine thn nZ fun ok s9 ⟨H9,I9,q9⟩=>?_
    cases ok with
    |false=>
     rw[ψ η]at q9⊢
     obtain⟨m',hm,w9⟩:=q9
     obtain⟨a1,a2⟩:=again I9
     exact⟨m',hm,i+1,ys,am.map some,H9,by simpa using nW,I9.unpinned,a1,a2,w9⟩
    |true=>
     rw[ξ rfl]at q9⊢
     have og:=fA _ s9 _ H9 _ I9 q9
     rw[bu,cS,ii]at og
     refine thn og fun uy rj ⟨y,oh,rm,rn,mZ,nh,m',hm,rp⟩=>?_
     have oj:=Br (X:=Xc) _ rj _ oh (.ref D) [y] (.ref D) [uy] (fun v ol=>v=.non/\ol=upd oh D (.lst (ys++[y]))) rm rfl (.cons rn .nil) ⟨D,ys,y,rfl,rfl,mZ,nh,rfl,rfl⟩
     rw[bu,cS,ii]at oj
     refine thn oj fun _ uP ⟨v,ol,om,_,_,rq⟩=>?_
     subst rq
     obtain⟨a1,a2⟩:=again om
     exact⟨m',hm,i+1,ys++[y],am.map some,_,by simpa using nW,om.unpinned,a1,a2,rp⟩
 refine codeAny_compStart_list (loop _ rfl) (T.self X.A 0 _ _ _ ci (loop _ rfl))
def Wa(C:CompOk X sc caps ix)(hi:PI X tg iter wi)(hg:∀fp s H,PG (j9 X sc (tgs++caps) fp s H) tg g)
  (hB:∀(x:V)(bw cs:St)(H:Hp)(Q:St->Hp->Prop),bw.length=tgs.length->B x H (fun am H2=>Q (am.map some++cs) H2)->g x (bw++cs) H fun bv H2=>(∃am:List V,am.length=tgs.length/\bv=am.map some++cs)/\Q bv H2)
  (ht:∀fp s H,PTs (j9 X sc (tgs++caps) fp s H) aC tt) (he:∀fp s H,PE (j9 X sc (tgs++caps) fp s H) aH te)
  (hs:∀x,foldedSetIterable iter X.env x=pure x):PE X (.ListComp aH [⟨tg,iter,aC,0⟩] sc pos) (P5 wi B ix tt te):=by
 intro pins s U H Q I h
 rw[eval_ListComp]
 refine wpAny_comprehension_free (use:=none) rfl hs (jc (C.free_cell I)) C.kind C.names (thn (hi pins s U H _ I h) fun v s1 h1=>thn h1 fun fu s2 h2=>?_)
 obtain⟨it,fp,tn,J,H2,e,I2,T,st2,f2,hw⟩:=h2
 subst e
 refine Zb (RR:=fun acc Cc=>compPost (model X.prog X.w) X.A X.xe none (EP X pins U Q) acc Cc) C hg hB ht he I2 T st2 f2 hw ?_
 intro D Cc H' s' m hn I' ck q
 refine⟨m,hn,fun h' sb=>⟨.ref D,H',?_,rfl,q⟩⟩
 exact I'.turned (t':=s'.toks) (fun b o hb e=>sb.extBut b o hb e) ck.1 ck.2.1 ck.2.2.2.1 ck.2.2.2.2.1 ck.2.2.2.2.2
def Vz(hN:X.N.Nodup)(hk:X.N[k]?=some x)(hx:X.env.scope.names.lookup x=some .local)(C:CompOk X sc caps ix)(hi:PI X tg iter wi)(hg:∀fp s H,PG (j9 X sc (tgs++caps) fp s H) tg g)
  (hB:∀(x:V)(bw cs:St)(H:Hp)(Q:St->Hp->Prop),bw.length=tgs.length->B x H (fun am H2=>Q (am.map some++cs) H2)->g x (bw++cs) H fun bv H2=>(∃am:List V,am.length=tgs.length/\bv=am.map some++cs)/\Q bv H2)
  (ht:∀fp s H,PTs (j9 X sc (tgs++caps) fp s H) aC tt) (he:∀fp s H,PE (j9 X sc (tgs++caps) fp s H) aH te)
  (cL:swapsWith (.ListComp aH [⟨tg,iter,aC,0⟩] sc pos) (some (.Name x px)) bz.line X.env=pure true)
  (hs:∀x,foldedSetIterable iter X.env x=pure x):PS X (.Assign [.Name x px] (.ListComp aH [⟨tg,iter,aC,0⟩] sc pos) bz) (G9 (P5 wi B ix tt te) (y8 k)):=by
 intro pins s U H D0 I h
 rw[exec_Assign_Name_used _ _ _ _ cL]
 refine χ (wpAny_standAt (χ ?_))
 show wpAny _ X.A (do let _ <-comprehension (.ListComp aH [⟨tg,iter,aC,0⟩] sc pos) sc X.env _ (newList []) false (eval iter X.env) (some (assign (.Name x px) X.env))) _ _ s
 refine χ (BR (wpAny_comprehension_free (use:=some (assign (.Name x px) X.env)) (Q:=fun _ s'=>SP X pins D0 .next s') rfl hs (jc (C.free_cell I)) C.kind C.names
  (thn (hi pins s U H _ I h) fun v s1 h1=>thn h1 fun fu s2 h2=>?_)) (fun _ s' hq=>ω (ω hq)) fun _ _ e=>e)
 obtain⟨it,fp,tn,J,H2,e,I2,T,st2,f2,hw⟩:=h2
 subst e
 refine Zb (RR:=fun acc Cc=>compPost (model X.prog X.w) X.A X.xe (some (assign (.Name x px) X.env)) (fun _ s'=>SP X pins D0 .next s') acc Cc) C hg hB ht he I2 T st2 f2 hw ?_
 intro D Cc H' s' m hn I' ck q
 show wpAny _ X.A (assign (.Name x px) X.env (.ref D)) _ _ _
 refine wpAny_assign_Name (Yi I' hN hk (.inl hx) (v:=.ref D) rfl (fun eI rA cx=>?_) (.inr hx))
 obtain⟨a,sb,ha⟩:=cx
 have bL:Cc≠a:=by
  rcases ha with z |z
  . rw[z];exact ck.2.1
  . exact fun e=>ck.2.2.2.2.1 x a z e.symm
 refine⟨m,hn.sameBut sb bL,fun h' rB=>⟨_,H',?_,q⟩⟩
 exact rA.turned (t':=eI.toks) (fun b o hb e=>rB.extBut b o hb e) ck.1 ck.2.1 ck.2.2.2.1 ck.2.2.2.2.1 ck.2.2.2.2.2
end
section
variable {X:Cx}
def PE.imp(h:PE X e t)(hi:∀U H Q,t' U H Q->t U H Q):PE X e t':=fun pins s U H Q I q=>h pins s U H Q I (hi U H Q q)
def PT.imp(h:PT X e t)(hi:∀U H Q,t' U H Q->t U H Q):PT X e t':=fun pins s U H Q I q=>h pins s U H Q I (hi U H Q q)
def OpR.imp(h:OpR X f r)(hi:∀x y H Q,r' x y H Q->r x y H Q):OpR X f r':=fun pins s U H x y v u Q I rx ry q=>h pins s U H x y v u Q I rx ry (hi x y H Q q)
def UnR.imp(h:UnR X f r)(hi:∀x H Q,r' x H Q->r x H Q):UnR X f r':=fun pins s U H x v Q I rx q=>h pins s U H x v Q I rx (hi x H Q q)
def CallR.imp(h:CallR X f r)(hi:∀xs H Q,r' xs H Q->r xs H Q):CallR X f r':=fun pins s U H xs us Q I rx q=>h pins s U H xs us Q I rx (hi xs H Q q)
end
noncomputable def D5(i:Nat):TE:=fun U H Q=>match U[i]? with |some (some v)=>Q v H |_=>False
def pw(i:Nat)(hN:X.N[i]?=some x:=by rfl)(hv:Vis X.env.scope x:=by first |exact .inl rfl |exact .inr (.inl rfl) |exact .inr (.inr rfl))(hd:(x==("__debug__":Str))=false:=by decide)
  (bN:(x==("__classdict__":Str))=false:=by decide):PE X (.Name x pos) (D5 i):=
 (Ty hN hv hd bN).imp fun U H Q q=>by
  unfold D5 at q;unfold kB;split at q
  . rename_i v e;exact⟨v,e,q⟩
  . exact q.elim
noncomputable def cI(g:Int->Int->V):R2:=fun x y H Q=>match x,y with | .int i,.int j=>Q (g i j) H |_,_=>False
noncomputable def cIC(C:Int->Int->Prop)(g:Int->Int->V):R2:=fun x y H Q=>match x,y with | .int i,.int j=>C i j/\Q (g i j) H |_,_=>False
def OpR.cI(h:OpR X f (rI0 g)):OpR X f (cI g):=h.imp fun x y H Q q=>by cases x<;>cases y<;>first |exact⟨_,_,rfl,rfl,q⟩ |exact q.elim
def OpR.cIC(h:OpR X f (rI C g)):OpR X f (cIC C g):=h.imp fun x y H Q q=>by cases x<;>cases y<;>first |exact⟨_,_,rfl,rfl,q.1,q.2⟩ |exact q.elim
section
variable {X:Cx}
def t0:OpR X (binaryOp .Add) (cI fun i j=>.int (i+j)):=op_add.cI
def F9:OpR X (binaryOp .Sub) (cI fun i j=>.int (i - j)):=op_sub.cI
def y0w:OpR X (binaryOp .Mult) (cIC CMul fun i j=>.int (i * j)):=op_mul.cIC
def Ts:OpR X (binaryOp .FloorDiv) (cIC Q9 fun i j=>.int (i / j)):=op_fdiv.cIC
def P4:OpR X (binaryOp .Mod) (cIC (fun _ j=>0<j) fun i j=>.int (i % j)):=op_mod.cIC
def K7:OpR X (compareOp .Lt) (cI fun i j=>.bl (decide (i<j))):=op_lt.cI
def Ot:OpR X (compareOp .LtE) (cI fun i j=>.bl (decide (i<=j))):=op_le.cI
def Aa:OpR X (compareOp .Gt) (cI fun i j=>.bl (decide (j<i))):=op_gt.cI
def Os:OpR X (compareOp .GtE) (cI fun i j=>.bl (decide (j<=i))):=op_ge.cI
def cU(g:Int->V):V->Hp->VK->Prop:=fun x H Q=>match x with | .int i=>Q (g i) H |_=>False
def Co:UnR X (unaryOp .USub) (cU fun i=>.int (-i)):=un_neg.imp fun x H Q q=>by cases x<;>first |exact⟨_,rfl,q⟩ |exact q.elim
end
noncomputable def E3(H:Hp)(p:Addr):Option (List V):=match H p with
 |some (.lst xs)=>some xs
 |some (.tup xs)=>some xs
 |some (.frz _ (.lst xs))=>some xs
 |some (.frz _ (.tup xs))=>some xs
 |_=>none
def Xb{K:Frag}{H:Hp}{p:Addr}{xs:List V}(h:E3 H p=some xs):SqL K H p xs\/SqT K H p xs:=by
 unfold E3 at h;split at h;all_goals first | (cases h;done) |skip
 . rename_i ys e;cases h;exact .inl (.inl (.inl e))
 . rename_i ys e;cases h;exact .inr (.inl (.inl e))
 . rename_i o ys e;cases h;exact .inl (.inl (.inr ⟨_,e⟩))
 . rename_i o ys e;cases h;exact .inr (.inl (.inr ⟨_,e⟩))
def Xy(h:H p=some (.lst xs)):E3 H p=some xs:=by unfold E3;rw[h]
def Xx(h:H p=some (.tup xs)):E3 H p=some xs:=by unfold E3;rw[h]
def P1(x:V)(H:Hp)(Q:Bool->Hp->Prop):Prop:=match x with
 | .bl b=>Q b H
 | .int i=>Q (i != 0) H
 | .non=>Q false H
 | .str y=>y.length<=sizeLine/\Q ((y.length:Int) != 0) H
 | .ref p=>(match E3 H p with
  |some xs=>Q (!xs.isEmpty) H
  |none=>(match H p with |some (.dK kvs)=>Q (!kvs.isEmpty) H |_=>False))
 |_=>False
def Xa{K:Frag}{x:V}{H:Hp}{Q:Bool->Hp->Prop}(h:P1 x H Q):∃k,km K x H k/\Q k H:=by
 cases x with
 |bl b=>exact⟨b,rfl,h⟩
 |int i=>exact⟨_,rfl,h⟩
 |non=>exact⟨_,rfl,h⟩
 |str y=>exact⟨_,⟨h.1,rfl⟩,h.2⟩
 |ref p=>
  unfold P1 at h
  dsimp only at h
  split at h
  . rename_i xs e;rcases Xb (K:=K) e with z |z
    . exact⟨_,.inl ⟨xs,z,rfl⟩,h⟩
    . exact⟨_,.inr (.inl ⟨xs,z,rfl⟩),h⟩
  . split at h
    . rename_i kvs e;exact⟨_,.inr (.inr ⟨kvs,e,rfl⟩),h⟩
    . exact h.elim
 |_=>exact h.elim
noncomputable def y4y(t:TE):TT:=fun U H Q=>t U H fun x H'=>P1 x H' Q
section
variable {X:Cx}{a b c:Expr}{ta tb:TE}{pos:Pos}
def vB(ha:PE X a ta)(he:∀whole,isTrue a X.env whole=(do let v <-whole;standAt a.pos;holding [v] (truthy v))):PT X a (y4y ta):=by intro pins s U H Q I h;exact isTrue_plain (thn (ha pins s U H _ I h) fun v s1 ⟨x,H1,I1,r1,q1⟩=>Tt pins s1 U H1 x v Q I1 r1 (Xa q1)) (he _)
noncomputable def Gz(t:TE):TT:=fun U H Q=>t U H fun x H'=>match x with | .bl k=>Q k H' |_=>False
def xL(ho:OpR X (compareOp op) r)(ha:PE X a ta)(hb:PE X b tb)(hm:behindInMarks op b=false):PT X (.Compare a [op] [b] pos) (Gz (tOp r ta tb)):=by
 intro pins s U H Q I h;refine wpAny_isTrue_Compare1 (thn (ha pins s U H _ I h) fun v s1 ⟨x,H1,I1,r1,q1⟩=>thn (hb pins s1 U H1 _ I1 q1) fun u s2 ⟨y,H2,I2,r2,q2⟩=>
  thn (ho pins s2 U H2 x y v u _ I2 r1 r2 q2) fun c s3 ⟨z,H3,I3,r3,q3⟩=>?_) hm
 cases z<;>first |exact q3.elim |skip
 cases r3;exact EF ⟨H3,I3,q3⟩
end
section
variable {X:Cx}{a b c:Expr}{ta tb:TE}{pos:Pos}
def PChT(X:Cx)(ops:List CmpOp)(rs:List Expr)(t:V->TT):Prop:=
 ∀(pos:Pos)(pins:List (Addr×Obj))(s:Shared)(U:St)(H:Hp)(x:V)(v:Value)(Q:Bool->Hp->Prop),Inv X pins U H s->RelV x v->t x U H Q->wpAny (model X.prog X.w) X.A (testChain pos v ops (evalEach rs X.env)) (TP X pins U Q) X.xe s
noncomputable def Tr(r:R2)(tb:TE):V->TT:=fun x U H Q=>tb U H fun y H2=>r x y H2 fun z H3=>match z with | .bl k=>Q k H3 |_=>False
noncomputable def Tq(r:R2)(tb:TE)(t:V->TT):V->TT:=fun x U H Q=>tb U H fun y H2=>r x y H2 fun z H3=>match z with | .bl k=>(if k=true then t y U H3 Q else Q false H3) |_=>False
def zV(ho:OpR X (compareOp op) r)(hb:PE X b tb):PChT X [op] [b] (Tr r tb):=by
 intro pos pins s U H x v Q I rx h;refine test_last (thn (hb pins s U H _ I h) fun u s2 ⟨y,H2,I2,r2,q2⟩=>thn (ho pins s2 U H2 x y v u _ I2 rx r2 q2) fun d s3 ⟨z,H3,I3,r3,q3⟩=>?_);cases z<;>first |exact q3.elim |skip
 cases r3;exact EF ⟨H3,I3,q3⟩
def zU(ho:OpR X (compareOp op) r)(hb:PE X b tb)(hr:PChT X (ik::ops) (r'::rs) t):PChT X (op::ik::ops) (b::r'::rs) (Tq r tb t):=by
 intro pos pins s U H x v Q I rx h;refine test_link (thn (hb pins s U H _ I h) fun u s2 ⟨y,H2,I2,r2,q2⟩=>thn (ho pins s2 U H2 x y v u _ I2 rx r2 q2) fun d s3 ⟨z,H3,I3,r3,q3⟩=>?_);cases z<;>first |exact q3.elim |skip
 rename_i k;cases r3;refine EF ?_;cases k with
 |false=>exact ite_ff ⟨H3,I3,by simpa using q3⟩
 |true=>exact ite_tt (hr pos pins s3 U H3 y u Q I3 r2 (by simpa using q3))
noncomputable def Qm(ta:TE)(t:V->TT):TT:=fun U H Q=>ta U H fun x H1=>t x U H1 Q
def vA(ha:PE X a ta)(hr:PChT X (cE::cF::ops) (dL::dM::rs) t)(hm:lastMarks (cE::cF::ops) (dL::dM::rs)=false) :
  PT X (.Compare a (cE::cF::ops) (dL::dM::rs) pos) (Qm ta t):=by
 intro pins s U H Q I h
 exact isTrue_chain (thn (ha pins s U H _ I h) fun v s1 ⟨x,H1,I1,r1,q1⟩=>hr pos pins s1 U H1 x v Q I1 r1 q1) hm
noncomputable def Ql(ta tb:TE):TE:=fun U H Q=>ta U H fun x H1=>match x with | .bl c=>(if c=true then tb U H1 Q else Q (.bl false) H1) |_=>False
noncomputable def jZ(ta tb:TE):TE:=fun U H Q=>ta U H fun x H1=>match x with | .bl c=>(if c=true then Q (.bl true) H1 else tb U H1 Q) |_=>False
end
section
variable {X:Cx}{a b c:Expr}{ta tb:TE}{pos:Pos}{rest:List Expr}
def xK(ha:PE X a ta)(hb:PE X (.BoolOp .And (b::rest) pos) tb):PE X (.BoolOp .And (a::b::rest) pos) (Ql ta tb):=by
 intro pins s U H Q I h;refine BoolOp_and (thn (ha pins s U H _ I h) fun v s1 ⟨x,H1,I1,r1,q1⟩=>?_);cases x<;>first |exact q1.elim |skip
 rename_i k;cases r1;refine EF ?_;cases k with
 |true=>exact ite_tt (hb pins s1 U H1 Q I1 (by simpa using q1))
 |false=>exact ite_ff ⟨.bl false,H1,I1,rfl,by simpa using q1⟩
def vz(ha:PE X a ta)(hb:PE X (.BoolOp .Or (b::rest) pos) tb):PE X (.BoolOp .Or (a::b::rest) pos) (jZ ta tb):=by
 intro pins s U H Q I h;refine BoolOp_or (thn (ha pins s U H _ I h) fun v s1 ⟨x,H1,I1,r1,q1⟩=>?_);cases x<;>first |exact q1.elim |skip
 rename_i k;cases r1;refine EF ?_;cases k with
 |true=>exact ite_tt ⟨.bl true,H1,I1,rfl,by simpa using q1⟩
 |false=>exact ite_ff (hb pins s1 U H1 Q I1 (by simpa using q1))
noncomputable def y0z(ta:TE):TE:=fun U H Q=>ta U H fun x H1=>P1 x H1 fun k H2=>Q (.bl (!k)) H2
def xJ(ha:PE X a ta):PE X (.UnaryOp .Not a pos) (y0z ta):=by intro pins s U H Q I h;refine UnaryOp_ (thn (ha pins s U H _ I h) fun v s1 ⟨x,H1,I1,r1,q1⟩=>not_of ?_);exact thn (Tt pins s1 U H1 x v _ I1 r1 (Xa q1)) fun k s2 ⟨H2,I2,q2⟩=>⟨.bl (!k),H2,I2,rfl,q2⟩
noncomputable def M8(H:Hp):V->Option String
 | .non=>some "NoneType"
 | .bl _=>some "bool"
 | .int _=>some "int"
 | .str _=>some "str"
 | .ref a=>(match H a with
  |some (.lst _)=>some "list"
  |some (.frz _ (.lst _))=>some "list"
  |some (.tup _)=>some "tuple"
  |some (.dK _)=>some "dict"
  |some (.dT _)=>some "dict"
  |_=>none)
 |_=>none
noncomputable def G7(t c:String):Bool:=t==c||(t=="bool"&&c=="int")
noncomputable def I0(c:String):Bool:=["int","bool","str","list","tuple","dict"].contains c
def N6{K:Frag}{t c:String}(ht:["NoneType","bool","int","str","list","tuple","dict"].contains t=true)(hc:I0 c=true):kitOne K (.type t) (.type c)=some (G7 t c):=by
 have h1:t="NoneType"\/t="bool"\/t="int"\/t="str"\/t="list"\/t="tuple"\/t="dict":=by simpa using ht
 have h2:c="int"\/c="bool"\/c="str"\/c="list"\/c="tuple"\/c="dict":=by simpa [I0] using hc
 rcases h1 with rfl |rfl |rfl |rfl |rfl |rfl |rfl<;>rcases h2 with rfl |rfl |rfl |rfl |rfl |rfl<;>first |rfl | (with_unfolding_all rfl)
def yX:CallR X (.builtin "isinstance") (fun xs H Q=>match xs with
  | [x,.ty c]=>I0 c=true/\(match M8 H x with |some t=>Q (.bl (G7 t c)) H |none=>False)
  |_=>False):=by
 intro pins s U H xs us Q I r h
 split at h
 . rename_i x c;obtain⟨hc,h⟩:=h;obtain⟨u,w',rfl,ru,rw'⟩:=Ha r;cases rw';split at h
   . rename_i t et;have fin:∀(tk:Nat),EP X pins U Q (.bool (G7 t c)) { s with toks:=tk }:=fun tk=>⟨.bl _,H,I.tok _,rfl,h⟩
     cases x<;>simp only[M8]at et
     case non=>cases et;exact N7 I ru .non (N6 (by decide) hc) fin
     case bl b=>cases et;exact N7 I ru (.bl b) (N6 (by decide) hc) fin
     case int b=>cases et;exact N7 I ru (.int b) (N6 (by decide) hc) fin
     case str b=>cases et;exact N7 I ru (.str b) (N6 (by decide) hc) fin
     case ref a=>
      split at et<;>first | (cases et;done) |skip
      . rename_i ys e;cases et;exact N7 I ru (.lst e) (N6 (by decide) hc) fin
      . rename_i o ys e;cases et;exact N7 I ru (.frz e) (N6 (by decide) hc) fin
      . rename_i ys e;cases et;exact N7 I ru (.tup e) (N6 (by decide) hc) fin
      . rename_i ys e;cases et;exact N7 I ru (.dK e) (N6 (by decide) hc) fin
      . rename_i ys e;cases et;exact N7 I ru (.dT e) (N6 (by decide) hc) fin
     all_goals cases et
   . exact h.elim
 . exact h.elim
def zT(hc:X.calm=true):CallR X (.builtin "sum") (fun xs H Q=>match xs with
  | [.ref p]=>∃ns:List Int,E3 H p=some (ns.map V.int)/\Q (.int ns.sum) H
  |_=>False):=by
 intro pins s U H xs us Q I r h
 split at h
 . rename_i p;obtain⟨ns,e,q⟩:=h;obtain⟨u,rfl,ru⟩:=C3 r;cases ru;have key:∀{its:List Value},Vals (ns.map V.int) its->∃ys:Array (Int×Tok),its.toArray=intItems ys/\preSum (numAt ys) ys.size=ns.sum:=fun {its} rv=>by
    have hi:=Em rv;obtain⟨ys,hx⟩:=hi.allInts.items;refine⟨ys,hx,?_⟩;have e1:ns=ys.toList.map (·.1):=by rw[<-nums_intItems,<-hx];exact(show numsOf its.toArray.toList=ns from hi.numsOf).symm
    rw[preSum_eq,CA (by simp),e1]
   rcases Xb (K:=X.K) e with hq |hq
   . obtain⟨its,rv,pl,_⟩:=I.list hq;obtain⟨ys,hx,es⟩:=key rv;refine sum_intListG (I.ok.hd hc) (hx ▸ pl.isList) fun h' tk t' hk=>?_
     rw[es];exact⟨.int ns.sum,H,I.kept hk,⟨_,rfl⟩,q⟩
   . obtain⟨its,rv,pl,_⟩:=I.tuple hq;obtain⟨ys,hx,es⟩:=key rv;refine PySem.W.ktm_sumG (I.ok.hd hc) (hx ▸ pl) fun h' tk t' hk=>?_
     rw[es];exact⟨.int ns.sum,H,I.kept hk,⟨_,rfl⟩,q⟩
 . exact h.elim
abbrev Gy(s:Shared)(L:Addr):List (Addr×Obj):=Dz (Att.noObjs s.heap) s.heap L
section
variable {pins:List (Addr×Obj)}{U:St}{H:Hp}{s:Shared}{h':Heap}{m:Str->Option Value}
def Za(N:News (Att.noObjs s.heap) L h' (Gy s L)):∀b o,b≠L->s.heap.get? b=some o->h'.get? b=some o:=fun b o hb e=>(N (b,o) (zdw hb (Att.noObjs_get _ _) e)).1
def Inv.frn(I:Inv X pins U H s)(hn:s.heap.Ns X.env.locals m)(F:Fr (Att.noObjs s.heap) X.env.locals h' m)(N:News (Att.noObjs s.heap) X.env.locals h' (Gy s X.env.locals)):Inv X pins U H { s with heap:=h',toks:=tk }:=by
 have kept:=Za N;refine I.step (g':=s.gens) (d':=s.drawn) (ch:=[]) (fun _ z=>nomatch z) (fun b o hL _ _ e _=>kept b o hL e) (fun b o hL _ _ e _=>⟨o.slots,kept b o hL e⟩) (fun _ _ _ _ n=>n) (fun b o _ e=>?_) (fun _ _ e=>e) (fun _ _ _ e=>e) (fun b ps e=>⟨#[],by rw[e];simp⟩) (fun m' hm=>?_) (fun b u e=>?_) I.bare
 . by_cases hb:b=X.env.locals
   . subst hb;obtain⟨o',_,_,aT,_⟩:=F.ns;exact⟨o',aT⟩
   . exact⟨o,kept b o hb e⟩
 . rw[hm.eq_nsMap,<-hn.eq_nsMap];exact F.ns
 . refine(I.hok b u e).stay (fun c v hc q=>kept c v ?_ q) (fun _ q=>q) fun _ _ q=>q
   intro z;rcases hc with hc |hc
   . rw[<-hc,z,I.free]at e;cases e
   . rw[z,I.free]at hc;cases hc
def Inv.frnew(I:Inv X pins U H s)(hn:s.heap.Ns X.env.locals m)(F:Fr (Att.noObjs s.heap) X.env.locals h' m)(N:News (Att.noObjs s.heap) X.env.locals h' ((D,ob)::Gy s X.env.locals))
  (hD:s.heap.get? D=none) (new:ObjOk X.prog X.w (upd H D o) h' D o):H D=none/\Inv X pins U (upd H D o) { s with heap:=h',toks:=tk }:=by
 have kept:=Za (fun p hp=>N p (.tail _ hp))
 have uQ:D≠X.env.locals:=(N (D,ob) (.head _)).2.1
 have rC:∀b o,s.heap.get? b=some o->b≠D:=fun b o e z=>by rw[z,hD]at e;cases e
 have HD:H D=none:=by
  cases q:H D with
  |none=>rfl
  |some u=>
   have:=(I.hok D u q).lt
   obtain⟨v,hv⟩:∃v,s.heap.get? D=some v:=by
    have z:=I.hok D u q;cases u with
    |lst xs=>obtain⟨_,_,_,_,e⟩:=z;exact⟨_,e⟩
    |tup xs=>obtain⟨_,_,_,o,e,_⟩:=z;exact⟨_,e⟩
    |dK kvs=>obtain⟨_,_,_,_,o,_,_,e,_⟩:=z;exact⟨_,e⟩
    |dT kvs=>obtain⟨_,_,_,_,o,_,_,e,_⟩:=z;exact⟨_,e⟩
    |set S n=>obtain⟨_,_,_,_,e,_⟩:=z;exact⟨_,e⟩
    |ins C dx fs=>obtain⟨_,_,_,e,_⟩:=z;exact⟨_,e⟩
    |own x=>exact z
    |xd fs=>obtain⟨mA,n1,_⟩:=z;obtain⟨o,_,_,e,_⟩:=n1;exact⟨o,e⟩
    |met f x=>exact⟨_,z⟩
    |rng lo hi=>obtain⟨_,_,_,e⟩:=z;exact⟨_,e⟩
    |frz o u=>exact⟨_,z.1⟩
    |tbl ps=>exact⟨_,z⟩
    |ctb q=>obtain⟨_,e,_⟩:=z;exact⟨_,e⟩
    |ext φ=>exact z.2.1
   rw[hD]at hv;cases hv
 refine⟨HD,I.step (g':=s.gens) (d':=s.drawn) (ch:=[]) (fun _ z=>nomatch z) (fun b o hL _ _ e _=>kept b o hL e) (fun b o hL _ _ e _=>⟨o.slots,kept b o hL e⟩) (fun b ob _ e n=>by rw[d9 (rC b ob e)];exact n) (fun b o _ e=>?_)
  (fun b xs e=>by rw[d9 (v7 e HD)];exact e) (fun b u xs e=>by rw[d9 (v7 e HD)];exact e) (fun b ps e=>⟨#[],by rw[d9 (v7 e HD),e];simp⟩) (fun m' hm=>?_) (fun b u e=>?_) I.bare⟩
 . by_cases hb:b=X.env.locals
   . subst hb;obtain⟨o',_,_,aT,_⟩:=F.ns;exact⟨o',aT⟩
   . exact⟨o,kept b o hb e⟩
 . rw[hm.eq_nsMap,<-hn.eq_nsMap];exact F.ns
 . by_cases hb:b=D
   . subst hb;rw[l4]at e;cases e;exact new
   . rw[d9 hb]at e;refine(I.hok b u e).stay (fun c v hc q=>kept c v ?_ q) (fun c q=>?_) fun c xs q=>?_
     . intro z;rcases hc with hc |hc
       . rw[<-hc,z,I.free]at e;cases e
       . rw[z,I.free]at hc;cases hc
     . rw[d9 (v7 q HD)];exact q
     . rw[d9 (v7 q HD)];exact q
end
def ze5:∀{us:List Value},Vals (bs.map V.bl) us->LSm.BoolsAre us bs:=by
 induction bs with
 |nil=>intro us r;cases r;exact .nil
 |cons b bs ih=>
  intro us r
  cases r with
  |cons r1 r2=>cases r1;exact .cons b (ih r2)
def zS(hc:X.calm=true):CallR X (.builtin "any") (fun xs H Q=>match xs with
  | [.ref p]=>∃bs:List Bool,Rd H p (.lst (bs.map V.bl))/\Q (.bl (bs.any id)) H
  |_=>False):=by
 intro pins s U H xs us Q I r h
 split at h
 . rename_i p;obtain⟨bs,e,q⟩:=h;obtain⟨u,rfl,ru⟩:=C3 r;cases ru;obtain⟨its,rv,pl,_⟩:=I.list (.inl e);obtain⟨m,hn,_⟩:=id I.loc;exact LSm.any_bools (Att.fr_all hn) (Lw (g:=Att.noObjs s.heap) (L:=X.env.locals)) (I.ok.hd hc) pl.isList (ze5 rv) fun h' tk F N=>⟨.bl _,H,I.frn hn F N,rfl,q⟩
 . exact h.elim
def zR:CallR X (.type "int") (fun xs H Q=>match xs with | [.int i]=>Q (.int i) H | [.bl k]=>Q (.int (if k then 1 else 0)) H |_=>False):=call_int1.imp fun xs H Q q=>by
 split at q
 . exact .inl ⟨_,rfl,q⟩
 . exact .inr ⟨_,rfl,q⟩
 . exact q.elim
end
noncomputable def ItS(S:Hp->Prop)(xs:List V):It:=⟨fun i H=>S H/\i<xs.length,fun i H x H'=>H'=H/\xs[i]?=some x,fun i H=>S H/\xs.length<=i⟩
def Turn.conv{P:Program}{w:World}{K:Frag}{tg:Expr}{J J':It}{fp:List Addr}{it:Addr}{tn:Nat->Heap->Prop}(T:Turn P w K tg J fp it tn)(h1:∀i H,J'.go i H->J.go i H)(h2:∀i H x H',J'.go i H->J.yld i H x H'->J'.yld i H x H')
  (h3:∀i H,J'.stop i H->J.stop i H):Turn P w K tg J' fp it tn where
 mem:=T.mem
 obj:=T.obj
 keep:=T.keep
 item:=fun X a b c d i pins s U H E I hf st hg=>thn (T.item X a b c d i pins s U H E I hf st (h1 i H hg)) fun r s1 ⟨u,e,h⟩=>⟨u,e,thn h fun _ s2 ⟨x,H',I',r',y',st',cq⟩=>⟨x,H',I',r',h2 i H x H' hg y',st',cq⟩⟩
 done:=fun X a b c d i pins s U H E I hf st hg=>T.done X a b c d i pins s U H E I hf st (h3 i H hg)
 self:=T.self
section
variable {X:Cx}{tg:Expr}
def V1(x:V)(H1:Hp)(R:It->Hp->Prop):Prop:=match x with
 | .ref a=>(match H1 a with
  |some (.lst xs)=>R (ItS (fun H'=>Rd H' a (.lst xs)) xs) H1
  |some (.frz _ (.lst xs))=>R (ItS (fun H'=>Rd H' a (.lst xs)) xs) H1
  |some (.tup xs)=>R (ItS (fun H'=>H' a=some (.tup xs)) xs) H1
  |_=>False)
 |_=>False
def yW(h:Rd H a (.lst xs))(r:R (ItS (fun H'=>Rd H' a (.lst xs)) xs) H):V1 (.ref a) H R:=by
 unfold V1;rcases h with h |⟨o,h⟩
 . dsimp only;rw[h];exact r
 . dsimp only;rw[h];exact r
def yV(h:H a=some (.tup xs))(r:R (ItS (fun H'=>H' a=some (.tup xs)) xs) H):V1 (.ref a) H R:=by unfold V1;dsimp only;rw[h];exact r
noncomputable def y4z(K:Frag)(tl:TE):TI:=fun U H R=>tl U H fun x H1=>V1 x H1 R
def vy(hl:PE X l tl):PI X tg l (y4z X.K tl):=by
 intro pins s U H R I h;refine thn (hl pins s U H _ I h) fun v s1 ⟨x,H1,I1,r1,q1⟩=>?_
 cases x<;>first |exact q1.elim |skip
 rename_i a;cases r1;unfold V1 at q1;dsimp only at q1;have ff:∀xs,Rd H1 a (.lst xs)->R (ItS (fun H'=>Rd H' a (.lst xs)) xs) H1->wpAny (model X.prog X.w) X.A (pyIter (.ref a)) (PIE X pins U tg R) X.xe s1:=fun xs hq q=>by
  obtain⟨its,rv,p,hz⟩:=I1.list (.inl hq);refine wpAny_pyIter_list p.isList ?_;refine⟨s1.heap.objs.size,[s1.heap.objs.size],_,_,H1,rfl,I1.kept (t':=s1.toks) fun b o e=>Ψ _ e,(zi8 a _).conv ?_ ?_ ?_,⟨_,Ξ _ rfl,rfl,rfl⟩,fun b hb=>?_,q⟩
  . exact fun i H' ⟨h1,h2⟩=>⟨xs,xs[i],.inl h1,by simp[h2]⟩
  . exact fun i H' x gj ⟨h1,h2⟩ ⟨e,y⟩=>⟨e,y xs (.inl h1)⟩
  . exact fun i H' ⟨h1,h2⟩=>⟨xs,.inl h1,h2⟩
  . have e:b=s1.heap.objs.size:=by simpa using hb
    subst e;exact I1.fpOk (ζ _) (I1.hok.fresh (ζ _))
 split at q1
 . rename_i xs e;exact ff xs (.inl e) q1
 . rename_i o xs e;exact ff xs (.inr ⟨o,e⟩) q1
 . rename_i xs e;obtain⟨its,rv,p,hz⟩:=I1.tuple (.of e);refine wpAny_pyIter_tuple (show s1.heap.IsTuple a its.toArray from p) ?_;refine⟨s1.heap.objs.size,[s1.heap.objs.size],_,_,H1,rfl,I1.kept (t':=s1.toks) fun b o e=>Ψ _ e,(zgo a _).conv ?_ ?_ ?_,⟨_,Ξ _ rfl,rfl,rfl⟩,fun b hb=>?_,q1⟩
   . exact fun i H' ⟨h1,h2⟩=>⟨xs,xs[i],.of h1,by simp[h2]⟩
   . exact fun i H' x gj ⟨h1,h2⟩ ⟨e,y⟩=>⟨e,y xs (.of h1)⟩
   . exact fun i H' ⟨h1,h2⟩=>⟨xs,.of h1,h2⟩
   . have e:b=s1.heap.objs.size:=by simpa using hb
     subst e;exact I1.fpOk (ζ _) (I1.hok.fresh (ζ _))
 . exact q1.elim
noncomputable def B8(lo:Int)(n:Nat):List V:=(List.range n).map fun (i:Nat)=>V.int (lo+i)
def Bn(lo:Int)(n:Nat):(B8 lo n).length=n:=by simp[B8]
def Vy(lo:Int)(n i:Nat)(h:i<n):(B8 lo n)[i]?=some (.int (lo+i)):=by simp[B8,h]
def iR1(ta:TA):TI:=fun U H R=>ta U H fun vs H1=>match vs with | [.int j]=>(-(2 ^ 62)<=j/\j<2 ^ 62)/\R (ItS (fun _=>True) (B8 0 j.toNat)) H1 |_=>False
def iR2(ta:TA):TI:=fun U H R=>ta U H fun vs H1=>match vs with | [.int i,.int j]=>(-(2 ^ 62)<=i/\i<2 ^ 62/\-(2 ^ 62)<=j/\j<2 ^ 62)/\R (ItS (fun _=>True) (B8 i (j - i).toNat)) H1 |_=>False
def Y7(lo:Int)(n:Nat):(∀i (H:Hp),(ItS (fun _=>True) (B8 lo n)).go i H->(Itr lo n).go i H)/\(∀i H x H',(ItS (fun _=>True) (B8 lo n)).go i H->(Itr lo n).yld i H x H'->(ItS (fun _=>True) (B8 lo n)).yld i H x H') /\
  (∀i (H:Hp),(ItS (fun _=>True) (B8 lo n)).stop i H->(Itr lo n).stop i H):=by
 refine⟨fun i H ⟨_,h⟩=>?_,fun i H x H' ⟨_,h⟩ ⟨e,y⟩=>⟨e,?_⟩,fun i H ⟨_,h⟩=>?_⟩
 . rw[Bn]at h;exact h
 . rw[Bn]at h;rw[y];exact Vy lo n i h
 . rw[Bn]at h;exact h
end
def jY(J:It)(g:TG)(tb:TS)(D:Ends)(U:St)(H1:Hp):Prop:=∃W:Nat->Nat->St->Hp->Prop,(∃m,W 0 m U H1)/\∀i m U H,W i m U H ->
 (J.stop i H/\D.nx U H)\/(J.go i H/\∃N:St->Hp->Prop,(∀af H',N af H'->∃m',m'<m/\W (i+1) m' af H')/\∀x H',J.yld i H x H'->g x U H' fun bv H2=>tb { D with nx:=N,ct:=N,bk:=D.nx } bv H2)
noncomputable def Qk(wi:TI)(g:TG)(tb:TS):TS:=fun D U H=>wi U H fun J H1=>jY J g tb D U H1
def xI(hp:PassesOwn (model X.prog X.w) X.A X.env X.xe)(hc:X.calm=true)(hi:PI X tg iter wi)(hg:PG X tg g)(hb:PSs X body tb)
 (hs:∀x,foldedSetIterable iter X.env x=pure x):PS X (.For tg iter body [] pos) (Qk wi g tb):=vJ hp hc hi hg hb hs
def Stp(n i:Nat)(P:Prop):Prop:=∃m',m'<n - i/\m'=n - (i+1)/\i+1<=n/\P
def Stp.mk(h:i<n)(p:P):Stp n i P:=⟨n - (i+1),by omega,rfl,h,p⟩
def Same.upd_new(h:H a=none):Same H (upd H a o):=fun b u e=>by rw[d9 (v7 e h)];exact e
def Same.upd_at(s:Same H H1)(h:H a=none):Same H (upd H1 a o):=fun b u e=>by rw[d9 (v7 e h)];exact s b u e
def xH{prog:Program}{w:World}{A:Around}{E:Value->Shared->Prop}{s:Shared}{e it l:Addr}(gk:e≠it)(cy:l≠e)(gn:l≠it){items:Array Value}{i:Nat}{Q:Option Value->Shared->Prop}(hi:i<items.size)
  (he:∃old,IsEnum s.heap e it i old) (h1:s.heap.IsListIter it l i) (g1:s.heap.IsList l items)
  (q:∀T am h' tk,(∃t x,items[i]?=some x/\am=#[.int i t,x])->s.heap.objs.size<=T->IsTp h' T am->((∃x,IsEnumOut h' e it ((i:Int)+1) x T)/\h'.IsListIter it l (i+1)/\h'.IsList l items/\T≠e/\T≠it) ->
   (∀c o,c∉[e,it]->s.heap.get? c=some o->h'.get? c=some o)->Q (some (.ref T)) { s with heap:=h',toks:=tk }):wpAny (model prog w) A (pyNext (.ref e)) Q E s:=by
 obtain⟨old,he⟩:=he
 have gt:∀{c:Addr}{o:Obj},s.heap.get? c=some o->s.heap.objs.size≠c:=fun e z=>absurd (Φ e) (by rw[z];exact DH _)
 have n1:s.heap.objs.size≠it:=by obtain⟨_,e,_⟩:=h1;exact gt e
 refine wpAny_pyNext_enum_item he h1 g1 (x:=items[i]) (by simp[hi]) gk fun h' r1 r2 r3 _ kp=>?_
 have kl:∀c o,c∉[e,it]->s.heap.get? c=some o->h'.get? c=some o:=fun c o hc e=>by simp only[ee,AZ,DM,not_or]at hc;exact kp c o hc.1 hc.2 e
 exact q s.heap.objs.size #[.int i s.toks,items[i]] h' (s.toks+1) ⟨_,_,by simp[hi],rfl⟩ (ζ _) (.mk' r3) ⟨⟨_,r1⟩,r2,g1.at fun o e=>kp _ o cy gn e,gt he,n1⟩ kl
section
variable {X:Cx}{pins:List (Addr×Obj)}{U:St}{H:Hp}{s:Shared}
def Inv.turnedT{wr:List Addr}{h':Heap}{tk:Nat}{T:Addr}{xs:List V}{its:List Value}(I:Inv X pins U H s)(hw:∀b∈wr,t9 X pins H b)(k:∀b o,b∉wr->s.heap.get? b=some o->h'.get? b=some o)
  (hT:s.heap.objs.size<=T) (ht:IsTp h' T its.toArray) (rv:Vals xs its) (hz:xs.length<=sizeLine):Inv X pins U (upd H T (.tup xs)) { s with heap:=h',toks:=tk }:=by
 have HT:H T=none:=I.hok.fresh hT
 have nw:∀b u,H b=some u->b∉wr:=fun b u e z=>by rw[(hw b z).1]at e;cases e
 have neT:∀b o,s.heap.get? b=some o->b≠T:=fun b o e=>BB (AY (Φ e) hT)
 refine I.step (g':=s.gens) (d':=s.drawn) (ch:=wr) (fun b hb=>⟨(hw b hb).2.2.2.1,(hw b hb).2.1,(hw b hb).2.2.2.2.1,(hw b hb).2.2.2.2.2⟩) (fun b o _ _ hc e _=>k b o hc e) (fun b o _ _ hc e _=>⟨o.slots,k b o hc e⟩)
  (fun b o _ e n=>by rw[d9 (neT b o e)];exact n) (fun b o hc e=>⟨o,k b o hc e⟩) (fun b ys e=>by rw[d9 (v7 e HT)];exact e) (fun b u ys e=>by rw[d9 (v7 e HT)];exact e)
  (fun b ps e=>⟨#[],by rw[d9 (v7 e HT),e];simp⟩) (fun m hm=>?_) (fun b u e=>?_) I.bare
 . obtain⟨o,es,ep,ho,r⟩:=hm;exact⟨o,es,ep,k _ o (fun z=>(hw _ z).2.1 rfl) ho,r⟩
 . by_cases hb:b=T
   . subst hb;rw[l4]at e;cases e;exact⟨hz,its,rv,ht⟩
   . rw[d9 hb]at e;refine(I.hok b u e).stay (fun c v hc q=>k c v ?_ q) (fun c q=>?_) fun c ys q=>?_
     . rcases hc with z |z
       . rw[z];exact nw b u e
       . exact nw c _ z
     . rw[d9 (v7 q HT)];exact q
     . rw[d9 (v7 q HT)];exact q
end
section
variable {X:Cx}{pins:List (Addr×Obj)}{U:St}{H:Hp}{s:Shared}
def Inv.turnedN{wr:List Addr}{h':Heap}{tk:Nat}(I:Inv X pins U H s)(hw:∀b∈wr,t9 X pins H b)(k:∀b o,b∉wr->s.heap.get? b=some o->h'.get? b=some o):Inv X pins U H { s with heap:=h',toks:=tk }:=by
 have nw:∀b u,H b=some u->b∉wr:=fun b u e z=>by rw[(hw b z).1]at e;cases e
 refine I.step (g':=s.gens) (d':=s.drawn) (ch:=wr) (fun b hb=>⟨(hw b hb).2.2.2.1,(hw b hb).2.1,(hw b hb).2.2.2.2.1,(hw b hb).2.2.2.2.2⟩) (fun b o _ _ hc e _=>k b o hc e) (fun b o _ _ hc e _=>⟨o.slots,k b o hc e⟩)
  (fun b o _ e n=>n) (fun b o hc e=>⟨o,k b o hc e⟩) (fun b ys e=>e) (fun b u ys e=>e) (fun b ps e=>⟨#[],by rw[e];simp⟩) (fun m hm=>?_) (fun b u e=>?_) I.bare
 . obtain⟨o,es,ep,ho,r⟩:=hm;exact⟨o,es,ep,k _ o (fun z=>(hw _ z).2.1 rfl) ho,r⟩
 . refine(I.hok b u e).stay (fun c v hc q=>k c v ?_ q) (fun c q=>q) fun c ys q=>q
   rcases hc with z |z
   . rw[z];exact nw b u e
   . exact nw c _ z
end
def ItP(S:Hp->Prop)(ps:List (V×V)):It:=⟨fun i H=>S H/\i<ps.length,fun i H x H'=>∃T a b,x=.ref T/\H T=none/\H'=upd H T (.tup [a,b])/\ps[i]?=some (a,b),fun i H=>S H/\i=ps.length⟩
def Jf:2<=sizeLine:=by rw[GF];decide
def zQ{P:Program}{w:World}{K:Frag}{aN:List Expr}{k:Nat}{pos:Pos}{e it l:Addr}{xs:List V}(gk:e≠it)(cy:l≠e)(gn:l≠it) :
  Turn P w K (.Tuple aN k pos) (ItP (fun H=>Rd H l (.lst xs)) ((B8 0 xs.length).zip xs)) [e,it] e (fun i h=>(∃old,IsEnum h e it i old)/\h.IsListIter it l i) where
 mem:=by simp
 obj:=fun i h ⟨⟨old,he⟩,⟨o1,h1,_,d1⟩⟩ c hc=>by
  have ar:c=e\/c=it:=by simpa using hc
  rcases ar with rfl |rfl
  . exact⟨_,he,fun v z=>by cases z⟩
  . exact⟨o1,h1,fun v z=>by rw[d1]at z;cases z⟩
 keep:=fun i h h' ⟨⟨old,he⟩,h1⟩ kp=>⟨⟨old,kp e (by simp) _ he⟩,h1.at fun o z=>kp it (by simp) o z⟩
 item:=by
  intro X hP hw hK hc i pins s U H E I hf st hg;subst hP hw hK;obtain⟨hS,aJ⟩:=hg;obtain⟨he,h1⟩:=st;obtain⟨its,r,p1,z1⟩:=I.list (.inl hS);have W:=WalksT.enumerate (prog:=X.prog) (w:=X.w) (A:=X.A) (I.ok.hd hc) e it l gk cy gn its.toArray;have lE:=r.length;have rD:i<xs.length:=by rw[BW,Bn]at aJ;lia
  have rE:i<its.toArray.size:=by simp only[mK];lia
  refine xH gk cy gn rE he h1 p1.isList fun T am h' tk rF hT ht hM hk=>⟨.ref T,rfl,?_⟩
  refine W.go aN k pos i T _ _ _ hM fun eL fK iN=>?_
  obtain⟨t,x,hx,rfl⟩:=rF;obtain⟨a,ea⟩:∃a,xs[i]?=some a:=⟨xs[i],by simp⟩;obtain⟨u1,q1,lF⟩:=r.get ea;have cR:its[i]?=some x:=by simpa using hx
  rw[q1]at cR;cases cR;obtain⟨oT,rG,rH,nT,bO⟩:=ht;have nj:IsTp eL T ([.int (i:Nat) t,x]:List Value).toArray:=⟨oT,iN T oT (W.apart i T _ hM) rG,rH,nT,bO⟩;have sub:∀c∈[e,it],t9 X pins H c:=fun c ar=>hf c ar
  have I2:=I.turnedT (tk:=tk) (xs:=[.int (i:Nat),a]) (its:=[.int (i:Nat) t,x]) sub (fun c o cT z=>iN c o cT (hk c o cT z)) hT nj (.cons ⟨_,rfl⟩ (.cons lF .nil)) Jf;have HT:H T=none:=I.hok.fresh hT;refine⟨.ref T,upd H T (.tup [.int (i:Nat),a]),I2,rfl,⟨T,.int (i:Nat),a,rfl,HT,rfl,?_⟩,⟨fK.1,fK.2.1⟩,fun c ar=>?_⟩
  . rw[DB];refine⟨?_,ea⟩;rw[Vy 0 _ _ rD];simp
  . rw[d9]
    . exact(hf c ar).1
    . intro ec;have hh:∃o,s.heap.get? c=some o:=by
       have dN:c=e\/c=it:=by simpa using ar
       obtain⟨old,fA⟩:=he;obtain⟨o1,g1,_⟩:=h1;rcases dN with z |z<;>subst z
       . exact⟨_,fA⟩
       . exact⟨_,g1⟩
      obtain⟨o,ho⟩:=hh;exact absurd (AY (Φ ho) hT) (by rw[ec];exact DH _)
 done:=by
  intro X hP hw hK hc i pins s U H E I hf st hg;subst hP hw hK;obtain⟨hS,nl⟩:=hg;obtain⟨he,h1⟩:=st;obtain⟨its,r,p1,z1⟩:=I.list (.inl hS);have W:=WalksT.enumerate (prog:=X.prog) (w:=X.w) (A:=X.A) (I.ok.hd hc) e it l gk cy gn its.toArray;have lE:=r.length;have hi:its.toArray.size=i:=by rw[BW,Bn]at nl;simp only[mK];lia
  rw[<-hi]at h1 he;exact W.done s _ _ ⟨he,h1,p1.isList⟩ fun h' tk hk=>⟨rfl,I.turnedN hf hk⟩
 self:=fun A i s Q E st h=>by obtain⟨⟨old,he⟩,_⟩:=st;exact wpAny_pyIter_enum he h
section
variable {X:Cx}{a:Expr}{ta:TA}{p pos aq:Pos}{aN:List Expr}{k:Nat}
def zP(h1:l1<n)(h2:l2<n):ZipApart (n+4) (n+2) (n+3) n (n+1) l1 l2:=PySem.W.ktu_apart _ _ _ h1 h2
def y10(ta:TA):TI:=fun U H R=>ta U H fun vs H1=>match vs with
 | [.ref l]=>∃xs,Rd H1 l (.lst xs)/\R (ItP (fun H=>Rd H l (.lst xs)) ((B8 0 xs.length).zip xs)) H1
 |_=>False
def xG(hg:Gl X "enumerate")(hm:X.mg "enumerate"=none)(ha:PA X [a] ta)(hs:starEach [a] X.env=[(false,eval a X.env)]) :
  PI X (.Tuple aN k aq) (.Call (.Name "enumerate" p) [a] [] pos) (y10 ta):=by
 intro pins s U H R I h
 refine Call_ (P8 I hg hm boot_enumerate (DQ (thn (ha pos pins s U H _ I h) fun us s1 ⟨vs,H1,I1,r1,q1⟩=>?_) hs rfl))
 dsimp only at q1
 split at q1
 . rename_i l;obtain⟨xs,e1,q⟩:=q1;obtain⟨u,rfl,ru⟩:=C3 r1;cases ru;obtain⟨fm,rJ,p1,_⟩:=I1.list (.inl e1);have il:l<s1.heap.objs.size:=by obtain⟨o,ho,_⟩:=p1.isList;exact Φ ho
   refine call_enumerate_list p1.isList fun h' he hi hsz hk=>?_
   refine wpAny_pyIter_enum he ⟨s1.heap.objs.size+1,[s1.heap.objs.size+1,s1.heap.objs.size],_,_,H1,rfl,I1.kept (t':=s1.toks) hk,zQ (Nat.succ_ne_self _) (BB (Nat.lt_succ_of_lt il)) (BB il),⟨⟨_,he⟩,hi⟩,fun c hc=>?_,q⟩;have ar:s1.heap.objs.size<=c:=by
    have:c=s1.heap.objs.size+1\/c=s1.heap.objs.size:=by simpa using hc
    rcases this with z |z<;>rw[z]<;>first |exact Nat.le_add_right _ _ |exact ζ _
   exact I1.fpOk ar (I1.hok.fresh ar)
 . exact q1.elim
end
section
variable {X:Cx}{tg:Expr}{a b:Expr}{ta:TA}{p pos:Pos}
def y11(hg:Gl X "range")(hm:X.mg "range"=none)(ha:PA X [a] ta)(hs:starEach [a] X.env=[(false,eval a X.env)]):PI X tg (.Call (.Name "range" p) [a] [] pos) (iR1 ta):=by
 intro pins s U H R I h;refine Call_ (P8 I hg hm boot_range (DQ (thn (ha pos pins s U H _ I h) fun us s1 ⟨vs,H1,I1,r1,q1⟩=>?_) hs rfl));dsimp only at q1;split at q1
 . rename_i j;obtain⟨⟨h1,h2⟩,q⟩:=q1;obtain⟨u,rfl,t,rfl⟩:=C3 r1;refine call_range_1 (thn (Xf (tg:=tg) (R:=fun J H1=>∃J',(∀i H,J'.go i H->J.go i H)/\(∀i H x H',J'.go i H->J.yld i H x H'->J'.yld i H x H')/\(∀i H,J'.stop i H->J.stop i H)/\R J' H1) I1 (by lia) (by lia) h1 h2 ?_) fun fu s2 h2=>?_)
   . refine⟨_,(Y7 0 (j - 0).toNat).1,(Y7 0 (j - 0).toNat).2.1,(Y7 0 (j - 0).toNat).2.2,?_⟩;simpa using q
   . obtain⟨it,fp,tn,J,H2,e,I2,T,st,hf,J',c1,c2,c3,r⟩:=h2;exact⟨it,fp,tn,J',H2,e,I2,T.conv c1 c2 c3,st,hf,r⟩
 . exact q1.elim
def y12(hg:Gl X "range")(hm:X.mg "range"=none)(ha:PA X [a,b] ta)(hs:starEach [a,b] X.env=[(false,eval a X.env),(false,eval b X.env)])(dw:starEach [b] X.env=[(false,eval b X.env)]) :
  PI X tg (.Call (.Name "range" p) [a,b] [] pos) (iR2 ta):=by
 intro pins s U H R I h
 refine Call_ (P8 I hg hm boot_range (DQ (thn (ha pos pins s U H _ I h) fun us s1 ⟨vs,H1,I1,r1,q1⟩=>?_) (by rw[hs,dw]) (by rw[dw];rfl)))
 dsimp only at q1
 split at q1
 . rename_i i j;obtain⟨⟨h1,h2,h3,h4⟩,q⟩:=q1;obtain⟨u,w',rfl,⟨t,rfl⟩,⟨t',rfl⟩⟩:=Ha r1;refine call_range_2 (thn (Xf (tg:=tg) (R:=fun J H1=>∃J',(∀i H,J'.go i H->J.go i H)/\(∀i H x H',J'.go i H->J.yld i H x H'->J'.yld i H x H')/\(∀i H,J'.stop i H->J.stop i H)/\R J' H1) I1 h1 h2 h3 h4 ?_) fun fu s2 h2=>?_)
   . exact⟨_,(Y7 i (j - i).toNat).1,(Y7 i (j - i).toNat).2.1,(Y7 i (j - i).toNat).2.2,q⟩
   . obtain⟨it,fp,tn,J,H2,e,I2,T,st,hf,J',c1,c2,c3,r⟩:=h2;exact⟨it,fp,tn,J',H2,e,I2,T.conv c1 c2 c3,st,hf,r⟩
 . exact q1.elim
end
def cB1:V->Hp->(List V->Hp->Prop)->Prop:=fun x H R=>R [x] H
def cBT(n:Nat):V->Hp->(List V->Hp->Prop)->Prop:=fun x H R=>match x with
 | .ref a=>(match H a with |some (.tup xs)=>xs.length=n/\R xs H |_=>False)
 |_=>False
section
variable {X:Cx}{sc:Scope}{caps:List Str}{ix:List Nat}{aH iter:Expr}{aC:List Expr}{pos px py aq:Pos}{tt:TT}{te:TE}{wi:TI}{x y:Str}{kt:Nat}
def jX(x:V)(bw cs:St)(H:Hp)(Q:St->Hp->Prop)(hl:bw.length=1)(h:cB1 x H (fun am H2=>Q (am.map some++cs) H2)):y8 0 x (bw++cs) H fun bv H2=>(∃am:List V,am.length=1/\bv=am.map some++cs)/\Q bv H2:=by
 match bw,hl with
 | [t],_=>exact⟨⟨[x],rfl,rfl⟩,h⟩
def jW{K:Frag}(x:V)(bw cs:St)(H:Hp)(Q:St->Hp->Prop)(hl:bw.length=2)(h:cBT 2 x H (fun am H2=>Q (am.map some++cs) H2)) :
  Ow K 2 (Ak (y8 0) (Ak (y8 1) Ox)) x (bw++cs) H fun bv H2=>(∃am:List V,am.length=2/\bv=am.map some++cs)/\Q bv H2:=by
 cases x<;>first |exact h.elim |skip
 rename_i a
 unfold cBT at h
 dsimp only at h
 split at h
 . rename_i xs e;obtain⟨hn,h⟩:=h
   match bw,hl,xs,hn with
   | [t,t'],_,[v,v'],_=>exact⟨a,[v,v'],rfl,.of e,rfl,v,[v'],rfl,v',[],rfl,rfl,⟨[v,v'],rfl,rfl⟩,h⟩
 . exact h.elim
def Fk(hN:(tgs++caps).Nodup)(hi:(tgs++caps)[i]?=some x)(hx:sc.names.lookup x=some .local)(fp:List Addr)(s:Shared)(H:Hp):PG (j9 X sc (tgs++caps) fp s H) (.Name x px) (y8 i):=
 Kr (X:=j9 X sc (tgs++caps) fp s H) hN hi (.inl (lookup_relabel_local hx)) (.inr (lookup_relabel_local hx))
def yU(C:CompOk X sc caps ix)(hN:([x]++caps).Nodup)(hx:sc.names.lookup x=some .local)(hi:PI X (.Name x px) iter wi)(ht:∀fp s H,PTs (j9 X sc ([x]++caps) fp s H) aC tt)(he:∀fp s H,PE (j9 X sc ([x]++caps) fp s H) aH te)
  (hs:∀x,foldedSetIterable iter X.env x=pure x):PE X (.ListComp aH [⟨.Name x px,iter,aC,0⟩] sc pos) (P5 wi cB1 ix tt te):=
 Wa (tgs:=[x]) C hi (fun fp s H=>Fk hN rfl hx fp s H) jX ht he hs
def yT{v:Str}{k:Nat}{bz pv:Pos}(eM:X.N.Nodup)(hk:X.N[k]?=some v)(hv:X.env.scope.names.lookup v=some .local)(C:CompOk X sc caps ix)(hN:([x]++caps).Nodup)(hx:sc.names.lookup x=some .local)(hi:PI X (.Name x px) iter wi)
  (ht:∀fp s H,PTs (j9 X sc ([x]++caps) fp s H) aC tt) (he:∀fp s H,PE (j9 X sc ([x]++caps) fp s H) aH te)
  (cL:swapsWith (.ListComp aH [⟨.Name x px,iter,aC,0⟩] sc pos) (some (.Name v pv)) bz.line X.env=pure true) (hs:∀x,foldedSetIterable iter X.env x=pure x) :
  PS X (.Assign [.Name v pv] (.ListComp aH [⟨.Name x px,iter,aC,0⟩] sc pos) bz) (G9 (P5 wi cB1 ix tt te) (y8 k)):=
 Vz (tgs:=[x]) eM hk hv C hi (fun fp s H=>Fk hN rfl hx fp s H) jX ht he cL hs
def Qj(hc:X.calm=true)(hN:([x,y]++caps).Nodup)(hx:sc.names.lookup x=some .local)(hy:sc.names.lookup y=some .local)(fp:List Addr)(s:Shared)(H:Hp) :
  PG (j9 X sc ([x,y]++caps) fp s H) (.Tuple [.Name x px,.Name y py] kt aq) (Ow X.K 2 (Ak (y8 0) (Ak (y8 1) Ox))):=
 Tw (X:=j9 X sc ([x,y]++caps) fp s H) hc (Lr (Fk hN rfl hx fp s H) (Lr (Fk hN rfl hy fp s H) pgs_nil)) rfl rfl
def yS(C:CompOk X sc caps ix)(hN:([x,y]++caps).Nodup)(hx:sc.names.lookup x=some .local)(hy:sc.names.lookup y=some .local)(hi:PI X (.Tuple [.Name x px,.Name y py] kt aq) iter wi)(ht:∀fp s H,PTs (j9 X sc ([x,y]++caps) fp s H) aC tt)
  (he:∀fp s H,PE (j9 X sc ([x,y]++caps) fp s H) aH te) (hs:∀x,foldedSetIterable iter X.env x=pure x):PE X (.ListComp aH [⟨.Tuple [.Name x px,.Name y py] kt aq,iter,aC,0⟩] sc pos) (P5 wi (cBT 2) ix tt te):=
 Wa (tgs:=[x,y]) C hi (fun fp s H=>Qj C.calm hN hx hy fp s H) jW ht he hs
def yR{v:Str}{k:Nat}{bz pv:Pos}(eM:X.N.Nodup)(hk:X.N[k]?=some v)(hv:X.env.scope.names.lookup v=some .local)(C:CompOk X sc caps ix)(hN:([x,y]++caps).Nodup)(hx:sc.names.lookup x=some .local)(hy:sc.names.lookup y=some .local)
  (hi:PI X (.Tuple [.Name x px,.Name y py] kt aq) iter wi) (ht:∀fp s H,PTs (j9 X sc ([x,y]++caps) fp s H) aC tt) (he:∀fp s H,PE (j9 X sc ([x,y]++caps) fp s H) aH te)
  (cL:swapsWith (.ListComp aH [⟨.Tuple [.Name x px,.Name y py] kt aq,iter,aC,0⟩] sc pos) (some (.Name v pv)) bz.line X.env=pure true) (hs:∀x,foldedSetIterable iter X.env x=pure x) :
  PS X (.Assign [.Name v pv] (.ListComp aH [⟨.Tuple [.Name x px,.Name y py] kt aq,iter,aC,0⟩] sc pos) bz) (G9 (P5 wi (cBT 2) ix tt te) (y8 k)):=
 Vz (tgs:=[x,y]) eM hk hv C hi (fun fp s H=>Qj C.calm hN hx hy fp s H) jW ht he cL hs
noncomputable def Gx(n:Nat)(t:TGs):TG:=fun v U H Q=>match v with
 | .ref a=>(match H a with |some (.tup xs)=>xs.length=n/\t xs U H Q |_=>False)
 |_=>False
noncomputable def Tp(t:TG)(u:TGs):TGs:=fun vs U H Q=>match vs with |v::r=>t v U H fun af H'=>u r af H' Q | []=>False
noncomputable def Qi:TGs:=fun vs U H Q=>match vs with | []=>Q U H |_=>False
def PGs.imp(h:PGs X es t)(hi:∀vs U H Q,t' vs U H Q->t vs U H Q):PGs X es t':=fun pins s U H vs us Q I r q=>h pins s U H vs us Q I r (hi vs U H Q q)
def PG.imp(h:PG X e t)(hi:∀v U H Q,t' v U H Q->t v U H Q):PG X e t':=fun pins s U H v u Q I r q=>h pins s U H v u Q I r (hi v U H Q q)
def yQ:PGs X [] Qi:=pgs_nil.imp fun vs U H Q q=>by
 cases vs with
 |nil=>exact⟨rfl,q⟩
 |cons _ _=>exact q.elim
def zO(h1:PG X e t)(h2:PGs X es u)(hs:(assignEach (e::es) X.env).map (·.2)=assign e X.env::(assignEach es X.env).map (·.2)):PGs X (e::es) (Tp t u):=(Lr h1 h2 hs).imp fun vs U H Q q=>by
 cases vs with
 |nil=>exact q.elim
 |cons v r=>exact⟨v,r,rfl,q⟩
def xF(hc:X.calm=true)(h:PGs X es t)
  (hn:(assignEach es X.env).length=n) (aU:(assignEach es X.env).findIdx? (·.1)=none):PG X (.Tuple es k pos) (Gx n t):=(Tw hc h hn aU).imp fun v U H Q q=>by
 cases v<;>first |exact q.elim |skip
 rename_i a
 unfold Gx at q
 dsimp only at q
 split at q
 . rename_i xs e;exact⟨a,xs,rfl,.of e,q.1,q.2⟩
 . exact q.elim
end
def y50(a:α)(r:List α):atI (a::r) 0=some a:=Kp (j:=0) rfl
def y51(a b:α)(r:List α):atI (a::b::r) 1=some b:=Kp (j:=1) rfl
section
variable {prog:Program}{w:World}{A:Around}{E:Value->Shared->Prop}{s:Shared}
theorem Wz(bL:t≠it):∀(n i:Nat)(s:Shared)(Q:List Value->Shared->Prop),s.heap.IsListIter it t i->s.heap.IsList t items->i+n<=items.size ->
  (∀h',h'.IsListIter it t (i+n)->Heap.SameBut it s.heap h'->Q ((items.toList.drop i).take n) { s with heap:=h' })->wpAny (model prog w) A (draw (.ref it) n) Q E s
 | 0,i,s,Q,aV,_,_,k=>by show wpAny _ _ (pure []) Q E s;exact ω (by simpa using k s.heap aV (Heap.SameBut.refl ..))
 |n+1,i,s,Q,aV,ht,cy,k=>by
  have aJ:i<items.size:=by lia
  show wpAny _ _ (pyNext (.ref it) >>= _) Q E s;refine χ (wpAny_pyNext_list_item aV ht (x:=items[i]) (by simp[aJ]) fun g1 lG gp=>?_);refine χ (CN (Wz bL n (i+1) _ _ lG (ht.extBut gp.extBut bL) (by lia) fun g2 rK rL=>ω ?_));have hd:items.toList.drop i=items[i]::items.toList.drop (i+1):=by simp[DF,aJ]
  have z:=k g2 (by rw[show i+(n+1)=i+1+n by lia];exact rK) (gp.trans rL);rw[hd,List.take_succ_cons]at z;exact z
def zM(hh:A.handled=none)(ht:s.heap.IsList t items)
  (k:∀h',(∀b o,s.heap.get? b=some o->h'.get? b=some o)->Q items.toList { s with heap:=h' }):wpAny (model prog w) A (unpackItems (.ref t) items.size none) Q E s:=by
 have aJ:t≠s.heap.objs.size:=by obtain⟨o,ho,_⟩:=ht;exact BB (Φ ho)
 have old:∀{b:Addr}{o:Obj},s.heap.get? b=some o->b≠s.heap.objs.size:=fun e=>BB (Φ e)
 unfold unpackItems
 refine χ ?_
 . unfold notIterableAtAll;refine χ (wpAny_specialOf ht.typeIs slot_list_iter.lookup ?_);refine ω ?_;simp only[BC,CT];refine χ (CN (wpAny_pyIter_list ht ?_));refine χ (CN (Wz aJ items.size 0 _ _ ⟨_,Ξ _ rfl,rfl,rfl⟩ (ht.push _) (by lia) fun g1 lG gp=>?_));have fN:List.take items.size (List.drop 0 items.toList)=items.toList:=by rw[List.drop_zero];exact CA (by simp)
   rw[fN];rw[ψ (by simp)];have rM:g1.IsList t items:=(ht.push _).extBut gp.extBut aJ;refine χ (CN (wpAny_pyNext_list_end hh lG rM (by simp) fun g2 rN=>?_));simp only[Option.isSome_none,BC,CT];exact ω (k g2 fun b o e=>rN b o (old e) (gp.extBut b o (old e) (Ψ _ e)))
def zgv(hh:A.handled=none)(ht:s.heap.IsList t items)
  (hn:(assignEach aN env).length=items.size) (ln:(assignEach aN env).findIdx? (·.1)=none)
  (h:∀h',(∀b o,s.heap.get? b=some o->h'.get? b=some o)->wpAny (model prog w) A (assignInOrder ((assignEach aN env).map (·.2)) items.toList) Q E { s with heap:=h' }) :
  wpAny (model prog w) A (assign (.Tuple aN x1 pos) env (.ref t)) Q E s:=by
 rw[assign_Tuple]
 refine χ (wpAny_standAt ?_)
 unfold unpack
 rw[hn,ln]
 exact χ (CN (zM hh ht h))
end
section
variable {X:Cx}{pos:Pos}
noncomputable def Ah(n:Nat)(t:TGs):TG:=fun v U H Q=>match v with
 | .ref a=>(match H a with
  |some (.tup xs)=>xs.length=n/\t xs U H Q
  |some (.lst xs)=>xs.length=n/\t xs U H Q
  |_=>False)
 |_=>False
def xE(hc:X.calm=true)(h:PGs X es t)
  (hn:(assignEach es X.env).length=n) (aU:(assignEach es X.env).findIdx? (·.1)=none):PG X (.Tuple es k pos) (Ah n t):=by
 intro pins s U H v u Q I r hw
 cases v<;>first |exact hw.elim |skip
 rename_i a
 unfold Ah at hw
 dsimp only at hw
 split at hw
 . rename_i xs e;exact xF hc h hn aU pins s U H (.ref a) u Q I r (by unfold Gx;dsimp only;rw[e];exact hw)
 . rename_i xs e;obtain⟨hl,hw⟩:=hw;cases r;obtain⟨its,rv,ht,hz⟩:=I.list (.of e);refine zgv (I.ok.hd hc) ht.isList (by simp[hn,<-hl,rv.length]) aU fun h' hx=>?_
   exact h pins _ U H xs _ Q (I.kept (t':=s.toks) hx) (by simpa using rv) hw
 . exact hw.elim
def Fj:List V->Hp->VK->Prop:=fun xs H Q=>match xs with
 | [x,.ty c]=>I0 c=true/\(match M8 H x with |some t=>Q (.bl (G7 t c)) H |none=>False)
 |_=>False
def Gw:List V->Hp->VK->Prop:=fun xs H Q=>match xs with
 | [.ref p]=>∃ns:List Int,E3 H p=some (ns.map V.int)/\Q (.int ns.sum) H
 |_=>False
def Gv:List V->Hp->VK->Prop:=fun xs H Q=>match xs with
 | [.ref p]=>∃bs:List Bool,Rd H p (.lst (bs.map V.bl))/\Q (.bl (bs.any id)) H
 |_=>False
def Qh:List V->Hp->VK->Prop:=fun xs H Q=>match xs with | [.int i]=>Q (.int i) H | [.bl k]=>Q (.int (if k then 1 else 0)) H |_=>False
section
variable {H:Hp}{Q:VK}{p:Addr}{x:V}{cs:String}
def vx:Fj [x,.ty cs] H Q=(I0 cs=true/\(match M8 H x with |some t=>Q (.bl (G7 t cs)) H |none=>False)):=rfl
def Vx:Gw [.ref p] H Q=∃ns:List Int,E3 H p=some (ns.map V.int)/\Q (.int ns.sum) H:=rfl
def xD:Gv [.ref p] H Q=∃bs:List Bool,Rd H p (.lst (bs.map V.bl))/\Q (.bl (bs.any id)) H:=rfl
end
def y13:CallR X (.builtin "isinstance") Fj:=yX
def Qg(hc:X.calm=true):CallR X (.builtin "sum") Gw:=zT hc
def Gu(hc:X.calm=true):CallR X (.builtin "any") Gv:=zS hc
def Gs:CallR X (.type "int") Qh:=zR
end
inductive NK where
 |i (n:Int)
 |t (ks:List NK)
noncomputable instance:DecidableEq NK:=fun a b=>Classical.propDecidable (a=b)
mutual
noncomputable def NK.dep:NK->Nat
 | .i _=>0
 | .t ks=>E5 ks+1
noncomputable def E5:List NK->Nat
 | []=>0
 |k::ks=>max k.dep (E5 ks)
end
mutual
noncomputable def NK.hs:NK->Int
 | .i n=>hashInt n
 | .t ks=>reduceHash (Builtin.Tuple.tupleHashOf (Z9 ks))
noncomputable def Z9:List NK->List Int
 | []=>[]
 |k::ks=>k.hs::Z9 ks
end
mutual
noncomputable def NK.dr:NK->Nat
 | .i _=>1
 | .t ks=>Fi ks+1
noncomputable def Fi:List NK->Nat
 | []=>0
 |k::ks=>k.dr+Fi ks
end
mutual
def NKv(h:Heap):NK->Value->Prop
 | .i n,v=>∃t,v=.int n t
 | .t ks,v=>∃a its,v=.ref a/\h.IsTuple a its/\NKvs h ks its.toList
def NKvs(h:Heap):List NK->List Value->Prop
 | [],vs=>vs=[]
 |k::ks,vs=>∃v r,vs=v::r/\NKv h k v/\NKvs h ks r
end
theorem NKvs.len:∀{ks:List NK}{vs:List Value},NKvs h ks vs->ks.length=vs.length
 | [],_,q=>by simp only[NKvs]at q;rw[q];rfl
 |k::ks,_,q=>by simp only[NKvs]at q;obtain⟨v,r,rfl,_,q⟩:=q;simp only[io,NKvs.len q]
def zL{h:Heap}{a:Addr}{x y:Array Value}(p:h.IsTuple a x)(q:h.IsTuple a y):x=y:=by obtain⟨o,e,c,n,d⟩:=p;obtain⟨o',e',c',n',d'⟩:=q;rw[e]at e';cases e';rw[d]at d';cases d';rfl
mutual
theorem NKv.inj:∀{k j:NK}{v:Value},NKv h k v->NKv h j v->k=j
 | .i n,.i m,v,p,q=>by simp only[NKv]at p q;obtain⟨t,rfl⟩:=p;obtain⟨t',e⟩:=q;cases e;rfl
 | .i n,.t ks,v,p,q=>by simp only[NKv]at p q;obtain⟨t,rfl⟩:=p;obtain⟨_,_,e,_⟩:=q;cases e
 | .t ks,.i m,v,p,q=>by simp only[NKv]at p q;obtain⟨t,rfl⟩:=q;obtain⟨_,_,e,_⟩:=p;cases e
 | .t ks,.t js,v,p,q=>by simp only[NKv]at p q;obtain⟨a,its,rfl,p1,p2⟩:=p;obtain⟨b,its',e,q1,q2⟩:=q;cases e;cases zL p1 q1;rw[NKvs.inj p2 q2]
theorem NKvs.inj:∀{ks js:List NK}{vs:List Value},NKvs h ks vs->NKvs h js vs->ks=js
 | [],[],_,_,_=>rfl
 | [],j::js,_,p,q=>by simp only[NKvs]at p q;subst p;obtain⟨_,_,e,_⟩:=q;cases e
 |k::ks,[],_,p,q=>by simp only[NKvs]at p q;subst q;obtain⟨_,_,e,_⟩:=p;cases e
 |k::ks,j::js,_,p,q=>by simp only[NKvs]at p q;obtain⟨v,r,rfl,p1,p2⟩:=p;obtain⟨_,_,e,q1,q2⟩:=q;cases e;rw[NKv.inj p1 q1,NKvs.inj p2 q2]
end
mutual
theorem NKv.stay(st:∀a its,h.IsTuple a its->h'.IsTuple a its):∀{k:NK}{v:Value},NKv h k v->NKv h' k v
 | .i n,v,p=>by simp only[NKv]at p⊢;exact p
 | .t ks,v,p=>by simp only[NKv]at p⊢;obtain⟨a,its,e,p1,p2⟩:=p;exact⟨a,its,e,st _ _ p1,NKvs.stay st p2⟩
theorem NKvs.stay(st:∀a its,h.IsTuple a its->h'.IsTuple a its):∀{ks:List NK}{vs:List Value},NKvs h ks vs->NKvs h' ks vs
 | [],_,p=>by simp only[NKvs]at p⊢;exact p
 |k::ks,_,p=>by simp only[NKvs]at p⊢;obtain⟨v,r,e,p1,p2⟩:=p;exact⟨v,r,e,NKv.stay st p1,NKvs.stay st p2⟩
end
section
variable {prog:Program}{w:World}
theorem Vw:∀(m:Nat){k:NK}{v:Value}{A:Around}{E:Value->Shared->Prop}{s:Shared}{Q:Int->Shared->Prop},k.dep<=m->A.units+m<cLine->NKv s.heap k v->Q k.hs { s with toks:=s.toks+k.dr }->wpAny (model prog w) A (pyHash v) Q E s
 |m,.i n,v,A,E,s,Q,hd,hu,p,q=>by simp only[NKv]at p;obtain⟨t,rfl⟩:=p;exact wpAny_pyHash_int q
 | 0,.t ks,v,A,E,s,Q,hd,hu,p,q=>by simp only[NK.dep]at hd;lia
 |m+1,.t ks,v,A,E,s,Q,hd,hu,p,q=>by
  simp only[NKv]at p;obtain⟨a,its,rfl,⟨o,e,c,n,d⟩,p2⟩:=p;simp only[NK.dep]at hd;show wpAny (model prog w) A (pyHashByItsType (.ref a)) Q E s;refine W.pyHash_slot (T:="tuple") ⟨o,e,c⟩ F.slot_tuple_hash F.entry_tuple_hash (F.args_tuple_hash_1 _) rfl (.inr (by lia)) ?_;refine χ (wpAny_of_eq (show slotArgs "__hash__" 0 ⟨[.ref a],[]⟩=pure (.ref a,[]) from rfl) ?_);show wpAny (model prog w) A.in1 (Builtin.Tuple.tupleItemsOf (.ref a) >>= _) _ _ s;refine χ (wpAny_tupleItemsOf e d ?_);refine χ ?_;have go:∀(ks:List NK)(vs:List Value)(b:Array Int)(s':Shared)(Q':Array Int->Shared->Prop),E5 ks<=m->NKvs s'.heap ks vs->(∀b':Array Int,b'.toList=b.toList++Z9 ks->Q' b' { s' with toks:=s'.toks+Fi ks }) ->
    wpAny (model prog w) A.in1 (forIn vs b fun x r=>do
     let h <-pyHash x
     pure (ForInStep.yield (r.push h))) Q' E s':=by
   intro ks
   induction ks with
   |nil=>
    intro vs b s' Q' _ p hq
    simp only[NKvs]at p;subst p
    exact ω (hq b (by simp[Z9]))
   |cons k ks ih=>
    intro vs b s' Q' hd p hq
    simp only[NKvs]at p
    obtain⟨v,r,rfl,p1,p2⟩:=p
    simp only[E5]at hd
    rw[List.forIn_cons]
    refine χ (χ (Vw m (by lia) (by show A.units+1+m<cLine;lia) p1 ?_))
    refine ω ?_
    refine ih r (b.push k.hs) _ Q' (by lia) p2 fun b' eN=>?_
    have:=hq b' (by rw[eN];simp[Z9])
    simpa only [Fi,Nat.add_assoc] using this
  rw[<-Array.forIn_toList];refine go ks its.toList #[] s _ (by lia) p2 fun b' eN=>?_
  show wpAny (model prog w) A.in1 (retInt (Builtin.Tuple.tupleHashOf b'.toList)) _ _ _;refine BR (wpAny_ret_mkInt (Q:=fun v s'=>∃n t,v=Value.int n t/\Q (reduceHash n) s') ⟨_,_,rfl,?_⟩) (fun fin s' h=>?_) fun _ _ h=>h
  . rw[eN];simpa only [NK.hs,NK.dr,Nat.add_assoc,EM] using q
  . obtain⟨v,rfl,n,t,rfl,hq⟩:=h;exact⟨n,t,rfl,hq⟩
theorem Qf:∀(m:Nat){k j:NK}{u v:Value}{A:Around},k.dep<=m->A.units+m<cLine->NKv s.heap k u->NKv s.heap j v->SeqAt.EqAt A s u v (decide (k=j))
 |m,.i n,.i n',u,v,A,hd,hu,p,q=>by
  simp only[NKv]at p q;obtain⟨t,rfl⟩:=p;obtain⟨t',rfl⟩:=q;have:decide (NK.i n=NK.i n')=(n==n'):=by
   by_cases h:n=n'
   . rw[h];simp
   . rw[decide_eq_false (fun e=>h (NK.i.inj e))];simp[h]
  rw[this];exact .int_int _ _ _ _
 |m,.i n,.t js,u,v,A,hd,hu,p,q=>by simp only[NKv]at p q;obtain⟨t,rfl⟩:=p;obtain⟨a,its,rfl,q1,_⟩:=q;rw[decide_eq_false (fun e=>by cases e)];exact .int_tuple _ _ q1 (by lia)
 |m,.t ks,.i n',u,v,A,hd,hu,p,q=>by simp only[NKv]at p q;obtain⟨t,rfl⟩:=q;obtain⟨a,its,rfl,q1,_⟩:=p;rw[decide_eq_false (fun e=>by cases e)];exact .tuple_int _ _ q1 (by lia)
 | 0,.t ks,.t js,u,v,A,hd,hu,p,q=>by simp only[NK.dep]at hd;lia
 |m+1,.t ks,.t js,u,v,A,hd,hu,p,q=>by
  have p0:=p;have q0:=q;simp only[NKv]at p q;obtain⟨a,its,rfl,p1,p2⟩:=p;obtain⟨b,ao,rfl,q1,q2⟩:=q;simp only[NK.dep]at hd;by_cases bh:a=b
  . subst bh;rw[decide_eq_true (NKv.inj p0 q0)];exact .same _
  . have l1:=p2.len;have l2:=q2.len;simp only[AW]at l1 l2;have ip:∀(ks:List NK)(vs:List Value),NKvs s.heap ks vs->∀j v,vs[j]?=some v->NKv s.heap (ks.getD j (.i 0)) v/\(ks.getD j (.i 0)).dep<=E5 ks:=by
     intro ks;induction ks with
     |nil=>intro vs p j v e;simp only[NKvs]at p;subst p;simp at e
     |cons k ks ih=>
      intro vs p j v e
      simp only[NKvs]at p
      obtain⟨v0,r,rfl,r1,r2⟩:=p
      cases j with
      |zero=>simp at e;subst e;exact⟨r1,by simp only[List.getD_cons_zero,E5];lia⟩
      |succ j=>
       simp only[List.getElem?_cons_succ]at e
       obtain⟨x1,x2⟩:=ih r r2 j v e
       exact⟨x1,by simp only[List.getD_cons_succ,E5];lia⟩
    have q:=SeqAt.RcAt.tuples (A:=A) p1 q1 (by lia) (e:=fun j=>decide (ks.getD j (.i 0)=js.getD j (.i 0))) fun j h1 h2=>by obtain⟨x1,x2⟩:=ip ks _ p2 j its[j] (by simp[h1]);obtain⟨y1,y2⟩:=ip js _ q2 j ao[j] (by simp[h2]);exact Qf m (by lia) (by show A.units+1+m<cLine;lia) x1 y1
    have eb:((List.range (min its.size ao.size)).all (fun j=>decide (ks.getD j (.i 0)=js.getD j (.i 0)))&&its.size==ao.size)=decide (NK.t ks=NK.t js):=by
     rw[DA,pr,CL,AR,EW];constructor
     . rintro⟨h1,h2⟩;congr 1;refine List.ext_getElem (by lia) fun j hj iq=>?_
       have:=h1 j (CW.mpr (by lia));rw[AR,gc,gc,AO hj,AO iq]at this;exact this
     . intro e;cases e;exact⟨fun j _=>decide_eq_true rfl,by lia⟩
    rw[eb]at q;exact .of_refs bh q
end
section
variable {prog:Program}{w:World}
theorem Wy:∀(m:Nat){k:NK}{v:Value}{Q:Bool->Shared->Prop},k.dep<=m->NKv s.heap k v->Q true s->wpAny (model prog w) A (eqIsQuiet m v) Q E s
 |m,.i n,v,Q,hd,p,q=>by simp only[NKv]at p;obtain⟨t,rfl⟩:=p;rw[eqIsQuiet.eq_3 _ _ (fun a e=>by cases e)];exact ω q
 | 0,.t ks,v,Q,hd,p,q=>by simp only[NK.dep]at hd;lia
 |m+1,.t ks,v,Q,hd,p,q=>by
  simp only[NKv]at p;obtain⟨a,its,rfl,⟨o,e,c,n,d⟩,p2⟩:=p;simp only[NK.dep]at hd;rw[eqIsQuiet.eq_2];refine χ (wpAny_specialOf (T:="tuple") ⟨o,e,c⟩ F.slot_tuple_eq.lookup ?_);show wpAny (model prog w) A (isInstance (.ref a) (.type "tuple") >>= _) _ _ s;refine χ (wpAny_isInstance (T:="tuple") (b:=true) ⟨o,e,c⟩ (by rfl) ?_);show wpAny (model prog w) A (seqItems? (.ref a) >>= _) _ _ s;refine χ (wpAny_seqItems e d ?_);refine χ ?_;have go:∀(ks:List NK)(vs:List Value)(Q':Option Bool×Unit->Shared->Prop),E5 ks<=m->NKvs s.heap ks vs->Q' (none,()) s ->
    wpAny (model prog w) A (forIn vs ((none,()):Option Bool×Unit) fun y __s=>do
     let __do_lift <-eqIsQuiet m y
     if(!__do_lift)=true then pure (ForInStep.done (some false,()))
      else pure (ForInStep.yield (none,()))) Q' E s:=by
   intro ks
   induction ks with
   |nil=>
    intro vs Q' _ p hq
    simp only[NKvs]at p;subst p
    exact ω hq
   |cons k ks ih=>
    intro vs Q' hd p hq
    simp only[NKvs]at p
    obtain⟨v,r,rfl,p1,p2⟩:=p
    simp only[E5]at hd
    rw[List.forIn_cons]
    refine χ (χ (Wy m (by lia) p1 ?_))
    refine ω ?_
    exact ih r Q' (by lia) p2 hq
  show wpAny (model prog w) A (forIn its ((none,()):Option Bool×Unit) _) _ _ s;rw[<-Array.forIn_toList];refine go ks its.toList _ (by lia) p2 ?_;exact ω q
def deepKind(prog:Program)(w:World):HeapKind prog w NK where
 is:=fun h k a=>NKv h k (.ref a)/\k.dep<=8
 hash:=NK.hs
 draws:=NK.dr
 room:=fun A=>A.units+8<cLine
 inj:=fun p q=>NKv.inj p.1 q.1
 keeps:=fun {h h' k a d o es ep} p e eo sb=>⟨NKv.stay (fun b its t=>by
  obtain⟨ob,eb,cb,n,db⟩:=t;have bL:b≠d:=fun z=>by subst z;rw[e]at eb;cases eb;rw[eo]at db;cases db
  exact⟨ob,(sb.2 b bL).trans eb,cb,n,db⟩) p.1,p.2⟩
 pyHash:=fun {A E s k a Q} hr p q=>Vw 8 p.2 hr p.1 q
 eqBool:=fun {A E s x y a b Q} hr p p' q=>Qf 8 p.2 hr p.1 p'.1 prog w E Q q
 quiet:=fun {A E s k a Q} p q=>Wy 8 p.2 p.1 q
end
def dnE(x:NK×Addr×Value):DictEntry:={ hash:=x.1.hs,key:=.ref x.2.1,val:=x.2.2 }
def dnP(a:Addr)(ks:List (NK×Addr))(xs:List V)(o:Obj)(h:Heap):Prop:=
 h.get? a=some o/\∃(vs:List Value)(es:Array DictEntry)(ep:Nat),Vals xs vs/\ks.length=vs.length/\o.ExactDict/\o.data=.dict es ep/\es.toList=((ks.zip vs).map fun q=>(q.1.1,q.1.2,q.2)).map dnE
def dnP.stay:∀h1 h2:Heap,dnP a ks xs o h1->(∀o,h1.get? a=some o->h2.get? a=some o)->dnP a ks xs o h2:=fun _ _ p k=>⟨k _ p.1,p.2⟩
mutual
def NKr(H:Hp):NK->V->Prop
 | .i n,v=>v=.int n
 | .t ks,v=>∃a ys,v=.ref a/\H a=some (.tup ys)/\NKrs H ks ys
def NKrs(H:Hp):List NK->List V->Prop
 | [],vs=>vs=[]
 |k::ks,vs=>∃v r,vs=v::r/\NKr H k v/\NKrs H ks r
end
mutual
theorem NKr.mono(st:∀a ys,H a=some (.tup ys)->H' a=some (.tup ys)):∀{k:NK}{v:V},NKr H k v->NKr H' k v
 | .i n,v,p=>by simp only[NKr]at p⊢;exact p
 | .t ks,v,p=>by simp only[NKr]at p⊢;obtain⟨a,ys,e,p1,p2⟩:=p;exact⟨a,ys,e,st _ _ p1,NKrs.mono st p2⟩
theorem NKrs.mono(st:∀a ys,H a=some (.tup ys)->H' a=some (.tup ys)):∀{ks:List NK}{vs:List V},NKrs H ks vs->NKrs H' ks vs
 | [],_,p=>by simp only[NKrs]at p⊢;exact p
 |k::ks,_,p=>by simp only[NKrs]at p⊢;obtain⟨v,r,e,p1,p2⟩:=p;exact⟨v,r,e,NKr.mono st p1,NKrs.mono st p2⟩
end
section
variable {X:Cx}{pins:List (Addr×Obj)}{U:St}{H:Hp}{s:Shared}
mutual
theorem Cm(I:Inv X pins U H s):∀{k:NK}{x:V}{u:Value},NKr H k x->RelV x u->NKv s.heap k u
 | .i n,x,u,p,r=>by simp only[NKr]at p;subst p;obtain⟨t,rfl⟩:=r;simp only[NKv];exact⟨t,rfl⟩
 | .t ks,x,u,p,r=>by simp only[NKr]at p;obtain⟨a,ys,rfl,p1,p2⟩:=p;cases r;obtain⟨its,r1,t1,_⟩:=I.tuple (.of p1);simp only[NKv];exact⟨a,its.toArray,rfl,t1,To I p2 r1⟩
theorem To(I:Inv X pins U H s):∀{ks:List NK}{xs:List V}{us:List Value},NKrs H ks xs->Vals xs us->NKvs s.heap ks us
 | [],_,_,p,r=>by simp only[NKrs]at p;subst p;cases r;simp only[NKvs]
 |k::ks,_,_,p,r=>by
  simp only[NKrs]at p;obtain⟨v,q,rfl,p1,p2⟩:=p;cases r with
  |cons a1 a2=>
   simp only[NKvs]
   exact⟨_,_,rfl,Cm I p1 a1,To I p2 a2⟩
end
end
def KL(K:Frag)(a:Addr)(xs:List V):Prop:=∃(o:Obj)(its:Array Value)(n:Nat),K.lookup a=some o/\o.cls=.type "list"/\o.dict=none/\o.data=.seq its n/\its.size<=sizeLine/\Vals xs its.toList
def XO(K:Frag)(c:String)(a:Addr)(od:Option Addr)(o:HO):Prop:=∃C:Addr,nsIn K mainGlobals (c:Str)=some (some (.ref C))/\o=.ext fun h=>∃ob,h.get? a=some ob/\ob.cls=.ref C/\(∃vs,ob.data=.fields vs)/\ob.dict=od
noncomputable def Oq(c:String):List Str:=if c="Fallen" then ["corner"] else if c="Crossed" then ["one","other"] else if c="NotFull" then ["line"] else []
inductive D where
 |non |bl (b:Bool) |int (i:Int) |str (x:Str) |tup (ds:List D) |lst (ds:List D)
 |dk (ks:List Key) (ds:List D) |dt (ks:List (List Key)) (ds:List D) |dn (ks:List NK) (ds:List D) |scr (ns:List Int) |exc (c:String) (fs:List D)
def DN(H:Hp)(a:Addr)(qs:List (NK×Addr)):Prop:=(qs.map (·.1)).Nodup/\(∀q∈qs,NKr H q.1 (.ref q.2)/\q.1.dep<=8)/\(a==sysModules)=false/\qs.length<=sizeLine
def DN.tk(h:DN H a qs)(st:∀a ys,H a=some (.tup ys)->H' a=some (.tup ys)):DN H' a qs:=
 ⟨h.1,fun q hq=>⟨NKr.mono st (h.2.1 q hq).1,(h.2.1 q hq).2⟩,h.2.2⟩
mutual
def RD(K:Frag)(H:Hp):D->V->Prop
 | .non,v=>v=.non
 | .bl b,v=>v=.bl b
 | .int i,v=>v=.int i
 | .str x,v=>v=.str x
 | .tup ds,v=>∃a xs,v=.ref a/\H a=some (.tup xs)/\RDs K H ds xs
 | .lst ds,v=>∃a xs,v=.ref a/\H a=some (.lst xs)/\RDs K H ds xs
 | .dk ks ds,v=>∃a xs,v=.ref a/\H a=some (.dK (ks.zip xs))/\ks.length=xs.length/\RDs K H ds xs
 | .dt ks ds,v=>∃a xs,v=.ref a/\H a=some (.dT (ks.zip xs))/\ks.length=xs.length/\RDs K H ds xs
 | .dn ks ds,v=>∃a qs xs o,v=.ref a/\H a=some (.ext (dnP a qs xs o))/\qs.map (·.1)=ks/\DN H a qs/\RDs K H ds xs
 | .scr ns,v=>∃a,v=.ref a/\((∃o,H a=some (.frz o (.lst (ns.map V.int))))\/KL K a (ns.map V.int))
 | .exc c fs,v=>∃a od o,v=.ref a/\XO K c a od o/\H a=some o/\(fs=[]\/∃(dx:Addr)(ns:List Int)(ob:Obj),od=some dx/\H dx=some (.frz ob (.xd ((Oq c).zip (ns.map V.int))))/\fs=ns.map D.int)
def RDs(K:Frag)(H:Hp):List D->List V->Prop
 | [],xs=>xs=[]
 |d::ds,xs=>∃x r,xs=x::r/\RD K H d x/\RDs K H ds r
end
mutual
noncomputable def D.noL:D->Bool
 | .lst _=>false
 | .dk _ _=>false
 | .dt _ _=>false
 | .dn _ _=>false
 | .tup ds=>j4 ds
 |_=>true
noncomputable def j4:List D->Bool
 | []=>true
 |d::ds=>d.noL&&j4 ds
end
mutual
noncomputable def D.pl:D->Bool
 | .dk _ _=>false
 | .dt _ _=>false
 | .dn _ _=>false
 | .scr _=>false
 | .exc _ _=>false
 | .tup ds=>pls ds
 | .lst ds=>pls ds
 |_=>true
noncomputable def pls:List D->Bool
 | []=>true
 |d::ds=>d.pl&&pls ds
end
def D.shal:D->Bool
 | .lst ds=>j4 ds
 | .dk _ ds=>j4 ds
 | .dt _ ds=>j4 ds
 | .dn _ ds=>j4 ds
 |d=>d.noL
def Imm:HO->Prop
 | .tup _=>True
 | .frz _ _=>True
 | .ext φ=>∀a qs xs o,φ≠dnP a qs xs o
 |_=>False
def XO.imm{K:Frag}{c:String}{a:Addr}{od:Option Addr}{o:HO}(h:XO K c a od o):Imm o:=by
 obtain⟨C,_,rfl⟩:=h;intro b qs xs o0 e;obtain⟨ob,dX⟩:∃ob:Obj,ob={ cls:=.ref C,dict:=od,data:=.fields #[] }:=⟨_,rfl⟩;have hg:∀(i:Nat)(o:Obj),({ objs:=Array.replicate (a+1) ob }:Heap).get? i=some o->o=ob:=fun i o q=>by
  by_cases hi:i<a+1
  . have z:({ objs:=Array.replicate (a+1) ob }:Heap).get? i=some ob:=by
     unfold Heap.get?
     rw[GV,ξ hi,dX]
    rw[z]at q;cases q;rfl
  . unfold Heap.get? at q;rw[GV,ψ hi]at q;cases q
 have h1:(fun h:Heap=>∃ob,h.get? a=some ob/\ob.cls=.ref C/\(∃vs,ob.data=.fields vs)/\ob.dict=od) { objs:=Array.replicate (a+1) ob }:=by refine⟨ob,?_,by rw[dX],⟨#[],by rw[dX]⟩,by rw[dX]⟩;unfold Heap.get?;rw[GV,ξ (Nat.lt_succ_self a),dX]
 rw[e]at h1;obtain⟨g,vs,es,ep,_,_,_,d,_⟩:=h1;rw[hg _ _ g,dX]at d;cases d
def TK(H H':Hp):Prop:=∀a o,Imm o->H a=some o->H' a=some o
section
variable {K:Frag}{H H':Hp}
mutual
theorem RD.tk(hs:TK H H'):∀{d:D}{v:V},d.noL=true->RD K H d v->RD K H' d v
 | .non,_,_,h=>by simp only[RD]at h⊢;exact h
 | .bl _,_,_,h=>by simp only[RD]at h⊢;exact h
 | .int _,_,_,h=>by simp only[RD]at h⊢;exact h
 | .str _,_,_,h=>by simp only[RD]at h⊢;exact h
 | .tup ds,_,n,h=>by simp only[RD]at h⊢;obtain⟨a,xs,e,h1,h2⟩:=h;exact⟨a,xs,e,hs _ _ trivial h1,RDs.tk hs (by simpa only [D.noL] using n) h2⟩
 | .lst ds,_,n,h=>by simp[D.noL]at n
 | .dk _ ds,_,n,h=>by simp[D.noL]at n
 | .dt _ ds,_,n,h=>by simp[D.noL]at n
 | .dn _ ds,_,n,h=>by simp[D.noL]at n
 | .exc c fs,_,n,h=>by
  simp only[RD]at h⊢;obtain⟨a,od,o,e,h1,h2,h3⟩:=h;refine⟨a,od,o,e,h1,hs _ _ h1.imm h2,?_⟩;rcases h3 with h3 |⟨dx,xs,ob,q1,q2,q3⟩
  . exact .inl h3
  . exact .inr ⟨dx,xs,ob,q1,hs _ _ trivial q2,q3⟩
 | .scr ns,_,n,h=>by
  simp only[RD]at h⊢;obtain⟨a,e,h1⟩:=h;refine⟨a,e,?_⟩;rcases h1 with⟨o,h1⟩ |h1
  . exact .inl ⟨o,hs _ _ trivial h1⟩
  . exact .inr h1
theorem RDs.tk(hs:TK H H'):∀{ds:List D}{xs:List V},j4 ds=true->RDs K H ds xs->RDs K H' ds xs
 | [],_,_,h=>by simp only[RDs]at h⊢;exact h
 |d::ds,_,n,h=>by simp only[RDs]at h⊢;simp only[j4,pr]at n;obtain⟨x,r,e,h1,h2⟩:=h;exact⟨x,r,e,RD.tk hs n.1 h1,RDs.tk hs n.2 h2⟩
end
mutual
theorem RD.mono(hs:Same H H'):∀{d:D}{v:V},RD K H d v->RD K H' d v
 | .non,_,h=>by simp only[RD]at h⊢;exact h
 | .bl _,_,h=>by simp only[RD]at h⊢;exact h
 | .int _,_,h=>by simp only[RD]at h⊢;exact h
 | .str _,_,h=>by simp only[RD]at h⊢;exact h
 | .tup ds,_,h=>by simp only[RD]at h⊢;obtain⟨a,xs,e,h1,h2⟩:=h;exact⟨a,xs,e,hs _ _ h1,RDs.mono hs h2⟩
 | .lst ds,_,h=>by simp only[RD]at h⊢;obtain⟨a,xs,e,h1,h2⟩:=h;exact⟨a,xs,e,hs _ _ h1,RDs.mono hs h2⟩
 | .dk _ ds,_,h=>by simp only[RD]at h⊢;obtain⟨a,xs,e,h1,hl,h2⟩:=h;exact⟨a,xs,e,hs _ _ h1,hl,RDs.mono hs h2⟩
 | .dn _ ds,_,h=>by simp only[RD]at h⊢;obtain⟨a,qs,xs,o,e,h1,hk,hd,h2⟩:=h;exact⟨a,qs,xs,o,e,hs _ _ h1,hk,hd.tk fun b ys q=>hs _ _ q,RDs.mono hs h2⟩
 | .dt _ ds,_,h=>by simp only[RD]at h⊢;obtain⟨a,xs,e,h1,hl,h2⟩:=h;exact⟨a,xs,e,hs _ _ h1,hl,RDs.mono hs h2⟩
 | .exc c fs,_,h=>by
  simp only[RD]at h⊢;obtain⟨a,od,o,e,h1,h2,h3⟩:=h;refine⟨a,od,o,e,h1,hs _ _ h2,?_⟩;rcases h3 with h3 |⟨dx,xs,ob,q1,q2,q3⟩
  . exact .inl h3
  . exact .inr ⟨dx,xs,ob,q1,hs _ _ q2,q3⟩
 | .scr ns,_,h=>by
  simp only[RD]at h⊢;obtain⟨a,e,h1⟩:=h;refine⟨a,e,?_⟩;rcases h1 with⟨o,h1⟩ |h1
  . exact .inl ⟨o,hs _ _ h1⟩
  . exact .inr h1
theorem RDs.mono(hs:Same H H'):∀{ds:List D}{xs:List V},RDs K H ds xs->RDs K H' ds xs
 | [],_,h=>by simp only[RDs]at h⊢;exact h
 |d::ds,_,h=>by simp only[RDs]at h⊢;obtain⟨x,r,e,h1,h2⟩:=h;exact⟨x,r,e,RD.mono hs h1,RDs.mono hs h2⟩
end
theorem RDs.length:∀{ds:List D}{xs:List V},RDs K H ds xs->ds.length=xs.length
 | [],_,h=>by simp only[RDs]at h;subst h;rfl
 |d::ds,_,h=>by simp only[RDs]at h;obtain⟨x,r,rfl,_,h2⟩:=h;simp[RDs.length h2]
theorem RDs.get:∀{ds:List D}{xs:List V}{i:Nat}{x:V},RDs K H ds xs->xs[i]?=some x->∃d,ds[i]?=some d/\RD K H d x
 | [],_,i,x,h,e=>by simp only[RDs]at h;subst h;simp at e
 |d::ds,_,i,x,h,e=>by
  simp only[RDs]at h;obtain⟨y,r,rfl,h1,h2⟩:=h;cases i with
  |zero=>simp at e;subst e;exact⟨d,rfl,h1⟩
  |succ i=>simp at e;obtain⟨d',e1,e2⟩:=RDs.get h2 e;exact⟨d',by simpa using e1,e2⟩
theorem RDs.get':∀{ds:List D}{xs:List V}{i:Nat}{d:D},RDs K H ds xs->ds[i]?=some d->∃x,xs[i]?=some x/\RD K H d x
 | [],_,i,d,h,e=>by simp at e
 |d'::ds,_,i,d,h,e=>by
  simp only[RDs]at h;obtain⟨y,r,rfl,h1,h2⟩:=h;cases i with
  |zero=>simp at e;subst e;exact⟨y,rfl,h1⟩
  |succ i=>simp at e;obtain⟨x',e1,e2⟩:=RDs.get' h2 e;exact⟨x',by simpa using e1,e2⟩
theorem RDs.append:∀{ds es:List D}{xs ys:List V},RDs K H ds xs->RDs K H es ys->RDs K H (ds++es) (xs++ys)
 | [],_,_,_,h,h'=>by simp only[RDs]at h;subst h;exact h'
 |d::ds,es,_,ys,h,h'=>by simp only[RDs]at h;obtain⟨x,r,rfl,h1,h2⟩:=h;simp only[CC,RDs];exact⟨x,r++ys,rfl,h1,RDs.append h2 h'⟩
def RDs.nil:RDs K H [] []:=by simp only[RDs]
def RDs.cons(h:RD K H d x)(h':RDs K H ds xs):RDs K H (d::ds) (x::xs):=by simp only[RDs];exact⟨x,xs,rfl,h,h'⟩
def RDs.one(h:RD K H d x):RDs K H [d] [x]:=.cons h .nil
theorem RDs.take:∀{ds:List D}{xs:List V}(n:Nat),RDs K H ds xs->RDs K H (ds.take n) (xs.take n)
 |_,_,0,_=>by simp[RDs]
 | [],_,n+1,h=>by simp only[RDs]at h;subst h;simp[RDs]
 |d::ds,_,n+1,h=>by simp only[RDs]at h;obtain⟨x,r,rfl,h1,h2⟩:=h;simp only[List.take_succ_cons];exact .cons h1 (RDs.take n h2)
theorem RDs.drop:∀{ds:List D}{xs:List V}(n:Nat),RDs K H ds xs->RDs K H (ds.drop n) (xs.drop n)
 |_,_,0,h=>h
 | [],_,n+1,h=>by simp only[RDs]at h;subst h;simp[RDs]
 |d::ds,_,n+1,h=>by simp only[RDs]at h;obtain⟨x,r,rfl,h1,h2⟩:=h;exact RDs.drop n h2
theorem RDs.set:∀{ds:List D}{xs:List V}(n:Nat){d:D}{x:V},RDs K H ds xs->RD K H d x->RDs K H (ds.set n d) (xs.set n x)
 | [],_,n,_,_,h,_=>by simp only[RDs]at h;subst h;simp[RDs]
 |d::ds,_,0,_,_,h,h'=>by simp only[RDs]at h;obtain⟨x,r,rfl,h1,h2⟩:=h;exact .cons h' h2
 |d::ds,_,n+1,_,_,h,h'=>by simp only[RDs]at h;obtain⟨x,r,rfl,h1,h2⟩:=h;exact .cons h1 (RDs.set n h2 h')
theorem RDs.ofInts:∀(ns:List Int),RDs K H (ns.map D.int) (ns.map V.int)
 | []=>by simp only[List.map,RDs]
 |n::ns=>by simp only[List.map];exact RDs.cons (by simp only[RD]) (RDs.ofInts ns)
end
mutual
noncomputable def eqD:D->D->Bool
 | .non,.non=>true
 | .bl a,.bl b=>a==b
 | .bl a,.int j=>(if a then 1 else 0)==j
 | .int i,.bl b=>i==(if b then 1 else 0)
 | .int i,.int j=>i==j
 | .str a,.str b=>a==b
 | .tup ds,.tup es=>k8 ds es
 | .lst ds,.lst es=>k8 ds es
 |_,_=>false
noncomputable def k8:List D->List D->Bool
 | [],[]=>true
 |d::ds,e::es=>eqD d e&&k8 ds es
 |_,_=>false
end
mutual
noncomputable def D.dep:D->Nat
 | .tup ds=>i7 ds+1
 | .lst ds=>i7 ds+1
 |_=>0
noncomputable def i7:List D->Nat
 | []=>0
 |d::ds=>max d.dep (i7 ds)
end
mutual
theorem Bm:∀d:D,d.pl=true->eqD d d=true
 | .non,_=>rfl
 | .bl b,_=>by simp[eqD]
 | .int b,_=>by simp[eqD]
 | .str b,_=>by simp[eqD]
 | .tup ds,h=>by simp only[eqD];exact Mg ds (by simpa only [D.pl] using h)
 | .lst ds,h=>by simp only[eqD];exact Mg ds (by simpa only [D.pl] using h)
 | .dk _ _,h=>by simp[D.pl]at h
 | .dt _ _,h=>by simp[D.pl]at h
 | .dn _ _,h=>by simp[D.pl]at h
 | .scr _,h=>by simp[D.pl]at h
 | .exc _ _,h=>by simp[D.pl]at h
theorem Mg:∀ds:List D,pls ds=true->k8 ds ds=true
 | [],_=>rfl
 |d::ds,h=>by simp only[pls,pr]at h;simp only[k8,Bm d h.1,Mg ds h.2,GU]
end
mutual
theorem RD.inj{K:Frag}{H:Hp}:∀{d e:D}{v:V},d.pl=true->e.pl=true->RD K H d v->RD K H e v->d=e
 | .non,e,v,_,p,h,h'=>by simp only[RD]at h;subst h;cases e<;>simp only[RD]at h'<;>first | (exfalso;simp[D.pl]at p;done) |rfl | (cases h';done) | (obtain⟨a,xs,z,_⟩:=h';cases z)
 | .bl b,e,v,_,p,h,h'=>by simp only[RD]at h;subst h;cases e<;>simp only[RD]at h'<;>first | (exfalso;simp[D.pl]at p;done) | (cases h';rfl) | (cases h';done) | (obtain⟨a,xs,z,_⟩:=h';cases z)
 | .int b,e,v,_,p,h,h'=>by simp only[RD]at h;subst h;cases e<;>simp only[RD]at h'<;>first | (exfalso;simp[D.pl]at p;done) | (cases h';rfl) | (cases h';done) | (obtain⟨a,xs,z,_⟩:=h';cases z)
 | .str b,e,v,_,p,h,h'=>by simp only[RD]at h;subst h;cases e<;>simp only[RD]at h'<;>first | (exfalso;simp[D.pl]at p;done) | (cases h';rfl) | (cases h';done) | (obtain⟨a,xs,z,_⟩:=h';cases z)
 | .dk _ _,e,v,p,_,h,h'=>by simp[D.pl]at p
 | .dt _ _,e,v,p,_,h,h'=>by simp[D.pl]at p
 | .dn _ _,e,v,p,_,h,h'=>by simp[D.pl]at p
 | .scr _,e,v,p,_,h,h'=>by simp[D.pl]at p
 | .exc _ _,e,v,p,_,h,h'=>by simp[D.pl]at p
 | .tup ds,e,v,p,p',h,h'=>by
  simp only[RD]at h;obtain⟨a,xs,rfl,h1,h2⟩:=h;cases e<;>simp only[RD]at h'
  case tup es=>
   obtain⟨b,ys,z,h3,h4⟩:=h'
   cases z
   rw[h1]at h3;cases h3
   rw[RDs.inj (by simpa only [D.pl] using p) (by simpa only [D.pl] using p') h2 h4]
  case lst es=>
   obtain⟨b,ys,z,h3,h4⟩:=h'
   cases z
   rw[h1]at h3;cases h3
  all_goals first | (exfalso;simp[D.pl]at p';done) |cases h'
 | .lst ds,e,v,p,p',h,h'=>by
  simp only[RD]at h;obtain⟨a,xs,rfl,h1,h2⟩:=h;cases e<;>simp only[RD]at h'
  case tup es=>
   obtain⟨b,ys,z,h3,h4⟩:=h'
   cases z
   rw[h1]at h3;cases h3
  case lst es=>
   obtain⟨b,ys,z,h3,h4⟩:=h'
   cases z
   rw[h1]at h3;cases h3
   rw[RDs.inj (by simpa only [D.pl] using p) (by simpa only [D.pl] using p') h2 h4]
  all_goals first | (exfalso;simp[D.pl]at p';done) |cases h'
theorem RDs.inj{K:Frag}{H:Hp}:∀{ds es:List D}{xs:List V},pls ds=true->pls es=true->RDs K H ds xs->RDs K H es xs->ds=es
 | [],es,xs,_,_,h,h'=>by
  simp only[RDs]at h;subst h;cases es<;>simp only[RDs]at h'
  . rfl
  . obtain⟨x,r,z,_⟩:=h';cases z
 |d::ds,es,xs,p,p',h,h'=>by
  simp only[RDs]at h;obtain⟨x,r,rfl,h1,h2⟩:=h;simp only[pls,pr]at p;cases es with
  |nil=>simp only[RDs]at h';cases h'
  |cons e es=>
   simp only[RDs]at h'
   obtain⟨y,r',z,h3,h4⟩:=h'
   cases z
   simp only[pls,pr]at p'
   rw[RD.inj p.1 p'.1 h1 h3,RDs.inj p.2 p'.2 h2 h4]
end
theorem Km:∀{ds:List D}{d:D},pls ds=true->d∈ds->d.pl=true
 |e::ds,d,h,m=>by
  simp only[pls,pr]at h;rcases ee.mp m with rfl |m
  . exact h.1
  . exact Km h.2 m
theorem Lm:∀{ds:List D}{d:D},d∈ds->d.dep<=i7 ds
 |d'::ds,d,h=>by
  simp only[i7];rcases ee.mp h with rfl |h
  . lia
  . have:=Lm h;lia
theorem Ll:∀{ds es:List D},ds.length=es.length->k8 ds es=(List.range ds.length).all fun j=>eqD (ds.getD j .non) (es.getD j .non)
 | [],[],_=>rfl
 | [],_::_,h=>by simp at h
 |_::_,[],h=>by simp at h
 |d::ds,e::es,h=>by simp only[k8,io];rw[Ll (by simpa using h),List.range_succ_eq_map,List.all_cons,List.all_map];rfl
theorem Lk:∀{ds es:List D},ds.length≠es.length->k8 ds es=false
 | [],[],h=>absurd rfl h
 | [],_::_,_=>rfl
 |_::_,[],_=>rfl
 |d::ds,e::es,h=>by simp only[k8];rw[Lk (by intro z;exact h (by simp[z])),Bool.and_false]
section
variable {X:Cx}{pins:List (Addr×Obj)}{U:St}{H:Hp}{s:Shared}
def Inv.tupA(I:Inv X pins U H s)(h:H a=some (.tup xs)):∃its:List Value,Vals xs its/\s.heap.IsTuple a its.toArray:=by obtain⟨its,r,t,_⟩:=I.tuple (.of h);exact⟨its,r,t⟩
def Inv.lstA(I:Inv X pins U H s)(h:H a=some (.lst xs)):∃its:List Value,Vals xs its/\s.heap.IsList a its.toArray:=by obtain⟨its,r,t,_⟩:=I.list (.of h);exact⟨its,r,t.isList⟩
inductive Shp (X:Cx) (H:Hp) (s:Shared):D->V->Value->Prop
 |non:Shp X H s .non .non .none
 |bl (b:Bool):Shp X H s (.bl b) (.bl b) (.bool b)
 |int (i:Int) (t:Tok):Shp X H s (.int i) (.int i) (.int i t)
 |str (c:Str) (t:Tok):Shp X H s (.str c) (.str c) (.str c t)
 |tup {ds:List D} {a:Addr} {xs:List V} {its:List Value} (p:pls ds=true) (h:H a=some (.tup xs)) (q:RDs X.K H ds xs) (r:Vals xs its) (t:s.heap.IsTuple a its.toArray):Shp X H s (.tup ds) (.ref a) (.ref a)
 |lst {ds:List D} {a:Addr} {xs:List V} {its:List Value} (p:pls ds=true) (h:H a=some (.lst xs)) (q:RDs X.K H ds xs) (r:Vals xs its) (t:s.heap.IsList a its.toArray):Shp X H s (.lst ds) (.ref a) (.ref a)
def shp(I:Inv X pins U H s)(p:d.pl=true)(h:RD X.K H d x)(r:RelV x u):Shp X H s d x u:=by
 cases d<;>simp only[RD]at h<;>first | (exfalso;simp[D.pl]at p;done) |skip
 . subst h;cases r;exact .non
 . subst h;cases r;exact .bl _
 . subst h;obtain⟨t,rfl⟩:=r;exact .int _ _
 . subst h;obtain⟨t,rfl⟩:=r;exact .str _ _
 . obtain⟨a,xs,rfl,h1,h2⟩:=h;cases r;obtain⟨its,v,t⟩:=I.tupA h1;exact .tup (by simpa only [D.pl] using p) h1 h2 v t
 . obtain⟨a,xs,rfl,h1,h2⟩:=h;cases r;obtain⟨its,v,t⟩:=I.lstA h1;exact .lst (by simpa only [D.pl] using p) h1 h2 v t
def Op(X:Cx)(H:Hp)(s:Shared)(A:Around)(n:Nat):Prop:=∀{d e:D}{x y:V}{u v:Value},d.pl=true->e.pl=true->d.dep<=n->RD X.K H d x->RD X.K H e y->RelV x u->RelV y v->SeqAt.EqAt A s u v (eqD d e)
def Vv(ih:Op X H s A n)(pd:pls ds=true)(pe:pls es=true)(rO:i7 ds<=n)(gr:RDs X.K H ds xs)(fB:RDs X.K H es ys)(r:Vals xs its)(r2:Vals ys ao)(j:Nat)
  (h1:j<its.toArray.size) (h2:j<ao.toArray.size):SeqAt.EqAt A s its.toArray[j] ao.toArray[j] (eqD (ds.getD j .non) (es.getD j .non)):=by
 have gu:j<its.length:=by simpa using h1
 have rP:j<ao.length:=by simpa using h2
 have l1:=r.length
 have l2:=r2.length
 obtain⟨u1,e1,q1⟩:=r.get (i:=j) (x:=xs[j]'(by lia)) (by simp)
 obtain⟨u2,e2,q2⟩:=r2.get (i:=j) (x:=ys[j]'(by lia)) (by simp)
 obtain⟨d1,g1,w1⟩:=gr.get (i:=j) (x:=xs[j]'(by lia)) (by simp)
 obtain⟨d2,g2,w2⟩:=fB.get (i:=j) (x:=ys[j]'(by lia)) (by simp)
 have ea:its.toArray[j]=u1:=by rw[AO gu]at e1;simpa using e1
 have eb:ao.toArray[j]=u2:=by rw[AO rP]at e2;simpa using e2
 have ga:ds.getD j .non=d1:=by rw[gc,g1];rfl
 have gb:es.getD j .non=d2:=by rw[gc,g2];rfl
 rw[ea,eb,ga,gb]
 exact ih (Km pd (DI g1)) (Km pe (DI g2)) (sg (Lm (DI g1)) rO) w1 w2 q1 q2
def xC(gr:RDs X.K H ds xs)(fB:RDs X.K H es ys)(r:Vals xs its)(r2:Vals ys ao) :
  ((List.range (min its.toArray.size ao.toArray.size)).all (fun j=>eqD (ds.getD j .non) (es.getD j .non))&&its.toArray.size==ao.toArray.size)=k8 ds es:=by
 have lx:=gr.length;have ly:=fB.length;have l1:=r.length;have l2:=r2.length
 simp only[mK]
 by_cases hl:ds.length=es.length
 . rw[Ll hl];have:its.length=ao.length:=by lia
   rw[this,GD,show ao.length=ds.length by lia];simp
 . rw[Lk hl];have:(its.length==ao.length)=false:=by simp;lia
   rw[this,Bool.and_false]
def xB(gr:RDs X.K H ds xs)(fB:RDs X.K H es ys)(r:Vals xs its)(r2:Vals ys ao)(hl:ds.length=es.length) :
  ((List.range its.toArray.size).all fun j=>eqD (ds.getD j .non) (es.getD j .non))=k8 ds es:=by
 have lx:=gr.length;have ly:=fB.length;have l1:=r.length;have l2:=r2.length
 rw[Ll hl,mK,show its.length=ds.length by lia]
def jV(hu:A.units<cLine)(ih:Op X H s A.in1 n)(hn:d.dep<=n+1)(sx:Shp X H s d x u)(sy:Shp X H s e y v):SeqAt.RcAt A s u v (eqD d e)/\SeqAt.RcNeAt A s u v (!eqD d e):=by
 cases sx with
 |non=>cases sy with
  |non=>exact⟨.none_none,.none_none⟩
  |bl _=>exact⟨.none_bool _,.none_bool _⟩
  |int _ _=>exact⟨.none_int _ _,.none_int _ _⟩
  |str _ _=>exact⟨.none_str _ _,.none_str _ _⟩
  |tup p2 h2 q2 r2 t2=>exact⟨.none_tuple t2 hu,.none_tuple t2 hu⟩
  |lst p2 h2 q2 r2 t2=>exact⟨.none_list t2 hu,.none_list t2 hu⟩
 |bl _=>cases sy with
  |non=>exact⟨.bool_none _,.bool_none _⟩
  |bl _=>exact⟨.bool_bool _ _,.bool_bool _ _⟩
  |int _ _=>exact⟨.bool_int _ _ _,.bool_int _ _ _⟩
  |str _ _=>exact⟨.bool_str _ _ _,.bool_str _ _ _⟩
  |tup p2 h2 q2 r2 t2=>exact⟨.bool_tuple _ t2 hu,.bool_tuple _ t2 hu⟩
  |lst p2 h2 q2 r2 t2=>exact⟨.bool_list _ t2 hu,.bool_list _ t2 hu⟩
 |int _ _=>cases sy with
  |non=>exact⟨.int_none _ _,.int_none _ _⟩
  |bl _=>exact⟨.int_bool _ _ _,.int_bool _ _ _⟩
  |int _ _=>exact⟨.int_int _ _ _ _,.int_int _ _ _ _⟩
  |str _ _=>exact⟨.int_str _ _ _ _,.int_str _ _ _ _⟩
  |tup p2 h2 q2 r2 t2=>exact⟨.int_tuple _ _ t2 hu,.int_tuple _ _ t2 hu⟩
  |lst p2 h2 q2 r2 t2=>exact⟨.int_list _ _ t2 hu,.int_list _ _ t2 hu⟩
 |str _ _=>cases sy with
  |non=>exact⟨.str_none _ _,.str_none _ _⟩
  |bl _=>exact⟨.str_bool _ _ _,.str_bool _ _ _⟩
  |int _ _=>exact⟨.str_int _ _ _ _,.str_int _ _ _ _⟩
  |str _ _=>exact⟨.str_str _ _ _ _,.str_str _ _ _ _⟩
  |tup p2 h2 q2 r2 t2=>exact⟨.str_tuple _ _ t2 hu,.str_tuple _ _ t2 hu⟩
  |lst p2 h2 q2 r2 t2=>exact⟨.str_list _ _ t2 hu,.str_list _ _ t2 hu⟩
 |tup p h q r t=>cases sy with
  |non=>exact⟨.tuple_none t hu,.tuple_none t hu⟩
  |bl _=>exact⟨.tuple_bool _ t hu,.tuple_bool _ t hu⟩
  |int _ _=>exact⟨.tuple_int _ _ t hu,.tuple_int _ _ t hu⟩
  |str _ _=>exact⟨.tuple_str _ _ t hu,.tuple_str _ _ t hu⟩
  |tup p2 h2 q2 r2 t2 => 
   simp only[D.dep]at hn
   have z:=Vv ih p p2 (Nat.le_of_succ_le_succ hn) q q2 r r2
   simp only[eqD]
   rw[<-xC q q2 r r2]
   exact⟨.tuples t t2 hu z,.tuples t t2 hu z⟩
  |lst p2 h2 q2 r2 t2=>exact⟨.tuple_list t t2 hu,.tuple_list t t2 hu⟩
 |lst p h q r t=>cases sy with
  |non=>exact⟨.list_none t hu,.list_none t hu⟩
  |bl _=>exact⟨.list_bool _ t hu,.list_bool _ t hu⟩
  |int _ _=>exact⟨.list_int _ _ t hu,.list_int _ _ t hu⟩
  |str _ _=>exact⟨.list_str _ _ t hu,.list_str _ _ t hu⟩
  |tup p2 h2 q2 r2 t2=>exact⟨.list_tuple t t2 hu,.list_tuple t t2 hu⟩
  |lst p2 h2 q2 r2 t2 => 
   rename_i ds _ xs its es _ ys ao
   simp only[D.dep]at hn
   have z:=Vv ih p p2 (Nat.le_of_succ_le_succ hn) q q2 r r2
   have lx:=q.length;have ly:=q2.length;have l1:=r.length;have l2:=r2.length
   simp only[eqD]
   by_cases hl:ds.length=es.length
   . have hsz:its.toArray.size=ao.toArray.size:=by simp;lia
     rw[<-xB q q2 r r2 hl];exact⟨.lists t t2 hsz hu z,.lists t t2 hsz hu z⟩
   . have hsz:(its.toArray.size != ao.toArray.size)=true:=by simp;lia
     rw[Lk hl];exact⟨.lists_lengths t t2 hsz hu,.lists_lengths t t2 hsz hu⟩
def Df(I:Inv X pins U H s):∀(n:Nat){A:Around}{d e:D}{x y:V}{u v:Value},d.pl=true->e.pl=true->d.dep<=n->A.units+n<cLine->RD X.K H d x->RD X.K H e y->RelV x u->RelV y v->SeqAt.EqAt A s u v (eqD d e):=by
 have key:∀(n:Nat){A:Around}{d e:D}{x y:V}{u v:Value},A.units<cLine->(∀m,m+1=n->Op X H s A.in1 m)->d.pl=true->e.pl=true->d.dep<=n->RD X.K H d x->RD X.K H e y->RelV x u->RelV y v->SeqAt.EqAt A s u v (eqD d e):=by
  intro n A d e x y u v hu ih ir gw hn hx hy ru rv;have sx:=shp I ir hx ru;have sy:=shp I gw hy rv;have back:∀{a b:Addr},u=.ref a->v=.ref b->x=.ref a->y=.ref b->1<=d.dep->SeqAt.EqAt A s u v (eqD d e):=fun {a b} eu ev ex ey h1=>by
   subst eu ev ex ey;by_cases bh:a=b
   . subst bh;rw[RD.inj ir gw hx hy,Bm _ gw];exact .same _
   . exact .of_refs bh (jV (n:=n - 1) hu (ih (n - 1) (by lia)) (by lia) sx sy).1
  cases sx with
  |non=>cases sy with
   |non=>exact .same _
   |bl _=>exact .none_bool _
   |int _ _=>exact .none_int _ _
   |str _ _=>exact .none_str _ _
   |tup p2 h2 q2 r2 t2=>exact .none_tuple t2 hu
   |lst p2 h2 q2 r2 t2=>exact .none_list t2 hu
  |bl _=>cases sy with
   |non=>exact .bool_none _
   |bl _=>exact .bool_bool _ _
   |int _ _=>exact .bool_int _ _ _
   |str _ _=>exact .bool_str _ _ _
   |tup p2 h2 q2 r2 t2=>exact .bool_tuple _ t2 hu
   |lst p2 h2 q2 r2 t2=>exact .bool_list _ t2 hu
  |int _ _=>cases sy with
   |non=>exact .int_none _ _
   |bl _=>exact .int_bool _ _ _
   |int _ _=>exact .int_int _ _ _ _
   |str _ _=>exact .int_str _ _ _ _
   |tup p2 h2 q2 r2 t2=>exact .int_tuple _ _ t2 hu
   |lst p2 h2 q2 r2 t2=>exact .int_list _ _ t2 hu
  |str _ _=>cases sy with
   |non=>exact .str_none _ _
   |bl _=>exact .str_bool _ _ _
   |int _ _=>exact .str_int _ _ _ _
   |str _ _=>exact .str_str _ _ _ _
   |tup p2 h2 q2 r2 t2=>exact .str_tuple _ _ t2 hu
   |lst p2 h2 q2 r2 t2=>exact .str_list _ _ t2 hu
  |tup p h q r t=>cases sy with
   |non=>exact .tuple_none t hu
   |bl _=>exact .tuple_bool _ t hu
   |int _ _=>exact .tuple_int _ _ t hu
   |str _ _=>exact .tuple_str _ _ t hu
   |tup p2 h2 q2 r2 t2=>exact back rfl rfl rfl rfl (by simp only[D.dep];exact Nat.succ_pos _)
   |lst p2 h2 q2 r2 t2=>exact .tuple_list t t2 hu
  |lst p h q r t=>cases sy with
   |non=>exact .list_none t hu
   |bl _=>exact .list_bool _ t hu
   |int _ _=>exact .list_int _ _ t hu
   |str _ _=>exact .list_str _ _ t hu
   |tup p2 h2 q2 r2 t2=>exact .list_tuple t t2 hu
   |lst p2 h2 q2 r2 t2=>exact back rfl rfl rfl rfl (by simp only[D.dep];exact Nat.succ_pos _)
 intro n;induction n with
 |zero=>exact fun p q hn hu=>key 0 (by lia) (fun m z=>nomatch z) p q hn
 |succ n ih=>exact fun {A d e x y u v} p q hn hu=>key (n+1) (by lia) (fun m z=>by cases z;exact fun p q hn=>ih p q hn (by show A.units+1+n<cLine;lia)) p q hn
def Tn(I:Inv X pins U H s)(ir:d.pl=true)(gw:e.pl=true)(hn:d.dep<=n)(hu:A.units+1+n<cLine)(hx:RD X.K H d x)(hy:RD X.K H e y)(ru:RelV x u)(rv:RelV y v):SeqAt.RcAt A s u v (eqD d e)/\SeqAt.RcNeAt A s u v (!eqD d e):=
 jV (n:=n) (by lia) (fun p q h=>Df I n p q h (by show A.units+1+n<cLine;lia)) (by lia) (shp I ir hx ru) (shp I gw hy rv)
end
section
variable {X:Cx}
open Classical in
def hitD(K:Frag)(H:Hp)(d:D)(u:Value):Bool:=match ku u with
 |some v=>decide (∃e,e.pl=true/\RD K H e v/\eqD e d=true)
 |none=>false
open Classical in
def Kl{K:Frag}{H:Hp}{d e:D}{y:V}{u:Value}(pe:e.pl=true)(r:RelV y u)(h:RD K H e y):hitD K H d u=eqD e d:=by unfold hitD;rw[r.abs];dsimp only;rw[DA];rw[decide_eq_true_iff];exact⟨fun⟨e',p',h',q⟩=>by rw[RD.inj pe p' h h'];exact q,fun q=>⟨e,pe,h,q⟩⟩
theorem Bl{K:Frag}{H:Hp}{d:D}:∀{es:List D}{xs:List V}{us:List Value},pls es=true->RDs K H es xs->Vals xs us->us.any (hitD K H d)=es.any fun e=>eqD e d
 | [],_,_,_,h,r=>by simp only[RDs]at h;subst h;cases r;rfl
 |e::es,_,_,p,h,r=>by
  simp only[RDs]at h;simp only[pls,pr]at p;obtain⟨x,xs,rfl,h1,h2⟩:=h;cases r with
  |cons r1 r2=>rw[FS,FS,Kl p.1 r1 h1,Bl p.2 h2 r2]
theorem S6{A:Around}{pins:List (Addr×Obj)}{U:St}{H:Hp}{s:Shared}(I:Inv X pins U H s)(hu:A.units+1+20<cLine){d:D}{x:V}{v:Value}(pd:d.pl=true)(hx:RD X.K H d x)(rx:RelV x v):∀{es:List D}{xs:List V}{us:List Value},
  pls es=true->RDs X.K H es xs->Vals xs us->i7 es<=20->∀u∈us,SeqAt.EqAt A.in1 s u v (hitD X.K H d u)
 | [],_,_,_,h,r,_=>by simp only[RDs]at h;subst h;cases r;intro u hu;cases hu
 |e::es,_,_,p,h,r,hd=>by
  simp only[RDs]at h;simp only[pls,pr]at p;obtain⟨y,xs,rfl,h1,h2⟩:=h;simp only[i7]at hd;cases r with
  |cons r1 r2=>
   intro u hm
   rcases ee.mp hm with z |hm
   . subst z;rw[Kl p.1 r1 h1];exact Df I 20 p.1 pd (by lia) (by show A.units+1+20<cLine;lia) h1 hx r1 rx
   . exact S6 I hu pd hx rx p.2 h2 r2 (by lia) u hm
end
structure Ex where
 cls:String
 fs:List D
inductive R (α:Type) where
 |ok (a:α) |er (x:Ex) |st
noncomputable def R.bind{α β:Type}(r:R α)(f:α->R β):R β:=match r with
 | .ok a=>f a
 | .er x=>.er x
 | .st=>.st
def Rk{α:Type}(EX:Ex->Prop)(r:R α)(k:α->Prop):Prop:=match r with
 | .ok a=>k a
 | .er x=>EX x
 | .st=>False
section
variable {α β:Type}{EX:Ex->Prop}
noncomputable def R.of(o:Option α):R α:=match o with
 |some a=>.ok a
 |none=>.st
def R.of_some(a:α):R.of (some a)=R.ok a:=rfl
def Rk.of(h:Rk EX (R.of o) k):∃a,o=some a/\k a:=by
 cases o with
 |none=>exact h.elim
 |some a=>exact⟨a,rfl,h⟩
def R.bind_ok(a:α)(f:α->R β):(R.ok a).bind f=f a:=rfl
def Rk.bind:Rk EX (r.bind f) k=Rk EX r fun a=>Rk EX (f a) k:=by cases r<;>rfl
def Rk.mono(h:Rk EX r k)(hk:∀a,k a->k' a):Rk EX r k':=by
 cases r with
 |ok a=>exact hk a h
 |er x=>exact h
 |st=>exact h
end
def Ext(H0 H aa H':Hp):Prop:=Same H0 aa/\Same aa H'/\∀a,H a≠none->H0 a=none->aa a=none
def Ext.refl(h:Same H0 H):Ext H0 H H0 H:=⟨Same.refl _,h,fun _ _ e=>e⟩
def Bc(h:o=some x):o≠none:=by rw[h];exact fun z=>nomatch z
def Same.ne(h:Same H H')(n:H a≠none):H' a≠none:=by
 cases e:H a with
 |none=>exact absurd e n
 |some o=>exact Bc (h a o e)
def Ext.trans(s:Same H H')(a:Ext H0 H aa H')(b:Ext aa H' nq gj):Ext H0 H nq gj:=
 ⟨a.1.trans b.1,b.2.1,fun c h1 h2=>b.2.2 c (s.ne h1) (a.2.2 c h1 h2)⟩
def Ext.grow(a:Ext H0 H aa H')(s:Same H' gj):Ext H0 H aa gj:=⟨a.1,a.2.1.trans s,a.2.2⟩
def Ext.new(h:Same H0 H)(hp:H p=none):Ext H0 H (upd H0 p o) (upd H p o):=by
 have h0:H0 p=none:=by
  cases e:H0 p with
  |none=>rfl
  |some u=>rw[h p u e]at hp;cases hp
 refine⟨Same.upd_new h0,fun b u e=>?_,fun a h1 h2=>?_⟩
 . by_cases hb:b=p
   . subst hb;rw[l4]at e⊢;exact e
   . rw[d9 hb]at e⊢;exact h b u e
 . have ha:a≠p:=fun z=>h1 (by rw[z];exact hp)
   rw[d9 ha];exact h2
def OB(K:Frag)(H0 H:Hp)(a:Addr):D->Prop
 | .lst ds=>∃xs,H a=some (.lst xs)/\RDs K H0 ds xs
 | .dk ks ds=>∃xs,H a=some (.dK (ks.zip xs))/\ks.length=xs.length/\RDs K H0 ds xs
 | .dt ks ds=>∃xs,H a=some (.dT (ks.zip xs))/\ks.length=xs.length/\RDs K H0 ds xs
 | .dn ks ds=>∃qs xs o,H a=some (.ext (dnP a qs xs o))/\qs.map (·.1)=ks/\DN H0 a qs/\RDs K H0 ds xs
 |_=>False
section
variable {K:Frag}{H0 H aa H':Hp}{a:Addr}{d:D}
def OB.some(h:OB K H0 H a d):∃o,H a=some o/\¬Imm o:=by
 cases d<;>simp only[OB]at h
 . obtain⟨xs,h,_⟩:=h;exact⟨_,h,fun z=>z⟩
 . obtain⟨xs,h,_⟩:=h;exact⟨_,h,fun z=>z⟩
 . obtain⟨xs,h,_⟩:=h;exact⟨_,h,fun z=>z⟩
 . obtain⟨qs,xs,o,h,_⟩:=h;exact⟨_,h,fun z=>z _ _ _ _ rfl⟩
def OB.mono(h:OB K H0 H a d)(s0:Same H0 aa)(s:Same H H'):OB K aa H' a d:=by
 cases d<;>simp only[OB]at h⊢
 . obtain⟨xs,h,r⟩:=h;exact⟨_,s _ _ h,r.mono s0⟩
 . obtain⟨xs,h,l,r⟩:=h;exact⟨_,s _ _ h,l,r.mono s0⟩
 . obtain⟨xs,h,l,r⟩:=h;exact⟨_,s _ _ h,l,r.mono s0⟩
 . obtain⟨qs,xs,o,h,k,n,r⟩:=h;exact⟨qs,xs,o,s _ _ h,k,n.tk fun b ys q=>s0 _ _ q,r.mono s0⟩
def OB.at(h:OB K H0 H a d)(e:H' a=H a):OB K H0 H' a d:=by
 cases d<;>simp only[OB]at h⊢
 . obtain⟨xs,h,r⟩:=h;exact⟨_,e.trans h,r⟩
 . obtain⟨xs,h,l,r⟩:=h;exact⟨_,e.trans h,l,r⟩
 . obtain⟨xs,h,l,r⟩:=h;exact⟨_,e.trans h,l,r⟩
 . obtain⟨qs,xs,o,h,k,n,r⟩:=h;exact⟨qs,xs,o,e.trans h,k,n,r⟩
def OB.tk(h:OB K H0 H a d)(n:d.shal=true)(t:TK H0 aa):OB K aa H a d:=by
 cases d<;>simp only[OB,D.shal]at h n⊢
 . obtain⟨xs,h,r⟩:=h;exact⟨_,h,r.tk t n⟩
 . obtain⟨xs,h,l,r⟩:=h;exact⟨_,h,l,r.tk t n⟩
 . obtain⟨xs,h,l,r⟩:=h;exact⟨_,h,l,r.tk t n⟩
 . obtain⟨qs,xs,o,h,k,m,r⟩:=h;exact⟨qs,xs,o,h,k,m.tk fun b ys q=>t _ _ trivial q,r.tk t n⟩
def OB.rd(h:OB K H0 H a d)(s0:Same H0 aa)(e:aa a=H a):RD K aa d (.ref a):=by
 cases d<;>simp only[OB,RD]at h⊢
 . obtain⟨xs,h,r⟩:=h;exact⟨_,_,rfl,e.trans h,r.mono s0⟩
 . obtain⟨xs,h,l,r⟩:=h;exact⟨_,_,rfl,e.trans h,l,r.mono s0⟩
 . obtain⟨xs,h,l,r⟩:=h;exact⟨_,_,rfl,e.trans h,l,r.mono s0⟩
 . obtain⟨qs,xs,o,h,k,n,r⟩:=h;exact⟨_,qs,xs,o,rfl,e.trans h,k,n.tk fun b ys q=>s0 _ _ q,r.mono s0⟩
end
def Out(K:Frag)(fr:Bool)(H0 H:Hp)(d:D)(v:V)(H':Hp):Prop:=
 Same H H'/\∃aa,Ext H0 H aa H'/\(if fr=true then ∃p,v=.ref p/\H p=none/\aa p=none/\OB K aa H' p d else RD K aa d v)
section
variable {K:Frag}{fr:Bool}{H0 H aa H':Hp}{d:D}{v:V}
def Out.val(s:Same H H')(e:Ext H0 H aa H')(r:RD K aa d v):Out K false H0 H d v H':=⟨s,aa,e,by rw[ψ η];exact r⟩
def Out.pure(s:Same H0 H)(r:RD K H0 d v):Out K false H0 H d v H:=.val (Same.refl _) (.refl s) r
def Out.fresh(s:Same H H')(e:Ext H0 H aa H')(hp:H p=none)(fC:aa p=none)(o:OB K aa H' p d):Out K true H0 H d (.ref p) H':=⟨s,aa,e,by rw[ξ rfl];exact⟨p,rfl,hp,fC,o⟩⟩
def Out.rd(o:Out K false H0 H d v H'):Same H H'/\∃aa,Ext H0 H aa H'/\RD K aa d v:=by obtain⟨s,aa,e,r⟩:=o;rw[ψ η]at r;exact⟨s,aa,e,r⟩
def Out.weak(o:Out K fr H0 H d v H'):Out K false H0 H d v H':=by
 cases fr with
 |false=>exact o
 |true=>
  obtain⟨s,aa,e,r⟩:=o
  rw[ξ rfl]at r
  obtain⟨p,rfl,hp,fC,ob⟩:=r
  obtain⟨u,hu,_⟩:=ob.some
  have e2:Ext H0 H (upd aa p u) H':=by
   refine⟨e.1.trans (Same.upd_new fC),fun b w q=>?_,fun a h1 h2=>?_⟩
   . by_cases hb:b=p
     . subst hb;rw[l4]at q;cases q;exact hu
     . rw[d9 hb]at q;exact e.2.1 b w q
   . rw[d9 (fun z=>h1 (by rw[z];exact hp))];exact e.2.2 a h1 h2
  exact .val s e2 (ob.rd (Same.upd_new fC) (by rw[l4,hu]))
def Out.after(s:Same H H1)(e:Ext H0 H ak H1)(o:Out K fr ak H1 d v H'):Out K fr H0 H d v H':=by
 obtain⟨s',aa,e',r⟩:=o;refine⟨s.trans s',aa,e.trans s e',?_⟩;cases fr with
 |false=>exact r
 |true=>
  rw[ξ rfl]at r⊢
  obtain⟨p,rfl,hp,r⟩:=r
  refine⟨p,rfl,?_,r⟩
  cases q:H p with
  |none=>rfl
  |some u=>rw[s p u q]at hp;cases hp
end
abbrev DE:=List (Option D)
def RE(K:Frag)(H:Hp)(ρ:DE)(U:St):Prop:=ρ.length=U.length/\∀(i:Nat) d,ρ[i]?=some (some d)->∃v,U[i]?=some (some v)/\RD K H d v
def RE.mono{K:Frag}{H H':Hp}{ρ:DE}{U:St}(h:RE K H ρ U)(s:Same H H'):RE K H' ρ U:=⟨h.1,fun i d e=>by obtain⟨v,h1,h2⟩:=h.2 i d e;exact⟨v,h1,h2.mono s⟩⟩
structure XW where
 hb:Hp
 p:Ex->Hp->Prop
abbrev F0:XW:=⟨fun _=>none,fun _ _=>False⟩
def F0.same(H:Hp):Same F0.hb H:=fun _ _ z=>nomatch z
def XW.at(W:XW)(x:Ex):Prop:=∀H',Same W.hb H'->W.p x H'
noncomputable def TEd(K:Frag)(EX:XW)(fr:Bool)(f:DE->R D):TE:=fun U H Q=>Same EX.hb H/\∃ρ H0,Same H0 H/\RE K H0 ρ U/\Rk EX.at (f ρ) fun d=>∀v H',Out K fr H0 H d v H'->Q v H'
noncomputable def TAd(K:Frag)(EX:XW)(f:DE->R (List D)):TA:=fun U H Q=>Same EX.hb H/\∃ρ H0,Same H0 H/\RE K H0 ρ U/\Rk EX.at (f ρ) fun ds=>∀vs H' aa,Same H H'->Ext H0 H aa H'->RDs K aa ds vs->Q vs H'
noncomputable def TTd(K:Frag)(EX:XW)(f:DE->R Bool):TT:=fun U H Q=>Same EX.hb H/\∃ρ H0,Same H0 H/\RE K H0 ρ U/\Rk EX.at (f ρ) fun b=>∀H',Same H H'->Q b H'
noncomputable def a6(i:Nat):DE->R D:=fun ρ=>match ρ[i]? with |some (some d)=>.ok d |_=>.st
noncomputable def eC(d:D):DE->R D:=fun _=>.ok d
def eOp(o:D->D->Option D)(fa fb:DE->R D):DE->R D:=fun ρ=>(fa ρ).bind fun x=>(fb ρ).bind fun y=>R.of (o x y)
def eUn(o:D->Option D)(fa:DE->R D):DE->R D:=fun ρ=>(fa ρ).bind fun x=>R.of (o x)
noncomputable def a9:DE->R (List D):=fun _=>.ok []
def a7(f:DE->R D)(fs:DE->R (List D)):DE->R (List D):=fun ρ=>(f ρ).bind fun d=>(fs ρ).bind fun ds=>.ok (d::ds)
def c6(m:List D->R D)(fs:DE->R (List D)):DE->R D:=fun ρ=>(fs ρ).bind m
def eCB(m:List D->Option D)(fs:DE->R (List D)):DE->R D:=fun ρ=>(fs ρ).bind fun ds=>R.of (m ds)
def m7(fs:DE->R (List D)):DE->R D:=fun ρ=>(fs ρ).bind fun ds=>if ds.length<=1000 then .ok (.tup ds) else .st
def l8(fs:DE->R (List D)):DE->R D:=fun ρ=>(fs ρ).bind fun ds=>if ds.length<=1000 then .ok (.lst ds) else .st
def eIf(t:DE->R Bool)(fa fb:DE->R D):DE->R D:=fun ρ=>(t ρ).bind fun b=>if b=true then fa ρ else fb ρ
def F4(t u:DE->R Bool):DE->R Bool:=fun ρ=>(t ρ).bind fun b=>if b=true then u ρ else .ok false
def bOr(t u:DE->R Bool):DE->R Bool:=fun ρ=>(t ρ).bind fun b=>if b=true then .ok true else u ρ
def u6(t:DE->R Bool):DE->R Bool:=fun ρ=>(t ρ).bind fun b=>.ok (!b)
noncomputable def asB:D->Option Bool
 | .bl b=>some b
 |_=>none
def b8(tr:D->Option Bool)(f:DE->R D):DE->R Bool:=fun ρ=>(f ρ).bind fun d=>R.of (tr d)
def F3(fa fb:DE->R D):DE->R D:=fun ρ=>(fa ρ).bind fun x=>(R.of (asB x)).bind fun b=>if b=true then fb ρ else .ok (.bl false)
def eOr(fa fb:DE->R D):DE->R D:=fun ρ=>(fa ρ).bind fun x=>(R.of (asB x)).bind fun b=>if b=true then .ok (.bl true) else fb ρ
def OpD(K:Frag)(fr:Bool)(o:D->D->Option D)(r:R2):Prop:=∀(H0 H:Hp)(x y:V)(d e z:D)(Q:VK),Same H0 H->RD K H0 d x->RD K H0 e y->o d e=some z->(∀v H',Out K fr H0 H z v H'->Q v H')->r x y H Q
def UnD(K:Frag)(fr:Bool)(o:D->Option D)(r:V->Hp->VK->Prop):Prop:=∀(H0 H:Hp)(x:V)(d z:D)(Q:VK),Same H0 H->RD K H0 d x->o d=some z->(∀v H',Out K fr H0 H z v H'->Q v H')->r x H Q
def F8(K:Frag)(fr:Bool)(m:List D->Option D)(r:List V->Hp->VK->Prop):Prop:=∀(H0 H:Hp)(xs:List V)(ds:List D)(z:D)(Q:VK),Same H0 H->RDs K H0 ds xs->m ds=some z->(∀v H',Out K fr H0 H z v H'->Q v H')->r xs H Q
def Oo(K:Frag)(tr:D->Option Bool)(r:V->Hp->(Bool->Hp->Prop)->Prop):Prop:=∀(H0 H:Hp)(x:V)(d:D)(b:Bool)(Q:Bool->Hp->Prop),Same H0 H->RD K H0 d x->tr d=some b->Q b H->r x H Q
section
variable {K:Frag}{EX:XW}{fr:Bool}{U:St}{H:Hp}{Q:VK}
def TEd.go(sx:Same EX.hb H)(s:Same H0 H)(e:RE K H0 ρ U)(h:Rk EX.at (f ρ) k)(hk:∀d,k d->∀v H' aa,Same H H'->Ext H0 H aa H'->RD K aa d v->Q v H'):TEd K EX false f U H Q:=
 ⟨sx,ρ,H0,s,e,h.mono fun d z v H' o=>by obtain⟨s',aa,e',r⟩:=o.rd;exact hk d z v H' aa s' e' r⟩
def TAd.go{f:DE->R (List D)}{ρ:DE}{H0:Hp}{k:List D->Prop}{Q:List V->Hp->Prop}(sx:Same EX.hb H)(s:Same H0 H)(e:RE K H0 ρ U)(h:Rk EX.at (f ρ) k)(hk:∀d,k d->∀v H' aa,Same H H'->Ext H0 H aa H'->RDs K aa d v->Q v H'):TAd K EX f U H Q:=
 ⟨sx,ρ,H0,s,e,h.mono fun d z v H' aa s' e' r=>hk d z v H' aa s' e' r⟩
def TTd.go{f:DE->R Bool}{ρ:DE}{H0:Hp}{k:Bool->Prop}{Q:Bool->Hp->Prop}(sx:Same EX.hb H)(s:Same H0 H)(e:RE K H0 ρ U)(h:Rk EX.at (f ρ) k)(hk:∀b,k b->∀H',Same H H'->Q b H'):TTd K EX f U H Q:=
 ⟨sx,ρ,H0,s,e,h.mono fun b z H' s'=>hk b z H' s'⟩
def TEd.weak(h:TEd K EX false f U H Q):TEd K EX fr f U H Q:=by obtain⟨sx,ρ,H0,s,e,h⟩:=h;exact⟨sx,ρ,H0,s,e,h.mono fun d z v H' o=>z v H' o.weak⟩
def y17(h:TEd K EX false (a6 i) U H Q):∃v,U[i]?=some (some v)/\Q v H:=by
 obtain⟨sx,ρ,H0,s,e,h⟩:=h;unfold a6 at h;split at h
 . rename_i d q;obtain⟨v,h1,h2⟩:=e.2 i d q;exact⟨v,h1,h v H (.pure s h2)⟩
 . exact h.elim
def Kk(hd:∀H0,RD K H0 d v)(h:TEd K EX false (eC d) U H Q):tC v U H Q:=by obtain⟨sx,ρ,H0,s,e,h⟩:=h;exact h v H (.pure s (hd _))
def Fh(ho:OpD K fr o r)(h:TEd K EX fr (eOp o fa fb) U H Q):tOp r (TEd K EX false fa) (TEd K EX false fb) U H Q:=by
 obtain⟨sx,ρ,H0,s,e,h⟩:=h;unfold eOp at h;rw[Rk.bind]at h;refine TEd.go sx s e h fun d h v H1 ak s1 e1 r1=>?_
 rw[Rk.bind]at h;refine TEd.go (sx.trans s1) e1.2.1 (e.mono e1.1) h fun d2 h v2 H2 bD s2 e2 r2=>?_
 obtain⟨z,hz,h⟩:=h.of;exact ho bD H2 v v2 d d2 z Q e2.2.1 (r1.mono e2.1) r2 hz fun w H3 o=>h w H3 (o.after (s1.trans s2) (e1.trans s1 e2))
def y52(ho:UnD K fr o r)(h:TEd K EX fr (eUn o fa) U H Q):tUn r (TEd K EX false fa) U H Q:=by
 obtain⟨sx,ρ,H0,s,e,h⟩:=h;unfold eUn at h;rw[Rk.bind]at h;refine TEd.go sx s e h fun d h v H1 ak s1 e1 r1=>?_
 obtain⟨z,hz,h⟩:=h.of;exact ho ak H1 v d z Q e1.2.1 r1 hz fun w H3 o=>h w H3 (o.after s1 e1)
def Qe{Q:List V->Hp->Prop}(h:TAd K EX a9 U H Q):Q8 U H Q:=by obtain⟨sx,ρ,H0,s,e,h⟩:=h;exact h [] H H0 (Same.refl _) (.refl s) .nil
def Je{Q:List V->Hp->Prop}{f:DE->R D}{fs:DE->R (List D)}(h:TAd K EX (a7 f fs) U H Q):J1 (TEd K EX false f) (TAd K EX fs) U H Q:=by
 obtain⟨sx,ρ,H0,s,e,h⟩:=h;unfold a7 at h;rw[Rk.bind]at h;refine TEd.go sx s e h fun d h v H1 ak s1 e1 r1=>?_
 rw[Rk.bind]at h;refine TAd.go (sx.trans s1) e1.2.1 (e.mono e1.1) h fun ds h vs H2 bD s2 e2 r2=>?_
 exact h (v::vs) H2 bD (s1.trans s2) (e1.trans s1 e2) (.cons (r1.mono e2.1) r2)
def On(hm:F8 K fr m r)(h:TEd K EX fr (eCB m fs) U H Q):tCB r (TAd K EX fs) U H Q:=by
 obtain⟨sx,ρ,H0,s,e,h⟩:=h;unfold eCB at h;rw[Rk.bind]at h;refine TAd.go sx s e h fun ds h vs H1 ak s1 e1 r1=>?_
 obtain⟨z,hz,h⟩:=h.of;exact hm ak H1 vs ds z Q e1.2.1 r1 hz fun w H3 o=>h w H3 (o.after s1 e1)
def Kj(h:n<=1000):n<=sizeLine:=sg h (by decide)
def y19(h:TEd K EX false (m7 fs) U H Q):kj (TAd K EX fs) U H Q:=by
 obtain⟨sx,ρ,H0,s,e,h⟩:=h;unfold m7 at h;rw[Rk.bind]at h;refine TAd.go sx s e h fun ds h vs H1 ak s1 e1 r1=>?_
 split at h
 . rename_i hl;refine⟨Kj (by rw[<-r1.length];exact hl),fun p hp=>h _ _ (.val (s1.trans (Same.upd_new hp)) (e1.trans s1 (.new e1.2.1 hp)) ?_)⟩;have rQ:ak p=none:=by
    cases q:ak p with
    |none=>rfl
    |some u=>rw[e1.2.1 p u q]at hp;cases hp
   simp only[RD];exact⟨p,vs,rfl,l4,r1.mono (Same.upd_new rQ)⟩
 . exact h.elim
def Same.none(s:Same H H')(h:H' p=none):H p=none:=by
 cases q:H p with
 |none=>rfl
 |some u=>rw[s p u q]at h;cases h
def Out.new(s:Same H0 H)(hp:H p=none)(dX:∀H',H' p=some o->OB K H0 H' p d):Out K true H0 H d (.ref p) (upd H p o):=
 .fresh (Same.upd_new hp) ((Ext.refl s).grow (Same.upd_new hp)) hp (s.none hp) (dX _ l4)
def y1a(h:TEd K EX true (l8 fs) U H Q):ki (TAd K EX fs) U H Q:=by
 obtain⟨sx,ρ,H0,s,e,h⟩:=h;unfold l8 at h;rw[Rk.bind]at h;refine TAd.go sx s e h fun ds h vs H1 ak s1 e1 r1=>?_
 split at h
 . rename_i hl;refine⟨Kj (by rw[<-r1.length];exact hl),fun p hp=>h _ _ (Out.after s1 e1 (.new e1.2.1 hp fun H' hH=>?_))⟩;simp only[OB];exact⟨vs,hH,r1⟩
 . exact h.elim
def y53(h:TEd K EX fr (eIf t fa fb) U H Q):tIf (TTd K EX t) (TEd K EX fr fa) (TEd K EX fr fb) U H Q:=by
 obtain⟨sx,ρ,H0,s,e,h⟩:=h;unfold eIf at h;rw[Rk.bind]at h;refine TTd.go sx s e h fun b h H1 s1=>?_
 have fin:∀{f:DE->R D},Rk EX.at (f ρ) (fun d=>∀v H',Out K fr H0 H d v H'->Q v H')->TEd K EX fr f U H1 Q:=fun {f} h=>
  ⟨sx.trans s1,ρ,H0,s.trans s1,e,h.mono fun d z v H' o=>z v H' (o.after s1 ((Ext.refl s).grow s1))⟩
 cases b with
 |true=>exact fin h
 |false=>exact fin h
def vw{t u:DE->R Bool}{Q:Bool->Hp->Prop}(h:TTd K EX (F4 t u) U H Q):kA (TTd K EX t) (TTd K EX u) U H Q:=by
 obtain⟨sx,ρ,H0,s,e,h⟩:=h;unfold F4 at h;rw[Rk.bind]at h;refine TTd.go sx s e h fun b h H1 s1=>?_
 cases b with
 |true=>exact TTd.go (sx.trans s1) (s.trans s1) e h fun b h H' s'=>h H' (s1.trans s')
 |false=>exact h H1 s1
def y1b{t u:DE->R Bool}{Q:Bool->Hp->Prop}(h:TTd K EX (bOr t u) U H Q):tOr (TTd K EX t) (TTd K EX u) U H Q:=by
 obtain⟨sx,ρ,H0,s,e,h⟩:=h;unfold bOr at h;rw[Rk.bind]at h;refine TTd.go sx s e h fun b h H1 s1=>?_
 cases b with
 |true=>exact h H1 s1
 |false=>exact TTd.go (sx.trans s1) (s.trans s1) e h fun b h H' s'=>h H' (s1.trans s')
def vv{t:DE->R Bool}{Q:Bool->Hp->Prop}(h:TTd K EX (u6 t) U H Q):kz (TTd K EX t) U H Q:=by obtain⟨sx,ρ,H0,s,e,h⟩:=h;unfold u6 at h;rw[Rk.bind]at h;exact TTd.go sx s e h fun b h H1 s1=>h H1 s1
end
noncomputable def y54(r:V->Hp->(Bool->Hp->Prop)->Prop)(t:TE):TT:=fun U H Q=>t U H fun x H'=>r x H' Q
noncomputable def Ag(K:Frag)(EX:XW)(g:D->DE->R Bool):V->TT:=fun x U H Q=>Same EX.hb H/\∃d ρ H0,Same H0 H/\RE K H0 ρ U/\RD K H0 d x/\Rk EX.at (g d ρ) fun b=>∀H',Same H H'->Q b H'
def Aw(o:D->D->Option D)(fb:DE->R D):D->DE->R Bool:=fun d ρ=>(fb ρ).bind fun y=>(R.of (o d y)).bind fun z=>R.of (asB z)
def X2(o:D->D->Option D)(fb:DE->R D)(g:D->DE->R Bool):D->DE->R Bool:=fun d ρ=>(fb ρ).bind fun y=>(R.of (o d y)).bind fun z=>(R.of (asB z)).bind fun b=>if b=true then g y ρ else .ok false
def Ab(fa:DE->R D)(g:D->DE->R Bool):DE->R Bool:=fun ρ=>(fa ρ).bind fun x=>g x ρ
def Bk(h:asB d=some b):d=.bl b:=by cases d<;>simp[asB]at h;subst h;rfl
def RD.bl{K:Frag}{H:Hp}{b:Bool}{v:V}(h:RD K H (.bl b) v):v=.bl b:=by simpa only [RD] using h
section
variable {K:Frag}{EX:XW}{U:St}{H:Hp}{Q:VK}{QB:Bool->Hp->Prop}
def y1c(h:TEd K EX false (F3 fa fb) U H Q):Ql (TEd K EX false fa) (TEd K EX false fb) U H Q:=by
 obtain⟨sx,ρ,H0,s,e,h⟩:=h;unfold F3 at h;rw[Rk.bind]at h;refine TEd.go sx s e h fun d h v H1 ak s1 e1 r1=>?_
 rw[Rk.bind]at h;obtain⟨b,hb,h⟩:=h.of;cases Bk hb;cases r1.bl;cases b with
 |true=>exact TEd.go (sx.trans s1) e1.2.1 (e.mono e1.1) h fun d h v H2 bD s2 e2 r2=>h v H2 (.val (s1.trans s2) (e1.trans s1 e2) r2)
 |false=>exact h _ H1 (.val s1 e1 (by simp only[RD]))
def y55(h:TEd K EX false (eOr fa fb) U H Q):jZ (TEd K EX false fa) (TEd K EX false fb) U H Q:=by
 obtain⟨sx,ρ,H0,s,e,h⟩:=h;unfold eOr at h;rw[Rk.bind]at h;refine TEd.go sx s e h fun d h v H1 ak s1 e1 r1=>?_
 rw[Rk.bind]at h;obtain⟨b,hb,h⟩:=h.of;cases Bk hb;cases r1.bl;cases b with
 |true=>exact h _ H1 (.val s1 e1 (by simp only[RD]))
 |false=>exact TEd.go (sx.trans s1) e1.2.1 (e.mono e1.1) h fun d h v H2 bD s2 e2 r2=>h v H2 (.val (s1.trans s2) (e1.trans s1 e2) r2)
def y1d(ht:Oo K tr r)(h:TTd K EX (b8 tr fa) U H QB):y54 r (TEd K EX false fa) U H QB:=by
 obtain⟨sx,ρ,H0,s,e,h⟩:=h;unfold b8 at h;rw[Rk.bind]at h;refine TEd.go sx s e h fun d h v H1 ak s1 e1 r1=>?_
 obtain⟨b,hb,h⟩:=h.of;exact ht ak H1 v d b QB e1.2.1 r1 hb (h H1 s1)
def vt(ht:Oo K tr r)(h:TEd K EX false (eUn (fun d=>(tr d).map fun b=>.bl (!b)) fa) U H Q) :
  (fun U H Q=>(TEd K EX false fa) U H fun x H1=>r x H1 fun k H2=>Q (.bl (!k)) H2) U H Q:=by
 obtain⟨sx,ρ,H0,s,e,h⟩:=h
 unfold eUn at h
 rw[Rk.bind]at h
 refine TEd.go sx s e h fun d h v H1 ak s1 e1 r1=>?_
 obtain⟨z,hz,h⟩:=h.of
 have hz:(tr d).map (fun b=>D.bl (!b))=some z:=hz
 cases hb:tr d with
 |none=>rw[hb]at hz;cases hz
 |some b=>
  rw[hb]at hz;cases hz
  exact ht ak H1 v d b _ e1.2.1 r1 hb (h _ H1 (.val s1 e1 (by simp only[RD])))
def y1e(ho:OpD K false o r)(h:TTd K EX (b8 asB (eOp o fa fb)) U H QB):Gz (tOp r (TEd K EX false fa) (TEd K EX false fb)) U H QB:=by obtain⟨sx,ρ,H0,s,e,h⟩:=h;unfold b8 at h;rw[Rk.bind]at h;unfold Gz;refine Fh (EX:=EX) ho ⟨sx,ρ,H0,s,e,h.mono fun d h v H' o=>?_⟩;obtain⟨b,hb,h⟩:=h.of;obtain⟨s',aa,e',r'⟩:=o.rd;cases Bk hb;cases r'.bl;exact h H' s'
def xA(ho:OpD K false o r)(h:Ag K EX (Aw o fb) x U H QB):Tr r (TEd K EX false fb) x U H QB:=by
 obtain⟨sx,d,ρ,H0,s,e,rx,h⟩:=h;unfold Aw at h;rw[Rk.bind]at h;refine TEd.go sx s e h fun d2 h v2 H2 bD s2 e2 r2=>?_
 rw[Rk.bind]at h;obtain⟨z,hz,h⟩:=h.of;obtain⟨b,hb,h⟩:=h.of;cases Bk hb;refine ho bD H2 x v2 d d2 _ _ e2.2.1 (rx.mono e2.1) r2 hz fun w H3 o=>?_
 obtain⟨s3,cV,e3,r3⟩:=o.rd;cases r3.bl;exact h H3 (s2.trans s3)
def xz(ho:OpD K false o r)(h:Ag K EX (X2 o fb g) x U H QB):Tq r (TEd K EX false fb) (Ag K EX g) x U H QB:=by
 obtain⟨sx,d,ρ,H0,s,e,rx,h⟩:=h;unfold X2 at h;rw[Rk.bind]at h;refine TEd.go sx s e h fun d2 h v2 H2 bD s2 e2 r2=>?_
 rw[Rk.bind]at h;obtain⟨z,hz,h⟩:=h.of;rw[Rk.bind]at h;obtain⟨b,hb,h9⟩:=h.of;cases Bk hb;refine ho bD H2 x v2 d d2 _ _ e2.2.1 (rx.mono e2.1) r2 hz fun w H3 o=>?_
 obtain⟨s3,cV,e3,r3⟩:=o.rd;cases r3.bl;clear h;have h:=h9;cases b with
 |true=>exact⟨(sx.trans s2).trans s3,d2,ρ,cV,e3.2.1,e.mono (e2.1.trans e3.1),r2.mono e3.1,h.mono fun z h H' s'=>h H' (s2.trans (s3.trans s'))⟩
 |false=>exact h H3 (s2.trans s3)
def vq(h:TTd K EX (Ab fa g) U H QB):Qm (TEd K EX false fa) (Ag K EX g) U H QB:=by obtain⟨sx,ρ,H0,s,e,h⟩:=h;unfold Ab at h;rw[Rk.bind]at h;exact TEd.go sx s e h fun d h v H1 ak s1 e1 r1=>⟨sx.trans s1,d,ρ,ak,e1.2.1,e.mono e1.1,r1,h.mono fun z h H' s'=>h H' (s1.trans s')⟩
end
inductive Sl where
 |em |im (d:D) |ow (d:D)
abbrev DS:=List Sl
noncomputable def Sl.see(b:Bool):Sl->Option D
 | .em=>none
 | .im d=>some d
 | .ow d=>if b=true then some d else none
noncomputable def Sl.frz(b:Bool):Sl->Sl
 | .ow d=>if b=true then .im d else .ow d
 |s=>s
def vis:List Bool->DS->DE
 |_,[]=>[]
 | [],s::r=>s.see false::vis [] r
 |b::m,s::r=>s.see b::vis m r
noncomputable def frz:List Bool->DS->DS
 |_,[]=>[]
 | [],s::r=>s::r
 |b::m,s::r=>s.frz b::frz m r
theorem Ki:∀(m:List Bool)(ρ:DS)(i:Nat),(vis m ρ)[i]?=(ρ[i]?).map (Sl.see (m.getD i false))
 | [],[],i=>by simp[vis]
 |_::_,[],i=>by simp[vis]
 | [],s::r,0=>by simp[vis]
 |b::m,s::r,0=>by simp[vis]
 | [],s::r,i+1=>by simpa [vis] using Ki [] r i
 |b::m,s::r,i+1=>by simpa [vis] using Ki m r i
theorem Mq:∀(m:List Bool)(ρ:DS),(vis m ρ).length=ρ.length
 | [],[]=>rfl
 |_::_,[]=>rfl
 | [],s::r=>by simp[vis,Mq [] r]
 |b::m,s::r=>by simp[vis,Mq m r]
def Sl.frz_false(s:Sl):s.frz false=s:=by cases s<;>simp[Sl.frz]
theorem Kh:∀(m:List Bool)(ρ:DS)(i:Nat),(L2.frz m ρ)[i]?=(ρ[i]?).map (Sl.frz (m.getD i false))
 | [],[],i=>by simp[frz]
 |_::_,[],i=>by simp[frz]
 | [],s::r,i=>by
  simp only[frz,List.getD_nil];cases h:(s::r)[i]? with
  |none=>rfl
  |some x=>simp[Sl.frz_false]
 |b::m,s::r,0=>by simp[frz]
 |b::m,s::r,i+1=>by simpa [frz] using Kh m r i
theorem Yz:∀(m:List Bool)(ρ:DS),(L2.frz m ρ).length=ρ.length
 | [],[]=>rfl
 |_::_,[]=>rfl
 | [],s::r=>rfl
 |b::m,s::r=>by simp[frz,Yz m r]
structure RS(K:Frag)(Hc Hb H0:Hp)(ρ:DS)(U:St)(H:Hp):Prop where
 sb:Same Hb H
 ext:Ext Hc Hb H0 H
 len:ρ.length=U.length
 im:∀(i:Nat) d,ρ[i]?=some (.im d)->∃v,U[i]?=some (some v)/\RD K H0 d v
 ow:∀(i:Nat) d,ρ[i]?=some (.ow d)->∃a,U[i]?=some (some (.ref a))/\H0 a=none/\Hb a=none/\OB K H0 H a d
 ap:∀(i j:Nat) d e a,ρ[i]?=some (.ow d)->ρ[j]?=some (.ow e)->U[i]?=some (some (.ref a))->U[j]?=some (some (.ref a))->i=j
def RS.grow{K:Frag}{Hc Hb H0 H H':Hp}{ρ:DS}{U:St}(R:RS K Hc Hb H0 ρ U H)(s:Same H H'):RS K Hc Hb H0 ρ U H':=
 ⟨R.sb.trans s,R.ext.grow s,R.len,R.im,fun i d e=>by obtain⟨a,h1,h2,h3,h4⟩:=R.ow i d e;exact⟨a,h1,h2,h3,h4.mono (Same.refl _) s⟩,R.ap⟩
def Msk(m:List Bool)(ρ:DS)(U:St)(a:Addr):Prop:=∃i d,m.getD i false=true/\ρ[i]?=some (.ow d)/\U[i]?=some (some (.ref a))
open Classical in
noncomputable def HeOf(m:List Bool)(ρ:DS)(U:St)(H0 H:Hp):Hp:=fun a=>if Msk m ρ U a then H a else H0 a
open Classical in
noncomputable def HdOf(m:List Bool)(ρ:DS)(U:St)(H0:Hp):Hp:=fun a=>if Msk m ρ U a then none else H0 a
section
variable {K:Frag}{Hc Hb H0 H H':Hp}{ρ:DS}{U:St}{m:List Bool}
def RS.msk(R:RS K Hc Hb H0 ρ U H)(h:Msk m ρ U a):H0 a=none/\Hb a=none/\∃o,H a=some o/\¬Imm o:=by obtain⟨i,d,_,h1,h2⟩:=h;obtain⟨a',q1,q2,q3,q4⟩:=R.ow i d h1;rw[h2]at q1;cases q1;exact⟨q2,q3,q4.some⟩
def Dy(h:Msk m ρ U a):HeOf m ρ U H0 H a=H a:=by unfold HeOf;exact ξ h
def Y3(h:¬Msk m ρ U a):HeOf m ρ U H0 H a=H0 a:=by unfold HeOf;exact ψ h
def Dx(h:Msk m ρ U a):HdOf m ρ U H0 a=none:=by unfold HdOf;exact ξ h
def Y2(h:¬Msk m ρ U a):HdOf m ρ U H0 a=H0 a:=by unfold HdOf;exact ψ h
def RS.he0(R:RS K Hc Hb H0 ρ U H)(m:List Bool):Same H0 (HeOf m ρ U H0 H):=fun b o e=>by
 by_cases h:Msk m ρ U b
 . rw[(R.msk h).1]at e;cases e
 . rw[Y3 h];exact e
def RS.heH(R:RS K Hc Hb H0 ρ U H)(m:List Bool):Same (HeOf m ρ U H0 H) H:=fun b o e=>by
 by_cases h:Msk m ρ U b
 . rw[Dy h]at e;exact e
 . rw[Y3 h]at e;exact R.ext.2.1 b o e
def RS.re(R:RS K Hc Hb H0 ρ U H)(m:List Bool):RE K (HeOf m ρ U H0 H) (vis m ρ) U:=by
 refine⟨by rw[Mq];exact R.len,fun i d e=>?_⟩;rw[Ki]at e;cases q:ρ[i]? with
 |none=>rw[q]at e;cases e
 |some s=>
  rw[q]at e
  simp only[BL,Option.some.injEq]at e
  cases s with
  |em=>cases e
  |im d'=>
   cases e
   obtain⟨v,h1,h2⟩:=R.im i d q
   exact⟨v,h1,h2.mono (R.he0 m)⟩
  |ow d'=>
   simp only[Sl.see]at e
   split at e
   . rename_i hm;cases e;obtain⟨a,h1,h2,h3,h4⟩:=R.ow i d q;exact⟨_,h1,h4.rd (R.he0 m) (Dy ⟨i,d,hm,q,h1⟩)⟩
   . cases e
def l7(keep:Bool)(m:List Bool)(ρ:DS):DS:=if keep=true then ρ else frz m ρ
def keeps(fr:Bool)(d:D):Bool:=if fr=true then d.shal else d.noL
def Apt(K:Frag)(fr:Bool)(Hb H0:Hp)(ρ:DS)(U:St)(H:Hp)(d:D)(v:V):Prop:=
 if fr=true then ∃p,v=.ref p/\H0 p=none/\Hb p=none/\OB K H0 H p d/\∀(i:Nat) e,ρ[i]?=some (.ow e)->U[i]?≠some (some (.ref p)) else RD K H0 d v
def Dw(h:(l7 keep m ρ)[i]?=some (.ow d)):ρ[i]?=some (.ow d)/\(keep=false->m.getD i false=false):=by
 unfold l7 at h;cases keep with
 |true=>exact⟨h,fun z=>nomatch z⟩
 |false=>
  rw[ψ η,Kh]at h
  cases q:ρ[i]? with
  |none=>rw[q]at h;cases h
  |some s=>
   rw[q]at h
   simp only[BL,Option.some.injEq]at h
   cases s with
   |em=>cases h
   |im d'=>cases h
   |ow d'=>
    simp only[Sl.frz]at h
    split at h
    . cases h
    . rename_i hm;cases h;exact⟨rfl,fun _=>by simpa using hm⟩
def RS.frame(R:RS K Hc Hb H0 ρ U H)(s:Same H H')(e:Ext (HeOf m ρ U H0 H) H aa H')(keep:Bool) :
  ∃aM,RS K Hc Hb aM (l7 keep m ρ) U H'/\TK aa aM/\(keep=false->aM=aa)/\(∀p,aa p=none->aM p=none)/\Same H0 aM:=by
 have iO:∀(i:Nat) d' a,ρ[i]?=some (.ow d')->U[i]?=some (some (.ref a))->¬Msk m ρ U a->aa a=none:=fun i d' a h1 h2 h3=>by obtain⟨a',q1,q2,q3,q4⟩:=R.ow i d' h1;rw[h2]at q1;cases q1;obtain⟨u,hu,_⟩:=q4.some;exact e.2.2 a (Bc hu) (by rw[Y3 h3];exact q2)
 have nr:∀{i:Nat}{d':D}{a:Addr},ρ[i]?=some (.ow d')->U[i]?=some (some (.ref a))->m.getD i false=false->¬Msk m ρ U a:=fun {i d' a} h1 h2 h3 ⟨j,e',q1,q2,q3⟩=>by have:=R.ap i j d' e' a h1 q2 h2 q3;subst this;rw[h3]at q1;cases q1
 cases keep with
 |true=>
  have uR:l7 true m ρ=ρ:=rfl
  have s0:Same H0 (HdOf m ρ U aa):=fun b u q=>by
   have hb:¬Msk m ρ U b:=fun z=>by rw[(R.msk z).1]at q;cases q
   rw[Y2 hb];exact e.1 b u (R.he0 m b u q)
  have tk:TK aa (HdOf m ρ U aa):=fun b u hi q=>by
   have hb:¬Msk m ρ U b:=fun z=>by obtain⟨_,_,w,hw,hn⟩:=R.msk z;have:=e.1 b w (by rw[Dy z];exact hw);rw[q]at this;cases this;exact hn hi
   rw[Y2 hb];exact q
  refine⟨HdOf m ρ U aa,⟨R.sb.trans s,⟨R.ext.1.trans s0,fun b u q=>?_,fun a h1 h2=>?_⟩,R.len,fun i d' q=>?_,fun i d' q=>?_,R.ap⟩,tk,(fun z=>nomatch z),fun p hp=>?_,s0⟩
  . by_cases hb:Msk m ρ U b
    . rw[Dx hb]at q;cases q
    . rw[Y2 hb]at q;exact e.2.1 b u q
  . by_cases hb:Msk m ρ U a
    . exact Dx hb
    . rw[Y2 hb];exact e.2.2 a (R.sb.ne h1) (by rw[Y3 hb];exact R.ext.2.2 a h1 h2)
  . obtain⟨w,h1,h2⟩:=R.im i d' q;exact⟨w,h1,h2.mono s0⟩
  . obtain⟨a,h1,h2,h3,h4⟩:=R.ow i d' q;refine⟨a,h1,?_,h3,h4.mono s0 s⟩;by_cases hb:Msk m ρ U a
    . exact Dx hb
    . rw[Y2 hb];exact iO i d' a q h1 hb
  . by_cases hb:Msk m ρ U p
    . exact Dx hb
    . rw[Y2 hb];exact hp
 |false=>
  refine⟨aa,⟨R.sb.trans s,?_,?_,fun i d' q=>?_,fun i d' q=>?_,fun i j d1 d2 a q1 q2=>?_⟩,fun _ _ _ z=>z,fun _=>rfl,fun _ z=>z,(R.he0 m).trans e.1⟩
  . refine⟨R.ext.1.trans ((R.he0 m).trans e.1),e.2.1,fun a h1 h2=>e.2.2 a (R.sb.ne h1) ?_⟩;have hb:¬Msk m ρ U a:=fun z=>h1 (R.msk z).2.1
    rw[Y3 hb];exact R.ext.2.2 a h1 h2
  . show(L2.frz m ρ).length=_;rw[Yz];exact R.len
  . have q':(L2.frz m ρ)[i]?=some (.im d'):=q;rw[Kh]at q';cases hs:ρ[i]? with
    |none=>rw[hs]at q';cases q'
    |some sl=>
     rw[hs]at q'
     simp only[BL,Option.some.injEq]at q'
     cases sl with
     |em=>cases q'
     |im d2=>
      cases q'
      obtain⟨w,h1,h2⟩:=R.im i d' hs
      exact⟨w,h1,h2.mono ((R.he0 m).trans e.1)⟩
     |ow d2=>
      simp only[Sl.frz]at q'
      split at q'
      . rename_i hm;cases q';obtain⟨a,h1,h2,h3,h4⟩:=R.ow i d' hs;obtain⟨u,hu,_⟩:=h4.some;refine⟨_,h1,h4.rd ((R.he0 m).trans e.1) ?_⟩;rw[hu];exact e.1 a u (by rw[Dy ⟨i,d',hm,hs,h1⟩];exact hu)
      . cases q'
  . obtain⟨q1,q2⟩:=Dw q;obtain⟨a,h1,h2,h3,h4⟩:=R.ow i d' q1;exact⟨a,h1,iO i d' a q1 h1 (nr q1 h1 (q2 rfl)),h3,h4.mono ((R.he0 m).trans e.1) s⟩
  . exact R.ap i j d1 d2 a (Dw q1).1 (Dw q2).1
def RS.out(R:RS K Hc Hb H0 ρ U H)(o:Out K fr (HeOf m ρ U H0 H) H d v H') :
  ∃aM,RS K Hc Hb aM (l7 (keeps fr d) m ρ) U H'/\Apt K fr Hb aM (l7 (keeps fr d) m ρ) U H' d v:=by
 obtain⟨s,aa,e,r⟩:=o
 obtain⟨aM,R',tk,eq,hn,_⟩:=R.frame s e (keeps fr d)
 refine⟨aM,R',?_⟩
 unfold Apt
 cases fr with
 |false=>
  rw[ψ η]at r⊢
  cases hk:keeps false d with
  |true=>exact r.tk tk (by simpa [keeps] using hk)
  |false=>rw[eq hk];exact r
 |true=>
  rw[ξ rfl]at r⊢
  obtain⟨p,rfl,hp,fC,ob⟩:=r
  refine⟨p,rfl,hn p fC,R.sb.none hp,?_,fun i e' q z=>?_⟩
  . cases hk:keeps true d with
    |true=>exact ob.tk (by simpa [keeps] using hk) tk
    |false=>rw[eq hk];exact ob
  . obtain⟨a,h1,_,_,h4⟩:=R.ow i e' (Dw q).1;rw[z]at h1;cases h1;obtain⟨u,hu,_⟩:=h4.some;rw[hp]at hu;cases hu
def RS.outs(R:RS K Hc Hb H0 ρ U H)(s:Same H H')(e:Ext (HeOf m ρ U H0 H) H aa H')(r:RDs K aa ds vs) :
  ∃aM,RS K Hc Hb aM (l7 (j4 ds) m ρ) U H'/\RDs K aM ds vs:=by
 obtain⟨aM,R',tk,eq,hn,_⟩:=R.frame s e (j4 ds)
 refine⟨aM,R',?_⟩
 cases hk:j4 ds with
 |true=>exact r.tk tk hk
 |false=>rw[eq hk];exact r
noncomputable def K6(fr:Bool)(i:Nat)(d:D)(ρ:DS):DS:=ρ.set i (if fr=true then .ow d else .im d)
def RS.put(R:RS K Hc Hb H0 ρ U H)(a:Apt K fr Hb H0 ρ U H d v)(i:Nat):RS K Hc Hb H0 (K6 fr i d ρ) (U.set i (some v)) H:=by
 unfold K6;have other:∀{j:Nat}{s:Sl},j≠i->(ρ.set i s)[j]?=ρ[j]?:=fun {j s} h=>by rw[BU (DR h)]
 have bx:∀{j:Nat},j≠i->(U.set i (some v))[j]?=U[j]?:=fun {j} h=>by rw[BU (DR h)]
 have here:∀{s s':Sl},(ρ.set i s)[i]?=some s'->s'=s/\(U.set i (some v))[i]?=some (some v):=fun {s s'} h=>by
  have hi:i<ρ.length:=by have:=(BS.mp h).1;simpa using this
  rw[CY hi]at h;cases h;exact⟨rfl,by rw[CY (by rw[<-R.len];exact hi)]⟩
 refine⟨R.sb,R.ext,by rw[BX,BX];exact R.len,fun j d' q=>?_,fun j d' q=>?_,fun j k d1 d2 b q1 q2 z1 z2=>?_⟩
 . by_cases hj:j=i
   . subst hj;obtain⟨h1,h2⟩:=here q;refine⟨v,h2,?_⟩;cases fr with
     |false=>
      rw[ψ η]at h1;cases h1
      unfold Apt at a
      rw[ψ η]at a;exact a
     |true=>rw[ξ rfl]at h1;cases h1
   . rw[other hj]at q;rw[bx hj];exact R.im j d' q
 . by_cases hj:j=i
   . subst hj;obtain⟨h1,h2⟩:=here q;cases fr with
     |false=>rw[ψ η]at h1;cases h1
     |true=>
      rw[ξ rfl]at h1;cases h1
      unfold Apt at a
      rw[ξ rfl]at a
      obtain⟨p,rfl,a1,a2,a3,_⟩:=a
      exact⟨p,h2,a1,a2,a3⟩
   . rw[other hj]at q;rw[bx hj];exact R.ow j d' q
 . by_cases hj:j=i
   . by_cases hk:k=i
     . rw[hj,hk]
     . subst hj;obtain⟨h1,h2⟩:=here q1;rw[other hk]at q2;rw[bx hk]at z2;rw[h2]at z1;cases fr with
       |false=>rw[ψ η]at h1;cases h1
       |true=>
        unfold Apt at a
        rw[ξ rfl]at a
        obtain⟨p,rfl,_,_,_,a4⟩:=a
        cases z1
        exact absurd z2 (a4 k d2 q2)
   . by_cases hk:k=i
     . subst hk;obtain⟨h1,h2⟩:=here q2;rw[other hj]at q1;rw[bx hj]at z1;rw[h2]at z2;cases fr with
       |false=>rw[ψ η]at h1;cases h1
       |true=>
        unfold Apt at a
        rw[ξ rfl]at a
        obtain⟨p,rfl,_,_,_,a4⟩:=a
        cases z2
        exact absurd z1 (a4 j d1 q1)
     . rw[other hj]at q1;rw[other hk]at q2;rw[bx hj]at z1;rw[bx hk]at z2;exact R.ap j k d1 d2 b q1 q2 z1 z2
end
inductive SR where
 |nx (ρ:DS) |bk (ρ:DS) |ct (ρ:DS) |rt (d:D) |er (x:Ex) |st
def SK(K:Frag)(EX:XW)(fr:Bool)(Hc Hb:Hp)(De:Ends):SR->Prop
 | .nx ρ=>∀U H H0,RS K Hc Hb H0 ρ U H->De.nx U H
 | .bk ρ=>∀U H H0,RS K Hc Hb H0 ρ U H->De.bk U H
 | .ct ρ=>∀U H H0,RS K Hc Hb H0 ρ U H->De.ct U H
 | .rt d=>∀v H,Out K fr Hc Hb d v H->De.rt v H
 | .er x=>EX.at x
 | .st=>False
noncomputable def TSd(K:Frag)(EX:XW)(fr:Bool)(g:DS->SR):TS:=fun De U H=>∃Hc Hb H0 ρ,Same EX.hb Hb/\RS K Hc Hb H0 ρ U H/\SK K EX fr Hc Hb De (g ρ)
noncomputable def R.toS{α:Type}(r:R α)(k:α->SR):SR:=match r with
 | .ok a=>k a
 | .er x=>.er x
 | .st=>.st
noncomputable def sNx:DS->SR:=fun ρ=>.nx ρ
noncomputable def b9(g1 g2:DS->SR):DS->SR:=fun ρ=>match g1 ρ with
 | .nx ρ'=>g2 ρ'
 |r=>r
noncomputable def see(ρ:DS):DE:=ρ.map (Sl.see true)
def sIf(t:DE->R Bool)(g1 g2:DS->SR):DS->SR:=fun ρ=>(t (see ρ)).toS fun b=>if b=true then g1 ρ else g2 ρ
def e8(fr:Bool)(i:Nat)(m:List Bool)(f:DE->R D):DS->SR:=fun ρ=>(f (vis m ρ)).toS fun d=>.nx (K6 fr i d (l7 (keeps fr d) m ρ))
def d8(m:List Bool)(f:DE->R D):DS->SR:=fun ρ=>(f (vis m ρ)).toS fun d=>.rt d
noncomputable def W8(i:Nat):DS->SR:=fun ρ=>match ρ[i]? with
 |some (.ow d)=>.rt d
 |_=>.st
def p9(f:DE->R D):DS->SR:=fun ρ=>(f (see ρ)).toS fun _=>.nx ρ
section
variable {K:Frag}{EX:XW}{fr:Bool}{Hc Hb H0 H H':Hp}{ρ:DS}{U:St}{De:Ends}{m:List Bool}
def SK.toS:SK K EX fr Hc Hb De (r.toS k)=Rk EX.at r fun a=>SK K EX fr Hc Hb De (k a):=by cases r<;>rfl
theorem X4:∀(ρ:DS),vis (List.replicate ρ.length true) ρ=see ρ
 | []=>rfl
 |s::r=>by show s.see true::vis (List.replicate r.length true) r=_;rw[X4 r];rfl
def RS.extE(R:RS K Hc Hb H0 ρ U H)(m:List Bool):Ext Hc Hb (HeOf m ρ U H0 H) H:=
 ⟨R.ext.1.trans (R.he0 m),R.heH m,fun a h1 h2=>by
  have hb:¬Msk m ρ U a:=fun z=>h1 (R.msk z).2.1
  rw[Y3 hb];exact R.ext.2.2 a h1 h2⟩
def RS.te(I:RS K Hc Hb H0 ρ U H)(sb:Same EX.hb Hb)(h:Rk EX.at (f (vis m ρ)) k)
  (hk:∀d,k d->∀v H' aM,RS K Hc Hb aM (l7 (keeps cq d) m ρ) U H'->Apt K cq Hb aM (l7 (keeps cq d) m ρ) U H' d v->Q v H'):TEd K EX cq f U H Q:=
 ⟨sb.trans I.sb,vis m ρ,HeOf m ρ U H0 H,I.heH m,I.re m,h.mono fun d z v H' o=>by obtain⟨aM,R',a⟩:=I.out o;exact hk d z v H' aM R' a⟩
def RS.tt(I:RS K Hc Hb H0 ρ U H)(sb:Same EX.hb Hb)(h:Rk EX.at (f (see ρ)) k)(hk:∀b,k b->∀H',RS K Hc Hb H0 ρ U H'->Q b H'):TTd K EX f U H Q:=by refine⟨sb.trans I.sb,see ρ,HeOf (List.replicate ρ.length true) ρ U H0 H,I.heH _,?_,h.mono fun b z H' s=>hk b z H' (I.grow s)⟩;rw[<-X4];exact I.re _
def y56(h:TSd K EX fr sNx De U H):Qs De U H:=by obtain⟨Hc,Hb,H0,ρ,sb,R,h⟩:=h;exact h U H H0 R
def y1f(h:TSd K EX fr (b9 g1 g2) De U H):kr (TSd K EX fr g1) (TSd K EX fr g2) De U H:=by
 obtain⟨Hc,Hb,H0,ρ,sb,R,h⟩:=h;refine⟨Hc,Hb,H0,ρ,sb,R,?_⟩;unfold b9 at h;cases q:g1 ρ with
 |nx ρ'=>rw[q]at h;exact fun af H' aa R'=>⟨Hc,Hb,aa,ρ',sb,R',h⟩
 |bk ρ'=>rw[q]at h;exact h
 |ct ρ'=>rw[q]at h;exact h
 |rt d=>rw[q]at h;exact h
 |er x=>rw[q]at h;exact h
 |st=>rw[q]at h;exact h
def y1g(h:TSd K EX fr (sIf t g1 g2) De U H):kq (TTd K EX t) (TSd K EX fr g1) (TSd K EX fr g2) De U H:=by
 obtain⟨Hc,Hb,H0,ρ,sb,R,h⟩:=h;unfold sIf at h;rw[SK.toS]at h;refine R.tt sb h fun b h H' R'=>?_
 cases b with
 |true=>exact⟨Hc,Hb,H0,ρ,sb,R',h⟩
 |false=>exact⟨Hc,Hb,H0,ρ,sb,R',h⟩
def Gq(h:TSd K EX fr (e8 cq i m f) De U H):G9 (TEd K EX cq f) (y8 i) De U H:=by obtain⟨Hc,Hb,H0,ρ,sb,R,h⟩:=h;unfold e8 at h;rw[SK.toS]at h;exact R.te sb h fun d h v H' aM R' a=>h _ H' aM (R'.put a i)
def y1h(h:TSd K EX fr (d8 m f) De U H):Oy (TEd K EX fr f) De U H:=by obtain⟨Hc,Hb,H0,ρ,sb,R,h⟩:=h;unfold d8 at h;rw[SK.toS]at h;exact⟨sb.trans R.sb,vis m ρ,HeOf m ρ U H0 H,R.heH m,R.re m,h.mono fun d z v H' o=>z v H' (o.after R.sb (R.extE m))⟩
def vp(h:TSd K EX true (W8 i) De U H):Oy (D5 i) De U H:=by
 obtain⟨Hc,Hb,H0,ρ,sb,R,h⟩:=h;unfold W8 at h;split at h
 . rename_i d q;obtain⟨a,h1,h2,h3,h4⟩:=R.ow i d q;show D5 i U H De.rt;unfold D5;rw[h1];exact h _ H (.fresh R.sb R.ext h3 h2 h4)
 . exact h.elim
def vo(h:TSd K EX fr (p9 f) De U H):Cp (TEd K EX false f) De U H:=by obtain⟨Hc,Hb,H0,ρ,sb,R,h⟩:=h;unfold p9 at h;rw[SK.toS]at h;refine⟨sb.trans R.sb,see ρ,HeOf (List.replicate ρ.length true) ρ U H0 H,R.heH _,by rw[<-X4];exact R.re _,h.mono fun d z v H' o=>?_⟩;exact z U H' H0 (R.grow o.1)
def RS.mutate(R:RS K Hc Hb H0 ρ U H)(h:ρ[i]?=some (.ow d))(ha:U[i]?=some (some (.ref a)))(ob:OB K H0 (upd H a o) a d'):RS K Hc Hb H0 (ρ.set i (.ow d')) U (upd H a o):=by
 obtain⟨a',q1,q2,q3,q4⟩:=R.ow i d h;rw[ha]at q1;cases q1;have hi:i<ρ.length:=(BS.mp h).1;have other:∀{j:Nat}{s:Sl},j≠i->(ρ.set i s)[j]?=ρ[j]?:=fun {j s} h=>by rw[BU (DR h)]
 have here:(ρ.set i (.ow d'))[i]?=some (.ow d'):=by rw[CY hi]
 have sm:∀{H1:Hp},Same H1 H->H1 a=none->Same H1 (upd H a o):=fun s n=>s.upd_at n
 refine⟨sm R.sb q3,⟨R.ext.1,sm R.ext.2.1 q2,R.ext.2.2⟩,by rw[BX];exact R.len,fun j d2 q=>?_,fun j d2 q=>?_,fun j k d1 d2 b z1 z2=>?_⟩
 . have hj:j≠i:=fun z=>by subst z;rw[here]at q;cases q
   rw[other hj]at q;exact R.im j d2 q
 . by_cases hj:j=i
   . subst hj;rw[here]at q;cases q;exact⟨a,ha,q2,q3,ob⟩
   . rw[other hj]at q;obtain⟨b,h1,h2,h3,h4⟩:=R.ow j d2 q;have hb:b≠a:=fun z=>hj (R.ap j i d2 d b q h h1 (by rw[z];exact ha))
     exact⟨b,h1,h2,h3,h4.at (d9 hb)⟩
 . have back:∀{j:Nat}{d1:D},(ρ.set i (.ow d'))[j]?=some (.ow d1)->∃d0,ρ[j]?=some (.ow d0):=fun {j d1} z=>by
    by_cases hj:j=i
    . subst hj;exact⟨d,h⟩
    . rw[other hj]at z;exact⟨_,z⟩
   obtain⟨e1,z1⟩:=back z1
   obtain⟨e2,z2⟩:=back z2
   exact R.ap j k e1 e2 b z1 z2
def Z8(K:Frag)(mt:D->List D->Option D)(r:V->List V->Hp->VK->Prop):Prop:=∀(H0 H:Hp)(a:Addr)(d d':D)(ds:List D)(vs:List V)(Q:VK),Same H0 H->H0 a=none->OB K H0 H a d->RDs K H0 ds vs->mt d ds=some d' ->
 (∀v o,OB K H0 (upd H a o) a d'->Q v (upd H a o))->r (.ref a) vs H Q
noncomputable def isT(T:String):D->Bool
 | .lst _=>T=="list"
 | .dk _ _=>T=="dict"
 | .dt _ _=>T=="dict"
 |_=>false
def TyD(K:Frag)(T:String):Prop:=∀(H0 H:Hp)(a:Addr)(d:D),OB K H0 H a d->isT T d=true->tyV K T (.ref a) H
def F1(T:String)(mt:D->List D->Option D)(i:Nat)(m:List Bool)(fs:DE->R (List D)):DS->SR:=fun ρ=>match ρ[i]? with
 |some (.ow d0)=>if isT T d0=true then(fs (vis m ρ)).toS fun ds=>match (l7 (j4 ds) m ρ)[i]? with
  |some (.ow d)=>(R.of (mt d ds)).toS fun d'=>.nx ((l7 (j4 ds) m ρ).set i (.ow d'))
  |_=>.st
  else .st
 |_=>.st
def y1i{T:String}{mt:D->List D->Option D}{r:V->List V->Hp->VK->Prop}{i:Nat}{fs:DE->R (List D)}(hm:Z8 K mt r)(hT:TyD K T)(h:TSd K EX fr (F1 T mt i m fs) De U H) :
  Cp (tBM K T r (D5 i) (TAd K EX fs)) De U H:=by
 obtain⟨Hc,Hb,H0,ρ,sb,R,h⟩:=h
 unfold F1 at h
 split at h
 . rename_i d0 q0;split at h
   . rename_i eJ;rw[SK.toS]at h;obtain⟨a,h1,h2,h3,h4⟩:=R.ow i d0 q0;unfold Cp tBM D5;rw[h1];refine⟨hT H0 H a d0 h4 eJ,sb.trans R.sb,vis m ρ,HeOf m ρ U H0 H,R.heH m,R.re m,h.mono fun ds h vs H' aa s e eO=>?_⟩;obtain⟨aM,R',rR⟩:=R.outs s e eO;split at h
     . rename_i d q;rw[SK.toS]at h;obtain⟨d',cw,h⟩:=h.of;obtain⟨a',z1,z2,z3,z4⟩:=R'.ow i d q;rw[h1]at z1;cases z1;exact hm aM H' a d d' ds vs _ R'.ext.2.1 z2 z4 rR cw fun v o ob=>h U _ aM (R'.mutate q h1 ob)
     . exact h.elim
   . exact h.elim
 . exact h.elim
def Om(K:Frag)(st:D->D->D->Option D)(r:V3):Prop:=∀(H0 H:Hp)(a:Addr)(d d' dk dv:D)(y v:V)(Q:Hp->Prop),Same H0 H->H0 a=none->OB K H0 H a d->RD K H0 dk y->RD K H0 dv v->st d dk dv=some d' ->
 (∀o,OB K H0 (upd H a o) a d'->Q (upd H a o))->r (.ref a) y v H Q
def R4(st:D->D->D->Option D)(i:Nat)(m:List Bool)(fk fv:DE->R D):DS->SR:=fun ρ=>(fv (vis m ρ)).toS fun dv=>match (l7 (keeps false dv) m ρ)[i]? with
 |some (.ow _)=>(fk (vis m (l7 (keeps false dv) m ρ))).toS fun dk=>(match (l7 (keeps false dk) m (l7 (keeps false dv) m ρ))[i]? with
  |some (.ow d)=>(R.of (st d dk dv)).toS fun d'=>.nx ((l7 (keeps false dk) m (l7 (keeps false dv) m ρ)).set i (.ow d'))
  |_=>.st)
 |_=>.st
def Apt.rd(a:Apt K false Hb H0 ρ U H d v):RD K H0 d v:=by unfold Apt at a;rw[ψ η]at a;exact a
end
section
variable {K:Frag}{EX:XW}{fr:Bool}{Hc Hb H0 H H':Hp}{ρ:DS}{U:St}{De:Ends}{m:List Bool}
def Qd{st:D->D->D->Option D}{r:V3}{i:Nat}{fk fv:DE->R D}(hs:Om K st r)(h:TSd K EX fr (R4 st i m fk fv) De U H) :
  G9 (TEd K EX false fv) (Ov (D5 i) (TEd K EX false fk) r) De U H:=by
 obtain⟨Hc,Hb,H0,ρ,sb,I,h⟩:=h
 unfold R4 at h
 rw[SK.toS]at h
 refine I.te sb h fun dv h v H1 rS I1 a1=>?_
 split at h
 . rename_i d0 q0;rw[SK.toS]at h;obtain⟨a,h1,h2,h3,h4⟩:=I1.ow i d0 q0;unfold Ov D5;rw[h1];refine⟨sb.trans I1.sb,vis m _,HeOf m _ U rS H1,I1.heH m,I1.re m,h.mono fun dk h y H2 o2=>?_⟩;obtain⟨s2,bD,e2,r2⟩:=o2.rd;obtain⟨lH,I2,tk,eq,hn,sub⟩:=I1.frame s2 e2 (keeps false dk);have rT:RD K lH dk y:=by
    cases hk:keeps false dk with
    |true=>exact r2.tk tk (by simpa [keeps] using hk)
    |false=>rw[eq hk];exact r2
   split at h
   . rename_i d q;rw[SK.toS]at h;obtain⟨d',cw,h⟩:=h.of;obtain⟨a',z1,z2,z3,z4⟩:=I2.ow i d q;rw[h1]at z1;cases z1;exact hs lH H2 a d d' dk dv y v _ I2.ext.2.1 z2 z4 rT (a1.rd.mono sub) cw fun o ob=>h U _ lH (I2.mutate q h1 ob)
   . exact h.elim
 . exact h.elim
inductive Tg where
 |n (i:Nat) |t (is:List Nat)
def Jk:List Nat->List D->DS->DS
 |i::is,d::ds,ρ=>Jk is ds (K6 false i d ρ)
 |_,_,ρ=>ρ
noncomputable def items:D->Option (List D)
 | .tup ds=>some ds
 | .lst ds=>some ds
 |_=>none
def R1:Tg->D->DS->Option DS
 | .n i,d,ρ=>some (K6 false i d ρ)
 | .t is,d,ρ=>(items d).bind fun ds=>if ds.length=is.length then some (Jk is ds ρ) else none
def TGd(K:Frag)(tg:Tg):TG:=fun v U H Q=>∃Hc Hb H0 ρ d ρ',RS K Hc Hb H0 ρ U H/\RD K H0 d v/\R1 tg d ρ=some ρ'/\∀af,RS K Hc Hb H0 ρ' af H->Q af H
def RS.putI(I:RS K Hc Hb H0 ρ U H)(r:RD K H0 d v)(i:Nat):RS K Hc Hb H0 (K6 false i d ρ) (U.set i (some v)) H:=
 I.put (fr:=false) (by unfold Apt;rw[ψ η];exact r) i
def y57(h:TGd K (.n i) v U H Q):y8 i v U H Q:=by obtain⟨Hc,Hb,H0,ρ,d,ρ',I,r,e,q⟩:=h;simp only[R1,Option.some.injEq]at e;subst e;exact q _ (I.putI r i)
def Dc:List Nat->TGs
 | []=>Qi
 |i::is=>Tp (y8 i) (Dc is)
theorem Mf:∀(is:List Nat){ds:List D}{xs:List V}{ρ:DS}{U:St}{Q:St->Hp->Prop},RS K Hc Hb H0 ρ U H->RDs K H0 ds xs->ds.length=is.length->(∀af,RS K Hc Hb H0 (Jk is ds ρ) af H->Q af H)->Dc is xs U H Q
 | [],[],_,ρ,U,Q,I,r,_,q=>by simp only[RDs]at r;subst r;exact q U I
 | [],_::_,_,_,_,_,_,_,hl,_=>by simp at hl
 |_::_,[],_,_,_,_,_,_,hl,_=>by simp at hl
 |i::is,d::ds,_,ρ,U,Q,I,r,hl,q=>by simp only[RDs]at r;obtain⟨x,xs,rfl,r1,r2⟩:=r;exact Mf is (I.putI r1 i) r2 (by simpa using hl) q
def y58(h:TGd K (.t is) v U H Q):Ah is.length (Dc is) v U H Q:=by
 obtain⟨Hc,Hb,H0,ρ,d,ρ',I,r,e,q⟩:=h;simp only[R1]at e;cases d<;>simp only[items,Option.bind_none,Option.bind_some]at e<;>first |cases e |skip
 . rename_i ds;split at e
   . rename_i hl;cases e;simp only[RD]at r;obtain⟨a,xs,rfl,ha,rs⟩:=r;unfold Ah;simp only[I.ext.2.1 a _ ha];exact⟨by rw[<-rs.length];exact hl,Mf is I rs hl q⟩
   . cases e
 . rename_i ds;split at e
   . rename_i hl;cases e;simp only[RD]at r;obtain⟨a,xs,rfl,ha,rs⟩:=r;unfold Ah;simp only[I.ext.2.1 a _ ha];exact⟨by rw[<-rs.length];exact hl,Mf is I rs hl q⟩
   . cases e
def V5(tg:Tg)(m:List Bool)(f:DE->R D):DS->SR:=fun ρ=>(f (vis m ρ)).toS fun d=>match R1 tg d (l7 (keeps false d) m ρ) with
 |some ρ'=>.nx ρ'
 |none=>.st
def y1k(h:TSd K EX fr (V5 tg m f) De U H):G9 (TEd K EX false f) (TGd K tg) De U H:=by
 obtain⟨Hc,Hb,H0,ρ,sb,I,h⟩:=h;unfold V5 at h;rw[SK.toS]at h;refine I.te sb h fun d h v H' aM I' a=>?_
 split at h
 . rename_i ρ' q;exact⟨Hc,Hb,aM,_,d,ρ',I',a.rd,q,fun af I2=>h af H' aM I2⟩
 . exact h.elim
noncomputable def Hno:Hp:=fun _=>none
def V0(K:Frag)(J:It)(H0:Hp)(ds:List D):Prop:=
 (∀(i:Nat) d,ds[i]?=some d->∀H H1,Same H0 H1->Same H1 H->J.go i H/\∀x H',J.yld i H x H'->Same H H'/\∃ak,Ext H1 H ak H'/\RD K ak d x)/\∀H,Same H0 H->J.stop ds.length H
def TId(K:Frag)(EX:XW)(kp:Bool)(f:DE->R (List D)):TI:=fun U H Q=>Same EX.hb H/\∃ρ H0,Same H0 H/\RE K H0 ρ U/\Rk EX.at (f ρ) fun ds=>∀J H' aa,Same H H'->Ext H0 H aa H'->V0 K J (if kp=true then Hno else aa) ds->Q J H'
def D4(tg:Tg)(g:DS->SR):List D->DS->SR
 | [],ρ=>.nx ρ
 |d::ds,ρ=>match R1 tg d ρ with
  |none=>.st
  |some bV=>match g bV with
   | .nx aA=>D4 tg g ds aA
   | .ct aA=>D4 tg g ds aA
   | .bk aA=>.nx aA
   | .rt d=>.rt d
   | .er x=>.er x
   | .st=>.st
def D6(kp:Bool)(m:List Bool)(f:DE->R (List D))(tg:Tg)(g:DS->SR):DS->SR:=fun ρ=>(f (vis m ρ)).toS fun ds=>D4 tg g ds (l7 kp m ρ)
def Ext.base(a:Ext Hc Hb gy H)(b:Ext gy Hb H0 H'):Ext Hc Hb H0 H':=⟨a.1.trans b.1,b.2.1,fun c h1 h2=>b.2.2 c h1 (a.2.2 c h1 h2)⟩
def RS.base(a:Ext Hc Hb gy H1)(I:RS K gy Hb H0 ρ U H):RS K Hc Hb H0 ρ U H:=⟨I.sb,a.base I.ext,I.len,I.im,I.ow,I.ap⟩
def RS.self(I:RS K Hc Hb H0 ρ U H):RS K H0 Hb H0 ρ U H:=⟨I.sb,⟨Same.refl _,I.ext.2.1,fun _ _ z=>z⟩,I.len,I.im,I.ow,I.ap⟩
def Out.base(a:Ext Hc Hb gy H)(o:Out K fr gy Hb d v H'):Out K fr Hc Hb d v H':=by obtain⟨s,aa,e,r⟩:=o;exact⟨s,aa,a.base e,r⟩
def RS.sees(I:RS K Hc Hb H0 ρ U H)(s:Same H H')(e:Ext H0 H ak H'):RS K Hc Hb ak ρ U H':=
 ⟨I.sb.trans s,⟨I.ext.1.trans e.1,e.2.1,fun a h1 h2=>e.2.2 a (I.sb.ne h1) (I.ext.2.2 a h1 h2)⟩,I.len,fun i d q=>by
  obtain⟨v,h1,h2⟩:=I.im i d q;exact⟨v,h1,h2.mono e.1⟩,fun i d q=>by
  obtain⟨a,h1,h2,h3,h4⟩:=I.ow i d q;obtain⟨u,hu,_⟩:=h4.some;exact⟨a,h1,e.2.2 a (Bc hu) h2,h3,h4.mono e.1 s⟩,I.ap⟩
def y59(sb:Same EX.hb Hb)(I1:RS K Hc Hb Hn ρ U H1)(eP:V0 K J Hn ds)(h:SK K EX fr Hc Hb De (D4 tg g ds ρ)):jY J (TGd K tg) (TSd K EX fr g) De U H1:=by
 have lJ:Ext Hc Hb Hn H1:=I1.ext;refine⟨fun i mm U H=>mm=ds.length - i/\i<=ds.length/\∃ρ H0,RS K Hn Hb H0 ρ U H/\SK K EX fr Hc Hb De (D4 tg g (ds.drop i) ρ),⟨ds.length,by simp,BQ _,_,Hn,I1.self,h⟩,?_⟩;rintro i mm U H ⟨rfl,hi,ρ,H0,I2,h⟩;have sn:Same Hn H0:=I2.ext.1;by_cases aJ:i<ds.length
 . have hd:ds[i]?=some ds[i]:=by simp[aJ]
   obtain⟨lK,hy⟩:=eP.1 i _ hd H H0 sn I2.ext.2.1;have lL:ds.drop i=ds[i]::ds.drop (i+1):=DF aJ;rw[lL]at h;refine .inr ⟨lK,fun af H'=>∃ρ' aa,RS K Hn Hb aa ρ' af H'/\SK K EX fr Hc Hb De (D4 tg g (ds.drop (i+1)) ρ'),fun af H' ⟨ρ',aa,q⟩=>⟨ds.length - (i+1),by omega,rfl,aJ,ρ',aa,q⟩,fun x H' y=>?_⟩;obtain⟨s3,H3,e3,r3⟩:=hy x H' y;have I3:=I2.sees s3 e3;unfold D4 at h;split at h
   . exact h.elim
   . rename_i bV q1;refine⟨Hn,Hb,H3,ρ,ds[i],bV,I3,r3,q1,fun af I4=>⟨Hn,Hb,H3,bV,sb,I4,?_⟩⟩;cases qg:g bV with
     |nx aA=>rw[qg]at h;exact fun eQ H5 cM I5=>⟨aA,cM,I5,h⟩
     |ct aA=>rw[qg]at h;exact fun eQ H5 cM I5=>⟨aA,cM,I5,h⟩
     |bk aA=>rw[qg]at h;exact fun eQ H5 cM I5=>h eQ H5 cM (I5.base lJ)
     |rt d=>rw[qg]at h;exact fun v H5 o=>h v H5 (o.base lJ)
     |er x=>rw[qg]at h;exact h
     |st=>rw[qg]at h;exact h
 . have e:i=ds.length:=by omega
   subst e;rw[List.drop_length]at h;refine .inl ⟨eP.2 H (sn.trans I2.ext.2.1),?_⟩;exact h U H H0 (I2.base lJ)
def y1l(h:TSd K EX fr (D6 kp m f tg g) De U H):Qk (TId K EX kp f) (TGd K tg) (TSd K EX fr g) De U H:=by
 obtain⟨Hc,Hb,H0,ρ,sb,I,h⟩:=h;unfold D6 at h;rw[SK.toS]at h;refine⟨sb.trans I.sb,vis m ρ,HeOf m ρ U H0 H,I.heH m,I.re m,h.mono fun ds h J H1 ak s1 e1 it=>?_⟩;obtain⟨Hn,I1,tk,eq,hn,sub⟩:=I.frame s1 e1 kp;have eP:V0 K J Hn ds:=by
  cases kp with
  |true=>
   rw[ξ rfl]at it
   exact⟨fun i d q H H1 a b=>it.1 i d q H H1 (fun _ _ z=>nomatch z) b,fun H a=>it.2 H fun _ _ z=>nomatch z⟩
  |false=>rw[ψ η,<-eq rfl]at it;exact it
 exact y59 sb I1 eP h
def N3(t:DE->R Bool)(g:DS->SR):Nat->DS->SR
 | 0,_=>.st
 |n+1,ρ=>(t (see ρ)).toS fun b=>if b=true then(match g ρ with
  | .nx aA=>N3 t g n aA
  | .ct aA=>N3 t g n aA
  | .bk aA=>.nx aA
  | .rt d=>.rt d
  | .er x=>.er x
  | .st=>.st) else .nx ρ
def At(n:Nat)(t:DE->R Bool)(g:DS->SR):DS->SR:=N3 t g n
def xy(h:TSd K EX fr (At n t g) De U H):Tu (TTd K EX t) (TSd K EX fr g) De U H:=by
 obtain⟨Hc,Hb,H0,ρ,sb,I,h⟩:=h;refine⟨fun mm U H=>∃ρ H0,RS K Hc Hb H0 ρ U H/\SK K EX fr Hc Hb De (N3 t g mm ρ),⟨n,ρ,H0,I,h⟩,?_⟩;rintro mm U H ⟨ρ,H0,I,h⟩;cases mm with
 |zero=>exact h.elim
 |succ mm=>
  unfold N3 at h
  rw[SK.toS]at h
  refine I.tt sb h fun b h H' I'=>?_
  cases b with
  |false=>exact h U H' H0 I'
  |true=>
   rw[ξ rfl]at h⊢
   refine⟨fun af H'=>∃ρ' aa,RS K Hc Hb aa ρ' af H'/\SK K EX fr Hc Hb De (N3 t g mm ρ'),fun af H' q=>⟨mm,Nat.lt_succ_self _,q⟩,Hc,Hb,H0,ρ,sb,I',?_⟩
   cases qg:g ρ with
   |nx aA=>rw[qg]at h;exact fun eQ H5 cM I5=>⟨aA,cM,I5,h⟩
   |ct aA=>rw[qg]at h;exact fun eQ H5 cM I5=>⟨aA,cM,I5,h⟩
   |bk aA=>rw[qg]at h;exact fun eQ H5 cM I5=>h eQ H5 cM I5
   |rt d=>rw[qg]at h;exact fun v H5 o=>h v H5 o
   |er x=>rw[qg]at h;exact h
   |st=>rw[qg]at h;exact h
noncomputable def R.noE{α:Type}(r:R α):R α:=match r with
 | .er _=>.st
 |r=>r
def Rk.noE{α:Type}{EX EX':Ex->Prop}{r:R α}{k:α->Prop}(h:Rk EX r.noE k):Rk EX' r k:=by
 cases r with
 |ok a=>exact h
 |er x=>exact h.elim
 |st=>exact h
def BD(K:Frag)(bn:D->Option (List D))(B:V->Hp->(List V->Hp->Prop)->Prop):Prop:=∀(H0 H:Hp)(x:V)(d:D)(ds:List D)(Q:List V->Hp->Prop),Same H0 H->RD K H0 d x->bn d=some ds->(∀vs,RDs K H0 ds vs->Q vs H)->B x H Q
noncomputable def b1:D->Option (List D):=fun d=>some [d]
noncomputable def bT(n:Nat):D->Option (List D)
 | .tup ds=>if ds.length=n then some ds else none
 |_=>none
def jU:BD K b1 cB1:=fun H0 H x d ds Q s r e q=>by simp only[b1,Option.some.injEq]at e;subst e;exact q [x] (.one r)
def jT:BD K (bT n) (cBT n):=fun H0 H x d ds Q s r e q=>by
 cases d<;>simp only[bT]at e<;>first |cases e |skip
 rename_i es;split at e
 . rename_i hl;cases e;simp only[RD]at r;obtain⟨a,xs,rfl,ha,rs⟩:=r;unfold cBT;simp only[s a _ ha];exact⟨by rw[<-rs.length];exact hl,q xs rs⟩
 . cases e
noncomputable def sel(ix:List Nat)(ρ:DE):DE:=ix.map fun j=>(ρ[j]?).getD none
def E2(bn:D->Option (List D))(t:DE->R Bool)(f:DE->R D)(cs:DE):List D->R (List D)
 | []=>.ok []
 |d::ds=>(R.of (bn d)).bind fun bs=>(t (bs.map some++cs)).noE.bind fun b=>if b=true then(f (bs.map some++cs)).noE.bind fun y=>(E2 bn t f cs ds).bind fun ys=>.ok (y::ys) else E2 bn t f cs ds
def i4(fi:DE->R (List D))(bn:D->Option (List D))(ix:List Nat)(t:DE->R Bool)(f:DE->R D):DE->R D:=fun ρ=>(fi ρ).bind fun ds=>if ds.length<=100000 then(E2 bn t f (sel ix ρ) ds).bind fun ys=>.ok (.lst ys) else .st
def RE.sel{ρ:DE}{vs:List V}{ds:List D}(h:RE K H0 ρ U)(r:RDs K H0 ds vs)(ix:List Nat):RE K H0 (ds.map some++sel ix ρ) (vs.map some++G8 ix U):=by
 have hl:=r.length;refine⟨by simp[L2.sel,G8,hl],fun i d e=>?_⟩;by_cases hi:i<ds.length
 . rw[CM (by simpa using hi),BF]at e;rw[CM (by simpa [<-hl] using hi),BF];cases q:ds[i]? with
   |none=>rw[q]at e;cases e
   |some d'=>
    rw[q]at e;cases e
    obtain⟨x,h1,h2⟩:=r.get' q
    exact⟨x,by rw[h1];rfl,h2⟩
 . rw[BY (by simpa using hi)]at e;rw[BY (by simpa [<-hl] using hi)];simp only[bI]at e⊢;rw[<-hl];unfold L2.sel at e;unfold G8;rw[BF]at e⊢;cases q:ix[i - ds.length]? with
   |none=>rw[q]at e;cases e
   |some j=>
    rw[q]at e
    simp only[BL,Option.some.injEq]at e⊢
    cases qj:ρ[j]? with
    |none=>rw[qj]at e;cases e
    |some o=>
     rw[qj]at e
     simp only[Option.getD_some]at e
     subst e
     obtain⟨v,h1,h2⟩:=h.2 j d qj
     exact⟨v,by rw[h1];rfl,h2⟩
def S9(h:n<100000):n<sizeLine:=AY h (by decide)
def xx(hW:Same W.hb EX.hb)(hB:BD K bn B)(lM:∀U H Q,TTd K F0 t U H Q->tt U H Q)
  (h:TEd K EX true (i4 fi bn ix t f) U H Q):P5 (TId K EX kp fi) B ix tt (TEd K W false f) U H Q:=by
 obtain⟨sx,ρ,H0,s,e,h⟩:=h
 unfold i4 at h
 rw[Rk.bind]at h
 refine⟨sx,ρ,H0,s,e,h.mono fun ds h J H1 ak s1 e1 it D hD=>?_⟩
 split at h
 . rename_i hsz;rw[Rk.bind]at h;have eP:V0 K J ak ds:=by
    cases kp with
    |true=>rw[ξ rfl]at it;exact⟨fun i d q H H1 a b=>it.1 i d q H H1 (fun _ _ z=>nomatch z) b,fun H a=>it.2 H fun _ _ z=>nomatch z⟩
    |false=>rw[ψ η]at it;exact it
   have e':=e.mono e1.1;have rV:ak D=none:=e1.2.1.none hD;refine⟨fun i mm ys H2=>mm=ds.length - i/\i<=ds.length/\ys.length<=i/\∃acc bD,Same H1 H2/\H2 D=some (.lst ys)/\Ext ak H1 bD H2/\bD D=none/\RDs K bD acc ys /\
    Rk EX.at (E2 bn t f (L2.sel ix ρ) (ds.drop i)) fun rest=>∀v H',Out K true H0 H (.lst (acc++rest)) v H'->Q v H',⟨ds.length,by simp,BQ _,ζ _,[],ak,Same.upd_new hD,l4,(Ext.refl e1.2.1).grow (Same.upd_new hD),rV,.nil,h⟩,?_⟩
   rintro i mm ys H2 ⟨rfl,hi,fB,acc,bD,s2,cg,e2,iP,r2,h⟩;refine⟨cg,?_⟩;by_cases aJ:i<ds.length
   . have hd:ds[i]?=some ds[i]:=by simp[aJ]
     obtain⟨lK,hy⟩:=eP.1 i _ hd H2 bD e2.1 e2.2.1;have lL:ds.drop i=ds[i]::ds.drop (i+1):=DF aJ;rw[lL]at h;unfold E2 at h;rw[Rk.bind]at h;obtain⟨bs,rW,h⟩:=h.of;rw[Rk.bind]at h;refine .inr ⟨lK,fun x H3 y=>?_⟩;obtain⟨s3,cV,e3,r3⟩:=hy x H3 y;refine hB cV H3 x _ bs _ e3.2.1 r3 rW fun vs rX=>?_
     have en:=(e'.mono (e2.1.trans e3.1)).sel rX ix;have rY:=e2.trans s2 e3;refine lM _ _ _ ⟨F0.same _,_,cV,e3.2.1,en,(Rk.noE h).mono fun b h H4 s4=>?_⟩;have iu:=s2.trans (s3.trans s4);have lN:H4 D=some (.lst ys):=s4 _ _ (s3 _ _ cg);have iQ:cV D=none:=e3.2.2 D (Bc cg) iP;have lO:Ext ak H1 cV H4:=rY.grow s4;cases b with
     |false=>
      rw[ψ η]at h
      dsimp only
      rw[ψ η]
      exact⟨ds.length - (i+1),by lia,rfl,aJ,by lia,acc,cV,iu,lN,lO,iQ,r2.mono e3.1,h⟩
     |true=>
      rw[ξ rfl]at h
      dsimp only
      rw[ξ rfl]
      rw[Rk.bind]at h
      refine⟨hW.trans (sx.trans (s1.trans iu)),_,cV,lO.2.1,en,(Rk.noE h).mono fun y h w H5 o5=>?_⟩
      obtain⟨s5,oo,e5,r5⟩:=o5.rd
      have rZ:H5 D=some (.lst ys):=s5 _ _ lN
      have iR:oo D=none:=e5.2.2 D (Bc lN) iQ
      have lP:=lO.trans iu e5
      rw[Rk.bind]at h
      refine⟨rZ,S9 (by lia),ds.length - (i+1),by lia,rfl,aJ,by rw[θ];show ys.length+1<=i+1;lia,acc++[y],oo,(iu.trans s5).upd_at hD,l4,⟨lP.1,lP.2.1.upd_at iR,lP.2.2⟩,iR,((r2.mono (e3.1.trans e5.1))).append (.one r5),?_⟩
      exact h.mono fun rest h v H' o=>h v H' (by simpa using o)
   . have ei:i=ds.length:=by lia
     subst ei;rw[List.drop_length]at h;refine .inl ⟨eP.2 H2 (e2.1.trans e2.2.1),h _ H2 ?_⟩;rw[DZ];refine Out.after s1 e1 (.fresh s2 e2 hD iP ?_);simp only[OB];exact⟨ys,cg,r2⟩
 . exact h.elim
def Db(hB:BD K bn B)(lM:∀U H Q,TTd K F0 t U H Q->tt U H Q)
 (h:TEd K EX true (i4 fi bn ix t f) U H Q):P5 (TId K EX kp fi) B ix tt (TEd K F0 false f) U H Q:=xx (F0.same _) hB lM h
noncomputable def mOf(fr:Bool)(n k:Nat)(g:DS->SR):List D->R D:=fun ds=>if ds.length=n then(match g (ds.map .im++List.replicate k .em) with
 | .rt d=>.ok d
 | .nx _=>if fr=true then .st else .ok .non
 | .er x=>.er x
 |_=>.st) else .st
def XFs(K:Frag)(x:Ex)(od:Option Addr)(H:Hp):Prop:=x.fs=[]\/∃(dx:Addr)(ns:List Int)(ob:Obj),od=some dx/\H dx=some (.frz ob (.xd ((Oq x.cls).zip (ns.map V.int))))/\x.fs=ns.map D.int
def xNm(K:Frag)(mg:Str->Option Value)(E:XK)(x:Ex)(H:Hp):Prop:=∃C,mg (x.cls:Str)=some (.ref C)/\∀od,XFs K x od H->E (.ref C) od H
noncomputable def spD(K:Frag)(mg:Str->Option Value)(fr:Bool)(m:List D->R D)(n:Nat):Sp:=fun vs H Q E=>∃ds H0,Same H0 H/\RDs K H0 ds vs/\ds.length=n/\Rk (XW.at ⟨H,xNm K mg E⟩) (m ds) fun d=>∀v H',Out K fr H0 H d v H'->Q v H'
noncomputable def Jd(sp:Sp)(E:XK)(t:TA):TE:=fun U H Q=>t U H fun vs H1=>sp vs H1 Q E
def vn{mg:Str->Option Value}{E:XK}{m:List D->R D}{n:Nat}{fs:DE->R (List D)}{Q:VK}(hl:∀ds,ds.length≠n->m ds=.st)(hE:∀x H,EX.p x H->xNm K mg E x H)(h:TEd K EX fr (c6 m fs) U H Q):Jd (spD K mg fr m n) E (TAd K EX fs) U H Q:=by
 obtain⟨sx,ρ,H0,s,e,h⟩:=h;unfold c6 at h;rw[Rk.bind]at h;refine TAd.go sx s e h fun ds h vs H1 ak s1 e1 r1=>?_
 refine⟨ds,ak,e1.2.1,r1,?_,?_⟩
 . apply GL;intro hn;rw[hl ds hn]at h;exact h
 . cases q:m ds with
   |ok d=>rw[q]at h;exact fun v H' o=>h v H' (o.after s1 e1)
   |er x=>rw[q]at h;exact fun H' s'=>hE x H' (h H' ((sx.trans s1).trans s'))
   |st=>rw[q]at h;exact h
def Vu(ds:List D)(h:ds.length≠n):mOf fr n k g ds=.st:=by unfold mOf;rw[ψ h]
def yP(s:Same H0 H)(r:RDs K H0 ds vs)(k:Nat):RS K H0 H H0 (ds.map .im++List.replicate k .em) (vs.map some++List.replicate k none) H:=by
 have hl:=r.length;have iS:∀(i:Nat) d,(ds.map Sl.im++List.replicate k Sl.em)[i]?≠some (.ow d):=fun i d q=>by
  rcases AQ.mp (DI q) with z |z
  . obtain⟨_,_,z⟩:=AS.mp z;cases z
  . have:=(List.mem_replicate.mp z).2;cases this
 refine⟨Same.refl _,.refl s,by simp[hl],fun i d q=>?_,fun i d q=>absurd q (iS i d),fun i j d e a q=>absurd q (iS i d)⟩;by_cases hi:i<ds.length
 . rw[CM (by simpa using hi),BF]at q;rw[CM (by simpa [<-hl] using hi),BF];cases qd:ds[i]? with
   |none=>rw[qd]at q;cases q
   |some d'=>
    rw[qd]at q
    simp only[BL,Option.some.injEq,Sl.im.injEq]at q
    subst q
    obtain⟨x,h1,h2⟩:=r.get' qd
    exact⟨x,by rw[h1];rfl,h2⟩
 . rw[BY (by simpa using hi)]at q;have:=(List.mem_replicate.mp (DI q)).2;cases this
def vm(h:spD K mg fr (mOf fr n k g) n vs H Q E) :
  TSd K ⟨H,xNm K mg E⟩ fr g { nx:=fun _ H'=>Q .non H',rt:=Q } (vs.map some++List.replicate k none) H:=by
 obtain⟨ds,H0,s,r,hn,h⟩:=h
 refine⟨H0,H,H0,_,Same.refl _,yP s r k,?_⟩
 unfold mOf at h
 rw[ξ hn]at h
 cases q:g (ds.map .im++List.replicate k .em) with
 |nx ρ=>
  rw[q]at h
  cases fr with
  |true=>exact h.elim
  |false=>exact fun U H' aa I=>h _ H' (.val I.sb I.ext (by simp only[RD]))
 |rt d=>rw[q]at h;exact h
 |er x=>rw[q]at h;exact h
 |bk ρ=>rw[q]at h;exact h.elim
 |ct ρ=>rw[q]at h;exact h.elim
 |st=>rw[q]at h;exact h.elim
end
structure Flt{α:Type}(t:Sem α):Prop where
 go:∀{M:Model}{Γ:PySem.Ctx}{Q Q':α->Pos->Shared->Prop}{E E':Value->Pos->Shared->Prop}{p:Pos}{s:Shared},
 t.wp M Γ Q E p s->t.wp M Γ Q' E' p s->t.wp M Γ (fun a p s=>Q a p s/\Q' a p s) (fun a p s=>E a p s/\E' a p s) p s
def Flt.bind(h:Flt t)(k:∀a,Flt (f a)):Flt (t >>= f):=by refine⟨fun x y=>?_⟩;rw[Sem.wp_bind']at x y⊢;exact Sem.wp_mono _ _ _ (fun a _ _ z=>(k a).go z.1 z.2) (fun _ _ _ z=>z) _ _ (h.go x y)
def Flt.pure(a:α):Flt (Pure.pure a:Sem α):=⟨fun x y=>⟨x,y⟩⟩
def Flt.uns(w:String):Flt (unsupported w:Sem α):=⟨fun x _=>x.elim⟩
def Flt.stack:Flt PySem.stack:=⟨fun x y=>⟨x,y⟩⟩
def Flt.alloc(o:Obj):Flt (PySem.alloc o):=⟨fun x y=>⟨x,y⟩⟩
def Flt.update(a:Addr)(f:Obj->Obj):Flt (PySem.update a f):=⟨fun x y=>⟨x.1,x.2,y.2⟩⟩
def Flt.load(a:Addr):Flt (PySem.load a):=⟨fun⟨o,e,x⟩ ⟨o',e',y⟩=>by rw[e]at e';cases e';exact⟨o,e,x,y⟩⟩
def Flt.cells(v:Value):Flt (fieldsOf v):=by cases v<;>first |exact .uns _ |exact .bind (.load _) fun o=>by split<;>first |exact .pure _ |exact .uns _
def Flt.field(v:Value)(i:Nat):Flt (PySem.field v i):=.bind (.cells v) fun vs=>by split<;>first |exact .pure _ |exact .uns _
def Flt.put(v:Value)(i:Nat)(x:Value):Flt (setField v i x):=by cases v<;>first |exact .uns _ |exact .bind (.load _) fun o=>by split<;>first |exact .uns _ | (split<;>first |exact .update _ _ |exact .uns _)
def Flt.flight(e:Value)(f:Option Addr):Flt (setFlight e f):=.bind (.field e 1) fun tb=>by split<;>first |exact .put _ _ _ |exact .pure _
theorem Flt.ready:∀l:List Env,Flt (readyFrames l)
 | []=>.pure _
 |env::outer=>by
  unfold readyFrames;split<;>first |exact .uns _ |skip
  refine .bind (.load _) fun o=>?_
  split<;>first |exact .pure _ |skip
  refine .bind ?_ fun b=>.bind ?_ fun v=>.bind (.update _ _) fun _=>Flt.ready outer
  . unfold behindIsImport;split<;>first |exact .pure _ |skip
    split<;>first |exact .pure _ |exact .bind (.field _ _) fun _=>.pure _
  . unfold keptBack;split<;>first |exact .pure _ |skip
    split<;>first |exact .pure _ |exact .bind (.bind .stack fun _=>.pure _) fun _=>.pure _
def Flt.frame(env:Env):Flt (frameOf env):=.bind (.bind .stack fun _=>.pure _) fun es=>.bind (by
 unfold frameObject;split
 . exact .pure _
 . exact .bind (.ready _) fun _=>.pure _) fun f=>by split<;>first |exact .pure _ |exact .uns _
def Flt.fields(vs:List Value):Flt (newFields "traceback" vs):=by
 have h:Flt (newObjAsIs (.type "traceback") (.fields vs.toArray)):=.bind (.alloc _) fun a=>.pure _
 unfold newFields newObj;dsimp only;split
 . exact .bind (.uns _) fun _=>h
 . exact h
def Flt.entry(env:Env)(e head:Value)(L:Addr)(b:Bool):Flt (do let a <-frameOf env;let pl <-entryPlaceOf L b;let b <-EntryCells.newEntry head a .none (rawInt L) .none pl;setField e 1 b):=
 .bind (.frame env) fun _=>.bind (.bind .stack fun uD=>by split<;>exact .pure _) fun _=>.bind (.fields _) fun _=>.put _ _ _
def Flt.note(e:Value)(env:Env):Flt (noteFrame e env):=by
 unfold noteFrame;split<;>first |exact .uns _ |skip
 refine .bind (.field _ _) fun head=>?_
 split
 . refine .bind (.field _ _) fun x=>?_
   split
   . exact .pure _
   . exact .bind (.put _ _ _) fun _=>.entry _ _ _ _ _
 . exact .entry _ _ _ _ _
def El(f:Flt t)(h:wpAny M A t Q E s)(k:wpAny M A t Q' E' s):wpAny M A t (fun a s=>Q a s/\Q' a s) (fun a s=>E a s/\E' a s) s:=
 fun Γ p oq=>f.go (h Γ p oq) (k Γ p oq)
section
variable {M:Model}{A:Around}{E:Value->Shared->Prop}{s:Shared}{base:Heap}{env:Env}{outer:List Env}{L e:Addr}{cls a0 fl:Value}{od:Option Addr}
def p8(e:Addr)(od:Option Addr)(h:Heap):Prop:=∀o,h.get? e=some o->o.dict=od
def yO(o:Obj)(f:Array Value->Array Value):(Obj.mapFields f o).dict=o.dict:=by unfold Obj.mapFields;split<;>rfl
def Lj(d:p8 e od h)(hb:∃o,h.get? b=some o/\∃vs,o.data=.fields vs):p8 e od (h.update b (Obj.mapFields f)):=by
 intro o ho;by_cases q:b=e
 . subst q;obtain⟨ob,h1,vs,h2⟩:=hb;rw[AU _ h1 (Obj.isFreed_of_fields (Obj.data_mapFields h2 f))]at ho;cases ho;rw[yO];exact d _ h1
 . rw[CD _ _ q]at ho;exact d o ho
def Vt(T:Addr):(Value.ref T != Value.none)=true:=by simp
def vk(L:Addr):(Value.none==rawInt L)=false:=by simp[rawInt]
def Zi(ht:s.heap.TracedAtW base e cls a0 fl)(d:p8 e od s.heap):wpAny M A (setFlight (.ref e) none) (fun _ s'=>p8 e od s'.heap) E s:=by obtain⟨oe,vs,T,oT,ts,he,-,hd,h1,-,-,hT,bO,h3⟩:=ht;have lQ:=(FC.mp h3).1;unfold setFlight;exact χ (wpAny_field he hd h1 (by rw[ξ (Vt T)];exact wpAny_setField hT bO lQ (Lj d ⟨_,hT,_,bO⟩)))
def Yy(bA:A.frames=some (env::outer))(hl:s.heap.FunFrames base (env::outer))(hf:env.frame=some L)(he:s.heap.get? e=some oe)(hd:oe.data=.fields vs)(hsz:1<vs.size)(d:p8 e od s.heap) :
  wpAny M A (do let a <-frameOf env;let pl <-entryPlaceOf L mI;let b <-EntryCells.newEntry head a .none (rawInt L) .none pl;setField (.ref e) 1 b) (fun _ s'=>p8 e od s'.heap) E s:=by
 have nf:e∉(env::outer).filterMap (·.frame):=fun hm=>by obtain⟨_,o,ho,se⟩:=hl.mem hm;rw[he]at ho;cases ho;exact se vs hd
 refine χ (wpAny_frameOf_fun bA hl hf fun h1 hs=>χ (wpAny_entryPlaceOf fun pl hpl=>?_))
 unfold EntryCells.newEntry newFields
 refine χ (wpAny_newObj_type ?_ (hpl.sizeOk5 _ _ _ _ _))
 have sf:h1.get? e=some oe:=(hs.2.1 e nf).trans he
 have lR:=Ψ (h:=h1) { cls:=.type "traceback",dict:=none,data:=.fields ([head,.ref L,.none,rawInt L,.none]++(if pl.isEmpty then List.replicate 6 Value.none else pl)).toArray } sf
 refine wpAny_setField lR hd hsz (Lj (fun o ho=>?_) ⟨_,lR,_,hd⟩)
 rw[lR]at ho;cases ho
 exact d _ he
def zK(bA:A.frames=some (env::outer))(hl:s.heap.FunFrames base (env::outer))(hf:env.frame=some L)(ht:s.heap.TracedW base e cls a0)(d:p8 e od s.heap) :
  wpAny M A (noteFrame (.ref e) env) (fun _ s'=>p8 e od s'.heap) E s:=by
 obtain⟨oe,vs,T,oT,ts,he,-,hd,h1,-,eR,hT,bO,h3⟩:=ht
 have in1:=(FC.mp h1).1
 have lQ:=(FC.mp h3).1
 have ou:∀b,T≠b->(s.heap.update T (Obj.mapFields (·.setIfInBounds 3 Value.none))).get? b=s.heap.get? b:=fun b hb=>CD _ _ hb
 have fr:(s.heap.update T (Obj.mapFields (·.setIfInBounds 3 Value.none))).FunFrames base (env::outer):=hl.of_keeps fun b o hb nf=>⟨o,(ou b fun z=>by rw[<-z,hT]at hb;cases hb;exact nf ts bO).trans hb,rfl⟩
 unfold noteFrame
 simp only[hf]
 exact χ (wpAny_field he hd h1 (by rw[ξ (Vt T)];exact χ (wpAny_field hT bO h3 (by rw[ψ (by rw[vk];exact η)];exact χ (wpAny_setField hT bO lQ (Yy bA fr hf ((ou e eR).trans he) hd in1 (Lj d ⟨_,hT,_,bO⟩)))))))
end
section
variable {M:Model}{A:Around}{E:Value->Shared->Prop}{s:Shared}{base:Heap}{env:Env}{outer:List Env}{L e:Addr}{cls a0:Value}{od:Option Addr}{Q:Unit->Shared->Prop}
def Kg(hh:Heap.HeldW base (env::outer) e cls a0 L s.heap)(d:p8 e od s.heap)(hQ:∀h',Heap.FlyingW base (env::outer) e cls a0 h'->s.heap.UpToSlots h'->p8 e od h'->Q () { s with heap:=h' }):wpAny M A (setFlight (.ref e) none) Q E s:=
 BR (El (E:=E) (E':=E) (.flight _ _) (wpAny_landsW hh (Q:=fun _ s'=>∃h',s'={ s with heap:=h' }/\Heap.FlyingW base (env::outer) e cls a0 h'/\s.heap.UpToSlots h') fun h' f u=>⟨h',rfl,f,u⟩) (Zi hh.2.2.2 d))
  (fun _ s' ⟨⟨h',e1,f,u⟩,d'⟩=>by subst e1;exact hQ h' f u d') fun _ _ z=>z.1
def Vs(bA:A.frames=some (env::outer))(hf:env.frame=some L)(bF:Heap.FlyingW base (env::outer) e cls a0 s.heap)(d:p8 e od s.heap)
  (hQ:∀h',Heap.HeldW base (env::outer) e cls a0 L h'->s.heap.UpToSlots h'->p8 e od h'->Q () { s with heap:=h' }):wpAny M A (noteFrame (.ref e) env) Q E s:=
 BR (El (E:=E) (E':=E) (.note _ _) (wpAny_looks_onW bA hf bF (Q:=fun _ s'=>∃h',s'={ s with heap:=h' }/\Heap.HeldW base (env::outer) e cls a0 L h'/\s.heap.UpToSlots h') fun h' f u=>⟨h',rfl,f,u⟩) (zK bA bF.2.2.1 hf bF.2.2.2 d))
  (fun _ s' ⟨⟨h',e1,f,u⟩,d'⟩=>by subst e1;exact hQ h' f u d') fun _ _ z=>z.1
def yN(bA:A.frames=some (env::outer))(hf:env.frame=some L)(bF:Heap.FlyingW base (env::outer) e cls a0 s.heap)(d:p8 e od s.heap)
  (hQ:∀h',Heap.FlyingW base outer e cls a0 h'->s.heap.UpToSlots h'->p8 e od h'->Q () { s with heap:=h' }):wpAny M A (leaving env (.ref e)) Q E s:=by
 unfold leaving
 refine χ (Vs bA hf bF d fun h1 hh u1 d1=>Kg (s:={ s with heap:=h1 }) hh d1 fun h2 f u2 d2=>hQ h2 ?_ (u1.trans u2) d2)
 obtain⟨k1,k2,⟨_,_,k3⟩,k4⟩:=f
 exact⟨k1,k2,k3,k4⟩
def xw(bA:A.frames=some (env::outer))(hl:s.heap.FunFrames base (env::outer))(hf:env.frame=some L)(he:s.heap.get? e=some oe)(si:base.StaysIn s.heap)(ox:base.get? e=none)(hd:oe.data=.fields vs)(h1:vs[1]?=some .none)(h0:vs[0]?=some a0)(d:p8 e od s.heap)
  (hQ:∀h',Heap.FlyingW base outer e oe.cls a0 h'->s.heap.UpToSlots h'->p8 e od h'->Q () { s with heap:=h' }):wpAny M A (leaving env (.ref e)) Q E s:=by
 have hsz:=(FC.mp h1).1
 unfold leaving noteFrame
 simp only[hf]
 refine χ (χ (wpAny_field he hd h1 ?_))
 rw[ψ (by decide)]
 refine BR (El (E:=E) (E':=E) (.entry _ _ _ _ _) (wpAny_entryW bA hl hf he si ox hd hsz h0 (Q:=fun _ s'=>∃h',s'={ s with heap:=h' }/\Heap.NotedW base (env::outer) e oe.cls a0 (rawInt L) s.heap h') fun h' n=>⟨h',rfl,n⟩) (Yy bA hl hf he hd hsz d)) (fun _ s' z=>?_) fun _ _ z=>z.1
 obtain⟨⟨h',e1,n1,n2,n3,n4⟩,d1⟩:=z
 subst e1
 refine Kg (s:={ s with heap:=h' }) ⟨n1,ox,n2,n3⟩ d1 fun h2 f u2 d2=>hQ h2 ?_ (Heap.UpToSlots.trans n4 u2) d2
 obtain⟨k1,k2,⟨_,_,k3⟩,k4⟩:=f
 exact⟨k1,k2,k3,k4⟩
end
def ObjOk.there(x:ObjOk P w H h a o):∃ob,h.get? a=some ob:=by
 induction o with
 |lst xs=>obtain⟨_,_,_,_,e⟩:=x;exact⟨_,e⟩
 |tup xs=>obtain⟨_,_,_,ob,e,_⟩:=x;exact⟨_,e⟩
 |dK kvs=>obtain⟨_,_,_,_,o,_,_,e,_⟩:=x;exact⟨_,e⟩
 |dT kvs=>obtain⟨_,_,_,_,o,_,_,e,_⟩:=x;exact⟨_,e⟩
 |set S n=>obtain⟨o,_,_,_,e,_⟩:=x;exact⟨_,e⟩
 |ins C dx fs=>obtain⟨_,_,_,e,_⟩:=x;exact⟨_,e⟩
 |own y=>exact x
 |xd fs=>obtain⟨_,⟨_,_,_,e,_⟩,_⟩:=x;exact⟨_,e⟩
 |rng lo hi=>obtain⟨_,_,_,e⟩:=x;exact⟨_,e⟩
 |frz ob u ih=>exact⟨_,x.1⟩
 |tbl ps=>exact⟨_,x⟩
 |ctb q=>obtain⟨_,e,_⟩:=x;exact⟨_,e⟩
 |met f y=>exact⟨_,x⟩
 |ext φ=>exact x.2.1
def HOk.none(x:HOk P w H h)(e:h.get? a=Option.none):H a=Option.none:=by
 cases q:H a with
 |none=>rfl
 |some o=>
  obtain⟨ob,z⟩:=(x a o q).there
  rw[e]at z;cases z
def Fly(h0:Heap)(H':Hp)(C a:Addr)(od:Option Addr)(h:Heap):Prop:=∃oe vs T oT ts a0,h.get? a=some oe/\oe.cls=.ref C/\vs[0]?=some a0/\oe.data=.fields vs/\vs[1]?=some (.ref T)/\T≠a/\h.get? T=some oT/\oT.data=.fields ts/\ts[3]?=some Value.none /\
 h0.get? a=none/\h0.get? T=none/\H' a=none/\H' T=none/\oe.dict=od/\∀dx,od=some dx->h0.get? dx=none
structure XOut(P:Program)(w:World)(outer:List Env)(H:Hp)(s:Shared)(C a:Addr)(od:Option Addr)(H':Hp)(s':Shared):Prop where
 os:s'.os=s.os
 bare:AllBare s'.gens
 un:Un (frs outer) [] H H' s.heap s'.heap
 hok:HOk P w H' s'.heap
 fly:Fly s.heap H' C a od s'.heap
noncomputable def CX1(P:Program)(w:World):CXT:=fun outer H s E e s'=>∃C a od H',e=.ref a/\XOut P w outer H s C a od H' s'/\E (.ref C) od H'
def Xw(e:(hideAll h l).get? b=none):b∈l\/h.get? b=none:=by
 by_cases hb:b∈l
 . exact .inl hb
 . cases q:h.get? b with
   |none=>exact .inr rfl
   |some o=>rw[hideAll_get l q hb]at e;cases e
section
variable {X:Cx}{pins:List (Addr×Obj)}{U:List (Option V)}{H1 H2:Hp}{s1 s2:Shared}{h' B:Heap}{Z:List Addr}{C a:Addr}{a0:Value}{od:Option Addr}
def Inv.stack2(I:Inv X pins U H1 s1)(un:Un (frs X.stack) [] H1 H2 s1.heap s2.heap):s2.heap.FunFrames X.base X.stack:=by
 have all:∀(l:List Env),(∀b∈frs l,b∈frs X.stack)->s1.heap.FunFrames X.base l->s2.heap.FunFrames X.base l:=by
  intro l;induction l with
  |nil=>intro _ _;trivial
  |cons env r ih=>
   intro hs hl
   obtain⟨hk,⟨L,o,hf,hn,ho,hd⟩,hr⟩:=hl
   have hL:L∈frs X.stack:=hs L (by unfold frs;rw[DP,hf];exact BK)
   obtain⟨sl,e⟩:=un.slot L o ho (I.stkFree L hL) hL (by simp)
   exact⟨hk,⟨L,_,hf,hn,e,hd⟩,ih (fun b hb=>hs b (by unfold frs;rw[DP,hf];exact tB _ hb)) hr⟩
 exact all X.stack (fun _ hb=>hb) I.stack
def Yx(I:Inv X pins U H1 s1)(aU:X.stack=X.env::X.outer)(hex:X.ex=[])(gh:s2.os=s1.os)(eD:AllBare s2.gens)(un:Un (frs X.stack) [] H1 H2 s1.heap s2.heap)(hok:HOk X.prog X.w H2 s2.heap)
  (hZ:∀b∈Z,s1.heap.get? b=none/\H2 b=none) (ha:s1.heap.get? a=none) (eT:H2 a=none) (keep:∀b o,s2.heap.get? b=some o->b∉Z->b∉frs X.stack->h'.get? b=some o)
  (up:s2.heap.UpToSlots h') (hB:∀b,B.get? b=none->b∈frs X.stack\/(s1.heap.get? b=none/\H2 b=none)) (bF:Heap.FlyingW B X.outer a (.ref C) a0 h') (cz:p8 a od h') (iw:∀dx,od=some dx->s1.heap.get? dx=none) :
  XOut X.prog X.w X.outer X.H₀ X.s₀ C a od H2 { s2 with heap:=h' }:=by
 have base:Un X.fs [] X.H₀ H1 X.s₀.heap s1.heap:=hex ▸ I.base
 have F2:=I.stack2 un
 have sub:∀b∈frs X.outer,b∈frs X.stack:=fun b hb=>by
  rw[aU];unfold frs;cases q:X.env.frame with
  |none=>rw[DP,q];exact hb
  |some L=>rw[DP,q];exact tB _ hb
 have dR:∀b o,X.s₀.heap.get? b=some o->b≠X.env.locals:=fun b o e=>BB (AY (Φ e) I.ok.above)
 have iT:∀b o,X.s₀.heap.get? b=some o->b∉frs X.outer->b∉frs X.stack:=fun b o e hb z=>(ee.mp (I.stkSub b z)).elim (dR b o e) hb
 have cB:∀b,s1.heap.get? b=none->X.s₀.heap.get? b=none:=fun b e=>by
  cases q:X.s₀.heap.get? b with
  |none=>rfl
  |some o=>
   obtain⟨o',z⟩:=base.there b o q (by simp)
   rw[e]at z;cases z
 have oy:∀b o,X.s₀.heap.get? b=some o->b∉Z:=fun b o e hb=>by rw[cB b (hZ b hb).1]at e;cases e
 have df:∀b∈frs X.stack,H2 b=none:=fun b hb=>by obtain⟨_,o,ho,_⟩:=I.stack.mem hb;exact un.free b o ho (I.stkFree b hb) (by simp)
 have cf:∀b∈frs X.stack,∀o,s2.heap.get? b=some o->∃sl,h'.get? b=some { o with slots:=sl }:=fun b hb o e=>by obtain⟨_,o',aT,hd⟩:=F2.mem hb;rw[e]at aT;cases aT;exact up b o e hd
 refine⟨by show s2.os=_;rw[gh,I.os],eD,⟨fun b o e n hb _=>?_,fun b o e n hb _=>?_,fun b o e n _=>?_,fun b o e _=>?_,fun b xs e=>un.tups b xs (base.tups b xs e),fun b o u e=>un.frzs b o u (base.frzs b o u e),fun b ps e=>?_⟩,fun b o e=>?_,?_⟩
 . exact keep b o (un.keep b o (base.keep b o e n hb (by simp)) (base.free b o e n (by simp)) (iT b o e hb) (by simp)) (oy b o e) (iT b o e hb)
 . obtain⟨sl,e1⟩:=base.slot b o e n hb (by simp);obtain⟨cK,e2⟩:=un.slot b _ e1 (base.free b o e n (by simp)) (sub b hb) (by simp);obtain⟨sj,e3⟩:=cf b (sub b hb) _ e2;exact⟨sj,e3⟩
 . obtain⟨o1,e1⟩:=base.there b o e (by simp);exact un.free b o1 e1 (base.free b o e n (by simp)) (by simp)
 . obtain⟨o1,e1⟩:=base.there b o e (by simp);obtain⟨o2,e2⟩:=un.there b o1 e1 (by simp);by_cases hb:b∈frs X.stack
   . obtain⟨sl,e3⟩:=cf b hb _ e2;exact⟨_,e3⟩
   . exact⟨o2,keep b o2 e2 (oy b o e) hb⟩
 . obtain⟨m1,e1⟩:=base.tbls b ps e;obtain⟨m2,e2⟩:=un.tbls b _ e1;exact⟨m1++m2,by rw[e2,Array.append_assoc]⟩
 . refine(hok b o e).stay (fun c v hc q=>keep c v q (fun hz=>?_) fun hf=>?_) (fun _ q=>q) fun _ _ q=>q
   . have:=(hZ c hz).2;rcases hc with rfl |hc
     . rw[e]at this;cases this
     . rw[hc]at this;cases this
   . have:=df c hf;rcases hc with rfl |hc
     . rw[e]at this;cases this
     . rw[hc]at this;cases this
 . obtain⟨_,_,_,oe,vs,T,oT,ts,he,⟨hc,h0⟩,hd,h1,sk,eR,hT,bO,h3⟩:=bF;have oz:s1.heap.get? T=none/\H2 T=none:=by
    rcases hB T sk with z |z
    . obtain⟨_,o',aT,cw⟩:=F2.mem z;obtain⟨sl,e3⟩:=cf T z o' aT;rw[hT]at e3;cases e3;exact absurd bO (cw ts)
    . exact z
   exact⟨oe,vs,T,oT,ts,a0,he,hc,h0,hd,h1,eR,hT,bO,h3,cB a ha,cB T oz.1,eT,oz.2,cz _ he,fun dx e=>cB dx (iw dx e)⟩
def yM(I:Inv X pins U H1 s1)(aU:X.stack=X.env::X.outer)(hex:X.ex=[])(hf:X.env.frame=some X.env.locals)(x:XOut X.prog X.w X.stack H1 s1 C a od H2 s2)
  (h:∀s',XOut X.prog X.w X.outer X.H₀ X.s₀ C a od H2 s'->Q () s'):wpAny (model X.prog X.w) X.A (leaving X.env (.ref a)) Q E s2:=by
 obtain⟨oe,vs,T,oT,ts,a0,he,hc,h0,hd,h1,eR,hT,bO,h3,na,nT,ha,iy,gA,iw⟩:=id x.fly
 have F2:=I.stack2 x.un
 have gE:∀env∈X.stack,∀b,env.frame=some b->b∈a::T::frs X.stack:=fun env he b hb=>tB _ (tB _ (DW.mpr ⟨env,he,hb⟩))
 have bA:X.A.frames=some (X.env::X.outer):=by rw[<-aU];exact I.ok.frames
 refine yN (od:=od) (base:=hideAll s2.heap (a::T::frs X.stack)) (cls:=.ref C) (a0:=a0) bA hf ⟨fun b o q=>of_hideAll _ q,hideAll_none _ (.head _),aU ▸ PySem.W.funFrames_hide F2 gE,?_⟩ (fun o ho=>by rw[he]at ho;cases ho;exact gA) fun h' bF up cz=>h _ (Yx (Z:=[a,T]) I aU hex x.os x.bare x.un x.hok (fun b hb=>?_) na ha (fun b o q hz ge=>bF.1 b o (hideAll_get _ q ?_)) up (fun b q=>?_) bF cz iw)
 . exact⟨oe,vs,T,oT,ts,he,⟨hc,h0⟩,hd,h1,hideAll_none _ (.tail _ (.head _)),eR,hT,bO,h3⟩
 . rcases ee.mp hb with rfl |hb
   . exact⟨na,ha⟩
   . have:b=T:=by simpa using hb
     subst this;exact⟨nT,iy⟩
 . intro z;rcases ee.mp z with rfl |z
   . exact hz (.head _)
   . rcases ee.mp z with rfl |z
     . exact hz (.tail _ (.head _))
     . exact ge z
 . rcases Xw q with z |z
   . rcases ee.mp z with rfl |z
     . exact .inr ⟨na,ha⟩
     . rcases ee.mp z with rfl |z
       . exact .inr ⟨nT,iy⟩
       . exact .inl z
   . refine .inr ⟨?_,x.hok.none z⟩;cases q1:s1.heap.get? b with
     |none=>rfl
     |some o=>
      obtain⟨o',e'⟩:=x.un.there b o q1 (by simp)
      rw[z]at e';cases e'
structure MadeX(h h':Heap)(e C:Addr)(od:Option Addr):Prop where
 new:h.get? e=none
 newd:∀dx,od=some dx->h.get? dx=none
 there:∃oe vs a0,h'.get? e=some oe/\oe.cls=.ref C/\oe.dict=od/\oe.data=.fields vs/\vs[0]?=some a0/\vs[1]?=some .none
def MadeX.of(x:Heap.MadeExcOf h h' e (.ref C) args):MadeX h h' e C none:=by obtain⟨t,he,_,_⟩:=x.there;exact⟨x.new,(fun _ z=>nomatch z),_,_,_,he,rfl,rfl,rfl,rfl,rfl⟩
def zgx(I:Inv X pins U H1 s1)(aU:X.stack=X.env::X.outer)(hex:X.ex=[])(hf:X.env.frame=some X.env.locals)(hx:MadeX s1.heap s2.heap a C od)(hok:HOk X.prog X.w H2 s2.heap)(un:Un (frs X.stack) [] H1 H2 s1.heap s2.heap)(eT:H2 a=none)(gh:s2.os=s1.os)(eD:AllBare s2.gens)
  (h:∀s',XOut X.prog X.w X.outer X.H₀ X.s₀ C a od H2 s'->Q () s'):wpAny (model X.prog X.w) X.A (leaving X.env (.ref a)) Q E s2:=by
 have gE:∀env∈X.stack,∀b,env.frame=some b->b∈a::frs X.stack:=fun env he b hb=>tB _ (DW.mpr ⟨env,he,hb⟩)
 have bA:X.A.frames=some (X.env::X.outer):=by rw[<-aU];exact I.ok.frames
 have F2:=I.stack2 un
 obtain⟨oe,vs,a0,he,hc,gA,hd,h0,h1⟩:=hx.there
 refine xw (od:=od) (base:=hideAll s2.heap (a::frs X.stack)) bA (aU ▸ PySem.W.funFrames_hide F2 gE) hf he (fun b o q=>of_hideAll _ q) (hideAll_none _ (.head _)) hd h1 h0 (fun o ho=>by rw[he]at ho;cases ho;exact gA) fun h' bF up cz=>h _ ?_
 rw[hc]at bF
 refine Yx (B:=hideAll s2.heap (a::frs X.stack)) (Z:=[a]) I aU hex gh eD un hok (fun b hb=>?_) hx.new eT (fun b o q hz ge=>bF.1 b o (hideAll_get _ q ?_)) up (fun b q=>?_) bF cz hx.newd
 . obtain rfl:b=a:=by simpa using hb
   exact⟨hx.new,eT⟩
 . intro z;rcases ee.mp z with rfl |z
   . exact hz (.head _)
   . exact ge z
 . rcases Xw q with z |z
   . rcases ee.mp z with rfl |z
     . exact .inr ⟨hx.new,eT⟩
     . exact .inl z
   . refine .inr ⟨?_,hok.none z⟩;cases q1:s1.heap.get? b with
     |none=>rfl
     |some o=>
      obtain⟨o',e'⟩:=un.there b o q1 (by simp)
      rw[z]at e';cases e'
end
noncomputable def eOf(K:Frag)(EX:XW)(mg:Str->Option Value):XK:=fun cv od H=>∃x:Ex,EX.p x H/\mg (x.cls:Str)=some cv/\XFs K x od H
structure Lnd(X:Cx)(EX:XW):Prop where
 nm:∀x H,EX.p x H->∃C,X.mg (x.cls:Str)=some (.ref C)
 on:Dh (CX1 X.prog X.w) X (eOf X.K EX X.mg)
 md:∀(pins:List (Addr×Obj))(U:St)(H H2:Hp)(s:Shared)(a C:Addr)(od:Option Addr)(s':Shared)(x:Ex),Inv X pins U H s->MadeX s.heap s'.heap a C od->HOk X.prog X.w H2 s'.heap->Un (frs X.stack) [] H H2 s.heap s'.heap->H2 a=none->s'.os=s.os->AllBare s'.gens->X.mg (x.cls:Str)=some (.ref C)->EX.p x H2->XFs X.K x od H2->X.xe (.ref a) s'
def Z7:Lnd X F0:=⟨fun _ _ z=>z.elim,fun _ _ _ _ _ _ _ ⟨_,_,_,_,_,_,_,z,_⟩=>z.elim,fun _ _ _ _ _ _ _ _ _ _ _ _ _ _ _ _ _ _ z _=>z.elim⟩
def g9{P:Program}{w:World}{K:Frag}{mg:Str->Option Value}{base:Heap}{N:List Str}{qual:Str}{sc:Scope}{f:Addr}{cdv:Value}{A:Around}{outer:List Env}{s:Shared}{H:Hp}{E:XK} :
  Lnd (O5 (CX1 P w) P w K mg base N qual sc f cdv A outer s H E) ⟨H,xNm K mg E⟩:=by
 refine⟨fun x H ⟨C,hC,_⟩=>⟨C,hC⟩,?_,?_⟩
 . rintro pins U H1 s1 e s' I ⟨C,a,od,H',rfl,xo,x,⟨C',lS,hE⟩,bU,hx⟩;have bU:mg (x.cls:Str)=some (.ref C):=bU;rw[lS]at bU;cases bU;exact yM I rfl rfl rfl xo fun eI y=>⟨_,a,od,H',rfl,y,hE od hx⟩
 . rintro pins U H1 H2 s1 a C od s' x I hx hok un eT ho hb bU ⟨C',lS,hE⟩ hf;have bU:mg (x.cls:Str)=some (.ref C):=bU;rw[lS]at bU;cases bU;exact zgx I rfl rfl rfl hx hok un eT ho hb fun eI y=>⟨_,a,od,H2,rfl,y,hE od hf⟩
def i9(P:Program)(w:World)(K:Frag)(mg:Str->Option Value)(base:Heap)(x:Str)(ps:List Str)(k:Nat)(sp:Sp):Prop:=
 ∃f fd,FnOk P w K mg base (CX1 P w) k f fd ps sp/\Binds K fd ps []/\mg x=some (.ref f)/\keepIn K (.ref f)=true
section
variable {X:Cx}{x:Str}{p pos:Pos}{e:Expr}{es:List Expr}{t:TA}{ps:List Str}{k j:Nat}{sp:Sp}{E:XK}
def xv(G:i9 X.prog X.w X.K X.mg X.base x ps k sp)(hx:Dh (CX1 X.prog X.w) X E)(hr:Room j X.A)(hg:Gl X x)(ha:PA X (e::es) t)(eU:k<=j)(aI:(x==("__debug__":Str))=false)
  (he:starEach (e::es) X.env=(false,eval e X.env)::starEach es X.env) (hpl:(backTo pos (starEach es X.env)).any (·.1)=false):PE X (.Call (.Name x p) (e::es) [] pos) (Jd sp E t):=by
 obtain⟨f,fd,F,b,m,kp⟩:=G
 refine(xP F (hr.mono eU) hg m kp b .nil hx ha aI he hpl).imp fun U H Q q=>?_
 unfold Qr
 unfold Jd at q
 simpa only [DZ] using q
end
def Fun.okX{P:Program}{w:World}{K:Frag}{mg:Str->Option Value}{base:Heap}{x qual:Str}{st:Stmt}{f:Addr}{fd:FuncData}{N ps:List Str}{k:Nat}{sp:Sp}{CX:CXT}(F:Fun K x qual st f fd)(S:FnScope N ps (h7 st))(len:∀vs H Q E,sp vs H Q E->vs.length=ps.length)
  (cD:∀(cdv:Value)(A:Around)(outer:List Env)(s:Shared)(H:Hp)(vs:List V)(Q:VK)(E:XK),Room k (A.deeper (envOfC qual (h7 st) s.heap.objs.size f cdv))->sp vs H Q E ->
   ∃t,PSs (O5 CX P w K mg base N qual (h7 st) f cdv A outer s H E) (J6 st) t/\t { nx:=fun _ H'=>Q .non H',rt:=Q } (J0 N vs) H):FnOk P w K mg base CX (k+1) f fd ps sp:=by
 obtain⟨oc,od,kV,doc,pm,an,cdv,ct,osl,rfl,lk,bN⟩:=F.ex
 refine y0p lk bN S len fun A outer s H vs Q E hr dW=>?_
 exact cD cdv A outer s H vs Q E hr dW
section
variable {K:Frag}{H:Hp}{v:V}
def RD.int(h:RD K H (.int i) v):v=.int i:=by simpa only [RD] using h
def RD.str(h:RD K H (.str i) v):v=.str i:=by simpa only [RD] using h
def RD.non(h:RD K H .non v):v=.non:=by simpa only [RD] using h
def RD.tup(h:RD K H (.tup ds) v):∃a xs,v=.ref a/\H a=some (.tup xs)/\RDs K H ds xs:=by simpa only [RD] using h
def RD.lst(h:RD K H (.lst ds) v):∃a xs,v=.ref a/\H a=some (.lst xs)/\RDs K H ds xs:=by simpa only [RD] using h
def RD.dk(h:RD K H (.dk ks ds) v):∃a xs,v=.ref a/\H a=some (.dK (ks.zip xs))/\ks.length=xs.length/\RDs K H ds xs:=by simpa only [RD] using h
def RD.dt(h:RD K H (.dt ks ds) v):∃a xs,v=.ref a/\H a=some (.dT (ks.zip xs))/\ks.length=xs.length/\RDs K H ds xs:=by simpa only [RD] using h
def RD.scr(h:RD K H (.scr ns) v):∃a,v=.ref a/\SqL K H a (ns.map V.int):=by
 simp only[RD]at h;obtain⟨a,e,h |h⟩:=h
 . exact⟨a,e,.inl (.inr h)⟩
 . exact⟨a,e,.inr h⟩
def RD.mkInt(i:Int):RD K H (.int i) (.int i):=by simp only[RD]
def RD.mkBl(i:Bool):RD K H (.bl i) (.bl i):=by simp only[RD]
def RD.mkStr(i:Str):RD K H (.str i) (.str i):=by simp only[RD]
def RD.mkTup(h:H a=some (.tup xs))(r:RDs K H ds xs):RD K H (.tup ds) (.ref a):=by simp only[RD];exact⟨a,xs,rfl,h,r⟩
end
noncomputable def dI(g:Int->Int->D):D->D->Option D
 | .int i,.int j=>some (g i j)
 |_,_=>none
noncomputable def dIC(C:Int->Int->Prop)[∀i j,Decidable (C i j)](g:Int->Int->D):D->D->Option D
 | .int i,.int j=>if C i j then some (g i j) else none
 |_,_=>none
noncomputable def dOr(o p:D->D->Option D):D->D->Option D:=fun d e=>match o d e with
 |some z=>some z
 |none=>p d e
section
variable {K:Frag}
def OpD.weak(h:OpD K fr o r):OpD K false o r:=fun H0 H x y d e z Q s rx ry ho k=>h H0 H x y d e z Q s rx ry ho fun v H' q=>k v H' q.weak
def OpD.or(h1:OpD K f1 o r)(h2:OpD K f2 p q):OpD K false (dOr o p) (fun x y H Q=>r x y H Q\/q x y H Q):=by
 intro H0 H x y d e z Q s rx ry ho k;unfold dOr at ho;split at ho
 . rename_i z' hz;cases ho;exact .inl (h1.weak H0 H x y d e z Q s rx ry hz k)
 . exact .inr (h2.weak H0 H x y d e z Q s rx ry ho k)
def U9(h:∀i j H,RD K H (gd i j) (gv i j)):OpD K false (dI gd) (cI gv):=by
 intro H0 H x y d e z Q s rx ry ho k;cases d<;>simp only[dI]at ho<;>first |cases ho |skip
 cases e<;>simp only[dI]at ho<;>first |cases ho |skip
 cases rx.int;cases ry.int;exact k _ H (.pure s (h _ _ _))
def Gp[∀i j,Decidable (C i j)](h:∀i j H,RD K H (gd i j) (gv i j)):OpD K false (dIC C gd) (cIC C gv):=by
 intro H0 H x y d e z Q s rx ry ho k;cases d<;>simp only[dIC]at ho<;>first |cases ho |skip
 cases e<;>simp only[dIC]at ho<;>first |cases ho |skip
 cases rx.int;cases ry.int;split at ho
 . rename_i dS;cases ho;exact⟨dS,k _ H (.pure s (h _ _ _))⟩
 . cases ho
instance (i j:Int):Decidable (CMul i j):=by unfold CMul;infer_instance
instance (i j:Int):Decidable (Q9 i j):=by unfold Q9;infer_instance
def o9:D->D->Option D:=dI fun i j=>.int (i+j)
def v8:D->D->Option D:=dI fun i j=>.int (i - j)
def Fg:D->D->Option D:=dIC CMul fun i j=>.int (i * j)
def Q7:D->D->Option D:=dIC Q9 fun i j=>.int (i / j)
def x9:D->D->Option D:=dIC (fun _ j=>0<j) fun i j=>.int (i % j)
def E9:D->D->Option D:=dI fun i j=>.bl (decide (i<j))
def dLe:D->D->Option D:=dI fun i j=>.bl (decide (i<=j))
def R0:D->D->Option D:=dI fun i j=>.bl (decide (j<i))
def dGe:D->D->Option D:=dI fun i j=>.bl (decide (j<=i))
def t7:OpD K false o9 (cI fun i j=>.int (i+j)):=U9 fun _ _ _=>.mkInt _
def G1:OpD K false v8 (cI fun i j=>.int (i - j)):=U9 fun _ _ _=>.mkInt _
def vj:OpD K false Fg (cIC CMul fun i j=>.int (i * j)):=Gp fun _ _ _=>.mkInt _
def Tl:OpD K false Q7 (cIC Q9 fun i j=>.int (i / j)):=Gp fun _ _ _=>.mkInt _
def P7:OpD K false x9 (cIC (fun _ j=>0<j) fun i j=>.int (i % j)):=Gp fun _ _ _=>.mkInt _
def N1:OpD K false E9 (cI fun i j=>.bl (decide (i<j))):=U9 fun _ _ _=>.mkBl _
def Go:OpD K false dLe (cI fun i j=>.bl (decide (i<=j))):=U9 fun _ _ _=>.mkBl _
def As:OpD K false R0 (cI fun i j=>.bl (decide (j<i))):=U9 fun _ _ _=>.mkBl _
def Gn:OpD K false dGe (cI fun i j=>.bl (decide (j<=i))):=U9 fun _ _ _=>.mkBl _
noncomputable def V4:D->Option D
 | .int i=>some (.int (-i))
 |_=>none
def Da:UnD K false V4 (cU fun i=>.int (-i)):=by
 intro H0 H x d z Q s rx ho k;cases d<;>simp only[V4]at ho<;>first |cases ho |skip
 cases rx.int;exact k _ H (.pure s (.mkInt _))
noncomputable def B7:D->D->Option D
 | .lst ds,.lst es=>if ds.length+es.length<=100000 then some (.lst (ds++es)) else none
 |_,_=>none
def U8(h:n<=100000):n<=sizeLine:=sg h (by decide)
def Cz:OpD K true B7 kc:=by
 intro H0 H x y d e z Q s rx ry ho k;cases d<;>simp only[B7]at ho<;>first |cases ho |skip
 cases e<;>simp only[B7]at ho<;>first |cases ho |skip
 split at ho<;>cases ho;rename_i hl;obtain⟨a,xs,rfl,ha,ra⟩:=rx.lst;obtain⟨b,ys,rfl,hb,rb⟩:=ry.lst;refine⟨a,b,xs,ys,rfl,rfl,s _ _ ha,s _ _ hb,by rw[<-ra.length,<-rb.length];exact U8 hl,fun p hp=>k _ _ (.new s hp fun H' hH=>?_)⟩;simp only[OB];exact⟨_,hH,ra.append rb⟩
end
def dEq:D->D->Option D:=fun d e=>if d.pl=true/\e.pl=true/\d.dep<=20 then some (.bl (eqD d e)) else none
def dNe:D->D->Option D:=fun d e=>if d.pl=true/\e.pl=true/\d.dep<=20 then some (.bl (!eqD d e)) else none
def jS(K:Frag):R2:=fun x y H Q=>∃d e,RD K H d x/\RD K H e y/\d.pl=true/\e.pl=true/\d.dep<=20/\Q (.bl (eqD d e)) H
def jR(K:Frag):R2:=fun x y H Q=>∃d e,RD K H d x/\RD K H e y/\d.pl=true/\e.pl=true/\d.dep<=20/\Q (.bl (!eqD d e)) H
def O4(neg:Bool):D->D->Option D:=fun d c=>match c with
 | .lst es=>if d.pl=true/\pls es=true/\i7 es<=20 then some (.bl (if neg then !(es.any fun e=>eqD e d) else es.any fun e=>eqD e d)) else none
 | .tup es=>if d.pl=true/\pls es=true/\i7 es<=20 then some (.bl (if neg then !(es.any fun e=>eqD e d) else es.any fun e=>eqD e d)) else none
 |_=>none
def Ff(K:Frag)(neg:Bool):R2:=fun x y H Q=>∃p xs d es,y=.ref p/\(H p=some (.lst xs)\/H p=some (.tup xs))/\RD K H d x/\RDs K H es xs/\d.pl=true/\pls es=true/\i7 es<=20/\Q (.bl (if neg then !(es.any fun e=>eqD e d) else es.any fun e=>eqD e d)) H
section
variable {X:Cx}{K:Frag}
def P0(hu:X.A.units+64<cLine):OpR X (compareOp .Eq) (jS X.K):=by intro pins s U H x y v u Q I rx ry h;obtain⟨d,e,h1,h2,p1,p2,h3,q⟩:=h;exact(Tn (n:=20) I p1 p2 h3 (by lia) h1 h2 rx ry).1 X.prog X.w X.xe _ ⟨.bl _,H,I,rfl,q⟩
def y1m(hu:X.A.units+64<cLine):OpR X (compareOp .NotEq) (jR X.K):=by intro pins s U H x y v u Q I rx ry h;obtain⟨d,e,h1,h2,p1,p2,h3,q⟩:=h;exact(Tn (n:=20) I p1 p2 h3 (by lia) h1 h2 rx ry).2 X.prog X.w X.xe _ ⟨.bl _,H,I,rfl,q⟩
def O9:OpD K false dEq (jS K):=by intro H0 H x y d e z Q s rx ry ho k;unfold dEq at ho;split at ho<;>cases ho;rename_i h;exact⟨d,e,rx.mono s,ry.mono s,h.1,h.2.1,h.2.2,k _ H (.pure s (.mkBl _))⟩
def y1n:OpD K false dNe (jR K):=by intro H0 H x y d e z Q s rx ry ho k;unfold dNe at ho;split at ho<;>cases ho;rename_i h;exact⟨d,e,rx.mono s,ry.mono s,h.1,h.2.1,h.2.2,k _ H (.pure s (.mkBl _))⟩
def y1o(hu:X.A.units+64<cLine):OpR X (compareOp .In) (Ff X.K false):=by
 intro pins s U H x y v u Q I rx ry h;obtain⟨p,xs,d,es,rfl,hp,hx,cW,pd,pe,hd,q⟩:=h;cases ry;rcases hp with hq |hq
 . obtain⟨its,rv,pl,_⟩:=I.list (.of hq);refine SeqAt.in_listAt (hitD X.K H d) pl.isList (fun y hy=>S6 (A:=X.A) I (by lia) pd hx rx pe cW rv hd y (by simpa using hy)) ⟨.bl _,H,I,rfl,?_⟩;rw[show its.toArray.any (hitD X.K H d)=its.any (hitD X.K H d) by simp,Bl pe cW rv];simpa using q
 . obtain⟨its,rv,pl,_⟩:=I.tuple (.of hq);refine SeqAt.in_tupleAt (hitD X.K H d) pl (fun y hy=>S6 (A:=X.A) I (by lia) pd hx rx pe cW rv hd y (by simpa using hy)) ⟨.bl _,H,I,rfl,?_⟩;rw[show its.toArray.any (hitD X.K H d)=its.any (hitD X.K H d) by simp,Bl pe cW rv];simpa using q
def yL(hu:X.A.units+64<cLine):OpR X (compareOp .NotIn) (Ff X.K true):=by
 intro pins s U H x y v u Q I rx ry h;obtain⟨p,xs,d,es,rfl,hp,hx,cW,pd,pe,hd,q⟩:=h;cases ry;rcases hp with hq |hq
 . obtain⟨its,rv,pl,_⟩:=I.list (.of hq);refine SeqAt.notIn_listAt (hitD X.K H d) pl.isList (fun y hy=>S6 (A:=X.A) I (by lia) pd hx rx pe cW rv hd y (by simpa using hy)) ⟨.bl _,H,I,rfl,?_⟩;rw[show its.toArray.any (hitD X.K H d)=its.any (hitD X.K H d) by simp,Bl pe cW rv];simpa using q
 . obtain⟨its,rv,pl,_⟩:=I.tuple (.of hq);refine SeqAt.notIn_tupleAt (hitD X.K H d) pl (fun y hy=>S6 (A:=X.A) I (by lia) pd hx rx pe cW rv hd y (by simpa using hy)) ⟨.bl _,H,I,rfl,?_⟩;rw[show its.toArray.any (hitD X.K H d)=its.any (hitD X.K H d) by simp,Bl pe cW rv];simpa using q
def od_inS:OpD K false (O4 neg) (Ff K neg):=by
 intro H0 H x y d e z Q s rx ry ho k;unfold O4 at ho;cases e<;>dsimp only at ho<;>first |cases ho |skip
 . split at ho<;>cases ho;rename_i es h;obtain⟨a,xs,rfl,ha,ra⟩:=ry.tup;exact⟨a,xs,d,es,rfl,.inr (s _ _ ha),rx.mono s,ra.mono s,h.1,h.2.1,h.2.2,k _ H (.pure s (.mkBl _))⟩
 . split at ho<;>cases ho;rename_i es h;obtain⟨a,xs,rfl,ha,ra⟩:=ry.lst;exact⟨a,xs,d,es,rfl,.inl (s _ _ ha),rx.mono s,ra.mono s,h.1,h.2.1,h.2.2,k _ H (.pure s (.mkBl _))⟩
end
noncomputable def Q6:D->Option Key
 | .int i=>some (.inl i)
 | .str x=>some (.inr x)
 |_=>none
def O8:List D->Option (List Key)
 | []=>some []
 |d::ds=>match Q6 d,O8 ds with
  |some k,some ks=>some (k::ks)
  |_,_=>none
def Kf{K:Frag}{H:Hp}{d:D}{k:Key}{v:V}(h:Q6 d=some k)(r:RD K H d v):v=kV k:=by
 cases d<;>simp only[Q6]at h<;>first |cases h |skip
 . cases r.int;rfl
 . cases r.str;rfl
theorem Li{K:Frag}{H:Hp}:∀{ds:List D}{ks:List Key}{xs:List V},O8 ds=some ks->RDs K H ds xs->xs=ks.map kV
 | [],ks,xs,h,r=>by simp only[O8]at h;cases h;simp only[RDs]at r;subst r;rfl
 |d::ds,ks,xs,h,r=>by simp only[RDs]at r;obtain⟨x,xs,rfl,r1,r2⟩:=r;simp only[O8]at h;split at h<;>cases h;rename_i k ks h1 h2;rw[Kf h1 r1,Li h2 r2];rfl
def ROp(K:Frag)(H:Hp):Option D->Option V->Prop
 |some z,w=>∃v,w=some v/\RD K H z v
 |none,w=>w=none
section
variable {κ:Type}[DecidableEq κ]
noncomputable def R7(ks:List κ)(ds:List D)(k:κ):Option D:=((ks.zip ds).find? fun kv=>decide (kv.1=k)).map (·.2)
theorem Ke{K:Frag}{H:Hp}(k:κ):∀{ks:List κ}{ds:List D}{xs:List V},ks.length=xs.length->RDs K H ds xs->ROp K H (R7 ks ds k) (w8 (ks.zip xs) k)
 | [],ds,xs,_,_=>by simp[R7,w8,ROp]
 |k'::ks,[],xs,h,r=>by simp only[RDs]at r;subst r;simp at h
 |k'::ks,d::ds,xs,h,r=>by
  simp only[RDs]at r;obtain⟨x,xs,rfl,r1,r2⟩:=r;have ih:=Ke k (by simpa using h) r2 (ks:=ks);simp only[R7,w8,AX,EN]at ih⊢;by_cases e:k'=k
  . simp only[e,FK];exact⟨x,rfl,r1⟩
  . simp only[e,FL];exact ih
noncomputable def F7(ks:List κ)(k:κ):List κ:=if k∈ks then ks else ks++[k]
noncomputable def o8{β:Type}(ks:List κ)(ds:List β)(k:κ)(d:β):List β:=if k∈ks then List.zipWith (fun k' d'=>if k'=k then d else d') ks ds else ds++[d]
def Wx(k:κ)(v:V)(hl:ks.length=xs.length):y0 (ks.zip xs) k v=(F7 ks k).zip (o8 ks xs k v)/\(F7 ks k).length=(o8 ks xs k v).length:=by
 have any:∀(ks:List κ)(xs:List V),ks.length=xs.length->((ks.zip xs).any fun kv=>decide (kv.1=k))=decide (k∈ks):=by
  intro ks;induction ks with
  |nil=>intro xs _;simp
  |cons k' ks ih=>
   intro xs h
   cases xs with
   |nil=>simp at h
   |cons x xs=>
    simp only[AX,FS]
    rw[ih xs (by simpa using h)]
    by_cases e:k'=k
    . simp[e]
    . by_cases m:k∈ks<;>simp[e,m,DR e]
 have mp:∀(ks:List κ)(xs:List V),ks.length=xs.length->(ks.zip xs).map (fun kv=>if kv.1=k then(kv.1,v) else kv)=ks.zip (List.zipWith (fun k' d'=>if k'=k then v else d') ks xs):=by
  intro ks;induction ks with
  |nil=>intro xs _;simp
  |cons k' ks ih=>
   intro xs h
   cases xs with
   |nil=>simp at h
   |cons x xs=>
    simp only[AX,dg,DT]
    rw[ih xs (by simpa using h)]
    by_cases e:k'=k<;>simp[e]
 unfold y0 F7 o8;rw[any ks xs hl];by_cases m:k∈ks
 . rw[ξ (by simpa using m),ξ m,ξ m];exact⟨mp ks xs hl,by simp[hl]⟩
 . rw[ψ (by simpa using m),ψ m,ψ m];exact⟨by rw[List.zip_append hl];rfl,by simp[hl]⟩
def Kd{K:Frag}{H:Hp}(k:κ){d:D}{v:V}(rv:RD K H d v){ks:List κ}{ds:List D}{xs:List V}(r:RDs K H ds xs):RDs K H (o8 ks ds k d) (o8 ks xs k v):=by
 have zw:∀(ks:List κ)(ds:List D)(xs:List V),RDs K H ds xs->RDs K H (List.zipWith (fun k' d'=>if k'=k then d else d') ks ds) (List.zipWith (fun k' d'=>if k'=k then v else d') ks xs):=by
  intro ks;induction ks with
  |nil=>intro ds xs _;simp[RDs]
  |cons k' ks ih=>
   intro ds xs r
   cases ds with
   |nil=>simp only[RDs]at r;subst r;simp[RDs]
   |cons d' ds=>
    simp only[RDs]at r
    obtain⟨x,xs,rfl,r1,r2⟩:=r
    simp only[DT]
    refine .cons ?_ (ih ds xs r2)
    by_cases e:k'=k
    . rw[ξ e,ξ e];exact rv
    . rw[ψ e,ψ e];exact r1
 unfold o8;by_cases m:k∈ks
 . rw[ξ m,ξ m];exact zw ks ds xs r
 . rw[ψ m,ψ m];exact r.append (.one rv)
end
def R6:D->D->Option (Option D)
 | .dk ks ds,k=>(Q6 k).map fun k=>R7 ks ds k
 | .dt ks ds,.tup es=>(O8 es).map fun k=>R7 ks ds k
 |_,_=>none
def Vr{K:Frag}{H:Hp}{d k:D}{x y:V}{o:Option D}(h:R6 d k=some o)(rx:RD K H d x)(ry:RD K H k y) :
  ∃a w,x=.ref a/\DGet H a y w/\ROp K H o w:=by
 cases d<;>simp only[R6]at h<;>first |cases h |skip
 . rename_i ks ds;obtain⟨a,xs,rfl,ha,hl,rs⟩:=rx.dk;cases hk:Q6 k with
   |none=>rw[hk]at h;cases h
   |some k'=>
    rw[hk]at h
    have h:R7 ks ds k'=o:=by simpa using h
    subst h
    cases Kf hk ry
    exact⟨a,_,rfl,DGet.k ha,Ke k' hl rs⟩
 . rename_i ks ds;cases k<;>simp only[R6]at h<;>first |cases h |skip
   rename_i es;obtain⟨a,xs,rfl,ha,hl,rs⟩:=rx.dt;obtain⟨b,ys,rfl,hb,rb⟩:=ry.tup;cases hk:O8 es with
   |none=>rw[hk]at h;cases h
   |some k'=>
    rw[hk]at h
    have h:R7 ks ds k'=o:=by simpa using h
    subst h
    have e:=Li hk rb
    subst e
    exact⟨a,_,rfl,DGet.t ha hb,Ke k' hl rs⟩
def Ol(neg:Bool):D->D->Option D:=fun k d=>(R6 d k).map fun o=>.bl (if neg then !o.isSome else o.isSome)
noncomputable def Fe(neg:Bool):R2:=fun y x H Q=>∃a w,x=.ref a/\DGet H a y w/\Q (.bl (if neg then !w.isSome else w.isSome)) H
def Oj:D->D->Option D:=fun d k=>(R6 d k).bind id
noncomputable def Oi:R2:=fun x y H Q=>∃a w,x=.ref a/\DGet H a y (some w)/\Q w H
def D3:D->D->Option D
 | .lst ds,.int i=>atI ds i
 | .tup ds,.int i=>atI ds i
 | .scr ns,.int i=>(atI ns i).map D.int
 | .str z,.int i=>if z.length<=100000 then(atI z.cps.toList i).map fun c=>D.str ⟨#[c]⟩ else none
 |_,_=>none
def RDs.atI{K:Frag}{H:Hp}{ds:List D}{xs:List V}{i:Int}{d:D}(r:RDs K H ds xs)(h:L2.atI ds i=some d):∃v,L2.atI xs i=some v/\RD K H d v:=by
 unfold L2.atI at h⊢;rw[<-r.length];cases q:ixN ds.length i with
 |none=>rw[q]at h;cases h
 |some j=>
  rw[q]at h
  exact r.get' h
def Vq(f:α->β)(xs:List α)(i:Int):atI (xs.map f) i=(atI xs i).map f:=by
 unfold atI;rw[bI];cases ixN xs.length i with
 |none=>rfl
 |some j=>simp
section
variable {X:Cx}{K:Frag}
def y1s(hu:X.A.units+64<cLine):OpR X (compareOp .In) (Fe false):=by intro pins s U H x y v u Q I rx ry h;obtain⟨a,w,rfl,g,q⟩:=h;cases ry;exact y4x (by omega) I g rx fun s' I'=>⟨.bl w.isSome,H,I',rfl,by simpa using q⟩
def yK(hu:X.A.units+64<cLine):OpR X (compareOp .NotIn) (Fe true):=by intro pins s U H x y v u Q I rx ry h;obtain⟨a,w,rfl,g,q⟩:=h;cases ry;exact xM (by omega) I g rx fun s' I'=>⟨.bl (!w.isSome),H,I',rfl,by simpa using q⟩
def vi:OpD K false (Ol neg) (Fe neg):=by
 intro H0 H x y d e z Q s rx ry ho k;unfold Ol at ho;cases aT:R6 e d with
 |none=>rw[aT]at ho;cases ho
 |some o=>
  rw[aT]at ho;cases ho
  obtain⟨a,w,rfl,g,m⟩:=Vr aT (ry.mono s) (rx.mono s)
  refine⟨a,w,rfl,g,k _ H ?_⟩
  have e:w.isSome=o.isSome:=by
   cases o with
   |none=>rw[show w=none from m];rfl
   |some z=>obtain⟨v,e,_⟩:=m;rw[e];rfl
  rw[e]
  exact .pure s (.mkBl _)
def dIn(neg:Bool):D->D->Option D:=dOr (O4 neg) (Ol neg)
def Oh(K:Frag)(neg:Bool):R2:=fun x y H Q=>Ff K neg x y H Q\/Fe neg x y H Q
def Gm(hu:X.A.units+64<cLine):OpR X (compareOp .In) (Oh X.K false):=(y1o hu).or (y1s hu)
def Lh(hu:X.A.units+64<cLine):OpR X (compareOp .NotIn) (Oh X.K true):=(yL hu).or (yK hu)
def W5:OpD K false (dIn neg) (Oh K neg):=od_inS.or vi
def xu(hu:X.A.units+64<cLine):IxR X Oi:=by intro value slice pins s U H x y v u Q I rx ry h hs;obtain⟨a,w,rfl,g,q⟩:=h;cases rx;exact tail_any (ops:=[.ref a,u]) (ze4 I g) PySem.F.slot_dict_getitem.lookup (zZ (by lia) I g ry fun w' s3 I3 rw'=>⟨w,H,I3,rw',q⟩) hs
def vh:OpD K false Oj Oi:=by
 intro H0 H x y d e z Q s rx ry ho k;unfold Oj at ho;cases aT:R6 d e with
 |none=>rw[aT]at ho;cases ho
 |some o=>
  rw[aT]at ho
  have ho:o=some z:=ho
  subst ho
  obtain⟨a,w,e0,g,m⟩:=Vr aT rx ry
  obtain⟨v,rfl,rv⟩:=m
  subst e0
  refine⟨a,v,rfl,?_,k _ H (.pure s rv)⟩
  rcases g with⟨kvs,kk,e1,e2,e3⟩ |⟨kvs,kk,b,e1,e2,e3,e4⟩
  . refine .inl ⟨kvs,kk,?_,e2,e3⟩;rcases e1 with e1 |⟨o,e1⟩
    . exact .inl (s _ _ e1)
    . exact .inr ⟨o,s _ _ e1⟩
  . refine .inr ⟨kvs,kk,b,?_,e2,s _ _ e3,e4⟩;rcases e1 with e1 |⟨o,e1⟩
    . exact .inl (s _ _ e1)
    . exact .inr ⟨o,s _ _ e1⟩
def od_ixS:OpD K false D3 (rIx K):=by
 intro H0 H x y d e z Q s rx ry ho k;cases d<;>simp only[D3]at ho<;>first |cases ho |skip
 . -- a uE
   cases e<;>simp only[D3]at ho<;>first |cases ho |skip
   cases rx.str;cases ry.int;split at ho
   . rename_i z' i hl;cases hc:atI z'.cps.toList i with
     |none=>rw[hc]at ho;cases ho
     |some c=>
      rw[hc]at ho;cases ho
      exact .inr (.inr ⟨z',i,c,rfl,rfl,U8 hl,hc,k _ H (.pure s (.mkStr _))⟩)
   . cases ho
 . cases e<;>simp only[D3]at ho<;>first |cases ho |skip
   obtain⟨a,xs,rfl,ha,ra⟩:=rx.tup;cases ry.int;obtain⟨v,hv,rv⟩:=ra.atI ho;exact .inr (.inl ⟨a,xs,_,v,rfl,rfl,.of (s _ _ ha),hv,k _ H (.pure s rv)⟩)
 . cases e<;>simp only[D3]at ho<;>first |cases ho |skip
   obtain⟨a,xs,rfl,ha,ra⟩:=rx.lst;cases ry.int;obtain⟨v,hv,rv⟩:=ra.atI ho;exact .inl ⟨a,xs,_,v,rfl,rfl,.of (s _ _ ha),hv,k _ H (.pure s rv)⟩
 . cases e<;>simp only[D3]at ho<;>first |cases ho |skip
   rename_i ns i;cases ry.int;obtain⟨a,rfl,ha⟩:=(rx.mono s).scr;cases hc:atI ns i with
   |none=>rw[hc]at ho;cases ho
   |some c=>
    rw[hc]at ho;cases ho
    exact .inl ⟨a,_,i,.int c,rfl,rfl,ha,by rw[Vq,hc];rfl,k _ H (.pure s (.mkInt _))⟩
def dIx:D->D->Option D:=dOr D3 Oj
def jQ(K:Frag):R2:=fun x y H Q=>rIx K x y H Q\/Oi x y H Q
def y5a(hu:X.A.units+64<cLine):IxR X (jQ X.K):=ix_seq.or (xu hu)
def y1u:OpD K false dIx (jQ K):=od_ixS.or vh
end
structure QE(X:Cx)(EX:XW)(fr:Bool)(e:Expr)(f:DE->R D):Prop where
 h:PE X e (TEd X.K EX fr f)
structure QT(X:Cx)(EX:XW)(e:Expr)(t:DE->R Bool):Prop where
 h:PT X e (TTd X.K EX t)
structure QW(X:Cx)(EX:XW)(e:Expr)(t:DE->R Bool):Prop where
 h:PW X e (TTd X.K EX t)
structure QA(X:Cx)(EX:XW)(es:List Expr)(f:DE->R (List D)):Prop where
 h:PA X es (TAd X.K EX f)
structure QI(X:Cx)(EX:XW)(kp:Bool)(tg e:Expr)(f:DE->R (List D)):Prop where
 h:PI X tg e (TId X.K EX kp f)
structure QG(X:Cx)(tg:Expr)(t:Tg):Prop where
 h:PG X tg (TGd X.K t)
structure QGs(X:Cx)(ts:List Expr)(is:List Nat):Prop where
 h:PGs X ts (Dc is)
structure QS(X:Cx)(EX:XW)(fr:Bool)(st:Stmt)(g:DS->SR):Prop where
 h:PS X st (TSd X.K EX fr g)
structure QB(X:Cx)(EX:XW)(fr:Bool)(sts:List Stmt)(g:DS->SR):Prop where
 h:PSs X sts (TSd X.K EX fr g)
structure QCT(X:Cx)(EX:XW)(ops:List CmpOp)(rs:List Expr)(g:D->DE->R Bool):Prop where
 h:PChT X ops rs (Ag X.K EX g)
section
variable {X:Cx}{EX:XW}{fr:Bool}{a b c e:Expr}{es rest:List Expr}{fa fb:DE->R D}{fs:DE->R (List D)}{t u:DE->R Bool}{pos p:Pos}{x:Str}
def PA.imp{es:List Expr}{t t':TA}(h:PA X es t)(hi:∀U H Q,t' U H Q->t U H Q):PA X es t':=fun pos pins s U H Q I q=>h pos pins s U H Q I (hi U H Q q)
def PW.imp{e:Expr}{t t':TT}(h:PW X e t)(hi:∀U H Q,t' U H Q->t U H Q):PW X e t':=fun wh pins s U H Q I q=>h wh pins s U H Q I (hi U H Q q)
def PI.imp{tg e:Expr}{t t':TI}(h:PI X tg e t)(hi:∀U H Q,t' U H Q->t U H Q):PI X tg e t':=fun pins s U H Q I q=>h pins s U H Q I (hi U H Q q)
def PS.imp{st:Stmt}{t t':TS}(h:PS X st t)(hi:∀D U H,t' D U H->t D U H):PS X st t':=fun pins s U H D I q=>h pins s U H D I (hi D U H q)
def PSs.imp{st:List Stmt}{t t':TS}(h:PSs X st t)(hi:∀D U H,t' D U H->t D U H):PSs X st t':=fun pins s U H D I q=>h pins s U H D I (hi D U H q)
def QE.wk(h:QE X EX true e f):QE X EX false e f:=⟨h.h.imp fun _ _ _ q=>q.weak⟩
def qv(i:Nat)(hN:X.N[i]?=some x:=by rfl)(hv:Vis X.env.scope x:=by first |exact .inl rfl |exact .inr (.inl rfl) |exact .inr (.inr rfl))(hd:(x==("__debug__":Str))=false:=by decide)
 (bN:(x==("__classdict__":Str))=false:=by decide):QE X EX false (.Name x pos) (a6 i):=⟨(Ty hN hv hd bN).imp fun U H Q q=>y17 q⟩
def b7:QE X EX false (.Constant (.int i) j pos) (eC (.int i)):=⟨pe_int.imp fun U H Q q=>Kk (fun _=>.mkInt i) q⟩
def m5:QE X EX false (.Constant (.bool i) j pos) (eC (.bl i)):=⟨pe_bl.imp fun U H Q q=>Kk (fun _=>.mkBl i) q⟩
def Cl:QE X EX false (.Constant (.str i) j pos) (eC (.str i)):=⟨pe_str.imp fun U H Q q=>Kk (fun _=>.mkStr i) q⟩
def g8(ho:OpR X (binaryOp op) r)(od:OpD X.K fr o r)(ha:QE X EX false a fa)(hb:QE X EX false b fb):QE X EX fr (.BinOp a op b pos) (eOp o fa fb):=⟨(y0n ho ha.h hb.h).imp fun _ _ _ q=>Fh od q⟩
def Fd(ho:UnR X (unaryOp op) r)(od:UnD X.K fr o r)(ha:QE X EX false a fa):QE X EX fr (.UnaryOp op a pos) (eUn o fa):=⟨(y0o ho ha.h).imp fun _ _ _ q=>y52 od q⟩
def E1(ho:OpR X (compareOp op) r)(od:OpD X.K false o r)(ha:QE X EX false a fa)(hb:QE X EX false b fb)(hm:behindInMarks op b=false) :
 QE X EX false (.Compare a [op] [b] pos) (eOp o fa fb):=⟨(xR ho ha.h hb.h hm).imp fun _ _ _ q=>Fh od q⟩
def y5b(ho:IxR X r)(od:OpD X.K false o r)(ha:QE X EX false a fa)(hb:QE X EX false b fb)(hs:Ko b):QE X EX false (.Subscript a b pos) (eOp o fa fb):=⟨(y0s ho ha.h hb.h hs).imp fun _ _ _ q=>Fh od q⟩
def b6:QA X EX [] a9:=⟨pa_nil.imp fun _ _ _ q=>Qe q⟩
def a8(ha:QE X EX false e fa)(hr:QA X EX es fs)(hs:starEach (e::es) X.env=(false,eval e X.env)::starEach es X.env:=by rfl):QA X EX (e::es) (a7 fa fs):=⟨(Q1 ha.h hr.h hs).imp fun _ _ _ q=>Je q⟩
def v4(h:QA X EX es fs):QE X EX false (.Tuple es x1 pos) (m7 fs):=⟨(vI h.h).imp fun _ _ _ q=>y19 q⟩
def u9(h:QA X EX es fs):QE X EX true (.List es pos) (l8 fs):=⟨(vH h.h).imp fun _ _ _ q=>y1a q⟩
def Qc(hc:QT X EX c t)(ha:QE X EX fr a fa)(hb:QE X EX fr b fb):QE X EX fr (.IfExp c a b pos) (eIf t fa fb):=⟨(zh hc.h ha.h hb.h).imp fun _ _ _ q=>y53 q⟩
def O7(ha:QE X EX false a fa)(hb:QE X EX false (.BoolOp .And (b::rest) pos) fb):QE X EX false (.BoolOp .And (a::b::rest) pos) (F3 fa fb):=⟨(xK ha.h hb.h).imp fun _ _ _ q=>y1c q⟩
def jP(ha:QE X EX false a fa)(hb:QE X EX false (.BoolOp .Or (b::rest) pos) fb):QE X EX false (.BoolOp .Or (a::b::rest) pos) (eOr fa fb):=⟨(vz ha.h hb.h).imp fun _ _ _ q=>y55 q⟩
def O6(h:QE X EX false a fa):QE X EX false (.BoolOp op [a] pos) fa:=⟨vL h.h⟩
noncomputable def l6:D->Option Bool
 | .bl b=>some b
 | .int i=>some (i != 0)
 | .non=>some false
 | .str z=>if z.length<=100000 then some ((z.length:Int) != 0) else none
 | .lst ds=>some (!ds.isEmpty)
 | .tup ds=>some (!ds.isEmpty)
 | .dk ks _=>some (!ks.isEmpty)
 |_=>none
def Mw{α β:Type}{xs:List α}{ys:List β}(h:xs.length=ys.length):xs.isEmpty=ys.isEmpty:=by cases xs<;>cases ys<;>first |rfl |simp at h
def Tk{K:Frag}:Oo K l6 P1:=by
 intro H0 H x d b Q s rx ht q;cases d<;>simp only[l6]at ht<;>first |cases ht |skip
 . cases rx.non;exact q
 . cases rx.bl;exact q
 . cases rx.int;exact q
 . split at ht<;>cases ht;rename_i h;cases rx.str;exact⟨U8 h,q⟩
 . obtain⟨p,xs,rfl,hp,r⟩:=rx.tup;unfold P1;dsimp only;rw[Xx (s _ _ hp)];rw[Mw r.length]at q;exact q
 . obtain⟨p,xs,rfl,hp,r⟩:=rx.lst;unfold P1;dsimp only;rw[Xy (s _ _ hp)];rw[Mw r.length]at q;exact q
 . rename_i ks es;obtain⟨p,xs,rfl,hp,hl,r⟩:=rx.dk;unfold P1;dsimp only;have e:E3 H p=none:=by unfold E3;rw[s _ _ hp]
   rw[e];dsimp only;rw[s _ _ hp];dsimp only;rw[Mw (show ks.length=(List.zip ks xs).length by rw[BW,<-hl,GD])]at q;exact q
def Cy(ha:QE X EX false a fa):QE X EX false (.UnaryOp .Not a pos) (eUn (fun d=>(l6 d).map fun b=>.bl (!b)) fa):=⟨(xJ ha.h).imp fun _ _ _ q=>vt Tk q⟩
def C2(ha:QE X EX false a fa)(he:∀whole,isTrue a X.env whole=(do let v <-whole;standAt a.pos;holding [v] (truthy v)):=by intro _;rfl):QT X EX a (b8 l6 fa):=⟨(vB ha.h he).imp fun _ _ _ q=>y1d Tk q⟩
def p7(ho:OpR X (compareOp op) r)(od:OpD X.K false o r)(ha:QE X EX false a fa)(hb:QE X EX false b fb)(hm:behindInMarks op b=false) :
 QT X EX (.Compare a [op] [b] pos) (b8 asB (eOp o fa fb)):=⟨(xL ho ha.h hb.h hm).imp fun _ _ _ q=>y1e od q⟩
def QW.pt(h:QW X EX a t):QT X EX a t:=⟨h.h.pt⟩
def D9(ha:QT X EX a t):QT X EX (.UnaryOp .Not a pos) (u6 t):=⟨(vM ha.h).imp fun _ _ _ q=>vv q⟩
def Ar(ha:QT X EX a t):QW X EX (.BoolOp .And [a] pos) t:=⟨xT ha.h⟩
def M7(ha:QT X EX a t):QW X EX (.BoolOp .Or [a] pos) t:=⟨vO ha.h⟩
def W4(ha:QT X EX a t)(hb:QW X EX (.BoolOp .And (b::rest) pos) u):QW X EX (.BoolOp .And (a::b::rest) pos) (F4 t u):=⟨(vN ha.h hb.h).imp fun _ _ _ q=>vw q⟩
def x8(ha:QT X EX a t)(hb:QW X EX (.BoolOp .Or (b::rest) pos) u):QW X EX (.BoolOp .Or (a::b::rest) pos) (bOr t u):=⟨(y0g ha.h hb.h).imp fun _ _ _ q=>y1b q⟩
def PChT.imp{ops:List CmpOp}{rs:List Expr}{t t':V->TT}(h:PChT X ops rs t)(hi:∀x U H Q,t' x U H Q->t x U H Q):PChT X ops rs t':=fun pos pins s U H x v Q I r q=>h pos pins s U H x v Q I r (hi x U H Q q)
variable {gt:D->DE->R Bool}{op ik:CmpOp}{ops:List CmpOp}{r:R2}{o:D->D->Option D}{r':Expr}{rs:List Expr}
def Vp(ho:OpR X (compareOp op) r)(od:OpD X.K false o r)(hb:QE X EX false b fb):QCT X EX [op] [b] (Aw o fb):=⟨(zV ho hb.h).imp fun _ _ _ _ q=>xA od q⟩
def Kc(ho:OpR X (compareOp op) r)(od:OpD X.K false o r)(hb:QE X EX false b fb)(hr:QCT X EX (ik::ops) (r'::rs) gt):QCT X EX (op::ik::ops) (b::r'::rs) (X2 o fb gt):=⟨(zU ho hb.h hr.h).imp fun _ _ _ _ q=>xz od q⟩
def Qb(ha:QE X EX false a fa)(hr:QCT X EX (cE::cF::ops) (dL::dM::rs) gt)(hm:lastMarks (cE::cF::ops) (dL::dM::rs)=false:=by with_unfolding_all rfl) :
 QT X EX (.Compare a (cE::cF::ops) (dL::dM::rs) pos) (Ab fa gt):=⟨(vA ha.h hr.h hm).imp fun _ _ _ q=>vq q⟩
def E8{id:String}{rr:List V->Hp->VK->Prop}{m:List D->Option D}(hc:CallR X (.builtin id) rr)(od:F8 X.K fr m rr)(hg:Gl X x)(hm:X.mg x=none)(hv:bootBuiltins x=some (.builtin id))(ha:QA X EX (e::es) fs)(hn:x≠"__name__":=by decide)(aI:(x==("__debug__":Str))=false:=by decide)
 (he:starEach (e::es) X.env=(false,eval e X.env)::starEach es X.env:=by rfl) (hpl:(backTo pos (starEach es X.env)).any (·.1)=false:=by rfl):QE X EX fr (.Call (.Name x p) (e::es) [] pos) (eCB m fs):=⟨(Lq hc hg hm hv ha.h hn aI he hpl).imp fun _ _ _ q=>On od q⟩
def C1(hc:CallR X (.type T) rr)(od:F8 X.K fr m rr)(hg:Gl X x)(hm:X.mg x=none)(hv:bootBuiltins x=some (.type T))(ha:QA X EX (e::es) fs)(hn:x≠"__name__":=by decide)(aI:(x==("__debug__":Str))=false:=by decide)
 (he:starEach (e::es) X.env=(false,eval e X.env)::starEach es X.env:=by rfl) (hpl:(backTo pos (starEach es X.env)).any (·.1)=false:=by rfl):QE X EX fr (.Call (.Name x p) (e::es) [] pos) (eCB m fs):=⟨(zic hc hg hm hv ha.h hn aI he hpl).imp fun _ _ _ q=>On od q⟩
def g7(L:Lnd X EX)(G:i9 X.prog X.w X.K X.mg X.base x ps k (spD X.K X.mg fr (mOf fr n kk gg) n))(hr:Room j X.A)(hg:Gl X x)(ha:QA X EX (e::es) fs)(eU:k<=j:=by omega)(aI:(x==("__debug__":Str))=false:=by decide)
 (he:starEach (e::es) X.env=(false,eval e X.env)::starEach es X.env:=by rfl) (hpl:(backTo pos (starEach es X.env)).any (·.1)=false:=by rfl):QE X EX fr (.Call (.Name x p) (e::es) [] pos) (c6 (mOf fr n kk gg) fs):=⟨(xv G L.on hr hg ha.h eU aI he hpl).imp fun _ _ _ q=>vn Vu (fun x H z=>by obtain⟨C,hC⟩:=L.nm x H z;exact⟨C,hC,fun od xf=>⟨x,z,hC,xf⟩⟩) q⟩
end
noncomputable def D8:D->String
 | .non=>"NoneType"
 | .bl _=>"bool"
 | .int _=>"int"
 | .str _=>"str"
 | .tup _=>"tuple"
 | .lst _=>"list"
 | .dk _ _=>"dict"
 | .dt _ _=>"dict"
 | .dn _ _=>"?"
 | .scr _=>"?"
 | .exc _ _=>"?"
def n9(c:String):D->Option D:=fun d=>if I0 c=true/\D8 d≠"?" then some (.bl (G7 (D8 d) c)) else none
def xr{K:Frag}{H:Hp}{d:D}{v:V}(h:D8 d≠"?")(r:RD K H d v):M8 H v=some (D8 d):=by
 cases d
 . cases r.non;rfl
 . cases r.bl;rfl
 . cases r.int;rfl
 . cases r.str;rfl
 . obtain⟨a,xs,rfl,ha,_⟩:=r.tup;simp only[M8,ha,D8]
 . obtain⟨a,xs,rfl,ha,_⟩:=r.lst;simp only[M8,ha,D8]
 . obtain⟨a,xs,rfl,ha,_⟩:=r.dk;simp only[M8,ha,D8]
 . obtain⟨a,xs,rfl,ha,_⟩:=r.dt;simp only[M8,ha,D8]
 . exact absurd rfl h
 . exact absurd rfl h
 . exact absurd rfl h
def y1v{K:Frag}{EX:XW}{U:St}{H:Hp}{Q:VK}{c:String}{f:DE->R D}(h:TEd K EX false (eUn (n9 c) f) U H Q):tCB Fj (J1 (TEd K EX false f) (J1 (tC (.ty c)) Q8)) U H Q:=by
 obtain⟨sx,ρ,H0,s,e,h⟩:=h;unfold eUn at h;rw[Rk.bind]at h;refine TEd.go sx s e h fun d h v H1 ak s1 e1 r1=>?_
 obtain⟨z,hz,h⟩:=h.of;unfold n9 at hz;split at hz<;>cases hz;rename_i hc;show Fj [v,.ty c] H1 Q;rw[vx];refine⟨hc.1,?_⟩;rw[xr hc.2 (r1.mono e1.2.1)];exact h _ H1 (.val s1 e1 (.mkBl _))
def L9(hg:Gl X x)(hm:X.mg x=none)(hv:bootBuiltins x=some (.builtin "isinstance"))(ha:QE X EX false a f)(hb:PE X b (tC (.ty c)))(hn:x≠"__name__":=by decide)(aI:(x==("__debug__":Str))=false:=by decide)
 (he:starEach [a,b] X.env=(false,eval a X.env)::starEach [b] X.env:=by rfl) (hpl:(backTo pos (starEach [b] X.env)).any (·.1)=false:=by rfl) (hs:starEach [b] X.env=(false,eval b X.env)::starEach [] X.env:=by rfl) :
 QE X EX false (.Call (.Name x p) [a,b] [] pos) (eUn (n9 c) f):=⟨(Lq y13 hg hm hv (Q1 ha.h (Q1 hb pa_nil hs) he) hn aI he hpl).imp fun _ _ _ q=>y1v q⟩
noncomputable def x4:List D->Option (List Int)
 | []=>some []
 | .int i::ds=>(x4 ds).map (i::·)
 |_::_=>none
noncomputable def N5:List D->Option (List Bool)
 | []=>some []
 | .bl i::ds=>(N5 ds).map (i::·)
 |_::_=>none
theorem Ek:∀(ns:List Int),x4 (ns.map D.int)=some ns
 | []=>rfl
 |n::ns=>by simp[x4,Ek ns]
theorem Zh:∀(ns:List Bool),N5 (ns.map D.bl)=some ns
 | []=>rfl
 |n::ns=>by simp[N5,Zh ns]
theorem Y5{K:Frag}{H:Hp}:∀{ds:List D}{ns:List Int}{xs:List V},x4 ds=some ns->RDs K H ds xs->xs=ns.map V.int
 | [],ns,xs,h,r=>by simp only[x4]at h;cases h;simp only[RDs]at r;subst r;rfl
 |d::ds,ns,xs,h,r=>by
  simp only[RDs]at r;obtain⟨x,xs,rfl,r1,r2⟩:=r;cases d<;>simp only[x4]at h<;>first |cases h |skip
  cases q:x4 ds with
  |none=>rw[q]at h;cases h
  |some ms=>
   rw[q]at h;cases h
   cases r1.int
   rw[Y5 q r2];rfl
theorem Yw{K:Frag}{H:Hp}:∀{ds:List D}{ns:List Bool}{xs:List V},N5 ds=some ns->RDs K H ds xs->xs=ns.map V.bl
 | [],ns,xs,h,r=>by simp only[N5]at h;cases h;simp only[RDs]at r;subst r;rfl
 |d::ds,ns,xs,h,r=>by
  simp only[RDs]at r;obtain⟨x,xs,rfl,r1,r2⟩:=r;cases d<;>simp only[N5]at h<;>first |cases h |skip
  cases q:N5 ds with
  |none=>rw[q]at h;cases h
  |some ms=>
   rw[q]at h;cases h
   cases r1.bl
   rw[Yw q r2];rfl
noncomputable def t8:List D->Option D
 | [.lst ds]=>some (.int ds.length)
 | [.tup ds]=>some (.int ds.length)
 | [.dk ks _]=>some (.int ks.length)
 | [.scr ns]=>some (.int ns.length)
 | [.str z]=>if z.length<=100000 then some (.int z.length) else none
 |_=>none
def O3:List D->Option D
 | [.lst ds]=>(x4 ds).map fun ns=>.int ns.sum
 | [.tup ds]=>(x4 ds).map fun ns=>.int ns.sum
 |_=>none
def K5:List D->Option D
 | [.lst ds]=>(N5 ds).map fun bs=>.bl (bs.any id)
 |_=>none
noncomputable def y1w:List D->Option D
 | [.int i,.int j]=>some (.int (if j > i then j else i))
 |_=>none
noncomputable def U7:List D->Option D
 | [.int i]=>some (.int i)
 | [.bl b]=>some (.int (if b then 1 else 0))
 |_=>none
noncomputable def L8:List D->Option D
 | [.lst ds]=>some (.lst ds)
 | [.tup ds]=>some (.lst ds)
 | [.scr ns]=>some (.lst (ns.map .int))
 |_=>none
noncomputable def J4:List D->Option D
 | [.lst ds]=>some (.tup ds)
 | [.tup ds]=>some (.tup ds)
 |_=>none
section
variable {X:Cx}{K:Frag}
def RDs.uno(h:RDs K H [d] xs):∃x,xs=[x]/\RD K H d x:=by simp only[RDs]at h;obtain⟨x,r,rfl,h1,rfl⟩:=h;exact⟨x,rfl,h1⟩
def RDs.duo(h:RDs K H [d,e] xs):∃x y,xs=[x,y]/\RD K H d x/\RD K H e y:=by simp only[RDs]at h;obtain⟨x,r,rfl,h1,y,r',rfl,h2,rfl⟩:=h;exact⟨x,y,rfl,h1,h2⟩
def Qa(K:Frag):List V->Hp->VK->Prop:=fun xs H Q=>(∃p ys,xs=[.ref p]/\(SqL K H p ys\/SqT K H p ys)/\Q (.int ys.length) H)\/(∃a kvs,xs=[V.ref a]/\H a=some (.dK kvs)/\Q (.int kvs.length) H)\/∃z,xs=[.str z]/\z.length<=sizeLine/\Q (.int z.length) H
def vg:CallR X (.builtin "len") (Qa X.K):=call_len_seq.or (call_lenD.or zci)
def vf:F8 K false t8 (Qa K):=by
 intro H0 H xs ds z Q s r ho k;unfold t8 at ho;split at ho<;>first |cases ho |skip
 . obtain⟨x,rfl,q1⟩:=r.uno;obtain⟨a,ys,rfl,ha,ra⟩:=q1.lst;exact .inl ⟨a,ys,rfl,.inl (.of (s _ _ ha)),by rw[<-ra.length];exact k _ H (.pure s (.mkInt _))⟩
 . obtain⟨x,rfl,q1⟩:=r.uno;obtain⟨a,ys,rfl,ha,ra⟩:=q1.tup;exact .inl ⟨a,ys,rfl,.inr (.of (s _ _ ha)),by rw[<-ra.length];exact k _ H (.pure s (.mkInt _))⟩
 . obtain⟨x,rfl,q1⟩:=r.uno;obtain⟨a,ys,rfl,ha,hl,ra⟩:=q1.dk;refine .inr (.inl ⟨a,_,rfl,s _ _ ha,?_⟩);rw[BW,<-hl,GD];exact k _ H (.pure s (.mkInt _))
 . obtain⟨x,rfl,q1⟩:=r.uno;obtain⟨a,rfl,ha⟩:=(q1.mono s).scr;exact .inl ⟨a,_,rfl,.inl ha,by rw[bI];exact k _ H (.pure s (.mkInt _))⟩
 . split at ho<;>cases ho;rename_i h;obtain⟨x,rfl,q1⟩:=r.uno;cases q1.str;exact .inr (.inr ⟨_,rfl,U8 h,k _ H (.pure s (.mkInt _))⟩)
def Tj:F8 K false O3 Gw:=by
 intro H0 H xs ds z Q s r ho k;unfold O3 at ho;split at ho<;>first |cases ho |skip
 . obtain⟨x,rfl,q1⟩:=r.uno;obtain⟨a,ys,rfl,ha,ra⟩:=q1.lst;rename_i es;cases q:x4 es with
   |none=>rw[q]at ho;cases ho
   |some ns=>
    rw[q]at ho;cases ho
    rw[Vx]
    exact⟨ns,by rw[<-Y5 q ra];exact Xy (s _ _ ha),k _ H (.pure s (.mkInt _))⟩
 . obtain⟨x,rfl,q1⟩:=r.uno;obtain⟨a,ys,rfl,ha,ra⟩:=q1.tup;rename_i es;cases q:x4 es with
   |none=>rw[q]at ho;cases ho
   |some ns=>
    rw[q]at ho;cases ho
    rw[Vx]
    exact⟨ns,by rw[<-Y5 q ra];exact Xx (s _ _ ha),k _ H (.pure s (.mkInt _))⟩
def Jc:F8 K false K5 Gv:=by
 intro H0 H xs ds z Q s r ho k;unfold K5 at ho;split at ho<;>first |cases ho |skip
 obtain⟨x,rfl,q1⟩:=r.uno;obtain⟨a,ys,rfl,ha,ra⟩:=q1.lst;rename_i es;cases q:N5 es with
 |none=>rw[q]at ho;cases ho
 |some ns=>
  rw[q]at ho;cases ho
  rw[xD]
  exact⟨ns,by rw[<-Yw q ra];exact .inl (s _ _ ha),k _ H (.pure s (.mkBl _))⟩
def Jb:F8 K false U7 Qh:=by
 intro H0 H xs ds z Q s r ho k;unfold U7 at ho;split at ho<;>first |cases ho |skip
 . obtain⟨x,rfl,q1⟩:=r.uno;cases q1.int;exact k _ H (.pure s (.mkInt _))
 . obtain⟨x,rfl,q1⟩:=r.uno;cases q1.bl;exact k _ H (.pure s (.mkInt _))
def Ti(K:Frag):List V->Hp->VK->Prop:=fun xs H Q=>∃p ys,xs=[.ref p]/\(SqL K H p ys\/SqT K H p ys)/\∀l,H l=none->Q (.ref l) (upd H l (.lst ys))
def Dv:CallR X (.type "list") (Ti X.K):=zcj
def Du:F8 K true L8 (Ti K):=by
 intro H0 H xs ds z Q s r ho k;have fin:∀{p:Addr}{ys:List V}{es:List D},RDs K H0 es ys->z=.lst es->H p=none->Q (.ref p) (upd H p (.lst ys)):=fun {p ys es} re e hp=>by subst e;refine k _ _ (.new s hp fun H' hH=>?_);simp only[OB];exact⟨_,hH,re⟩
 unfold L8 at ho;split at ho<;>first |cases ho |skip
 . obtain⟨x,rfl,q1⟩:=r.uno;obtain⟨a,ys,rfl,ha,ra⟩:=q1.lst;exact⟨a,ys,rfl,.inl (.of (s _ _ ha)),fun l hl=>fin ra rfl hl⟩
 . obtain⟨x,rfl,q1⟩:=r.uno;obtain⟨a,ys,rfl,ha,ra⟩:=q1.tup;exact⟨a,ys,rfl,.inr (.of (s _ _ ha)),fun l hl=>fin ra rfl hl⟩
 . obtain⟨x,rfl,q1⟩:=r.uno;obtain⟨a,rfl,ha⟩:=(q1.mono s).scr;exact⟨a,_,rfl,.inl ha,fun l hl=>fin (RDs.ofInts _) rfl hl⟩
def Vo(K:Frag):List V->Hp->VK->Prop:=fun xs H Q=>∃p ys,xs=[.ref p]/\((SqL K H p ys/\∀l,H l=none->Q (.ref l) (upd H l (.tup ys)))\/(SqT K H p ys/\Q (.ref p) H))
def Y1:CallR X (.type "tuple") (Vo X.K):=zam
def Y0:F8 K false J4 (Vo K):=by
 intro H0 H xs ds z Q s r ho k;unfold J4 at ho;split at ho<;>first |cases ho |skip
 . obtain⟨x,rfl,q1⟩:=r.uno;obtain⟨a,ys,rfl,ha,ra⟩:=q1.lst;refine⟨a,ys,rfl,.inl ⟨.of (s _ _ ha),fun l hl=>k _ _ (.val (Same.upd_new hl) (.new s hl) (.mkTup l4 (ra.mono (Same.upd_new (s.none hl)))))⟩⟩
 . obtain⟨x,rfl,q1⟩:=r.uno;obtain⟨a,ys,rfl,ha,ra⟩:=q1.tup;exact⟨a,ys,rfl,.inr ⟨.of (s _ _ ha),k _ H (.pure s (.mkTup ha ra))⟩⟩
end
noncomputable def D2{α:Type}(xs:List α)(lo hi:Option Int):List α:=(xs.drop (HT.sIx xs.length 0 lo)).take (HT.sIx xs.length xs.length hi - HT.sIx xs.length 0 lo)
def dSl:D->Option Int->Option Int->Option D
 | .lst ds,lo,hi=>some (.lst (D2 ds lo hi))
 | .scr ns,lo,hi=>some (.lst ((D2 ns lo hi).map .int))
 |_,_,_=>none
noncomputable def TOd(K:Frag)(EX:XW)(f:DE->R (Option Int)):TO:=fun U H Q=>Same EX.hb H/\∃ρ H0,Same H0 H/\RE K H0 ρ U/\Rk EX.at (f ρ) fun o=>∀H',Same H H'->Q o H'
noncomputable def oNo:DE->R (Option Int):=fun _=>.ok none
def oSo(f:DE->R D):DE->R (Option Int):=fun ρ=>(f ρ).bind fun d=>R.of (match d with | .int i=>some (some i) |_=>none)
def eSl(o:D->Option Int->Option Int->Option D)(f:DE->R D)(fl fh:DE->R (Option Int)):DE->R D:=fun ρ=>(f ρ).bind fun d=>(fl ρ).bind fun lo=>(fh ρ).bind fun hi=>R.of (o d lo hi)
def SlD(K:Frag)(fr:Bool)(o:D->Option Int->Option Int->Option D)(r:V->Option Int->Option Int->Hp->VK->Prop):Prop:=∀(H0 H:Hp)(x:V)(d z:D)(lo hi:Option Int)(Q:VK),Same H0 H->RD K H0 d x->o d lo hi=some z->(∀v H',Out K fr H0 H z v H'->Q v H')->r x lo hi H Q
section
variable {X:Cx}{K:Frag}{EX:XW}{fr:Bool}{U:St}{H:Hp}{Q:VK}
structure QO(X:Cx)(EX:XW)(e:Option Expr)(f:DE->R (Option Int)):Prop where
 h:PO X e (TOd X.K EX f)
def PO.imp(h:PO X e t)(hi:∀U H Q,t' U H Q->t U H Q):PO X e t':=fun pins s U H Q I q=>h pins s U H Q I (hi U H Q q)
def Fc(he:QE X EX false e f):QO X EX (some e) (oSo f):=⟨(xO he.h).imp fun U H Q ⟨sx,ρ,H0,s,e,h⟩=>by
 unfold oSo at h;rw[Rk.bind]at h;refine TEd.go sx s e h fun d h v H1 ak s1 e1 r1=>?_
 obtain⟨o,ho,h⟩:=h.of;cases d<;>dsimp only at ho<;>first |cases ho |skip
 cases r1.int;exact⟨_,rfl,h H1 s1⟩⟩
def y5c(hs:SlD K fr o r)(h:TEd K EX fr (eSl o f fl fh) U H Q):tSl r (TEd K EX false f) (TOd K EX fl) (TOd K EX fh) U H Q:=by
 obtain⟨sx,ρ,H0,s,e,h⟩:=h;unfold eSl at h;rw[Rk.bind]at h;refine TEd.go sx s e h fun d h v H1 ak s1 e1 r1=>?_
 rw[Rk.bind]at h;refine⟨sx.trans s1,ρ,ak,e1.2.1,e.mono e1.1,h.mono fun lo h H2 s2=>?_⟩;rw[Rk.bind]at h;refine⟨(sx.trans s1).trans s2,ρ,ak,e1.2.1.trans s2,e.mono e1.1,h.mono fun hi h H3 s3=>?_⟩;obtain⟨z,hz,h⟩:=h.of;exact hs ak H3 v d z lo hi Q (e1.2.1.trans (s2.trans s3)) r1 hz fun w H4 o=>h w H4 (o.after (s1.trans (s2.trans s3)) (e1.grow (s2.trans s3)))
def RDs.cut(r:RDs K H ds xs)(lo hi:Option Int):RDs K H (D2 ds lo hi) (V2 xs lo hi):=by unfold D2 V2;rw[<-r.length];exact(r.drop _).take _
def Vn:SlD K true dSl (kd K):=by
 intro H0 H x d z lo hi Q s r ho k;cases d<;>simp only[dSl]at ho<;>first |cases ho |skip
 . obtain⟨a,xs,rfl,ha,ra⟩:=r.lst;refine⟨a,xs,rfl,.of (s _ _ ha),fun p hp=>k _ _ (.new s hp fun H' hH=>?_)⟩;simp only[OB];exact⟨_,hH,ra.cut lo hi⟩
 . rename_i ns;obtain⟨a,rfl,ha⟩:=(r.mono s).scr;refine⟨a,_,rfl,ha,fun p hp=>k _ _ (.new s hp fun H' hH=>?_)⟩;simp only[OB];have e:=(RDs.ofInts (K:=K) (H:=H0) ns).cut lo hi;refine⟨_,hH,?_⟩;have e2:∀ns:List Int,D2 (ns.map D.int) lo hi=(D2 ns lo hi).map D.int:=fun ns=>by unfold D2;rw[bI,List.map_take,List.map_drop]
   rw[e2]at e;exact e
def jO{o:D->Option Int->Option Int->Option D}{r:V->Option Int->Option Int->Hp->VK->Prop}{e:Expr}{lo hi:Option Expr}{pos p2:Pos}{f:DE->R D}{fl fh:DE->R (Option Int)}(hr:SlR X r)(hs:SlD X.K fr o r)(he:QE X EX false e f)(hl:QO X EX lo fl)(hu:QO X EX hi fh) :
 QE X EX fr (.Subscript e (.Slice lo hi none p2) pos) (eSl o f fl fh):=⟨(zc hr he.h hl.h hu.h).imp fun _ _ _ q=>y5c hs q⟩
end
def iL(f:DE->R D):DE->R (List D):=fun ρ=>(f ρ).bind fun d=>R.of (items d)
noncomputable def zD(lo:Int)(n:Nat):List D:=(List.range n).map fun (i:Nat)=>D.int (lo+i)
def U6(fs:DE->R (List D)):DE->R (List D):=fun ρ=>(fs ρ).bind fun ds=>R.of (match ds with
 | [.int j]=>if -(2 ^ 62)<=j/\j<2 ^ 62 then some (zD 0 j.toNat) else none
 |_=>none)
def Z6(fs:DE->R (List D)):DE->R (List D):=fun ρ=>(fs ρ).bind fun ds=>R.of (match ds with
 | [.int i,.int j]=>if -(2 ^ 62)<=i/\i<2 ^ 62/\-(2 ^ 62)<=j/\j<2 ^ 62 then some (zD i (j - i).toNat) else none
 |_=>none)
def iEn(fs:DE->R (List D)):DE->R (List D):=fun ρ=>(fs ρ).bind fun ds=>R.of (match ds with
 | [.lst es]=>some (((zD 0 es.length).zip es).map fun p=>D.tup [p.1,p.2])
 |_=>none)
section
variable {X:Cx}{K:Frag}{EX:XW}{H0:Hp}
def Cw(hS:∀H,Same H0 H->S H)(r:RDs K H0 ds xs):V0 K (ItS S xs) H0 ds:=by have hl:=r.length;refine⟨fun i d e H H1 s1 s2=>⟨⟨hS H (s1.trans s2),by rw[<-hl];exact(BS.mp e).1⟩,fun x H' ⟨e1,e2⟩=>?_⟩,fun H s=>⟨hS H s,by rw[hl];exact ζ _⟩⟩;subst e1;obtain⟨x',q1,q2⟩:=r.get' e;rw[q1]at e2;cases e2;exact⟨Same.refl _,H1,.refl s2,q2.mono s1⟩
def Gj(lo:Int)(n:Nat):RDs K H0 (zD lo n) (B8 lo n):=by
 have:∀l:List Nat,RDs K H0 (l.map fun (i:Nat)=>D.int (lo+i)) (l.map fun (i:Nat)=>V.int (lo+i)):=by
  intro l;induction l with
  |nil=>simp[RDs]
  |cons a l ih=>exact .cons (.mkInt _) ih
 exact this _
def v9(hl:QE X EX false l f):QI X EX false tg l (iL f):=⟨(vy hl.h).imp fun U H Q ⟨sx,ρ,H0,s,e,h⟩=>by
 unfold iL at h;rw[Rk.bind]at h;refine TEd.go sx s e h fun d h v H1 ak s1 e1 r1=>?_
 obtain⟨ds,hd,h⟩:=h.of;cases d<;>simp only[items]at hd<;>first |cases hd |skip
 . obtain⟨a,xs,rfl,ha,ra⟩:=r1.tup;exact yV (e1.2.1 _ _ ha) (h _ H1 ak s1 e1 (Cw (fun H s=>s _ _ ha) ra))
 . obtain⟨a,xs,rfl,ha,ra⟩:=r1.lst;exact yW (.inl (e1.2.1 _ _ ha)) (h _ H1 ak s1 e1 (Cw (fun H s=>.inl (s _ _ ha)) ra))⟩
def jN(hg:Gl X "range")(hm:X.mg "range"=none)(ha:QA X EX [a] fs)(hs:starEach [a] X.env=[(false,eval a X.env)]:=by rfl):QI X EX true tg (.Call (.Name "range" p) [a] [] pos) (U6 fs):=⟨(y11 hg hm ha.h hs).imp fun U H Q ⟨sx,ρ,H0,s,e,h⟩=>by
 unfold U6 at h;rw[Rk.bind]at h;refine TAd.go sx s e h fun ds h vs H1 ak s1 e1 r1=>?_
 obtain⟨es,hd,h⟩:=h.of;split at hd<;>first |cases hd |skip
 obtain⟨x,rfl,q1⟩:=r1.uno;cases q1.int;split at hd<;>cases hd;rename_i hb;exact⟨hb,h _ H1 ak s1 e1 (Cw (fun _ _=>trivial) (Gj _ _))⟩⟩
def y5d(hg:Gl X "range")(hm:X.mg "range"=none)(ha:QA X EX [a,b] fs)(hs:starEach [a,b] X.env=[(false,eval a X.env),(false,eval b X.env)]:=by rfl)(dw:starEach [b] X.env=[(false,eval b X.env)]:=by rfl) :
  QI X EX true tg (.Call (.Name "range" p) [a,b] [] pos) (Z6 fs):=⟨(y12 hg hm ha.h hs dw).imp fun U H Q ⟨sx,ρ,H0,s,e,h⟩=>by
 unfold Z6 at h
 rw[Rk.bind]at h
 refine TAd.go sx s e h fun ds h vs H1 ak s1 e1 r1=>?_
 obtain⟨es,hd,h⟩:=h.of
 split at hd<;>first |cases hd |skip
 obtain⟨x,y,rfl,q1,q2⟩:=r1.duo
 cases q1.int;cases q2.int
 split at hd<;>cases hd
 rename_i hb
 exact⟨hb,h _ H1 ak s1 e1 (Cw (fun _ _=>trivial) (Gj _ _))⟩⟩
def Ja(hS:∀H,Same H0 H->S H)(r:RDs K H0 ds xs)(r':RDs K H0 es ys):V0 K (ItP S (xs.zip ys)) H0 ((ds.zip es).map fun p=>D.tup [p.1,p.2]):=by
 have hl:=r.length;have cX:=r'.length;have hz:((ds.zip es).map fun p=>D.tup [p.1,p.2]).length=(xs.zip ys).length:=by rw[bI,BW,BW,hl,cX]
 refine⟨fun i d e H H1 s1 s2=>⟨⟨hS H (s1.trans s2),by rw[<-hz];exact(BS.mp e).1⟩,fun x H' y=>?_⟩,fun H s=>⟨hS H s,hz⟩⟩;obtain⟨T,a,b,rfl,hT,rfl,ep⟩:=y;obtain⟨ea,eb⟩:=DB.mp ep;obtain⟨da,ga,ra⟩:=r.get ea;obtain⟨db,gb,rb⟩:=r'.get eb;have gz:(ds.zip es)[i]?=some (da,db):=DB.mpr ⟨ga,gb⟩;rw[BF,gz]at e;cases e;refine⟨Same.upd_new hT,upd H1 T (.tup [a,b]),.new s2 hT,.mkTup l4 ?_⟩;have sm:=Same.upd_new (o:=.tup [a,b]) (s2.none hT);exact .cons (ra.mono (s1.trans sm)) (.cons (rb.mono (s1.trans sm)) .nil)
def jM(hg:Gl X "enumerate")(hm:X.mg "enumerate"=none)(ha:QA X EX [a] fs)(hs:starEach [a] X.env=[(false,eval a X.env)]:=by rfl) :
  QI X EX false (.Tuple aN k aq) (.Call (.Name "enumerate" p) [a] [] pos) (iEn fs):=⟨(xG hg hm ha.h hs).imp fun U H Q ⟨sx,ρ,H0,s,e,h⟩=>by
 unfold iEn at h
 rw[Rk.bind]at h
 refine TAd.go sx s e h fun ds h vs H1 ak s1 e1 r1=>?_
 obtain⟨es,hd,h⟩:=h.of
 split at hd<;>first |cases hd |skip
 obtain⟨x,rfl,q1⟩:=r1.uno
 obtain⟨l,xs,rfl,hl,rl⟩:=q1.lst
 refine⟨xs,.inl (e1.2.1 _ _ hl),h _ H1 ak s1 e1 ?_⟩
 rw[rl.length]
 exact Ja (fun H s=>.inl (s _ _ hl)) (Gj _ _) rl⟩
end
section
variable {X:Cx}{sc:Scope}{caps:List Str}{ix:List Nat}{aH iter:Expr}{aC:List Expr}{pos px py aq:Pos}{x y:Str}{kt:Nat}{kp:Bool}{EX:XW}{fi:DE->R (List D)}{t:DE->R Bool}{f:DE->R D}
noncomputable def k7:DE->R Bool:=fun _=>.ok true
inductive PTq (X:Cx) (sc:Scope) (N:List Str):List Expr->(DE->R Bool)->Prop where
 |nil:PTq X sc N [] k7
 |one {c:Expr} {t:DE->R Bool} (h:∀fp s H,QT (j9 X sc N fp s H) F0 c t):PTq X sc N [c] t
def PTq.run(h:PTq X sc N aC t):∃tt,(∀fp s H,PTs (j9 X sc N fp s H) aC tt)/\∀U H Q,TTd X.K F0 t U H Q->tt U H Q:=by
 cases h with
 |nil=>exact⟨_,fun _ _ _=>.nil,fun U H Q ⟨sx,ρ,H0,s,e,h⟩=>h H (Same.refl _)⟩
 |one h=>exact⟨_,fun fp s H=>.one (h fp s H).h,fun _ _ _ q=>q⟩
def G6(C:CompOk X sc caps ix)(hN:([x]++caps).Nodup)(hx:sc.names.lookup x=some .local)(hi:QI X EX kp (.Name x px) iter fi)(ht:PTq X sc ([x]++caps) aC t)(he:∀fp s H,QE (j9 X sc ([x]++caps) fp s H) F0 false aH f)
  (hs:∀x,foldedSetIterable iter X.env x=pure x:=by intro _;rfl):QE X EX true (.ListComp aH [⟨.Name x px,iter,aC,0⟩] sc pos) (i4 fi b1 ix t f):=by
 obtain⟨tt,h1,h2⟩:=ht.run
 refine⟨(yU C hN hx hi.h h1 (fun fp s H=>(he fp s H).h) hs).imp fun _ _ _ q=>Db jU h2 q⟩
def Fb(C:CompOk X sc caps ix)(hN:([x,y]++caps).Nodup)(hx:sc.names.lookup x=some .local)(hy:sc.names.lookup y=some .local)(hi:QI X EX kp (.Tuple [.Name x px,.Name y py] kt aq) iter fi)(ht:PTq X sc ([x,y]++caps) aC t)
  (he:∀fp s H,QE (j9 X sc ([x,y]++caps) fp s H) F0 false aH f) (hs:∀x,foldedSetIterable iter X.env x=pure x:=by intro _;rfl):QE X EX true (.ListComp aH [⟨.Tuple [.Name x px,.Name y py] kt aq,iter,aC,0⟩] sc pos) (i4 fi (bT 2) ix t f):=by
 obtain⟨tt,h1,h2⟩:=ht.run
 refine⟨(yS C hN hx hy hi.h h1 (fun fp s H=>(he fp s H).h) hs).imp fun _ _ _ q=>Db jT h2 q⟩
def Xv(h:∀U H Q,sq U H Q->te U H Q)(q:G9 sq g De U H):G9 te g De U H:=h _ _ _ q
def jL{fr:Bool}{m:List Bool}{v:Str}{k:Nat}{bz pv:Pos}(eM:X.N.Nodup)(hk:X.N[k]?=some v)(hv:X.env.scope.names.lookup v=some .local)(C:CompOk X sc caps ix)(hN:([x]++caps).Nodup)(hx:sc.names.lookup x=some .local)(hi:QI X EX kp (.Name x px) iter fi)
  (ht:PTq X sc ([x]++caps) aC t) (he:∀fp s H,QE (j9 X sc ([x]++caps) fp s H) F0 false aH f)
  (cL:swapsWith (.ListComp aH [⟨.Name x px,iter,aC,0⟩] sc pos) (some (.Name v pv)) bz.line X.env=pure true:=by rfl) (hs:∀x,foldedSetIterable iter X.env x=pure x:=by intro _;rfl) :
  QS X EX fr (.Assign [.Name v pv] (.ListComp aH [⟨.Name x px,iter,aC,0⟩] sc pos) bz) (e8 true k m (i4 fi b1 ix t f)):=by
 obtain⟨tt,h1,h2⟩:=ht.run
 refine⟨(yT eM hk hv C hN hx hi.h h1 (fun fp s H=>(he fp s H).h) cL hs).imp fun _ _ _ q=>Xv (fun _ _ _ q=>Db jU h2 q) (Gq q)⟩
def y5e{fr:Bool}{m:List Bool}{v:Str}{k:Nat}{bz pv:Pos}(eM:X.N.Nodup)(hk:X.N[k]?=some v)(hv:X.env.scope.names.lookup v=some .local)(C:CompOk X sc caps ix)(hN:([x,y]++caps).Nodup)(hx:sc.names.lookup x=some .local)(hy:sc.names.lookup y=some .local)
  (hi:QI X EX kp (.Tuple [.Name x px,.Name y py] kt aq) iter fi) (ht:PTq X sc ([x,y]++caps) aC t) (he:∀fp s H,QE (j9 X sc ([x,y]++caps) fp s H) F0 false aH f)
  (cL:swapsWith (.ListComp aH [⟨.Tuple [.Name x px,.Name y py] kt aq,iter,aC,0⟩] sc pos) (some (.Name v pv)) bz.line X.env=pure true:=by rfl) (hs:∀x,foldedSetIterable iter X.env x=pure x:=by intro _;rfl) :
  QS X EX fr (.Assign [.Name v pv] (.ListComp aH [⟨.Tuple [.Name x px,.Name y py] kt aq,iter,aC,0⟩] sc pos) bz) (e8 true k m (i4 fi (bT 2) ix t f)):=by
 obtain⟨tt,h1,h2⟩:=ht.run
 refine⟨(yR eM hk hv C hN hx hy hi.h h1 (fun fp s H=>(he fp s H).h) cL hs).imp fun _ _ _ q=>Xv (fun _ _ _ q=>Db jT h2 q) (Gq q)⟩
end
section
variable {X:Cx}{EX:XW}{fr cq:Bool}{st:Stmt}{sts:List Stmt}{a b c e:Expr}{es:List Expr}{f fv fk:DE->R D}{fs:DE->R (List D)}{t:DE->R Bool}{g g1 g2:DS->SR}{pos p:Pos}{m:List Bool}
def n8:QB X EX fr [] sNx:=⟨pss_nil.imp fun _ _ _ q=>y56 q⟩
def c8(h:QS X EX fr st g):QB X EX fr [st] g:=⟨xS h.h⟩
def c9(h1:QS X EX fr st g1)(h2:QB X EX fr sts g2):QB X EX fr (st::sts) (b9 g1 g2):=⟨(zg h1.h h2.h).imp fun _ _ _ q=>y1f q⟩
def m4(hc:QT X EX c t)(ha:QB X EX fr x g1)(hb:QB X EX fr y g2):QS X EX fr (.If c x y pos) (sIf t g1 g2):=⟨(y0i hc.h ha.h hb.h).imp fun _ _ _ q=>y1g q⟩
def i5(he:QE X EX fr e f):QS X EX fr (.Return (some e) pos) (d8 m f):=⟨(Tx he.h).imp fun _ _ _ q=>y1h q⟩
def Hz(hN:X.N[i]?=some x:=by rfl)(hv:Vis X.env.scope x:=by first |exact .inl rfl |exact .inr (.inl rfl) |exact .inr (.inr rfl))(hd:(x==("__debug__":Str))=false:=by decide)
 (bN:(x==("__classdict__":Str))=false:=by decide):QS X EX true (.Return (some (.Name x p)) pos) (W8 i):=⟨(Tx (pw i hN hv hd bN)).imp fun _ _ _ q=>vp q⟩
def Cv(he:QE X EX false e f)(hs:swapsWith e none pos.line X.env=pure false:=by rfl):QS X EX fr (.Expr e pos) (p9 f):=⟨(Wf he.h hs).imp fun _ _ _ q=>vo q⟩
def y1x(hN:X.N.Nodup)(hi:X.N[i]?=some x)(hx:Loc X.env.scope x)(he:QE X EX cq e f)(hs:swapsWith e (some (.Name x dH)) pos.line X.env=pure false)(hf:X.fn x=true\/X.env.scope.names.lookup x=some .local) :
 QS X EX fr (.Assign [.Name x dH] e pos) (e8 cq i m f):=⟨(vK hN hi hx he.h hs hf).imp fun _ _ _ q=>Gq q⟩
def g_n(hN:X.N.Nodup)(hi:X.N[i]?=some x)(hx:Loc X.env.scope x)(hf:X.fn x=true\/X.env.scope.names.lookup x=some .local:=by exact .inl rfl):QG X (.Name x pos) (.n i):=⟨(Kr hN hi hx hf).imp fun _ _ _ _ q=>y57 q⟩
def Aq:QGs X [] []:=⟨yQ⟩
def J5(hN:X.N.Nodup)(hi:X.N[i]?=some x)(hx:Loc X.env.scope x)(hr:QGs X ts is)(hf:X.fn x=true\/X.env.scope.names.lookup x=some .local:=by exact .inl rfl)
 (hs:(assignEach (.Name x pos::ts) X.env).map (·.2)=assign (.Name x pos) X.env::(assignEach ts X.env).map (·.2):=by rfl):QGs X (.Name x pos::ts) (i::is):=⟨zO (Kr hN hi hx hf) hr.h hs⟩
def g_t(hc:X.calm=true)(h:QGs X ts is)(hn:(assignEach ts X.env).length=is.length:=by rfl)(aU:(assignEach ts X.env).findIdx? (·.1)=none:=by rfl):QG X (.Tuple ts k pos) (.t is):=⟨(xE hc h.h hn aU).imp fun _ _ _ _ q=>y58 q⟩
def Pz(he:QE X EX false e f)(hg:QG X tg tt)(hs:swapsWithSole [tg] e pos.line X.env=pure false:=by rfl)(hw:swappedStores [tg] e X.env=pure none:=by rfl)
 (h1:(assignEach [tg] X.env).map (·.2)=[assign tg X.env]:=by rfl):QS X EX fr (.Assign [tg] e pos) (V5 tt m f):=⟨(Jg he.h hg.h hs hw h1).imp fun _ _ _ q=>y1k q⟩
def R5(hp:PassesOwn (model X.prog X.w) X.A X.env X.xe)(hc:X.calm=true)(hi:QI X EX kp tg iter fi)(hg:QG X tg tt)(hb:QB X EX fr body g)
 (hs:∀x,foldedSetIterable iter X.env x=pure x:=by intro _;rfl):QS X EX fr (.For tg iter body [] pos) (D6 kp m fi tt g):=⟨(xI hp hc hi.h hg.h hb.h hs).imp fun _ _ _ q=>y1l q⟩
def xq(hp:PassesOwn (model X.prog X.w) X.A X.env X.xe)(hc:QT X EX c t)(hb:QB X EX fr body g):QS X EX fr (.While c body [] pos) (At n t g):=⟨(zf hp hc.h hb.h).imp fun _ _ _ q=>xy q⟩
noncomputable def D1:D->List D->Option D
 | .lst ds,[d]=>if ds.length<100000 then some (.lst (ds++[d])) else none
 |_,_=>none
def X3{K:Frag}:TyD K "list":=fun H0 H a d ob h=>by cases d<;>simp[isT]at h;simp only[OB]at ob;obtain⟨xs,hx,_⟩:=ob;exact .inl ⟨rfl,xs,.of hx⟩
def Ct{K:Frag}:Z8 K D1 Wc:=by
 intro H0 H a d d' ds vs Q s h0 ob r hm k;unfold D1 at hm;split at hm<;>first |cases hm |skip
 split at hm<;>cases hm;rename_i es e hl;simp only[OB]at ob;obtain⟨xs,hx,rx⟩:=ob;obtain⟨y,rfl,q1⟩:=r.uno;refine⟨a,xs,y,rfl,rfl,hx,by rw[<-rx.length];exact S9 hl,k _ _ ?_⟩;simp only[OB];exact⟨_,l4,rx.append (.one q1)⟩
def W3{T id:String}{name:Str}{i:Nat}{x:Str}{xp apos cpos:Pos}{mt:D->List D->Option D}{rr:V->List V->Hp->VK->Prop}(pa:PlainAttrs T)(slot:Slot T name id)(eJ:typeOf (.builtin id)=pure (.type "method_descriptor"))(hm:MtM X id rr)(od:Z8 X.K mt rr)(hT:TyD X.K T)
 (ho:PE X (.Name x xp) (D5 i)) (ha:QA X EX (e::es) fs)
 (az:attributeBase (.Name x xp) name X.env (eval (.Name x xp) X.env)=eval (.Name x xp) X.env:=by rfl)
 (bW:((backTo cpos (starEach (e::es) X.env)).all (fun x=>!x.1)&&(backToKw cpos (keywordEach [] X.env)).all (fun x=>x.1.isSome)
  && decide ((e::es).length+([]:List Keyword).length+(if([]:List Keyword).isEmpty then 0 else 1)<30))=true:=by rfl)
 (aS:(apos.endLine==cpos.line)=true:=by rfl) (hs:starEach (e::es) X.env=(false,eval e X.env)::starEach es X.env:=by rfl) (bb:(backTo cpos (starEach es X.env)).any (·.1)=false:=by rfl)
 (cL:swapsWith (.Call (.Attribute (.Name x xp) name apos) (e::es) [] cpos) none pos.line X.env=pure false:=by rfl) :
 QS X EX fr (.Expr (.Call (.Attribute (.Name x xp) name apos) (e::es) [] cpos) pos) (F1 T mt i m fs):=⟨(Wf (Qp pa slot eJ hm ho ha.h az bW aS hs bb) cL).imp fun _ _ _ q=>y1i od hT q⟩
def K4:D->D->D->Option D
 | .lst ds,.int i,v=>(ixN ds.length i).map fun j=>.lst (ds.set j v)
 | .dk ks ds,k,v=>if ks.length<100000 then(Q6 k).map fun k=>.dk (F7 ks k) (o8 ks ds k v) else none
 | .dt ks ds,.tup es,v=>if ks.length<100000 then(O8 es).map fun k=>.dt (F7 ks k) (o8 ks ds k v) else none
 |_,_,_=>none
noncomputable def Py:V3:=fun o i v H Q=>Qq o i v H Q\/∃a H',o=.ref a/\DPut H a i v H'/\Q H'
def y1y(hu:X.A.units+64<cLine):Fn X Py:=by
 intro pins s U H o i v ov iv u Q I ro ri rv h;rcases h with h |⟨a,H',rfl,g,q⟩
 . exact za pins s U H o i v ov iv u Q I ro ri rv h
 . cases ro;exact zY (by lia) I g ri rv fun s' I'=>⟨H',I',q⟩
def ve{K:Frag}:Om K K4 Py:=by
 intro H0 H a d d' dk dv y v Q s h0 ob rk rv hm k;cases d<;>simp only[K4]at hm<;>first |cases hm |skip
 . cases dk<;>simp only[K4]at hm<;>first |cases hm |skip
   rename_i ds i;simp only[OB]at ob;obtain⟨xs,hx,rx⟩:=ob;cases rk.int;cases hj:ixN ds.length i with
   |none=>rw[hj]at hm;cases hm
   |some j=>
    rw[hj]at hm;cases hm
    refine .inl ⟨a,xs,i,j,rfl,rfl,hx,by rw[<-rx.length];exact hj,k _ ?_⟩
    simp only[OB]
    exact⟨_,l4,rx.set j rv⟩
 . rename_i ks ds;split at hm
   . rename_i hl;cases hk:Q6 dk with
     |none=>rw[hk]at hm;cases hm
     |some kk=>
      rw[hk]at hm
      have hm:D.dk (F7 ks kk) (o8 ks ds kk dv)=d':=by simpa using hm
      subst hm
      simp only[OB]at ob
      obtain⟨xs,hx,ag,rx⟩:=ob
      cases Kf hk rk
      refine .inr ⟨a,_,rfl,DPut.k hx (by rw[BW,<-ag,GD];exact S9 hl),k _ ?_⟩
      obtain⟨e1,e2⟩:=Wx kk v ag
      simp only[OB]
      exact⟨_,by rw[l4,e1],e2,Kd kk rv rx⟩
   . cases hm
 . rename_i ks ds;cases dk<;>simp only[K4]at hm<;>first |cases hm |skip
   rename_i es;split at hm
   . rename_i hl;cases hk:O8 es with
     |none=>rw[hk]at hm;cases hm
     |some kk=>
      rw[hk]at hm
      have hm:D.dt (F7 ks kk) (o8 ks ds kk dv)=d':=by simpa using hm
      subst hm
      simp only[OB]at ob
      obtain⟨xs,hx,ag,rx⟩:=ob
      obtain⟨b,ys,rfl,hb,rb⟩:=rk.tup
      have e:=Li hk rb
      subst e
      refine .inr ⟨a,_,rfl,DPut.t hx (s _ _ hb) (by rw[BW,<-ag,GD];exact S9 hl),k _ ?_⟩
      obtain⟨e1,e2⟩:=Wx kk v ag
      simp only[OB]
      exact⟨_,by rw[l4,e1],e2,Kd kk rv rx⟩
   . cases hm
def Px(hu:X.A.units+64<cLine)(ho:PE X o (D5 i))(hk:QE X EX false ix fk)(hv:QE X EX false e fv)
 (ha:∀v,assign (.Subscript o ix aq) X.env v=(do
  let ov <-holding [v] (eval o X.env)
  let iv <-holding [v,ov] (eval ix X.env)
  standAt aq
  holding [v,ov,iv] (setItem ov iv v)
  release [v,ov,iv] []):=by intro _;rfl) (hs:swapsWithSole [.Subscript o ix aq] e pos.line X.env=pure false:=by rfl) (hw:swappedStores [.Subscript o ix aq] e X.env=pure none:=by rfl)
 (h1:(assignEach [.Subscript o ix aq] X.env).map (·.2)=[assign (.Subscript o ix aq) X.env]:=by rfl):QS X EX fr (.Assign [.Subscript o ix aq] e pos) (R4 K4 i m fk fv):=⟨(Jg hv.h (Tv ho hk.h (y1y hu) ha) hs hw h1).imp fun _ _ _ q=>Qd ve q⟩
end
def fnD{P:Program}{w:World}{K:Frag}{mg:Str->Option Value}{base:Heap}{x qual:Str}{st:Stmt}{f:Addr}{fd:FuncData}{N ps:List Str}{k n kk:Nat}{fr:Bool}{g:DS->SR}(F:Fun K x qual st f fd)(S:FnScope N ps (h7 st))(sr:ps.length=n)(hN:N.length=n+kk)
  (cD:∀(cdv:Value)(A:Around)(outer:List Env)(s:Shared)(H:Hp)(E:XK),Room k (A.deeper (envOfC qual (h7 st) s.heap.objs.size f cdv)) ->
   QB (O5 (CX1 P w) P w K mg base N qual (h7 st) f cdv A outer s H E) ⟨H,xNm K mg E⟩ fr (J6 st) g):FnOk P w K mg base (CX1 P w) (k+1) f fd ps (spD K mg fr (mOf fr n kk g) n):=by
 have ag:∀{vs:List V}{H:Hp}{Q:VK}{E:XK},spD K mg fr (mOf fr n kk g) n vs H Q E->vs.length=n:=fun {vs H Q E} h=>by obtain⟨ds,H0,s,r,hn,_⟩:=h;rw[<-r.length];exact hn
 refine F.okX S (fun vs H Q E h=>by rw[ag h,sr]) (fun cdv A outer s H vs Q E hr h=>⟨_,(cD cdv A outer s H E hr).h,?_⟩)
 have e:J0 N vs=vs.map some++List.replicate kk none:=by unfold J0;rw[ag h,hN,Nat.add_sub_cancel_left]
 rw[e]
 exact vm h
noncomputable def spL(K:Frag)(fr:Bool)(m:List D->R D)(n:Nat):Sp:=fun vs H Q _=>∃ds H0,Same H0 H/\RDs K H0 ds vs/\ds.length=n/\Rk (fun _=>False) (m ds) fun d=>∀v H',Out K fr H0 H d v H'->Q v H'
def spL.spD{K:Frag}{fr:Bool}{m:List D->R D}{n:Nat}{vs:List V}{H:Hp}{Q:VK}{E:XK}{mg:Str->Option Value}(h:spL K fr m n vs H Q E):L2.spD K mg fr m n vs H Q E:=by
 obtain⟨ds,H0,s,r,hn,h⟩:=h;refine⟨ds,H0,s,r,hn,?_⟩;cases q:m ds with
 |ok d=>rw[q]at h;exact h
 |er x=>rw[q]at h;exact h.elim
 |st=>rw[q]at h;exact h.elim
def vd{K:Frag}{H:Hp}{a:Addr}{ns:List Int}{m:List D->R D}{fr:Bool}(hO:Fl H)(hS:SqL K H a (ns.map V.int))(h:m [.scr ns]=.ok (.bl true)):spL K fr m 1 [.ref a] H (fun v _=>v=.bl true) fun _ _ _=>False:=by
 refine⟨[.scr ns],H,Same.refl _,.one ?_,rfl,?_⟩
 . simp only[RD];refine⟨a,rfl,?_⟩;rcases hS with (hS |hS) |hS
   . rcases hO a with z |⟨o,xs,z⟩<;>rw[z]at hS<;>cases hS
   . exact .inl hS
   . exact .inr hS
 . rw[h];exact fun v H' o=>by obtain⟨_,aa,_,r⟩:=o.weak.rd;exact r.bl
end L2
namespace L2
open PySem PySem.Spec PyProof.Rows
open PySem.W (KasT kas_sort kas_rev kas_asc kas_desc kas_tail3 kas_descPart kas_count kas_place kas_bin)
end L2
namespace L2
open PySem PySem.Spec PyProof.Rows
open PySem.W (KasT kas_sort)
mutual
noncomputable def D.oi:D->Bool
 | .int _=>true
 | .tup ds=>ois ds
 |_=>false
noncomputable def ois:List D->Bool
 | []=>true
 |d::ds=>d.oi&&ois ds
end
mutual
noncomputable def ltT:D->D->Bool
 | .int i,.int j=>decide (i<j)
 | .int _,.tup _=>true
 | .tup ds,.tup es=>ltTs ds es
 |_,_=>false
noncomputable def ltTs:List D->List D->Bool
 | [],[]=>false
 | [],_::_=>true
 |_::_,[]=>false
 |d::ds,e::es=>if eqD d e=true then ltTs ds es else ltT d e
end
mutual
noncomputable def d7:D->D->Option Bool
 | .int i,.int j=>some (decide (i<j))
 | .tup ds,.tup es=>k9 ds es
 |_,_=>none
noncomputable def k9:List D->List D->Option Bool
 | [],[]=>some false
 | [],_::_=>some true
 |_::_,[]=>some false
 |d::ds,e::es=>if eqD d e=true then k9 ds es else d7 d e
end
mutual
theorem Th:∀{d e:D}{b:Bool},d7 d e=some b->b=ltT d e
 | .int i,.int j,b,h=>by simp only[d7,Option.some.injEq]at h;simp only[ltT];exact h.symm
 | .tup ds,.tup es,b,h=>by simp only[d7]at h;simp only[ltT];exact Vm h
 | .non,e,b,h=>by simp[d7]at h
 | .bl _,e,b,h=>by simp[d7]at h
 | .str _,e,b,h=>by simp[d7]at h
 | .lst _,e,b,h=>by simp[d7]at h
 | .dk _ _,e,b,h=>by simp[d7]at h
 | .dt _ _,e,b,h=>by simp[d7]at h
 | .dn _ _,e,b,h=>by simp[d7]at h
 | .scr _,e,b,h=>by simp[d7]at h
 | .exc _ _,e,b,h=>by simp[d7]at h
 | .int _,.non,b,h=>by simp[d7]at h
 | .int _,.bl _,b,h=>by simp[d7]at h
 | .int _,.str _,b,h=>by simp[d7]at h
 | .int _,.lst _,b,h=>by simp[d7]at h
 | .int _,.tup _,b,h=>by simp[d7]at h
 | .int _,.dk _ _,b,h=>by simp[d7]at h
 | .int _,.dt _ _,b,h=>by simp[d7]at h
 | .int _,.dn _ _,b,h=>by simp[d7]at h
 | .int _,.scr _,b,h=>by simp[d7]at h
 | .int _,.exc _ _,b,h=>by simp[d7]at h
 | .tup _,.non,b,h=>by simp[d7]at h
 | .tup _,.bl _,b,h=>by simp[d7]at h
 | .tup _,.int _,b,h=>by simp[d7]at h
 | .tup _,.str _,b,h=>by simp[d7]at h
 | .tup _,.lst _,b,h=>by simp[d7]at h
 | .tup _,.dk _ _,b,h=>by simp[d7]at h
 | .tup _,.dt _ _,b,h=>by simp[d7]at h
 | .tup _,.dn _ _,b,h=>by simp[d7]at h
 | .tup _,.scr _,b,h=>by simp[d7]at h
 | .tup _,.exc _ _,b,h=>by simp[d7]at h
theorem Vm:∀{ds es:List D}{b:Bool},k9 ds es=some b->b=ltTs ds es
 | [],[],b,h=>by simp only[k9,Option.some.injEq]at h;simp only[ltTs];exact h.symm
 | [],_::_,b,h=>by simp only[k9,Option.some.injEq]at h;simp only[ltTs];exact h.symm
 |_::_,[],b,h=>by simp only[k9,Option.some.injEq]at h;simp only[ltTs];exact h.symm
 |d::ds,e::es,b,h=>by
  simp only[k9]at h;simp only[ltTs];split at h
  . rename_i q;rw[ξ q];exact Vm h
  . rename_i q;rw[ψ q];exact Th h
end
mutual
theorem W2:∀{d e:D},d.oi=true->eqD d e=true->e.oi=true->d=e
 | .int i,.int j,_,h,_=>by simp only[eqD,EW]at h;rw[h]
 | .tup ds,.tup es,p,h,q=>by simp only[eqD]at h;simp only[D.oi]at p q;rw[Tf p h q]
 | .int i,.tup _,_,h,_=>by simp[eqD]at h
 | .tup _,.int _,_,h,_=>by simp[eqD]at h
 | .int _,.non,_,_,q=>by simp[D.oi]at q
 | .int _,.bl _,_,_,q=>by simp[D.oi]at q
 | .int _,.str _,_,_,q=>by simp[D.oi]at q
 | .int _,.lst _,_,_,q=>by simp[D.oi]at q
 | .int _,.dk _ _,_,_,q=>by simp[D.oi]at q
 | .int _,.dt _ _,_,_,q=>by simp[D.oi]at q
 | .int _,.dn _ _,_,_,q=>by simp[D.oi]at q
 | .int _,.scr _,_,_,q=>by simp[D.oi]at q
 | .int _,.exc _ _,_,_,q=>by simp[D.oi]at q
 | .tup _,.non,_,_,q=>by simp[D.oi]at q
 | .tup _,.bl _,_,_,q=>by simp[D.oi]at q
 | .tup _,.str _,_,_,q=>by simp[D.oi]at q
 | .tup _,.lst _,_,_,q=>by simp[D.oi]at q
 | .tup _,.dk _ _,_,_,q=>by simp[D.oi]at q
 | .tup _,.dt _ _,_,_,q=>by simp[D.oi]at q
 | .tup _,.dn _ _,_,_,q=>by simp[D.oi]at q
 | .tup _,.scr _,_,_,q=>by simp[D.oi]at q
 | .tup _,.exc _ _,_,_,q=>by simp[D.oi]at q
 | .non,_,p,_,_=>by simp[D.oi]at p
 | .bl _,_,p,_,_=>by simp[D.oi]at p
 | .str _,_,p,_,_=>by simp[D.oi]at p
 | .lst _,_,p,_,_=>by simp[D.oi]at p
 | .dk _ _,_,p,_,_=>by simp[D.oi]at p
 | .dt _ _,_,p,_,_=>by simp[D.oi]at p
 | .dn _ _,_,p,_,_=>by simp[D.oi]at p
 | .scr _,_,p,_,_=>by simp[D.oi]at p
 | .exc _ _,_,p,_,_=>by simp[D.oi]at p
theorem Tf:∀{ds es:List D},ois ds=true->k8 ds es=true->ois es=true->ds=es
 | [],[],_,_,_=>rfl
 | [],_::_,_,h,_=>by simp[k8]at h
 |_::_,[],_,h,_=>by simp[k8]at h
 |d::ds,e::es,p,h,q=>by simp only[k8,pr]at h;simp only[ois,pr]at p q;rw[W2 p.1 h.1 q.1,Tf p.2 h.2 q.2]
end
mutual
theorem Dt:∀{d:D},d.oi=true->eqD d d=true
 | .int i,_=>by simp[eqD]
 | .tup ds,p=>by simp only[eqD];exact Ww (by simpa only [D.oi] using p)
 | .non,p=>by simp[D.oi]at p
 | .bl _,p=>by simp[D.oi]at p
 | .str _,p=>by simp[D.oi]at p
 | .lst _,p=>by simp[D.oi]at p
 | .dk _ _,p=>by simp[D.oi]at p
 | .dt _ _,p=>by simp[D.oi]at p
 | .dn _ _,p=>by simp[D.oi]at p
 | .scr _,p=>by simp[D.oi]at p
 | .exc _ _,p=>by simp[D.oi]at p
theorem Ww:∀{ds:List D},ois ds=true->k8 ds ds=true
 | [],_=>rfl
 |d::ds,p=>by simp only[ois,pr]at p;simp only[k8,Dt p.1,Ww p.2,GU]
end
mutual
theorem Cs:∀{d e:D},d.oi=true->e.oi=true->ltT d e=false->ltT e d=false->d=e
 | .int i,.int j,_,_,h,h'=>by
  simp only[ltT,AT]at h h';have:i=j:=by lia
  rw[this]
 | .tup ds,.tup es,p,q,h,h'=>by simp only[ltT]at h h';simp only[D.oi]at p q;rw[Vl p q h h']
 | .int _,.tup _,_,_,h,_=>by simp[ltT]at h
 | .tup _,.int _,_,_,_,h=>by simp[ltT]at h
 | .int _,.non,_,q,_,_=>by simp[D.oi]at q
 | .int _,.bl _,_,q,_,_=>by simp[D.oi]at q
 | .int _,.str _,_,q,_,_=>by simp[D.oi]at q
 | .int _,.lst _,_,q,_,_=>by simp[D.oi]at q
 | .int _,.dk _ _,_,q,_,_=>by simp[D.oi]at q
 | .int _,.dt _ _,_,q,_,_=>by simp[D.oi]at q
 | .int _,.dn _ _,_,q,_,_=>by simp[D.oi]at q
 | .int _,.scr _,_,q,_,_=>by simp[D.oi]at q
 | .int _,.exc _ _,_,q,_,_=>by simp[D.oi]at q
 | .tup _,.non,_,q,_,_=>by simp[D.oi]at q
 | .tup _,.bl _,_,q,_,_=>by simp[D.oi]at q
 | .tup _,.str _,_,q,_,_=>by simp[D.oi]at q
 | .tup _,.lst _,_,q,_,_=>by simp[D.oi]at q
 | .tup _,.dk _ _,_,q,_,_=>by simp[D.oi]at q
 | .tup _,.dt _ _,_,q,_,_=>by simp[D.oi]at q
 | .tup _,.dn _ _,_,q,_,_=>by simp[D.oi]at q
 | .tup _,.scr _,_,q,_,_=>by simp[D.oi]at q
 | .tup _,.exc _ _,_,q,_,_=>by simp[D.oi]at q
 | .non,_,p,_,_,_=>by simp[D.oi]at p
 | .bl _,_,p,_,_,_=>by simp[D.oi]at p
 | .str _,_,p,_,_,_=>by simp[D.oi]at p
 | .lst _,_,p,_,_,_=>by simp[D.oi]at p
 | .dk _ _,_,p,_,_,_=>by simp[D.oi]at p
 | .dt _ _,_,p,_,_,_=>by simp[D.oi]at p
 | .dn _ _,_,p,_,_,_=>by simp[D.oi]at p
 | .scr _,_,p,_,_,_=>by simp[D.oi]at p
 | .exc _ _,_,p,_,_,_=>by simp[D.oi]at p
theorem Vl:∀{ds es:List D},ois ds=true->ois es=true->ltTs ds es=false->ltTs es ds=false->ds=es
 | [],[],_,_,_,_=>rfl
 | [],_::_,_,_,h,_=>by simp[ltTs]at h
 |_::_,[],_,_,_,h=>by simp[ltTs]at h
 |d::ds,e::es,p,q,h,h'=>by
  simp only[ois,pr]at p q;simp only[ltTs]at h h';by_cases w:eqD d e=true
  . have:=W2 p.1 w q.1;subst this;rw[ξ w]at h;rw[ξ w]at h';rw[Vl p.2 q.2 h h']
  . have w':¬eqD e d=true:=fun z=>w (by rw[W2 q.1 z p.1];exact Dt p.1)
    rw[ψ w]at h;rw[ψ w']at h';have:=Cs p.1 q.1 h h';subst this;exact absurd (Dt p.1) w
end
mutual
theorem Hy:∀{d:D},d.oi=true->ltT d d=false
 | .int i,_=>by simp[ltT]
 | .tup ds,p=>by simp only[ltT];exact Vk (by simpa only [D.oi] using p)
 | .non,p=>by simp[D.oi]at p
 | .bl _,p=>by simp[D.oi]at p
 | .str _,p=>by simp[D.oi]at p
 | .lst _,p=>by simp[D.oi]at p
 | .dk _ _,p=>by simp[D.oi]at p
 | .dt _ _,p=>by simp[D.oi]at p
 | .dn _ _,p=>by simp[D.oi]at p
 | .scr _,p=>by simp[D.oi]at p
 | .exc _ _,p=>by simp[D.oi]at p
theorem Vk:∀{ds:List D},ois ds=true->ltTs ds ds=false
 | [],_=>rfl
 |d::ds,p=>by simp only[ois,pr]at p;simp only[ltTs];rw[ξ (Dt p.1)];exact Vk p.2
end
mutual
theorem Ck:∀{d e f:D},d.oi=true->e.oi=true->f.oi=true->ltT d e=true->ltT e f=true->ltT d f=true
 | .int i,.int j,.int k,_,_,_,h,h'=>by
  simp only[ltT,AR]at h h'⊢
  lia
 | .int i,.int j,.tup _,_,_,_,h,h'=>by simp only[ltT]
 | .int i,.tup _,.tup _,_,_,_,h,h'=>by simp only[ltT]
 | .tup ds,.tup es,.tup fs,p,q,r,h,h'=>by simp only[ltT]at h h'⊢;simp only[D.oi]at p q r;exact Te p q r h h'
 | .int i,.tup _,.int _,_,_,_,h,h'=>by simp[ltT]at h'
 | .tup _,.int _,_,_,_,_,h,h'=>by simp[ltT]at h
 | .tup _,.tup _,.int _,_,_,_,h,h'=>by simp[ltT]at h'
 | .non,_,_,p,_,_,_,_=>by simp[D.oi]at p
 | .bl _,_,_,p,_,_,_,_=>by simp[D.oi]at p
 | .str _,_,_,p,_,_,_,_=>by simp[D.oi]at p
 | .lst _,_,_,p,_,_,_,_=>by simp[D.oi]at p
 | .dk _ _,_,_,p,_,_,_,_=>by simp[D.oi]at p
 | .dt _ _,_,_,p,_,_,_,_=>by simp[D.oi]at p
 | .dn _ _,_,_,p,_,_,_,_=>by simp[D.oi]at p
 | .scr _,_,_,p,_,_,_,_=>by simp[D.oi]at p
 | .exc _ _,_,_,p,_,_,_,_=>by simp[D.oi]at p
 |_,.non,_,_,p,_,_,_=>by simp[D.oi]at p
 |_,.bl _,_,_,p,_,_,_=>by simp[D.oi]at p
 |_,.str _,_,_,p,_,_,_=>by simp[D.oi]at p
 |_,.lst _,_,_,p,_,_,_=>by simp[D.oi]at p
 |_,.dk _ _,_,_,p,_,_,_=>by simp[D.oi]at p
 |_,.dt _ _,_,_,p,_,_,_=>by simp[D.oi]at p
 |_,.dn _ _,_,_,p,_,_,_=>by simp[D.oi]at p
 |_,.scr _,_,_,p,_,_,_=>by simp[D.oi]at p
 |_,.exc _ _,_,_,p,_,_,_=>by simp[D.oi]at p
 |_,_,.non,_,_,p,_,_=>by simp[D.oi]at p
 |_,_,.bl _,_,_,p,_,_=>by simp[D.oi]at p
 |_,_,.str _,_,_,p,_,_=>by simp[D.oi]at p
 |_,_,.lst _,_,_,p,_,_=>by simp[D.oi]at p
 |_,_,.dk _ _,_,_,p,_,_=>by simp[D.oi]at p
 |_,_,.dt _ _,_,_,p,_,_=>by simp[D.oi]at p
 |_,_,.dn _ _,_,_,p,_,_=>by simp[D.oi]at p
 |_,_,.scr _,_,_,p,_,_=>by simp[D.oi]at p
 |_,_,.exc _ _,_,_,p,_,_=>by simp[D.oi]at p
theorem Te:∀{ds es fs:List D},ois ds=true->ois es=true->ois fs=true->ltTs ds es=true->ltTs es fs=true->ltTs ds fs=true
 | [],_,_::_,_,_,_,_,_=>by simp only[ltTs]
 |_,[],[],_,_,_,_,h=>by simp[ltTs]at h
 |_::_,[],_,_,_,_,h,_=>by simp[ltTs]at h
 |_,_::_,[],_,_,_,_,h=>by simp[ltTs]at h
 |d::ds,e::es,f::fs,p,q,r,h,h'=>by
  simp only[ois,pr]at p q r;simp only[ltTs]at h h'⊢;by_cases w:eqD d e=true
  . have:=W2 p.1 w q.1;subst this;rw[ξ w]at h;by_cases w2:eqD d f=true
    . rw[ξ w2]at h'⊢;exact Te p.2 q.2 r.2 h h'
    . rw[ψ w2]at h'⊢;exact h'
  . rw[ψ w]at h;by_cases w2:eqD e f=true
    . have:=W2 q.1 w2 r.1;subst this;rw[ψ w];exact h
    . rw[ψ w2]at h';have h3:=Ck p.1 q.1 r.1 h h';by_cases w3:eqD d f=true
      . have:=W2 p.1 w3 r.1;subst this;rw[Hy p.1]at h3;cases h3
      . rw[ψ w3];exact h3
end
theorem Kb:∀{ds:List D}{i:Nat},ois ds=true->(ds.getD i (.int 0)).oi=true
 | [],i,_=>by simp[D.oi]
 |d::ds,0,h=>by simp only[ois,pr]at h;simpa using h.1
 |d::ds,i+1,h=>by simp only[ois,pr]at h;simpa using Kb (i:=i) h.2
def ltI(ds:List D)(i j:Nat):Bool:=ltT (ds.getD i (.int 0)) (ds.getD j (.int 0))
def K3(d:D):List D->List D
 | []=>[d]
 |e::r=>if ltT e d=true then e::K3 d r else d::e::r
def u8:List D->List D
 | []=>[]
 |d::r=>K3 d (u8 r)
theorem Me(d:D):∀l:List D,(K3 d l).Perm (d::l)
 | []=>.refl _
 |e::r=>by
  unfold K3;split
  . exact((Me d r).cons e).trans (.swap d e r)
  . exact .refl _
theorem Q4:∀l:List D,(u8 l).Perm l
 | []=>.refl _
 |d::r=>(Me d (u8 r)).trans ((Q4 r).cons d)
theorem ois_mem:∀{ds:List D},ois ds=true↔∀d∈ds,d.oi=true
 | []=>by simp[ois]
 |d::ds=>by simp[ois,ois_mem (ds:=ds)]
def Srt(l:List D):Prop:=l.Pairwise fun a b=>ltT b a=false
theorem Wv:∀{l:List D},d.oi=true->ois l=true->Srt l->Srt (K3 d l)
 | [],_,_,_=>by simp[K3,Srt]
 |e::r,hd,hl,hs=>by
  simp only[ois,pr]at hl;obtain⟨h1,h2⟩:=DV.mp hs;unfold K3;split
  . rename_i aJ;refine DV.mpr ⟨fun x hx=>?_,Wv hd hl.2 h2⟩;rcases ee.mp ((Me d r).mem_iff.mp hx) with rfl |hx
    . cases hq:ltT x e with
      |false=>rfl
      |true=>
       have:=Ck hl.1 hd hl.1 aJ hq
       rw[Hy hl.1]at this;cases this
    . exact h1 x hx
  . rename_i aJ;have aJ:ltT e d=false:=by simpa using aJ
    refine DV.mpr ⟨fun x hx=>?_,hs⟩;rcases ee.mp hx with rfl |hx
    . exact aJ
    . have ss:=(ois_mem.mp hl.2) x hx;cases hq:ltT x d with
      |false=>rfl
      |true=>
       have h3:=h1 x hx
       cases hy:ltT d e with
       |true=>rw[Ck ss hd hl.1 hq hy]at h3;cases h3
       |false=>
        rw[Cs hd hl.1 hy aJ]at hq
        rw[hq]at h3;cases h3
def Ed(p:l.Perm l')(h:ois l'=true):ois l=true:=ois_mem.mpr fun d hd=>(ois_mem.mp h) d (p.mem_iff.mp hd)
theorem Q3:∀{l:List D},ois l=true->Srt (u8 l)
 | [],_=>.nil
 |d::r,h=>by simp only[ois,pr]at h;exact Wv h.1 (Ed (Q4 r) h.2) (Q3 h.2)
theorem X9:∀{l l':List D},ois l=true->l.Perm l'->Srt l->Srt l'->l=l'
 | [],l',_,p,_,_=>by rw[p.nil_eq]
 |a::r,[],_,p,_,_=>by have:=p.length_eq;simp at this
 |a::r,b::r',h,p,s,s'=>by
  have h':=h;simp only[ois,pr]at h;obtain⟨h1,h2⟩:=DV.mp s;obtain⟨h3,h4⟩:=DV.mp s';have hb:b∈a::r:=p.mem_iff.mpr BK;have ha:a∈b::r':=p.mem_iff.mp BK;have su:=(ois_mem.mp h') b hb;have e:a=b:=by
   rcases ee.mp hb with z |z
   . exact z.symm
   . rcases ee.mp ha with w |w
     . exact w
     . exact Cs h.1 su (h3 a w) (h1 b z)
  subst e;rw[X9 h.2 (List.perm_cons a |>.mp p) h2 h4]
end L2
namespace L2
open PySem PySem.Spec PyProof.Rows
open PySem.W (KasT kas_sort kas_rev kas_asc kas_desc kas_tail3 kas_descPart kas_count kas_place kas_bin)
def Al(n:Nat)(p:Array Nat):Prop:=∀i,p.getD i 0<n
def RcLt(A:Around)(s:Shared)(x y:Value)(b:Bool):Prop:=∀(prog:Program)(w:World)(E:Value->Shared->Prop)(Q:Value->Shared->Prop),Q (.bool b) s->wpAny (model prog w) A (richCompare .Lt x y) Q E s
inductive LexR (A:Around) (s:Shared):List Value->List Value->Bool->Prop
 |nn:LexR A s [] [] false
 |nc {w ws}:LexR A s [] (w::ws) true
 |cn {v vs}:LexR A s (v::vs) [] false
 |eq {v w vs ws b} (h:SeqAt.EqAt A s v w true) (r:LexR A s vs ws b):LexR A s (v::vs) (w::ws) b
 |lt {v w vs ws b} (h:SeqAt.EqAt A s v w false) (r:RcLt A s v w b):LexR A s (v::vs) (w::ws) b
section
open PySem.SeqAt
open PySem.AutoSeq1 (wpAny_loadPart')
open PySem.MeetsSeq PySem.MeetsSeq2 PySem.MeetsSeq3
def zh3(l b:Addr)(items aE:Array Value)(n n2:Nat)(dd dm:Option Addr)(sl cK:Array (Option Value))(r:Bool) :
  Meets (Builtin.«tuple.__lt__» ⟨[.ref l,.ref b],[]⟩)
   (fun A R s=>s.heap.get? l=some { cls:=.type "tuple",dict:=dd,data:=.seq items n,slots:=sl }/\s.heap.get? b=some { cls:=.type "tuple",dict:=dm,data:=.seq aE n2,slots:=cK } /\
    LexR A.in1 s items.toList aE.toList r/\R (.ok (.ret (.bool r))) s):=
 .of_wp fun prog w A R s h=>by
  obtain⟨hp,g,d,tk,os⟩:=s;obtain⟨hl,hb,hL,h⟩:=h;have f2:=AutoSeq1.sub_tuple_tuple
  wp_walk using pp hl,pp hb,wpAny_forIn_list _ (fun rest b s'=>b.1=none/\s'=⟨hp,g,d,tk,os⟩/\∃(vs ws:List Value)(r':Bool),rest=vs.zip ws /\
   LexR A.in1 ⟨hp,g,d,tk,os⟩ vs ws r'/\vs.length+aE.size=ws.length+items.size/\R (.ok (.ret (.bool r'))) ⟨hp,g,d,tk,os⟩) _
  case turn=>
   rintro⟨y,x⟩ rest b s' ⟨eN,rfl,vs,ws,r',hz,lT,ag,hR⟩
   cases lT with
   |nn=>rw[GO]at hz;cases hz
   |nc=>rw[GO]at hz;cases hz
   |cn=>rw[List.zip_nil_right]at hz;cases hz
   |eq he hr=>
    rw[AX]at hz
    injection hz with lU fL
    injection lU with hy hx
    subst hy hx
    simp only[io]at ag
    refine χ (he prog w _ _ ?_)
    wp_walk
    exact⟨rfl,rfl,_,_,_,fL,hr,by lia,hR⟩
   |lt he hr=>
    rw[AX]at hz
    injection hz with lU fL
    injection lU with hy hx
    subst hy hx
    refine χ (he prog w _ _ ?_)
    have sw:=hr prog w
    wp_walk using sw
    exact⟨_,rfl,by simpa using hR⟩
  case fin=>
   rintro⟨b1,b2⟩ s' ⟨eN,rfl,vs,ws,r',hz,lT,ag,hR⟩
   simp only at eN
   subst eN
   have hv:r'=decide (items.size<aE.size):=by
    cases lT with
    |nn=>simp only[DL]at ag;exact(decide_eq_false (by lia)).symm
    |nc=>simp only[DL,io]at ag;exact(decide_eq_true (by lia)).symm
    |cn=>simp only[DL,io]at ag;exact(decide_eq_false (by lia)).symm
    |eq _ _=>rw[AX]at hz;cases hz
    |lt _ _=>rw[AX]at hz;cases hz
   rw[hv]at hR
   wp_walk
   exact⟨_,rfl,by simpa [Builtin.Tuple.tupleCompareSizes] using hR⟩
  case h=>exact⟨rfl,rfl,items.toList,aE.toList,r,rfl,hL,by simp;lia,h⟩
def RcLt.tuples{A:Around}{s:Shared}{l b:Addr}{items aE:Array Value}{r:Bool}(hl:s.heap.IsTuple l items)(hb:s.heap.IsTuple b aE)(hL:LexR A.in1 s items.toList aE.toList r)(hu:A.units<cLine):RcLt A s (.ref l) (.ref b) r:=fun prog w E Q h=>by
 obtain⟨⟨cls,dd,data,sl⟩,ho,hc,n,hd⟩:=id hl;obtain⟨⟨iE,dm,data2,cK⟩,bS,cQ,n2,cg⟩:=id hb;simp only at hc hd cQ cg;subst hc hd cQ cg;exact richCompare_meets_room (op:=.Lt) ⟨_,ho,rfl⟩ ⟨_,bS,rfl⟩ PySem.F.slot_tuple_lt PySem.F.entry_tuple_lt (PySem.F.args_tuple_lt_2 _ _) (zh3 l b items aE n n2 dd dm sl cK r)
  ⟨ho,bS,hL,show Value.bool r≠Value.notImplemented/\Q (.bool r) s from⟨(fun x=>nomatch x),h⟩⟩ hu
end
mutual
theorem Af:∀{d:D},d.oi=true->d.pl=true
 | .int _,_=>rfl
 | .tup ds,h=>by simp only[D.pl];exact Td (by simpa only [D.oi] using h)
 | .non,p=>by simp[D.oi]at p
 | .bl _,p=>by simp[D.oi]at p
 | .str _,p=>by simp[D.oi]at p
 | .lst _,p=>by simp[D.oi]at p
 | .dk _ _,p=>by simp[D.oi]at p
 | .dt _ _,p=>by simp[D.oi]at p
 | .dn _ _,p=>by simp[D.oi]at p
 | .scr _,p=>by simp[D.oi]at p
 | .exc _ _,p=>by simp[D.oi]at p
theorem Td:∀{ds:List D},ois ds=true->pls ds=true
 | [],_=>rfl
 |d::ds,h=>by simp only[ois,pr]at h;simp only[pls,Af h.1,Td h.2,GU]
end
section
variable {X:Cx}{pins:List (Addr×Obj)}{U:St}{H:Hp}{s:Shared}
theorem Tc(I:Inv X pins U H s)(hu:A.units+n<cLine)(lt:∀{d e:D}{x y:V}{u v:Value}{b:Bool},d.oi=true->e.oi=true->d.dep<=n->RD X.K H d x->RD X.K H e y->RelV x u->RelV y v->d7 d e=some b->RcLt A s u v b) :
  ∀{ds es:List D}{xs ys:List V}{us vs:List Value}{b:Bool},ois ds=true->ois es=true->i7 ds<=n->RDs X.K H ds xs->RDs X.K H es ys->Vals xs us->Vals ys vs->k9 ds es=some b->LexR A s us vs b
 | [],[],_,_,_,_,b,_,_,_,r1,r2,q1,q2,h=>by simp only[RDs]at r1 r2;subst r1;subst r2;cases q1;cases q2;simp only[k9,Option.some.injEq]at h;subst h;exact .nn
 | [],e::es,_,_,_,_,b,_,_,_,r1,r2,q1,q2,h=>by simp only[RDs]at r1 r2;subst r1;obtain⟨y,ys,rfl,_,_⟩:=r2;cases q1;cases q2;simp only[k9,Option.some.injEq]at h;subst h;exact .nc
 |d::ds,[],_,_,_,_,b,_,_,_,r1,r2,q1,q2,h=>by simp only[RDs]at r1 r2;subst r2;obtain⟨y,ys,rfl,_,_⟩:=r1;cases q1;cases q2;simp only[k9,Option.some.injEq]at h;subst h;exact .cn
 |d::ds,e::es,_,_,_,_,b,p1,p2,hd,r1,r2,q1,q2,h=>by
  simp only[RDs]at r1 r2;obtain⟨x,xs,rfl,rx,gF⟩:=r1;obtain⟨y,ys,rfl,ry,gG⟩:=r2;simp only[ois,pr]at p1 p2;simp only[i7]at hd;cases q1 with
  |cons a1 a2=>
   cases q2 with
   |cons b1 b2=>
    have eq:=Df (A:=A) I n (Af p1.1) (Af p2.1) (by lia) hu rx ry a1 b1
    simp only[k9]at h
    split at h
    . rename_i w;rw[w]at eq;exact .eq eq (Tc I hu lt p1.2 p2.2 (by lia) gF gG a2 b2 h)
    . rename_i w;rw[show eqD d e=false by simpa using w]at eq;exact .lt eq (lt p1.1 p2.1 (by lia) rx ry a1 b1 h)
def Xu(h:d7 d e=some b):(∃i j,d=.int i/\e=.int j/\b=decide (i<j))\/∃ds es,d=.tup ds/\e=.tup es/\k9 ds es=some b:=by
 cases d with
 |int i=>cases e with
  |int j=>exact .inl ⟨_,_,rfl,rfl,(Option.some.inj h).symm⟩
  |_=>exact nomatch h
 |tup ds=>cases e with
  |tup es=>exact .inr ⟨_,_,rfl,rfl,h⟩
  |_=>exact nomatch h
 |_=>exact nomatch h
def qZ(I:Inv X pins U H s):∀(n:Nat){A:Around}{d e:D}{x y:V}{u v:Value}{b:Bool},A.units+n<cLine->d.oi=true->e.oi=true->d.dep<=n->RD X.K H d x->RD X.K H e y->RelV x u->RelV y v->d7 d e=some b->RcLt A s u v b:=by
 intro n;induction n with
 |zero=>
  intro A d e x y u v b hu p1 p2 hd rx ry ru rv h
  rcases Xu h with⟨i,j,rfl,rfl,rfl⟩ |⟨ds,es,rfl,rfl,h⟩
  . cases rx.int;cases ry.int;obtain⟨t,rfl⟩:=ru;obtain⟨t',rfl⟩:=rv;exact fun prog w E Q q=>HT.rcLt_int A s _ _ _ _ prog w E Q q
  . simp only[D.dep]at hd;lia
 |succ n ih=>
  intro A d e x y u v b hu p1 p2 hd rx ry ru rv h
  rcases Xu h with⟨i,j,rfl,rfl,rfl⟩ |⟨ds,es,rfl,rfl,h⟩
  . cases rx.int;cases ry.int;obtain⟨t,rfl⟩:=ru;obtain⟨t',rfl⟩:=rv;exact fun prog w E Q q=>HT.rcLt_int A s _ _ _ _ prog w E Q q
  . obtain⟨a,xs,rfl,ha,ra⟩:=rx.tup;obtain⟨c,ys,rfl,hc,rc⟩:=ry.tup;cases ru;cases rv;obtain⟨its,r1,t1⟩:=I.tupA ha;obtain⟨ao,r2,t2⟩:=I.tupA hc;simp only[D.dep]at hd;simp only[D.oi]at p1 p2;have oA:A.in1.units+n<cLine:=by show A.units+1+n<cLine;lia
    exact RcLt.tuples t1 t2 (Tc I oA (fun {d e x y u v b} q1 q2 q3 q4 q5 q6 q7 q8=>ih oA q1 q2 q3 q4 q5 q6 q7 q8) p1 p2 (by lia) ra rc r1 r2 h) (by lia)
end
end L2
namespace L2
open PySem PySem.Spec PyProof.Rows
section
variable {prog:Program}{w:World}{A:Around}{E:Value->Shared->Prop}{s:Shared}
def zh4(ho:s.heap.get? a=some (seqObj "list" vs.toArray n))(hs:vs.length<2)
  (h:P (.done (.ret .none)) { s with heap:=sortedHeap s.heap a vs ((pairsOf vs).map (·.2)) }):wpAny (model prog w) A (Builtin.«list.sort» ⟨[.ref a],[]⟩) P E s:=by
 rw[list_sort_plain]
 have ha:a<s.heap.objs.size:=Φ ho
 refine χ (listItems_at ho rfl ?_)
 refine χ (listUpdate_at ho rfl ?_)
 obtain⟨e1,oB⟩:∃e1,(s.heap.update a (Obj.mapSeq fun _=>#[])).get? a=some (seqObj "list" #[] e1):=⟨_,get?_update_seq ho (fun _=>#[])⟩
 refine χ (seqEpoch_at oB rfl ?_)
 refine χ (wpAny_newTuple ?_)
 refine χ (wpAny_newList ?_)
 refine CN ?_
 have oC:(((s.heap.update a (Obj.mapSeq fun _=>#[])).push (seqObj "tuple" vs.toArray 0)).push (seqObj "list" #[] 0)).get? a=some (seqObj "list" #[] e1):=by rw[Heap.get?_push_ne _ _ _ (by rw[size_push',BM];exact BB (Nat.lt_succ_of_lt ha)),Heap.get?_push_ne _ _ _ (by rw[BM];exact BB ha)];exact oB
 show wpAny (model prog w) A _ P E { s with heap:=((s.heap.update a (Obj.mapSeq fun _=>#[])).push (seqObj "tuple" vs.toArray 0)).push (seqObj "list" #[] 0) }
 dsimp only
 have hsz:vs.toArray.size=vs.length:=by simp
 have h2:vs.toArray.size<2:=by rw[hsz];exact hs
 rw[ξ h2,ξ h2]
 refine χ (ω ?_)
 rw[StateT.run_pure]
 refine χ (ω ?_)
 dsimp only
 refine χ (seqEpoch_at oC rfl ?_)
 refine χ (listUpdate_at oC rfl ?_ (hsz2:=by rw[Array.size_map];show(pairsOf vs).size<=_;rw[pairsOf_size,GF];lia))
 simp only[bne_self_eq_false,BC,CT]
 exact ω h
def zd8(hl:s.heap.IsList l vs.toArray)(hs:vs.length<2)
  (h:Q (.ref (s.heap.objs.size+1)) { s with heap:=sortedAll s.heap vs ((pairsOf vs).map (·.2)) }):wpAny (model prog w) A (call (.builtin "sorted") [.ref l]) Q E s:=by
 refine Calls.call_function_entry kind_sorted plain_sorted entry_sorted (args_sorted1 _) ?_
 unfold Builtin.«sorted»
 refine χ (m:=checkCount "sorted" 1 1 _) (ω ?_)
 refine χ (collect_list hl ?_ (by rw[GF];omega))
 refine χ (wpAny_newList ?_ (by rw[GF];omega))
 have hsz:((s.heap.push (seqObj "list" #[] 0)).update s.heap.objs.size (Obj.mapSeq (·++vs.toArray))).objs.size=s.heap.objs.size+1:=by rw[BM,size_push']
 have fV:(((s.heap.push (seqObj "list" #[] 0)).update s.heap.objs.size (Obj.mapSeq (·++vs.toArray))).push (seqObj "list" vs.toArray 0)).get? (s.heap.objs.size+1)=some (seqObj "list" vs.toArray 0):=by rw[<-hsz];exact Ξ _ rfl
 show wpAny _ _ _ _ _ { s with heap:=((s.heap.push (seqObj "list" #[] 0)).update s.heap.objs.size (Obj.mapSeq (·++vs.toArray))).push (seqObj "list" vs.toArray 0) }
 rw[hsz]
 refine χ (CN (wpAny_call_entry slot_list_sort ⟨_,fV,rfl⟩ entry_list_sort (zh4 fV hs ⟨_,rfl,?_⟩) (args_list_sort _)))
 exact ω ⟨_,rfl,h⟩
end
noncomputable def isI:D->Bool
 | .int _=>true
 |_=>false
noncomputable def K2:D->Bool
 | .tup (.int _::_)=>true
 |_=>false
noncomputable def O2:D->Bool
 | .tup (.tup _::_)=>true
 |_=>false
theorem RDs.pick{K:Frag}{H:Hp}{ds:List D}{ys:List V}(r:RDs K H ds ys):∀{is:List Nat},(∀i∈is,i<ys.length)->RDs K H (is.map fun i=>ds.getD i (.int 0)) (is.map fun i=>ys.getD i .non)
 | [],_=>by simp[RDs]
 |i::is,h=>by
  have hi:=h i BK;have hy:ys[i]?=some ys[i]:=by simp[hi]
  obtain⟨d,h1,h2⟩:=r.get hy;simp only[dg];refine .cons ?_ (RDs.pick r fun j hj=>h j (tB _ hj));rw[gc,gc,h1,hy];exact h2
section
variable {X:Cx}{pins:List (Addr×Obj)}{U:St}{H:Hp}{s:Shared}
theorem Vals.pick(r:Vals ys its):∀{is:List Nat},(∀i∈is,i<ys.length)->Vals (is.map fun i=>ys.getD i .non) (is.map fun i=>its.getD i Value.none)
 | [],_=>.nil
 |i::is,h=>by
  have hi:=h i BK;have hy:ys[i]?=some ys[i]:=by simp[hi]
  obtain⟨u,h1,h2⟩:=r.get hy;simp only[dg];refine .cons ?_ (Vals.pick r fun j hj=>h j (tB _ hj));rw[gc,gc,h1,hy];exact h2
theorem Vj(I:Inv X pins U H s)(hu:A.units+20<cLine)(q:Q r s) :
  ∀{ds es:List D}{xs ys:List V}{us vs:List Value}(i:Nat),(b=true->i=0->(∃k r,ds=.int k::r)/\∃k r,es=.int k::r)->ois ds=true->ois es=true->i7 ds<=20->RDs X.K H ds xs->RDs X.K H es ys->Vals xs us->Vals ys vs->k9 ds es=some r ->
   fin=decide (us.length<vs.length)->PySem.W.KatLex X.prog X.w A b fin Q (us.zip vs) i s
 | [],[],_,_,_,_,i,_,_,_,_,r1,r2,q1,q2,h,hf=>by simp only[RDs]at r1 r2;subst r1;subst r2;cases q1;cases q2;simp only[k9,Option.some.injEq]at h;subst h;simp at hf;subst hf;exact q
 | [],e::es,_,_,_,_,i,_,_,_,_,r1,r2,q1,q2,h,hf=>by simp only[RDs]at r1 r2;subst r1;obtain⟨y,ys,rfl,_,_⟩:=r2;cases q1;cases q2;simp only[k9,Option.some.injEq]at h;subst h;simp at hf;subst hf;exact q
 |d::ds,[],_,_,_,_,i,_,_,_,_,r1,r2,q1,q2,h,hf=>by simp only[RDs]at r1 r2;subst r2;obtain⟨y,ys,rfl,_,_⟩:=r1;cases q1;cases q2;simp only[k9,Option.some.injEq]at h;subst h;simp at hf;subst hf;exact q
 |d::ds,e::es,_,_,_,_,i,hb,p1,p2,hd,r1,r2,q1,q2,h,hf=>by
  simp only[RDs]at r1 r2;obtain⟨x,xs,rfl,rx,gF⟩:=r1;obtain⟨y,ys,rfl,ry,gG⟩:=r2;simp only[ois,pr]at p1 p2;simp only[i7]at hd;cases q1 with
  |cons a1 a2=>
   cases q2 with
   |cons b1 b2=>
    have eq:=Df (A:=A) I 20 (Af p1.1) (Af p2.1) (by lia) hu rx ry a1 b1
    rw[AX]
    refine PySem.W.kat_cons (eq X.prog X.w _ _ ?_)
    simp only[k9]at h
    simp only[io,Nat.add_lt_add_iff_right]at hf
    split at h
    . rename_i w;rw[w];exact PySem.W.kat_yes (Vj I hu q (i+1) (fun _ z=>by lia) p1.2 p2.2 (by lia) gF gG a2 b2 h hf)
    . rename_i w;rw[show eqD d e=false by simpa using w];refine PySem.W.kat_no ?_;by_cases gH:(b&&i==0)=true
      . rw[gH];simp only[pr,EW]at gH;obtain⟨⟨k1,s1,e1⟩,k2,s2,e2⟩:=hb gH.1 gH.2;cases e1;cases e2;cases rx.int;cases ry.int;obtain⟨t,rfl⟩:=a1;obtain⟨t',rfl⟩:=b1;refine oneLt_int ?_;simp only[d7,Option.some.injEq]at h;rw[h];exact q
      . rw[show(b&&i==0)=false by simpa using gH];exact PySem.W.kat_one _ _ (qZ I 20 hu p1.1 p2.1 (by lia) rx ry a1 b1 h X.prog X.w _ _ q)
theorem Ta(I:Inv X pins U H s)(T:Bool):∀{ds:List D}{xs:List V}{us:List Value},(∀d∈ds,(if T=true then O2 d else K2 d)=true)->RDs X.K H ds xs->Vals xs us ->
  ∃fs:List Value,PySem.W.KatTups s.heap us fs/\fs.length=ds.length/\∀v∈fs,Looks M s.heap (typeOf v) (.type (if T=true then "tuple" else "int"))
 | [],_,_,_,r,q=>by simp only[RDs]at r;subst r;cases q;exact⟨[],trivial,rfl,fun v hv=>by cases hv⟩
 |d::ds,_,_,h,r,q=>by
  simp only[RDs]at r;obtain⟨x,xs,rfl,rx,gF⟩:=r;cases q with
  |cons q1 q2=>
   obtain⟨fs,h1,h2,h3⟩:=Ta (M:=M) I T (fun d hd=>h d (tB _ hd)) gF q2
   have hd:=h d BK
   cases T with
   |false=>
    rw[ψ η]at hd
    cases d<;>simp only[K2]at hd<;>first |cases hd |skip
    rename_i es
    cases es with
    |nil=>simp at hd
    |cons e es=>
     cases e<;>simp at hd
     obtain⟨a,ys,rfl,ha,ra⟩:=rx.tup
     cases q1
     obtain⟨its,rv,t⟩:=I.tupA ha
     simp only[RDs]at ra
     obtain⟨y,ys,rfl,ry,gG⟩:=ra
     cases ry.int
     cases rv with
     |cons v1 v2=>
      obtain⟨tk,rfl⟩:=v1
      obtain⟨o,ho,hc,n,lV⟩:=t
      refine⟨_::fs,PySem.W.KatTups.cons ho hc lV rfl h1,by simp[h2],fun v hv=>?_⟩
      rcases ee.mp hv with rfl |hv
      . exact .now
      . exact h3 v hv
   |true=>
    rw[ξ rfl]at hd
    cases d<;>simp only[O2]at hd<;>first |cases hd |skip
    rename_i es
    cases es with
    |nil=>simp at hd
    |cons e es=>
     cases e<;>simp at hd
     obtain⟨a,ys,rfl,ha,ra⟩:=rx.tup
     cases q1
     obtain⟨its,rv,t⟩:=I.tupA ha
     simp only[RDs]at ra
     obtain⟨y,ys,rfl,ry,gG⟩:=ra
     obtain⟨a2,uS,rfl,sB,uT⟩:=ry.tup
     cases rv with
     |cons v1 v2=>
      cases v1
      obtain⟨ao,uU,o2,bS,cQ,_⟩:=I.tupA sB
      obtain⟨o,ho,hc,n,lV⟩:=t
      refine⟨_::fs,PySem.W.KatTups.cons ho hc lV rfl h1,by simp[h2],fun v hv=>?_⟩
      rcases ee.mp hv with rfl |hv
      . have lk:Looks M s.heap (typeOf (.ref a2)) o2.cls:=(PySem.W.Looks.ld bS).andThen .now;rw[cQ]at lk;exact lk
      . exact h3 v hv
def Vals.getD(r:Vals ys its)(h:i<ys.length):RelV (ys.getD i .non) (its.getD i Value.none):=by
 have hy:ys[i]?=some ys[i]:=by simp[h]
 obtain⟨u,h1,h2⟩:=r.get hy;rw[gc,gc,h1,hy];exact h2
def RDs.getD(r:RDs X.K H ds ys)(h:i<ys.length):RD X.K H (ds.getD i (.int 0)) (ys.getD i .non):=by
 have hy:ys[i]?=some ys[i]:=by simp[h]
 obtain⟨d,h1,h2⟩:=r.get hy;rw[gc,gc,h1,hy];exact h2
def getD_mem{α:Type}{l:List α}{i:Nat}{d:α}(h:i<l.length):l.getD i d∈l:=by rw[gc,AO h];exact List.getElem_mem h
end
noncomputable def Z5(n:Nat)(x:Int):Nat:=if x<0 then(x+(n:Int)).toNat else min x.toNat n
def y6{α:Type}(xs:List α)(x:Int)(y:α):List α:=xs.take (Z5 xs.length x)++y::xs.drop (Z5 xs.length x)
def Vi:V->List V->Hp->VK->Prop:=fun o vs H Q=>∃l xs i y,o=.ref l/\vs=[.int i,y]/\H l=some (.lst xs)/\-(2 ^ 63)<=i/\i<2 ^ 63/\xs.length<sizeLine/\Q .non (upd H l (.lst (y6 xs i y)))
def Vals.ins(r:Vals xs its)(ru:RelV y u)(i:Int):Vals (y6 xs i y) (y6 its i u):=by unfold y6;rw[r.length];exact(r.take _).append (.cons ru (r.drop _))
def zd9(xs:List α)(i:Int)(y:α):(y6 xs i y).length=xs.length+1:=by unfold y6;rw[θ,BA,io,BN];omega
section
variable {X:Cx}{K:Frag}
def zJ:MtM X "list.insert" Vi:=by intro pins s U H x vs v us Q I rx rv h;obtain⟨l,xs,i,y,rfl,rfl,hH,h1,h2,hz,q⟩:=h;cases rx;obtain⟨u,w,rfl,ru,rw'⟩:=rv.two;obtain⟨t,rfl⟩:=ru;obtain⟨z,its,n,r,hl,e⟩:=I.lstM hH;refine call_meets PySem.F.slot_list_insert ⟨_,e,rfl⟩ PySem.F.entry_list_insert (PySem.F.args_list_insert_3 _ _ _) (PySem.AutoSeq1.list_insert_list_int_val_1 l its.toArray n i t w (by simp[fitsIndex_both h1 h2]) (by rw[mK];lia)) ⟨e,?_⟩;refine⟨.non,_,I.lset (its':=y6 its i w) hH e ?_ (r.ins rw' i) (by rw[zd9];lia),rfl,q⟩;show((its.toArray.extract 0 (Z5 its.toArray.size i)).push w++its.toArray.extract (Z5 its.toArray.size i))=(y6 its i w).toArray;unfold y6;apply Array.toList_inj.mp;simp;exact CA (by simp)
def Z4:D->List D->Option D
 | .lst ds,[.int i,d]=>if -(2 ^ 63)<=i/\i<2 ^ 63/\ds.length<100000 then some (.lst (y6 ds i d)) else none
 |_,_=>none
def RDs.ins(r:RDs K H ds xs)(ry:RD K H d y)(i:Int):RDs K H (y6 ds i d) (y6 xs i y):=by unfold y6;rw[<-r.length];exact(r.take _).append (.cons ry (r.drop _))
def qY:Z8 K Z4 Vi:=by
 intro H0 H a d d' ds vs Q s h0 ob r hm k;unfold Z4 at hm;split at hm<;>first |cases hm |skip
 split at hm<;>cases hm;rename_i es i e hl;simp only[OB]at ob;obtain⟨xs,hx,rx⟩:=ob;obtain⟨y,z,rfl,q1,q2⟩:=r.duo;cases q1.int;refine⟨a,xs,_,z,rfl,rfl,hx,hl.1,hl.2.1,by rw[<-rx.length];exact S9 hl.2.2,k _ _ ?_⟩;simp only[OB];exact⟨_,l4,rx.ins q2 _⟩
noncomputable def Z3:D->List D->Option D
 | .lst ds,[.lst es]=>if ds.length+es.length<=100000 then some (.lst (ds++es)) else none
 |_,_=>none
def qX:Z8 K Z3 Wb:=by
 intro H0 H a d d' ds vs Q s h0 ob r hm k;unfold Z3 at hm;split at hm<;>first |cases hm |skip
 split at hm<;>cases hm;rename_i es gs hl;simp only[OB]at ob;obtain⟨xs,hx,rx⟩:=ob;obtain⟨y,rfl,q1⟩:=r.uno;obtain⟨b,ys,rfl,hb,rb⟩:=q1.lst;refine⟨a,b,xs,ys,rfl,rfl,hx,s _ _ hb,by rw[<-rx.length,<-rb.length];exact U8 hl,k _ _ ?_⟩;simp only[OB];exact⟨_,l4,rx.append rb⟩
noncomputable def O1(n:Int)(ns:List Int):Int:=ns.foldl (fun a b=>if b > a then b else a) n
theorem Ka:∀(ns:List Int)(n:Int),O1 n ns∈n::ns/\∀a∈n::ns,a<=O1 n ns
 | [],n=>by simp[O1]
 |b::ns,n=>by
  have ih:=Ka ns (if b > n then b else n);show O1 (if b > n then b else n) ns∈_/\∀a∈_,a<=O1 (if b > n then b else n) ns;generalize O1 (if b > n then b else n) ns=M at ih;obtain⟨h1,h2⟩:=ih;constructor
  . rcases ee.mp h1 with z |z
    . rw[z];split<;>simp
    . simp[z]
  . intro a ha;have h3:=h2 _ BK;rcases ee.mp ha with rfl |ha
    . split at h3<;>lia
    . rcases ee.mp ha with rfl |ha
      . split at h3<;>lia
      . exact h2 a (tB _ ha)
end
def Vh{K:Frag}{h:Heap}{C:Addr}{bmB:List Value}{newId:String}(X:K.In h)(q:PySem.W.excIn K C bmB newId=true) :
  ∃bm N nm qn bs hdct sn sub ab col dd k0 k1 k2 k3 k5 mN,h.get? C=some (excClassObj nm qn C N bs bm hdct sn sub ab col dd k0 k1 k2 k3 k5 newId)/\h.Ns N mN/\mN "__init__"=none/\OwnTail h bmB bm:=by
 unfold PySem.W.excIn at q
 split at q<;>try cases q
 rename_i dd cd sl ho
 split at q<;>try cases q
 rename_i C' bm k0 k1 k2 k3 n k5 hm hs
 simp only[pr,EW,CO]at q
 obtain⟨⟨⟨⟨⟨e1,e2⟩,dO⟩,ht⟩,hok⟩,iz⟩:=q
 subst e1 e2
 have ho:=X _ _ ho
 cases cd
 dsimp only at hm dO hok iz
 subst hm dO
 have lW:sl=#[k0,k1,k2,k3,some (.builtin n),k5]:=by cases sl;simp only at hs;rw[hs]
 rw[lW]at ho
 exact⟨bm,_,_,_,_,_,_,_,_,_,dd,k0,k1,k2,k3,k5,_,ho,.of_isNs (PySem.W.isNs_of_in X hok),PySem.W.nsMap_none_of_in X hok iz,PySem.W.tail_of_in X ht⟩
noncomputable def Hx(K:Frag)(C:Addr)(bmB:List Value)(newId:String):Bool:=match K.lookup C with
 |some ⟨.type "type",_,.cls cd,sl⟩=>(match cd.mro,sl.toList with
  | .ref C'::bm,[_,_,_,_,some (.builtin n),_]=>C'==C&&n==newId&&!cd.hasDel&&PySem.W.tailIn K bmB bm&&cd.hasDict
  |_,_=>false)
 |_=>false
def yJ{K:Frag}{h:Heap}{C:Addr}{bmB:List Value}{newId:String}(X:K.In h)(q:Hx K C bmB newId=true) :
  ∃bm N nm qn bs sn sub ab col dd k0 k1 k2 k3 k5,h.get? C=some (excClassObj nm qn C N bs bm true sn sub ab col dd k0 k1 k2 k3 k5 newId)/\OwnTail h bmB bm:=by
 unfold Hx at q
 split at q<;>try cases q
 rename_i dd cd sl ho
 split at q<;>try cases q
 rename_i C' bm k0 k1 k2 k3 n k5 hm hs
 simp only[pr,EW,CO]at q
 obtain⟨⟨⟨⟨e1,e2⟩,dO⟩,ht⟩,cz⟩:=q
 subst e1 e2
 have ho:=X _ _ ho
 cases cd
 dsimp only at hm dO cz
 subst hm dO cz
 have lW:sl=#[k0,k1,k2,k3,some (.builtin n),k5]:=by cases sl;simp only at hs;rw[hs]
 rw[lW]at ho
 exact⟨bm,_,_,_,_,_,_,_,_,dd,k0,k1,k2,k3,k5,ho,PySem.W.tail_of_in X ht⟩
def XCl(K:Frag)(C:Addr)(bmB:List Value)(newId:String):Prop:=PySem.W.excIn K C bmB newId=true\/Hx K C bmB newId=true
def Vg{K:Frag}{h:Heap}{C:Addr}{bmB:List Value}{newId:String}(X:K.In h)(q:XCl K C bmB newId) :
  ∃bm N nm qn bs hdct sn sub ab col dd k0 k1 k2 k3 k5,h.get? C=some (excClassObj nm qn C N bs bm hdct sn sub ab col dd k0 k1 k2 k3 k5 newId)/\OwnTail h bmB bm:=by
 rcases q with q |q
 . obtain⟨bm,N,nm,qn,bs,hdct,sn,sub,ab,col,dd,k0,k1,k2,k3,k5,mN,hC,_,_,T⟩:=Vh X q;exact⟨bm,N,nm,qn,bs,hdct,sn,sub,ab,col,dd,k0,k1,k2,k3,k5,hC,T⟩
 . obtain⟨bm,N,nm,qn,bs,sn,sub,ab,col,dd,k0,k1,k2,k3,k5,hC,T⟩:=yJ X q;exact⟨bm,N,nm,qn,bs,true,sn,sub,ab,col,dd,k0,k1,k2,k3,k5,hC,T⟩
section
variable {X:Cx}{x:Str}{C:Addr}{bmB:List Value}{B newId fg:String}{np cpos pos:Pos}{e:Expr}{es:List Expr}{t:TA}{EX:XW}{fr:Bool}{fs:DE->R (List D)}
def yI(FB:ExcBaseFacts B newId fg bmB)(ce:X.calm=true)(hg:Gl X x)(hm:X.mg x=some (.ref C))(hq:PySem.W.excIn X.K C bmB newId=true)(ha:PA X (e::es) t)(E:Hp->Prop)
  (hE:∀(pins:List (Addr×Obj))(U:St)(H:Hp)(s:Shared)(a:Addr)(s':Shared)(args:List Value),Inv X pins U H s->Heap.MadeExcOf s.heap s'.heap a (.ref C) args->s'.os=s.os->AllBare s'.gens->E H->X.xe (.ref a) s')
  (aI:(x==("__debug__":Str))=false) (he:starEach (e::es) X.env=(false,eval e X.env)::starEach es X.env) (hpl:(backTo cpos (starEach es X.env)).any (·.1)=false) :
  PS X (.Raise (some (.Call (.Name x np) (e::es) [] cpos)) none pos) (fun _ U H=>t U H fun vs H1=>vs.length<=sizeLine/\E H1):=by
 intro pins s U H D I h
 obtain⟨bm,N,nm,qn,bs,hdct,sn,sub,ab,col,dd,k0,k1,k2,k3,k5,mN,hC,hN,iz,T⟩:=Vh I.ok.mod.kin hq
 refine wpAny_Raise_call_subT (C:=C) (nm:=nm) (q:=qn) (N:=N) (bs:=bs) (bm:=bm) (hdct:=hdct) (sn:=sn) (sub:=sub) (ab:=ab) (col:=col) (dd:=dd) (k0:=k0) (k1:=k1) (k2:=k2) (k3:=k3) (k5:=k5)
  FB (mN:=mN) (T.hasType FB.hasBase) (I.ok.hd ce) (by rw[he];show(false||(backTo cpos (starEach es X.env)).any (·.1))=false;rw[hpl];rfl) iz (Be I hg hm ⟨rfl,?_⟩ aI)
 have go:=ha cpos pins s U H _ I h
 rw[he]at go⊢
 refine GG (BR go (fun us s2 ⟨vs,H1,I1,r,hl,sC⟩=>⟨rfl,by rw[<-r.length];exact hl,I1.bk _ _ hC,hN.keeps I1.bk,T.keeps I1.bk,fun h' a hx=>?_⟩) fun _ _ y=>y)
 exact hE pins U H1 s2 a _ us I1 hx rfl I1.bare sC
def J3(c:String)(fs:DE->R (List D)):DS->SR:=fun ρ=>(fs (see ρ)).toS fun ds=>if ds.length<=1000 then .er ⟨c,[]⟩ else .st
def xn{K:Frag}{De:Ends}{U:St}{H:Hp}{c:String}(h:TSd K EX fr (J3 c fs) De U H):TAd K EX fs U H fun vs H1=>vs.length<=sizeLine/\EX.p ⟨c,[]⟩ H1:=by
 obtain⟨Hc,Hb,H0,ρ,sb,R,h⟩:=h;unfold J3 at h;rw[SK.toS]at h;refine⟨sb.trans R.sb,see ρ,HeOf (List.replicate ρ.length true) ρ U H0 H,R.heH _,by rw[<-X4];exact R.re _,h.mono fun ds z vs H' aa s e r=>?_⟩;split at z
 . rename_i hl;exact⟨Kj (by rw[<-r.length];exact hl),z H' ((sb.trans R.sb).trans s)⟩
 . exact z.elim
def Dr{c:String}(L:Lnd X EX)(FB:ExcBaseFacts B newId fg bmB)(ce:X.calm=true)(hg:Gl X (c:Str))(hm:X.mg (c:Str)=some (.ref C))(hq:PySem.W.excIn X.K C bmB newId=true)(ha:QA X EX (e::es) fs)
  (aI:(((c:Str))==("__debug__":Str))=false:=by decide) (he:starEach (e::es) X.env=(false,eval e X.env)::starEach es X.env:=by rfl) (hpl:(backTo cpos (starEach es X.env)).any (·.1)=false:=by rfl) :
  QS X EX fr (.Raise (some (.Call (.Name (c:Str) np) (e::es) [] cpos)) none pos) (J3 c fs):=
 ⟨(yI FB ce hg hm hq ha.h (fun H=>EX.p ⟨c,[]⟩ H) (fun pins U H s a s' args I hx ho hb hp=>L.md pins U H H s a C none s' ⟨c,[]⟩ I (.of hx) (I.hok.kept hx.keeps) (Un.kept hx.keeps) (I.hok.none hx.new) ho hb hm hp (.inl rfl)) aI he hpl).imp fun _ _ _ q=>xn q⟩
end
def zI{M:Model}{A:Around}{E:Value->Shared->Prop}{nm sD q qD:Str}{C N DD ND:Addr}{bs bm sE lX:List Value}{hdct lq:Bool}{sn sF:List Str}{sub nt:List Value}{ab sG:Bool}{col nu:Option Bool}{dd sI:Option Addr}{k0 k1 k2 k3 k5 j0 j1 j2 j3 j5:Option Value}{newId ny:String}
  {h:Heap} {g:Array GenState} {d:Drawn} {t:Nat} {os:OsState} {e:Addr} {oe:Obj} {Q:Bool->Shared->Prop}
  (hC:h.get? C=some (excClassObj nm q C N bs bm hdct sn sub ab col dd k0 k1 k2 k3 k5 newId)) (hD:h.get? DD=some (excClassObj sD qD DD ND sE lX lq sF nt sG nu sI j0 j1 j2 j3 j5 ny)) (he:h.get? e=some oe) (dG:oe.cls=.ref C)
  (az:lX.contains (.type "BaseException")=true) (hq:Q ((Value.ref C::bm).contains (.ref DD)) ⟨h,g,d,t,os⟩):wpAny M A (excMatches (.ref e) (.ref DD)) Q E ⟨h,g,d,t,os⟩:=by
 have sJ:(Value.ref DD::lX).contains (.type "BaseException")=true:=by rw[List.contains_cons,az,Bool.or_true]
 have f:=tc_notTuple
 unfold excMatches
 repeat (first | (with_reducible refine EG he ?_;rw[dG]) |with_reducible refine EG hD ?_ | (with_reducible refine wpAny_isSubtype_exc hD ?_;rw[sJ]) |with_reducible refine wpAny_isSubtype_exc hC ?_ |wp_step)
 cases hb:(Value.ref C::bm).contains (.ref DD)<;>(rw[hb]at hq;wp_walk;exact hq)
section
variable {X:Cx}{pins:List (Addr×Obj)}{U:List (Option V)}{H1 H2:Hp}{s1 s2:Shared}{h' B:Heap}{C a T:Addr}{a0:Value}{od:Option Addr}
noncomputable def C9(a C:Addr)(od:Option Addr):HO:=.ext fun h=>∃ob,h.get? a=some ob/\ob.cls=.ref C/\(∃vs,ob.data=.fields vs)/\ob.dict=od
def yH(I:Inv X pins U H1 s1)(x:XOut X.prog X.w X.stack H1 s1 C a od H2 s2)(na:s1.heap.get? a=none)(nT:s1.heap.get? T=none)(ha:H2 a=none)(hT:H2 T=none)
  (keep:∀b o,s2.heap.get? b=some o->b≠a->b≠T->b∉frs X.stack->h'.get? b=some o) (up:s2.heap.UpToSlots h') (bF:Heap.FlyingW B X.stack a (.ref C) a0 h') (cz:p8 a od h') :
  Inv X pins U (upd H2 a (C9 a C od)) { s2 with heap:=h' }/\Same H2 (upd H2 a (C9 a C od)):=by
 have F2:=I.stack2 x.un
 have cf:∀b∈frs X.stack,∀o,s2.heap.get? b=some o->∃sl,h'.get? b=some { o with slots:=sl }:=fun b hb o e=>by obtain⟨_,o',aT,hd⟩:=F2.mem hb;rw[e]at aT;cases aT;exact up b o e hd
 have ne:∀b o,s1.heap.get? b=some o->b≠a/\b≠T:=fun b o e=>⟨fun z=>(by rw[z,na]at e;cases e),fun z=>(by rw[z,nT]at e;cases e)⟩
 have gI:∀b o,H2 b=some o->b≠a/\b≠T:=fun b o e=>⟨fun z=>(by rw[z,ha]at e;cases e),fun z=>(by rw[z,hT]at e;cases e)⟩
 have df:∀b∈frs X.stack,H2 b=none:=fun b hb=>by obtain⟨_,o,ho,_⟩:=I.stack.mem hb;exact x.un.free b o ho (I.stkFree b hb) (by simp)
 obtain⟨oe,vs,he,hc,hd,_⟩:=bF.first
 have un:Un (frs X.stack) [] H1 (upd H2 a (C9 a C od)) s1.heap h':=by
  refine⟨fun b o e n hb hx=>?_,fun b o e n hb hx=>?_,fun b o e n hx=>?_,fun b o e hx=>?_,fun b xs e=>?_,fun b o u e=>?_,fun b ps e=>?_⟩
  . exact keep b o (x.un.keep b o e n hb hx) (ne b o e).1 (ne b o e).2 hb
  . obtain⟨sl,e1⟩:=x.un.slot b o e n hb hx;obtain⟨cK,e2⟩:=cf b hb _ e1;exact⟨cK,e2⟩
  . rw[d9 (ne b o e).1];exact x.un.free b o e n hx
  . obtain⟨o1,e1⟩:=x.un.there b o e hx;by_cases hb:b∈frs X.stack
    . obtain⟨sl,e2⟩:=cf b hb _ e1;exact⟨_,e2⟩
    . exact⟨o1,keep b o1 e1 (ne b o e).1 (ne b o e).2 hb⟩
  . have:=x.un.tups b xs e;rw[d9 (gI b _ this).1];exact this
  . have:=x.un.frzs b o u e;rw[d9 (gI b _ this).1];exact this
  . obtain⟨m,this⟩:=x.un.tbls b ps e;exact⟨m,by rw[d9 (gI b _ this).1];exact this⟩
 have hok:HOk X.prog X.w (upd H2 a (C9 a C od)) h':=fun b o e=>by
  by_cases hb:b=a
  . subst hb;rw[l4]at e;cases e;exact⟨⟨oe,he,hc,⟨vs,hd⟩,cz _ he⟩,⟨oe,he⟩,fun h1 h2 ⟨ob,z1,z2⟩ k=>⟨ob,k _ z1,z2⟩⟩
  . rw[d9 hb]at e;refine(x.hok b o e).stay (fun c v hc q=>?_) (fun c q=>by rw[d9 (gI c _ q).1];exact q) fun c xs q=>by rw[d9 (gI c _ q).1];exact q
    have lY:H2 c≠none:=by
     rcases hc with rfl |hc
     . rw[e];exact fun z=>nomatch z
     . rw[hc];exact fun z=>nomatch z
    refine keep c v q (fun z=>lY (z ▸ ha)) (fun z=>lY (z ▸ hT)) fun z=>lY (df c z)
 exact⟨I.call' (s':={ s2 with heap:=h' }) (ch:=[]) x.os un hok x.bare (fun _ z=>nomatch z),Same.upd_new ha⟩
end
section
variable {X:Cx}{pins:List (Addr×Obj)}{U:List (Option V)}{H:Hp}{s:Shared}
def Dq(I:Inv X pins U H s)(hN:X.N.Nodup)(hi:X.N[i]?=some n)(hk:X.env.scope.names.lookup n=some .local)
  (h:∀s',Inv X pins (U.set i none) H s'->Q () s'):wpAny M A (do bindName X.env n .none;unbindBehindTheSuite X.env n pos) Q E s:=by
 obtain⟨m,hn,hl⟩:=id I.loc
 have dG:(X.env.scope.kind==.class||(X.env.scope.kind==.module&&X.env.locals != X.env.globals))=false:=by rw[I.ok.kind];rfl
 obtain⟨oL,_,_,fV,_⟩:=id hn
 refine wpAny_nameGoes_keeps hk hn dG fun h' v lu hs=>h _ ?_
 have hok:HOk X.prog X.w H h':=fun b ob e=>by
  refine(I.hok b ob e).stay (fun c w' hc q=>(hs.2 c ?_).trans q) (fun _ q=>q) fun _ _ q=>q
  rintro rfl;rcases hc with rfl |hc
  . rw[I.free]at e;cases e
  . rw[I.free]at hc;cases hc
 have dR:∀b o,X.s₀.heap.get? b=some o->b≠X.env.locals:=fun b o e=>BB (AY (Φ e) I.ok.above)
 refine⟨I.ok,I.os,I.bare,⟨fun b o e n hb hx=>?_,fun b o e n hb hx=>?_,I.base.free,fun b o e hx=>?_,I.base.tups,I.base.frzs,I.base.tbls⟩,⟨_,lu,fun j y v' e1 e2 e3=>?_⟩,fun y c e=>?_,I.free,I.freeC,fun p hp=>?_,hok,by simpa using I.len⟩
 . exact(hs.2 b (dR b o e)).trans (I.base.keep b o e n hb hx)
 . obtain⟨sl,e1⟩:=I.base.slot b o e n hb hx;exact⟨sl,(hs.2 b (dR b o e)).trans e1⟩
 . obtain⟨o',e1⟩:=I.base.there b o e hx;exact⟨o',(hs.2 b (dR b o e)).trans e1⟩
 . have hj:j≠i:=fun z=>by
    subst z
    by_cases aJ:j<U.length
    . rw[CY aJ]at e2;cases e2
    . rw[DG (by simpa using aJ)]at e2;cases e2
   rw[BU (DR hj)]at e2
   have f':y≠n:=fun z=>by subst z;exact hj (Lv hN e1 hi)
   obtain⟨u,r,l⟩:=hl j y v' e1 e2 e3
   refine⟨u,r,?_⟩
   rcases l with⟨k,l⟩ |⟨k,c,e,ob,z,zd⟩
   . exact .inl ⟨k,(by show(if y=n then v else m y)=some u;rw[ψ f'];exact l)⟩
   . exact .inr ⟨k,c,e,ob,(hs.2 c (I.cne y c e)).trans z,zd⟩
 . obtain⟨v,ob,z,zd⟩:=I.cell y c e;exact⟨v,ob,(hs.2 c (I.cne y c e)).trans z,zd⟩
 . obtain⟨e,n,ne,nf,d⟩:=I.pin p hp;exact⟨(hs.2 p.1 ne).trans e,n,ne,nf,d⟩
abbrev Cx.held(X:Cx)(e:Value):Cx:={ X with A:=X.A.mark (some e),calm:=false,xe:=fun _ _=>False }
def Inv.held(I:Inv X pins U H s)(e:Value):Inv (X.held e) pins U H s:=
 ⟨⟨I.ok.mod,I.ok.kind,I.ok.glob,I.ok.blt,I.ok.above,I.ok.inj,I.ok.has,I.ok.cab,(fun z=>nomatch z),I.ok.frames,I.ok.stk,I.ok.exf,I.ok.bs,I.ok.bsz,I.ok.noex,I.ok.exfs,I.ok.funs,I.ok.frf⟩,I.os,I.bare,I.base,I.loc,I.cell,I.free,I.freeC,I.pin,I.hok,I.len⟩
def Inv.unheld(ok:X.Ok)(I:Inv (X.held e) pins U H s):Inv X pins U H s:=
 ⟨ok,I.os,I.bare,I.base,I.loc,I.cell,I.free,I.freeC,I.pin,I.hok,I.len⟩
def yG(G:i9 X.prog X.w X.K X.mg X.base x ps k sp)(hr:Room j X.A)(hg:Gl X x)(ha:PA X.nox (e::es) t)(I:Inv X pins U H s)(h:t U H fun vs H1=>Same H H1/\sp vs H1 Q E)(eU:k<=j)(aI:(x==("__debug__":Str))=false)
  (he:starEach (e::es) X.env=(false,eval e X.env)::starEach es X.env) (hpl:(backTo pos (starEach es X.env)).any (·.1)=false) :
  wpAny (model X.prog X.w) X.A (eval (.Call (.Name x p) (e::es) [] pos) X.env) (EP X pins U Q) (fun ev s'=>∃H1 s1,Same H H1/\Inv X pins U H1 s1/\CX1 X.prog X.w X.stack H1 s1 E ev s') s:=by
 obtain⟨f,fd,F,b,m,kp⟩:=G
 refine FR (Be I hg m ?_ aI)
 have I':Inv X.nox pins U H s:=⟨⟨I.ok.mod,I.ok.kind,I.ok.glob,I.ok.blt,I.ok.above,I.ok.inj,I.ok.has,I.ok.cab,I.ok.hd,I.ok.frames,I.ok.stk,I.ok.exf,I.ok.bs,I.ok.bsz,I.ok.noex,I.ok.exfs,I.ok.funs,I.ok.frf⟩,I.os,I.bare,I.base,I.loc,I.cell,I.free,I.freeC,I.pin,I.hok,I.len⟩
 refine PySem.W.callWith_K (h₀:=X.base) I.ok.mod.kin kp (BR (ha pos pins s U H _ I' h) (fun us s1 ⟨vs,H1,I1,r,sH,q⟩=>⟨I1.kIn,?_⟩) fun _ _ z=>z.elim) he hpl
 have I1:Inv X pins U H1 s1:=⟨I.ok,I1.os,I1.bare,I1.base,I1.loc,I1.cell,I1.free,I1.freeC,I1.pin,I1.hok,I1.len⟩
 have hl:us.length=ps.length:=by rw[<-r.length];exact F.len _ _ _ _ q
 have hb:=b s1 us I1.kIn (by rw[DZ];exact hl)
 rw[DZ]at hb
 refine wpAny_call (codeAny_mono (F.run X.A X.stack s1 H1 ⟨us,[]⟩ us vs Q E (hr.mono eU) I1.env0 hb r q) fun r s' hq=>?_)
 cases r with
 |error e=>exact⟨H1,s1,sH,I1,hq⟩
 |ok fl=>
  cases fl with
  |ret u=>exact I1.after hq
  |next=>exact False.elim hq
  |brk=>exact False.elim hq
  |cont=>exact False.elim hq
end
structure Lnd5(X:Cx)(pins:List (Addr×Obj))(U:St)(H1:Hp)(s1:Shared)(C a:Addr)(od:Option Addr)(H2:Hp)(s2:Shared)(B:Heap)(T:Addr)(a0:Value)(h5:Heap):Prop where
 I:Inv X pins U H1 s1
 x:XOut X.prog X.w X.stack H1 s1 C a od H2 s2
 na:s1.heap.get? a=none
 nT:s1.heap.get? T=none
 ha:H2 a=none
 hT:H2 T=none
 keep:∀b o,s2.heap.get? b=some o->b≠a->b≠T->b∉frs X.stack->B.get? b=some o
 up:s2.heap.UpToSlots h5
 fl:Heap.FlyingW B X.stack a (.ref C) a0 h5
 dc:p8 a od h5
section
variable {X:Cx}{EX:XW}{fr:Bool}{pins:List (Addr×Obj)}{U:St}{H1 H2:Hp}{s1 s2:Shared}{C a T:Addr}{B h5:Heap}{a0:Value}{od:Option Addr}
def Lnd5.inv(L:Lnd5 X pins U H1 s1 C a od H2 s2 B T a0 h5):Inv X pins U (upd H2 a (C9 a C od)) { s2 with heap:=h5 }/\Same H2 (upd H2 a (C9 a C od)):=
 yH L.I L.x L.na L.nT L.ha L.hT (fun b o e h1 h2 h3=>L.fl.1 b o (L.keep b o e h1 h2 h3)) L.up L.fl L.dc
def Lnd5.again(L:Lnd5 X pins U H1 s1 C a od H2 s2 B T a0 h5)(h:∀h6,Lnd5 X pins U H1 s1 C a od H2 s2 B T a0 h6->Q () { s2 with heap:=h6 }) :
  wpAny (model X.prog X.w) A (setFlight (.ref a) none) Q E { s2 with heap:=h5 }:=
 BR (El (E:=E) (E':=E) (.flight _ _) (lands_againW (Q:=fun _ s=>∃h',s={ s2 with heap:=h' }/\Heap.FlyingW B X.stack a (.ref C) a0 h'/\h5.UpToSlots h') (s:={ s2 with heap:=h5 }) L.fl fun h' fl up=>⟨h',rfl,fl,up⟩) (Zi (s:={ s2 with heap:=h5 }) L.fl.2.2.2 L.dc)) (fun _ s ⟨⟨h',e,fl,up⟩,d⟩=>by subst e;exact h h' ⟨L.I,L.x,L.na,L.nT,L.ha,L.hT,L.keep,L.up.trans up,fl,d⟩) fun _ _ z=>z.1
def xm(I:Inv X pins U H1 s1)(aU:X.stack=X.env::X.outer)(hf:X.env.frame=some X.env.locals)(x:XOut X.prog X.w X.stack H1 s1 C a od H2 s2)
  (h:∀B T a0 h5,Lnd5 X pins U H1 s1 C a od H2 s2 B T a0 h5->Q () { s2 with heap:=h5 }):wpAny (model X.prog X.w) X.A (noteFrame (.ref a) X.env) (fun _ s'=>wpAny (model X.prog X.w) X.A (setFlight (.ref a) none) Q E s') E s2:=by
 obtain⟨oe,vs,T,oT,ts,a0,he,hc,h0,hd,h1,eR,hT,bO,h3,na,nT,ha,iy,gA,iw⟩:=id x.fly
 have F2:=I.stack2 x.un
 have gE:∀env∈X.stack,∀b,env.frame=some b->b∈a::T::frs X.stack:=fun env he b hb=>tB _ (tB _ (DW.mpr ⟨env,he,hb⟩))
 have bA:X.A.frames=some (X.env::X.outer):=by rw[<-aU];exact I.ok.frames
 have bF:Heap.FlyingW (hideAll s2.heap (a::T::frs X.stack)) (X.env::X.outer) a (.ref C) a0 s2.heap:=⟨fun b o q=>of_hideAll _ q,hideAll_none _ (.head _),aU ▸ PySem.W.funFrames_hide F2 gE,oe,vs,T,oT,ts,he,⟨hc,h0⟩,hd,h1,hideAll_none _ (.tail _ (.head _)),eR,hT,bO,h3⟩
 refine Vs (od:=od) bA hf bF (fun o ho=>by rw[he]at ho;cases ho;exact gA) fun h4 hh sK d4=>?_
 refine Kg (s:={ s2 with heap:=h4 }) hh d4 fun h5 fl sL d5=>h (hideAll s2.heap (a::T::frs X.stack)) T a0 h5 ⟨I,x,na,nT,ha,iy,fun b o q h1 h2 h3=>hideAll_get _ q fun z=>?_,sK.trans sL,(by rw[<-aU]at fl;exact fl),d5⟩
 rcases ee.mp z with rfl |z
 . exact h1 rfl
 . rcases ee.mp z with rfl |z
   . exact h2 rfl
   . exact h3 z
def Pw(s:Same H H1)(e:H1 b=none):H b=none:=by
 cases q:H b with
 |none=>rfl
 |some o=>rw[s b o q]at e;cases e
def _root_.L2.Fly.newd(f:Fly h0 H' C a od h):∀dx,od=some dx->h0.get? dx=none:=by obtain⟨_,_,_,_,_,_,_,_,_,_,_,_,_,_,_,_,_,_,_,_,h⟩:=f;exact h
abbrev HD:=Ex->DS->SR
structure QY(X:Cx)(fr:Bool)(sts:List Stmt)(g:DS->SR):Prop where
 h:∀(pins:List (Addr×Obj))(s:Shared)(U:St)(H:Hp)(De:Ends)(Hc Hb H0:Hp)(ρ:DS)(P:Ex->Hp->Prop),Inv X pins U H s->RS X.K Hc Hb H0 ρ U H->SK X.K ⟨H,P⟩ fr Hc Hb De (g ρ) ->
  wpAny (model X.prog X.w) X.A (execs sts X.env) (SP X pins De) (fun ev s'=>∃H1 s1 x C a od H2,ev=.ref a/\Same H H1/\Inv X pins U H1 s1/\XOut X.prog X.w X.stack H1 s1 C a od H2 s'/\X.mg (Str.ofString (Ex.cls x))=some (.ref C)/\P x H2/\XFs X.K x od H2) s
structure QH(X:Cx)(EX:XW)(fr:Bool)(hs:List ExceptHandler)(hd:HD):Prop where
 h:∀(pins:List (Addr×Obj))(U:St)(H1:Hp)(s1:Shared)(C a:Addr)(od:Option Addr)(H2:Hp)(s2:Shared)(B:Heap)(T:Addr)(a0:Value)(h5:Heap)(De:Ends)(Hc Hb H0:Hp)(ρ:DS)(x:Ex)(E:Value->Shared->Prop)(H:Hp),Same H H2->(∀dx,od=some dx->H dx=none)->XFs X.K x od H2->Lnd5 X pins U H1 s1 C a od H2 s2 B T a0 h5->X.mg (Str.ofString x.cls)=some (.ref C) ->
  RS X.K Hc Hb H0 ρ U H->SK X.K EX fr Hc Hb De (hd x ρ)->wpAny (model X.prog X.w) X.A (handleBy (.ref a) X.env hs) (SP X pins De) E { s2 with heap:=h5 }
noncomputable def Z2(g:DS->SR)(hd:HD):DS->SR:=fun ρ=>match g ρ with
 | .er x=>hd x ρ
 |r=>r
def y1z{body:List Stmt}{h₀:ExceptHandler}{hs:List ExceptHandler}{g:DS->SR}{hd:HD}{pos:Pos}(aU:X.stack=X.env::X.outer)(hf:X.env.frame=some X.env.locals)(hb:QY X fr body g)(hh:QH X EX fr (h₀::hs) hd):QS X EX fr (.Try body (h₀::hs) [] [] pos) (Z2 g hd):=by
 refine⟨fun pins s U H De I h=>?_⟩;obtain⟨Hc,Hb,H0,ρ,sb,R,h⟩:=h;refine wpAny_Try_except (BR (hb.h pins s U H De Hc Hb H0 ρ (fun x H'=>Same H H'/\SK X.K EX fr Hc Hb De (hd x ρ)) I R ?_) (fun f ae hq=>?_) fun ev s' ⟨H1,s1,x,C,a,od,H2,e,sH,I1,xo,hm,⟨sm,hk⟩,xf⟩=>?_)
 . unfold Z2 at h;cases q:g ρ with
   |nx ρ'=>rw[q]at h;exact h
   |bk ρ'=>rw[q]at h;exact h
   |ct ρ'=>rw[q]at h;exact h
   |rt d=>rw[q]at h;exact h
   |er x=>rw[q]at h;exact fun H' s'=>⟨s',h⟩
   |st=>rw[q]at h;exact h
 . cases f with
   |next=>exact FQ hq
   |brk=>exact hq
   |cont=>exact hq
   |ret u=>exact hq
 . subst e;exact xm I1 aU hf xo fun B T a0 h5 L=>hh.h pins U H1 s1 C a od H2 s' B T a0 h5 De Hc Hb H0 ρ x X.xe H sm (fun dx e=>Pw sH (I1.hok.none (xo.fly.newd dx e))) xf L hm R hk
end
noncomputable def R.kn{α:Type}(k:String->Bool)(r:R α):R α:=match r with
 | .er x=>if k x.cls=true then .er x else .st
 |r=>r
def B6(k:String->Bool)(m:List D->R D)(fs:DE->R (List D)):DE->R D:=fun ρ=>(fs ρ).noE.bind fun ds=>(m ds).kn k
def SK.ex{K:Frag}{EX EX':XW}{fr:Bool}{Hc Hb:Hp}{De:Ends}{r:SR}(h:SK K EX fr Hc Hb De r)(he:∀x,EX.at x->EX'.at x):SK K EX' fr Hc Hb De r:=by
 cases r with
 |er x=>exact he x h
 |nx ρ=>exact h
 |bk ρ=>exact h
 |ct ρ=>exact h
 |rt d=>exact h
 |st=>exact h
section
variable {X:Cx}{fr gJ:Bool}{k:String->Bool}{fs:DE->R (List D)}{mm:List D->R D}{n:Nat}{m:List Bool}
def yF{K:Frag}{mg:Str->Option Value}{Hc Hb H0 H:Hp}{ρ:DS}{U:St}{P:Ex->Hp->Prop}{kk:D->Prop}{Q:VK}(hl:∀ds,ds.length≠n->mm ds=.st)(hk:∀c,k c=true->∃C,mg (Str.ofString c)=some (.ref C))(R:RS K Hc Hb H0 ρ U H)
  (h:Rk (XW.at ⟨H,P⟩) (B6 k mm fs (vis m ρ)) kk) (hQ:∀d,kk d->∀v H',Out K gJ (HeOf m ρ U H0 H) H d v H'->Q v H'):TAd K F0 fs U H fun vs H1=>Same H H1/\spD K mg gJ mm n vs H1 Q (eOf K ⟨H,P⟩ mg):=by
 unfold B6 at h
 rw[Rk.bind]at h
 refine⟨F0.same _,vis m ρ,HeOf m ρ U H0 H,R.heH m,R.re m,(Rk.noE h).mono fun ds h vs H1 ak s1 e1 r1=>⟨s1,ds,ak,e1.2.1,r1,?_,?_⟩⟩
 . apply GL;intro hn;rw[hl ds hn]at h;exact h
 . cases q:mm ds with
   |ok d=>rw[q]at h;exact fun v H' o=>hQ d h v H' (o.after s1 e1)
   |st=>rw[q]at h;exact h
   |er x=>
    rw[q]at h
    unfold L2.R.kn at h
    dsimp only at h
    split at h
    . rename_i hx;obtain⟨C,hC⟩:=hk _ hx;exact fun H' s'=>⟨C,hC,fun od xf=>⟨x,h H' (s1.trans s'),hC,xf⟩⟩
    . exact h.elim
def yE(h:∃H1 s1,Same H H1/\Inv X pins U H1 s1/\CX1 X.prog X.w X.stack H1 s1 (eOf X.K ⟨H,P⟩ X.mg) ev s') :
  ∃H1 s1 x C a od H2,ev=.ref a/\Same H H1/\Inv X pins U H1 s1/\XOut X.prog X.w X.stack H1 s1 C a od H2 s'/\X.mg (Str.ofString (Ex.cls x))=some (.ref C)/\P x H2/\XFs X.K x od H2:=by
 obtain⟨H1,s1,sH,I,C,a,od,H2,e,xo,x,hp,hm,xf⟩:=h
 exact⟨H1,s1,x,C,a,od,H2,e,sH,I,xo,hm,hp,xf⟩
def Sz{pins:List (Addr×Obj)}{De:Ends}{st:Stmt}{s:Shared}{E:Value->Shared->Prop}(h:wpAny (model X.prog X.w) X.A (exec st X.env) (SP X pins De) E s):wpAny (model X.prog X.w) X.A (execs [st] X.env) (SP X pins De) E s:=by
 refine wpAny_execs_cons (thn h fun f s1 q=>?_);cases f with
 |next=>exact FQ q
 |ret v=>exact q
 |brk=>exact q
 |cont=>exact q
variable {x:Str}{p cpos pos:Pos}{e:Expr}{es:List Expr}{ps:List Str}{kl j oE:Nat}{gg:DS->SR}
def Sy(hk:∀c,k c=true->∃C,X.mg (Str.ofString c)=some (.ref C))(G:i9 X.prog X.w X.K X.mg X.base x ps kl (spD X.K X.mg gJ (mOf gJ n oE gg) n))(hr:Room j X.A)(hg:Gl X x)(ha:QA X.nox F0 (e::es) fs)(eU:kl<=j:=by omega)(aI:(x==("__debug__":Str))=false:=by decide)
  (he:starEach (e::es) X.env=(false,eval e X.env)::starEach es X.env:=by rfl) (hpl:(backTo cpos (starEach es X.env)).any (·.1)=false:=by rfl) (hs:swapsWith (.Call (.Name x p) (e::es) [] cpos) none pos.line X.env=pure false:=by rfl) :
  QY X fr [.Expr (.Call (.Name x p) (e::es) [] cpos) pos] (p9 (B6 k (mOf gJ n oE gg) fs)):=by
 refine⟨fun pins s U H De Hc Hb H0 ρ P I R h=>?_⟩
 unfold p9 at h
 rw[SK.toS,<-X4]at h
 refine Sz (wpAny_Expr_any (BR (yG (Q:=fun _ H'=>De.nx U H') G hr hg ha.h I (yF Vu hk R h fun d z v H' o=>z U H' H0 (R.grow o.1)) eU aI he hpl) (fun v s1 ⟨y,H1,I1,r1,q1⟩=>⟨U,H1,I1,q1⟩) fun ev s' z=>yE z) I.quiet hs)
def y5f{c:Expr}{b1 b2:List Stmt}{t:DE->R Bool}{g1 g2:DS->SR}(hc:QT X.nox F0 c t)(h1:QY X fr b1 g1)(h2:QY X fr b2 g2):QY X fr [.If c b1 b2 pos] (sIf (fun ρ=>(t ρ).noE) g1 g2):=by
 refine⟨fun pins s U H De Hc Hb H0 ρ P I R h=>?_⟩;unfold sIf at h;rw[SK.toS]at h;have I':Inv X.nox pins U H s:=⟨⟨I.ok.mod,I.ok.kind,I.ok.glob,I.ok.blt,I.ok.above,I.ok.inj,I.ok.has,I.ok.cab,I.ok.hd,I.ok.frames,I.ok.stk,I.ok.exf,I.ok.bs,I.ok.bsz,I.ok.noex,I.ok.exfs,I.ok.funs,I.ok.frf⟩,I.os,I.bare,I.base,I.loc,I.cell,I.free,I.freeC,I.pin,I.hok,I.len⟩;refine Sz (wpAny_If (BR (hc.h pins s U H (fun b H1=>Same H H1/\SK X.K ⟨H,P⟩ fr Hc Hb De (if b=true then g1 ρ else g2 ρ)) I' ?_) (fun b s1 ⟨H1,I1,sm,q1⟩=>?_) fun _ _ z=>z.elim))
 . refine⟨F0.same _,see ρ,HeOf (List.replicate ρ.length true) ρ U H0 H,R.heH _,by rw[<-X4];exact R.re _,(Rk.noE h).mono fun b h H' s'=>⟨s',h⟩⟩
 . have I1:Inv X pins U H1 s1:=⟨I.ok,I1.os,I1.bare,I1.base,I1.loc,I1.cell,I1.free,I1.freeC,I1.pin,I1.hok,I1.len⟩;have q2:=q1.ex (EX':=⟨H1,P⟩) fun x z H' s'=>z H' (sm.trans s')
   cases b with
   |true=>exact BR (h1.h pins s1 U H1 De Hc Hb H0 ρ P I1 (R.grow sm) q2) (fun _ _ z=>z) fun _ _ ⟨H2,s2,x,C,a,od,H3,e,s3,z⟩=>⟨H2,s2,x,C,a,od,H3,e,sm.trans s3,z⟩
   |false=>exact BR (h2.h pins s1 U H1 De Hc Hb H0 ρ P I1 (R.grow sm) q2) (fun _ _ z=>z) fun _ _ ⟨H2,s2,x,C,a,od,H3,e,s3,z⟩=>⟨H2,s2,x,C,a,od,H3,e,sm.trans s3,z⟩
end
noncomputable def jK:HD:=fun _ _=>.st
noncomputable def SR.gone(i:Nat):SR->SR
 | .nx ρ=>.nx (ρ.set i .em)
 | .bk ρ=>.bk (ρ.set i .em)
 | .ct ρ=>.ct (ρ.set i .em)
 | .rt d=>.rt d
 |_=>.st
def hAs(tb:String->Option Bool)(i:Nat)(g:DS->SR)(r:HD):HD:=fun x ρ=>match tb x.cls with
 |some true=>(g (ρ.set i (.im (.exc x.cls x.fs)))).gone i
 |some false=>r x ρ
 |none=>.st
def RS.gone{K:Frag}{Hc Hb H0 H:Hp}{ρ:DS}{U:St}(R:RS K Hc Hb H0 ρ U H)(i:Nat):RS K Hc Hb H0 (ρ.set i .em) (U.set i none) H:=by
 have ne:∀(j:Nat)(z:Sl),(ρ.set i Sl.em)[j]?=some z->z≠.em->j≠i/\ρ[j]?=some z:=fun j z e hz=>by
  by_cases hj:j=i
  . subst hj;by_cases hl:j<ρ.length
    . rw[CY hl]at e;cases e;exact absurd rfl hz
    . rw[DG (by simpa using hl)]at e;cases e
  . rw[BU (DR hj)]at e;exact⟨hj,e⟩
 refine⟨R.sb,R.ext,by simpa using R.len,fun j d e=>?_,fun j d e=>?_,fun j k d e a h1 h2 h3 h4=>?_⟩
 . obtain⟨hj,e⟩:=ne j _ e (by simp);rw[BU (DR hj)];exact R.im j d e
 . obtain⟨hj,e⟩:=ne j _ e (by simp);rw[BU (DR hj)];exact R.ow j d e
 . obtain⟨hj,e1⟩:=ne j _ h1 (by simp);obtain⟨hk,e2⟩:=ne k _ h2 (by simp);rw[BU (DR hj)]at h3;rw[BU (DR hk)]at h4;exact R.ap j k d e a e1 e2 h3 h4
noncomputable def gD(De:Ends)(i:Nat):Ends:={ nx:=fun U H=>De.nx (U.set i none) H,rt:=De.rt,bk:=fun U H=>De.bk (U.set i none) H,ct:=fun U H=>De.ct (U.set i none) H }
def SK.gone{K:Frag}{EX:XW}{fr:Bool}{Hc Hb:Hp}{De:Ends}{i:Nat}{r:SR}(h:SK K EX fr Hc Hb De (r.gone i)):SK K F0 fr Hc Hb (gD De i) r:=by
 cases r with
 |nx ρ=>exact fun U H H0 R=>h _ H H0 (R.gone i)
 |bk ρ=>exact fun U H H0 R=>h _ H H0 (R.gone i)
 |ct ρ=>exact fun U H H0 R=>h _ H H0 (R.gone i)
 |rt d=>exact h
 |er x=>exact h.elim
 |st=>exact h.elim
def Out.exc{K:Frag}{He H H2:Hp}{x:Ex}{a C:Addr}{od:Option Addr}(e1:nsIn K mainGlobals (Str.ofString x.cls)=some (some (.ref C)))(h0:Same He H)(s:Same H H2)(ha:H2 a=none)(nd:∀dx,od=some dx->H dx=none)(xf:XFs K x od H2):Out K false He H (.exc x.cls x.fs) (.ref a) (upd H2 a (C9 a C od)):=by
 have sm:Same H2 (upd H2 a (C9 a C od)):=Same.upd_new ha;rcases xf with e |⟨dx,ns,ob,h1,h2,h3⟩
 . have e2:Ext He H He H2:=⟨Same.refl _,h0.trans s,fun _ _ z=>z⟩;exact .val (s.trans sm) (e2.trans s (.new (h0.trans s) ha)) (by simp only[RD];exact⟨a,od,_,rfl,⟨C,e1,rfl⟩,l4,.inl e⟩)
 . have hd:=nd dx h1;have sM:He dx=none:=Pw h0 hd;have e2:Ext He H (upd He dx (.frz ob (.xd ((Oq x.cls).zip (ns.map V.int))))) H2:=by
    refine⟨Same.upd_new sM,fun b o q=>?_,fun b q1 q2=>?_⟩
    . by_cases hb:b=dx
      . subst hb;rw[l4]at q;rw[h2];exact q
      . rw[d9 hb]at q;exact s _ _ (h0 _ _ q)
    . rw[d9 (fun z=>q1 (by rw[z];exact hd))];exact q2
   have bL:dx≠a:=fun z=>by rw[z,ha]at h2;cases h2
   exact .val (s.trans sm) (e2.trans s (.new e2.2.1 ha)) (by simp only[RD];exact⟨a,od,_,rfl,⟨C,e1,rfl⟩,l4,.inr ⟨dx,ns,ob,h1,by rw[d9 bL,l4],h3⟩⟩)
structure Tbl(K:Frag)(cn:String)(Dd:Addr)(bmB:List Value)(newId:String)(tb:String->Option Bool):Prop where
 dn:nsIn K mainGlobals (Str.ofString cn)=some (some (.ref Dd))
 dq:XCl K Dd bmB newId
 cs:∀c b,tb c=some b->∃C,nsIn K mainGlobals (Str.ofString c)=some (some (.ref C))/\XCl K C bmB newId/\mroIn K C (.ref Dd)=some b
def qW{K:Frag}{h:Heap}{C:Addr}{v:Value}{b:Bool}{nm q:Str}{N:Addr}{bs bm:List Value}{hdct:Bool}{sn:List Str}{sub:List Value}{ab:Bool}{col:Option Bool}{dd:Option Addr}{k0 k1 k2 k3 k5:Option Value}{newId:String}(X:K.In h)
  (hC:h.get? C=some (excClassObj nm q C N bs bm hdct sn sub ab col dd k0 k1 k2 k3 k5 newId)) (hm:mroIn K C v=some b):(Value.ref C::bm).contains v=b:=by
 obtain⟨cd,e1,e2⟩:=Option.bind_eq_some_iff.mp hm
 unfold PySem.W.clsIn at e1
 split at e1<;>cases e1
 rename_i ho
 have:=(X _ _ ho).symm.trans hC
 unfold excClassObj at this
 cases this
 split at e2
 . cases e2
 . exact Option.some.inj e2
section
variable {X:Cx}{EX:XW}{fr:Bool}{cn:String}{Dd:Addr}{bmB:List Value}{newId:String}{tb:String->Option Bool}{cp iU:Pos}{iV:Stmt}{suite:List Stmt}{rest:List ExceptHandler}{g:DS->SR}{hd:HD}{n:Str}{i:Nat}
def y20:QH X EX fr [] jK:=⟨fun _ _ _ _ _ _ _ _ _ _ _ _ _ _ _ _ _ _ _ _ _ _ _ _ _ _ _ h=>h.elim⟩
def qV{pins:List (Addr×Obj)}{U:St}{H1:Hp}{s1:Shared}{C a:Addr}{od:Option Addr}{H2:Hp}{s2:Shared}{B:Heap}{T:Addr}{a0:Value}{h5:Heap}{x:Ex}{b:Bool}{R:Result->Shared->Prop}(Tb:Tbl X.K cn Dd bmB newId tb)(az:bmB.contains (.type "BaseException")=true)(hg:Gl X (Str.ofString cn))(L:Lnd5 X pins U H1 s1 C a od H2 s2 B T a0 h5)
  (gK:X.mg (Str.ofString x.cls)=some (.ref C)) (hb:tb x.cls=some b) (h:R (.ok (if b then .brk else .next)) { s2 with heap:=h5 }) (aI:(Str.ofString cn==("__debug__":Str))=false) :
  codeAny (model X.prog X.w) (X.A.mark (some (.ref a))) (.handlers (.ref a) [.ExceptHandler (some (.Name (Str.ofString cn) cp)) none [] iU] X.env) R { s2 with heap:=h5 }:=by
 obtain⟨I5,sm⟩:=L.inv
 have hm:X.mg (Str.ofString cn)=some (.ref Dd):=GQ L.I.ok.mod.kin L.I.ok.mod.glob Tb.dn
 obtain⟨C',e1,e2,e3⟩:=Tb.cs _ _ hb
 have eV:=GQ L.I.ok.mod.kin L.I.ok.mod.glob e1
 rw[gK]at eV
 cases eV
 obtain⟨oe,vs,he,hc,cw,_⟩:=L.fl.first
 have KI:X.K.In h5:=I5.kIn
 obtain⟨bm,N,nm,qn,bs,hdct,sn,sub,ab,col,dd,k0,k1,k2,k3,k5,hC,TL⟩:=Vg KI e2
 obtain⟨uV,N2,uW,uX,uY,pB,uZ,uF,AA,uG,dm,j0,j1,j2,j3,j5,hD,sN⟩:=Vg KI Tb.dq
 refine codeAny_handlers_test (Be (X:=X.held (.ref a)) (I5.held _) hg hm ?_ aI)
 exact zI hC hD he hc (sN.hasType az) (by rw[qW KI hC e3];exact h)
def y5g(Tb:Tbl X.K cn Dd bmB newId tb)(az:bmB.contains (.type "BaseException")=true)(hg:Gl X (Str.ofString cn))(hN:X.N.Nodup)(hi:X.N[i]?=some n)(hk:X.env.scope.names.lookup n=some .local)(hs:∀e,QB (X.held e) F0 fr (iV::suite) g)(hr:QH X EX fr rest hd)(aI:(Str.ofString cn==("__debug__":Str))=false:=by decide) :
  QH X EX fr (.ExceptHandler (some (.Name (Str.ofString cn) cp)) (some n) (iV::suite) iU::rest) (hAs tb i g hd):=by
 refine⟨fun pins U H1 s1 C a od H2 s2 B T a0 h5 De Hc Hb H0 ρ x E H sH nd xf L gK R h=>?_⟩
 unfold hAs at h
 refine wpAny_handleBy_cons ?_ (by intro q;cases q)
 cases hb:tb x.cls with
 |none=>rw[hb]at h;exact h.elim
 |some b=>
  rw[hb]at h
  refine qV Tb az hg L gK hb ?_ aI
  cases b with
  |false=>exact hr.h pins U H1 s1 C a od H2 s2 B T a0 h5 De Hc Hb H0 ρ x E H sH nd xf L gK R h
  |true=>
   refine codeAny_handlers_suite_as (L.again fun h6 L6=>?_)
   obtain⟨I6,sm⟩:=L6.inv
   refine Lu I6 hN hi (.inl hk) (v:=.ref a) rfl (fun s3 I3=>?_) (.inr hk)
   obtain⟨C',e1,e2,e3⟩:=Tb.cs _ _ hb
   have eV:=GQ L.I.ok.mod.kin L.I.ok.mod.glob e1
   rw[gK]at eV
   cases eV
   have o:Out X.K false (HeOf [] ρ U H0 H) H (.exc x.cls x.fs) (.ref a) (upd H2 a (C9 a C od)):=.exc e1 (R.heH []) sH L.ha nd xf
   obtain⟨aM,R',sO⟩:=R.out o
   have R3:=R'.put sO i
   refine BR ((hs (.ref a)).h pins s3 _ _ (gD De i) (I3.held (.ref a)) ⟨Hc,Hb,aM,_,F0.same _,R3,h.gone⟩) (fun f s4 q=>?_) fun _ _ z=>z.elim
   cases f with
   |next=>obtain⟨af,H',I',q⟩:=q;exact Dq (I'.unheld L.I.ok) hN hi hk fun s5 I5=>⟨_,H',I5,q⟩
   |brk=>obtain⟨af,H',I',q⟩:=q;exact Dq (I'.unheld L.I.ok) hN hi hk fun s5 I5=>⟨_,H',I5,q⟩
   |cont=>obtain⟨af,H',I',q⟩:=q;exact Dq (I'.unheld L.I.ok) hN hi hk fun s5 I5=>⟨_,H',I5,q⟩
   |ret u=>obtain⟨v,af,H',I',rv,q⟩:=q;exact Dq (I'.unheld L.I.ok) hN hi hk fun s5 I5=>⟨v,_,H',I5,rv,q⟩
end
end L2
namespace L2
open PySem PySem.Spec PyProof.Rows
open PySem.Calls
section
variable {prog:Program}{w:World}{A:Around}{E:Value->Shared->Prop}{h:Heap}{g:Array GenState}{d:Drawn}{t:Nat}{os:OsState}{K:Frag}{C a:Addr}{o:Obj}
def Ae(L:Looks M h m r)(q:Q r ⟨h,g,d,t,os⟩):wpAny M A m Q E ⟨h,g,d,t,os⟩:=L A Q E _ (fun _ _ z=>z) q
def y21{R:Result->Shared->Prop}(X:K.In h)(hx:h.get? a=some o)(hc:o.cls=.ref C)(hm:mroIn K C (.type "object")=some true)(hq:R (.ok (.ret (.ref C))) ⟨h,g,d,t,os⟩) :
  codeAny (model prog w) A (.call (.builtin "getset_descriptor.__get__") ⟨[.builtin "object.__class__",.ref a,.ref C],[]⟩) R ⟨h,g,d,t,os⟩:=by
 have oG:(⟨h,g,d,t,os⟩:Shared).TypeIs (.builtin "object.__class__") "getset_descriptor":=GB
 have L1:Looks (model prog w) h (isSubtype (.ref C) (.type (".".intercalate ("object.__class__".cutAt '.').dropLast))) true:=by rw[PySem.F.owner_object_class];exact PySem.W.looks_mroIn X hm
 refine codeAny_call_builtin PySem.F.slot_gs_get.plain PySem.F.entry_gs_get (PySem.F.slot_gs_get.check _ _ _ _ _ _ _ _ oG (PySem.F.args_gs_get _ _ _) ?_)
 repeat (any_goals (first |assumption | (with_reducible refine EG hx ?_;rw[hc]) |with_reducible refine Ae L1 ?_ |wp_step))
 refine⟨Code.quiet_builtin _ (by decide +kernel),GK PySem.F.entry_object_class ?_⟩
 repeat (any_goals (first |assumption | (with_reducible refine EG hx ?_;rw[hc]) |wp_step))
def xl(X:K.In h)(hx:h.get? a=some o)(hc:o.cls=.ref C)(hm:mroIn K C (.type "object")=some true)(dy:PySem.W.findIn K (.ref C) "__class__"=some (some (.builtin "object.__class__")))(hq:Q (.done (.ret (.ref C))) ⟨h,g,d,t,os⟩) :
  wpAny (model prog w) A (Builtin.«object.__getattribute__» ⟨[.ref a,.str "__class__" tk],[]⟩) Q E ⟨h,g,d,t,os⟩:=by
 have oG:(⟨h,g,d,t,os⟩:Shared).TypeIs (.builtin "object.__class__") "getset_descriptor":=GB
 have L2:=PySem.W.looks_findIn (M:=model prog w) X dy
 have f5:=GB
 have f6:=PySem.F.slot_gs_get.lookup
 have f7:=PySem.F.slot_gs_set.lookup
 repeat (any_goals (first |assumption | (with_reducible refine EG hx ?_;rw[hc]) |with_reducible refine Ae L2 ?_ |wp_step))
 refine y21 X hx hc hm ?_
 repeat (any_goals (first |assumption |wp_step))
def xk(X:K.In h)(hx:h.get? a=some o)(hc:o.cls=.ref C)(hB:mroIn K C (.type "BaseException")=some true)(hq:Q () ⟨h,g,d,t,os⟩):wpAny M A (checkBuiltinCall "BaseException.__getattribute__" ⟨[.ref a,lr],[]⟩) Q E ⟨h,g,d,t,os⟩:=by
 have hk:builtinKind "BaseException.__getattribute__"=some .slot:=by decide +kernel
 have gY:splitId "BaseException.__getattribute__"=some ("BaseException","__getattribute__"):=by decide +kernel
 have ha:=PySem.F.args_bexc_ga (.ref a) lr;have L1:=PySem.W.looks_mroIn (M:=M) X hB;simp only[checkBuiltinCall,hk,gY];refine χ ?_
 . unfold isInstance;repeat (first | (with_reducible refine EG hx ?_;rw[hc]) |with_reducible refine Ae L1 ?_ |wp_step)
   exact hq
def qU{tk:Tok}{R:Result->Shared->Prop}(X:K.In h)(hx:h.get? a=some o)(hc:o.cls=.ref C)(hm:mroIn K C (.type "object")=some true)(hB:mroIn K C (.type "BaseException")=some true)(dy:PySem.W.findIn K (.ref C) "__class__"=some (some (.builtin "object.__class__")))(hq:R (.ok (.ret (.ref C))) ⟨h,g,d,t,os⟩) :
  codeAny (model prog w) A (.call (.builtin "BaseException.__getattribute__") ⟨[.ref a,.str "__class__" tk],[]⟩) R ⟨h,g,d,t,os⟩:=
 codeAny_call_builtin PySem.F.attr_ValueError.ga.plain PySem.F.entry_bexc_ga (xk X hx hc hB (xl X hx hc hm dy hq))
def y5h(X:K.In h)(hx:h.get? a=some o)(hc:o.cls=.ref C)(hm:mroIn K C (.type "object")=some true)(hB:mroIn K C (.type "BaseException")=some true)(dy:PySem.W.findIn K (.ref C) "__class__"=some (some (.builtin "object.__class__")))
  (ma:PySem.W.findIn K (.ref C) "__getattribute__"=some (some (.builtin "BaseException.__getattribute__"))) (me:PySem.W.findIn K (.ref C) "__getattr__"=some none) (hq:Q (.ref C) ⟨h,g,d,t,os⟩):wpAny (model prog w) A (getAttrBy (.ref a) (.str "__class__" tk) false) Q E ⟨h,g,d,t,os⟩:=by
 have L1:=PySem.W.looks_findIn (M:=model prog w) X ma
 have L2:=PySem.W.looks_findIn (M:=model prog w) X me
 have f3:=(PySem.F.attr_ValueError).ga.bind (.ref a)
 have mf:(Value.builtin "BaseException.__getattribute__"==Value.builtin "object.__getattribute__")=false:=by decide +kernel
 have mh:(onTheHeap (Value.ref C)&&Value.builtin "BaseException.__getattribute__"==Value.builtin "object.__getattribute__")=false:=by rw[mf];rfl
 repeat (any_goals (first |assumption | (with_reducible refine EG hx ?_;rw[hc]) |with_reducible refine Ae L1 ?_ |with_reducible refine Ae L2 ?_ |wp_step))
 refine qU X hx hc hm hB dy ?_
 repeat (any_goals (first |assumption |wp_step))
def xj(X:K.In h)(hx:h.get? a=some o)(hc:o.cls=.ref C)(hm:mroIn K C (.type "object")=some true)(hB:mroIn K C (.type "BaseException")=some true)(dy:PySem.W.findIn K (.ref C) "__class__"=some (some (.builtin "object.__class__")))
  (ma:PySem.W.findIn K (.ref C) "__getattribute__"=some (some (.builtin "BaseException.__getattribute__"))) (me:PySem.W.findIn K (.ref C) "__getattr__"=some none) (hq:Q (some (.ref C)) ⟨h,g,d,t+1,os⟩):wpAny (model prog w) A (getAttr? (.ref a) "__class__") Q E ⟨h,g,d,t,os⟩:=by
 unfold getAttr? getAttrBy?
 repeat (any_goals (first |assumption |with_reducible apply y5h X hx hc hm hB dy ma me |wp_step))
end
structure XF(K:Frag)(C:Addr):Prop where
 ob:mroIn K C (.type "object")=some true
 be:mroIn K C (.type "BaseException")=some true
 cl:PySem.W.findIn K (.ref C) "__class__"=some (some (.builtin "object.__class__"))
 ga:PySem.W.findIn K (.ref C) "__getattribute__"=some (some (.builtin "BaseException.__getattribute__"))
 gt:PySem.W.findIn K (.ref C) "__getattr__"=some none
def XF.cls{K:Frag}{C:Addr}(F:XF K C):∃c' d' cd sl,K.lookup C=some ⟨c',d',.cls cd,sl⟩:=by obtain⟨cd,e1,e2⟩:=Option.bind_eq_some_iff.mp F.ob;unfold PySem.W.clsIn at e1;split at e1<;>cases e1;rename_i ho;exact⟨_,_,_,_,ho⟩
def Lg{K:Frag}{C a:Addr}(F:XF K C):PySem.W.KitX K (.ref a) (.ref C) (fun h=>∃ob,h.get? a=some ob/\ob.cls=.ref C) where
 ty:=fun M h X ⟨o,h1,h2⟩=>h2 ▸ (PySem.W.Looks.ld h1).andThen .now
 it:=fun _ _ X _=>by obtain⟨c',d',cd,sl,ho⟩:=F.cls;intro A' Q' E' s' k q;unfold isType loadHead;exact χ (wpAny_loadPart (k _ _ (X _ _ ho)) (ω q))
 ne:=fun h tp dd its n sl X sP=>by
  obtain⟨c',d',cd,sl,ho⟩:=F.cls;refine Bool.eq_false_iff.mpr fun q=>?_
  have e:C=tp:=Value.ref.inj (EW.mp q);subst e;have z:=(X _ _ ho).symm.trans sP;cases z
 ca:=fun {prog w A E Q s} X ⟨o,hx,hc⟩ k=>by obtain⟨h,g,d,t,os⟩:=s;exact xj X hx hc F.ob F.be F.cl F.ga F.gt k
def Og(K:Frag):List V->Hp->VK->Prop:=fun xs H Q=>match xs with
 | [.ref a,.ref p]=>∃C od b,H a=some (C9 a C od)/\XF K C/\(kitOne K (.ref C) (.ref p)=some b\/∃Ds:List Addr,H p=some (.tup (Ds.map V.ref))/\PySem.W.kitAny K (.ref C) (Ds.map Value.ref)=some b)/\Q (.bl b) H
 | [.ref a,.ty T]=>∃C od b,H a=some (C9 a C od)/\XF K C/\kitOne K (.ref C) (.type T)=some b/\Q (.bl b) H
 |_=>False
theorem Xs:∀{Ds:List Addr}{us:List Value},Vals (Ds.map V.ref) us->us=Ds.map Value.ref
 | [],_,.nil=>rfl
 |_::_,_,.cons r t=>by rw[Xs t,show _=_ from r];rfl
def y23:CallR X (.builtin "isinstance") (Og X.K):=by
 intro pins s U H xs us Q I r h;unfold Og at h;split at h
 . rename_i a p;obtain⟨C,od,b,ha,F,hk,q⟩:=h;cases r with
   |cons r1 r=>cases r with
    |cons r2 r=>
     cases r
     cases (show _=_ from r1)
     cases (show _=_ from r2)
     obtain⟨⟨ob,o1,o2,_⟩,_⟩:=I.hok a _ ha
     rcases hk with hk |⟨Ds,hp,hk⟩
     . exact kia_one (Lg F) I.kIn ⟨ob,o1,o2⟩ hk (fun z=>by cases z) fun tk=>⟨.bl b,H,I.tok tk,rfl,q⟩
     . obtain⟨_,its,rv,ot,n,t1,⟨t2,t3⟩,_⟩:=I.hok p _ hp;obtain⟨oc,od,AB,osl⟩:=ot;dsimp only at t1 t3;subst t1 t3;rw[Xs rv]at n;exact PySem.W.kia_tup (Lg F) I.kIn ⟨ob,o1,o2⟩ n hk (fun z=>by cases z) fun tk=>⟨.bl b,H,I.tok tk,rfl,q⟩
 . rename_i a T;obtain⟨C,od,b,ha,F,hk,q⟩:=h;cases r with
   |cons r1 r=>cases r with
    |cons r2 r=>
     cases r
     cases (show _=_ from r1)
     cases (show _=_ from r2)
     obtain⟨⟨ob,o1,o2,_⟩,_⟩:=I.hok a _ ha
     exact kia_one (Lg F) I.kIn ⟨ob,o1,o2⟩ hk (fun z=>by cases z) fun tk=>⟨.bl b,H,I.tok tk,rfl,q⟩
 . exact h.elim
noncomputable def U5(tb:String->Option Bool):D->Option D
 | .exc c _=>(tb c).map .bl
 |_=>none
structure Bel(K:Frag)(y:Value)(tb:String->Option Bool):Prop where
 h:∀c b,tb c=some b->∃C,nsIn K mainGlobals (Str.ofString c)=some (some (.ref C))/\XF K C/\kitOne K (.ref C) y=some b
def RD.exc{K:Frag}{H:Hp}{c:String}{fs:List D}{v:V}(r:RD K H (.exc c fs) v):∃a C od,v=.ref a/\nsIn K mainGlobals (Str.ofString c)=some (some (.ref C))/\H a=some (C9 a C od)/\XFs K ⟨c,fs⟩ od H:=by simp only[RD]at r;obtain⟨a,od,o,e,⟨C,h1,h2⟩,h3,h4⟩:=r;subst h2;exact⟨a,C,od,e,h1,h3,h4⟩
section
variable {X:Cx}{EX:XW}{a b:Expr}{pos p:Pos}{x:Str}{f:DE->R D}{tb:String->Option Bool}
def y24{K:Frag}{U:St}{H:Hp}{Q:VK}{y:V}{yv:Value}(hy:(∃Dd,y=.ref Dd/\yv=.ref Dd)\/∃T,y=.ty T/\yv=.type T)(B:Bel K yv tb)(h:TEd K EX false (eUn (U5 tb) f) U H Q):tCB (Og K) (J1 (TEd K EX false f) (J1 (tC y) Q8)) U H Q:=by
 obtain⟨sx,ρ,H0,s,e,h⟩:=h;unfold eUn at h;rw[Rk.bind]at h;refine TEd.go sx s e h fun d h v H1 ak s1 e1 r1=>?_
 obtain⟨z,hz,h⟩:=h.of;cases d<;>simp only[U5]at hz<;>first |cases hz |skip
 rename_i c _;obtain⟨b,hb,rfl⟩:=EJ.mp hz;obtain⟨a,C,od,rfl,hn,ha,_⟩:=r1.exc;obtain⟨C',h1,h2,h3⟩:=B.h c b hb;rw[hn]at h1;cases h1;have q:=h (.bl b) H1 (.val s1 e1 (by simp only[RD]));rcases hy with⟨Dd,rfl,rfl⟩ |⟨T,rfl,rfl⟩
 . exact⟨C,od,b,e1.2.1 _ _ ha,h2,.inl h3,q⟩
 . exact⟨C,od,b,e1.2.1 _ _ ha,h2,h3,q⟩
def Gi(hg:Gl X x)(hm:X.mg x=none)(hv:bootBuiltins x=some (.builtin "isinstance"))(ha:QE X EX false a f)(hb:PE X b (tC y))(hy:(∃Dd,y=.ref Dd/\yv=.ref Dd)\/∃T,y=.ty T/\yv=.type T)(B:Bel X.K yv tb)(hn:x≠"__name__":=by decide)(aI:(x==("__debug__":Str))=false:=by decide)
 (he:starEach [a,b] X.env=(false,eval a X.env)::starEach [b] X.env:=by rfl) (hpl:(backTo pos (starEach [b] X.env)).any (·.1)=false:=by rfl) (hs:starEach [b] X.env=(false,eval b X.env)::starEach [] X.env:=by rfl) :
 QE X EX false (.Call (.Name x p) [a,b] [] pos) (eUn (U5 tb) f):=⟨(Lq y23 hg hm hv (Q1 ha.h (Q1 hb pa_nil hs) he) hn aI he hpl).imp fun _ _ _ q=>y24 hy B q⟩
end
end L2
namespace L2
open PySem PySem.Spec PyProof.Rows
section
open PySem.AutoSeq1 (wpAny_loadPart')
end
end L2
namespace L2
open PySem PySem.Spec PyProof.Rows
section
open PySem.AutoSeq1 (wpAny_loadPart')
end
end L2
namespace L2
open PySem PySem.Spec PyProof.Rows
end L2
namespace L2
open PySem PySem.Spec PyProof.Rows
open PySem.Calls
open Builtin Builtin.ObjectAttr
section
open PySem.AutoSeq1 (wpAny_loadPart')
end
end L2
namespace L2
open PySem PySem.Spec PyProof.Rows
section
variable {prog:Program}{w:World}{A:Around}{R:Result->Shared->Prop}{I:Addr}{fp wr:List Addr}{n:Nat}{P:Nat->Value->Prop}{St:Nat->Heap->Prop}
def y25(kw:List (Str×Value))(W:Walks prog w A.in1 I fp wr n P St)(bt:Nat->Nat->Bool)(cm:CmpOf prog w A.in1 .Gt P bt)(S:Addr)(nf:S∉fp) :
  ∀(k j:Nat)(s:Shared)(vb:Value)(c:Nat),n - (j+1)=k->j+1<=n->St (j+1) s.heap->P (argBest bt j) vb->s.heap.get? S=some { cls:=.type "list",dict:=none,data:=.seq #[vb,vb] c,slots:=#[] } ->
  (∀v h' tk,P (argBest bt (n - 1)) v->(∀b o,b∉wr->b≠S->s.heap.get? b=some o->h'.get? b=some o)->R (.ok (.ret v)) { s with heap:=h',toks:=tk })->codeAny (model prog w) A (.builtin "max.loop" ⟨[.ref I,.none,.ref S],kw⟩) R s:=by
 have nw:S∉wr:=fun h=>nf (W.sub _ h)
 have nm:(toString "max"++toString ".loop":String)="max.loop":=by decide
 intro k
 induction k with
 |zero=>
  intro j s vb c ek ej st pb eS fin
  have jn:j+1=n:=by omega
  refine GK FM ?_
  rw[GH CJ _]
  show wpAny _ A.in1 (seqItems? (.ref S) >>= _) _ _ _
  refine χ (wpAny_seqItems eS rfl ?_)
  show wpAny _ A.in1 (tryCatch (pyNext (.ref I)) _ >>= _) _ _ _
  refine χ (wpAny_tryCatch (W.done s _ _ (jn ▸ st) fun h' tk kp=>?_))
  have dY:=kp S _ nw eS
  show wpAny _ A.in1 (updateSeq S (fun _=>#[]) >>= _) _ _ _
  refine χ ?_
  refine GJ dY rfl (χ (wpAny_letGo (ω ?_)))
  exact fin vb _ tk (by rw[<-jn];exact pb) fun b o bX dA e=>(CD _ _ (DR dA)).trans (kp b o bX e)
 |succ k ih=>
  intro j s vb c ek ej st pb eS fin
  have jl:j+1<n:=by omega
  refine GK FM ?_
  rw[GH CJ _]
  show wpAny _ A.in1 (seqItems? (.ref S) >>= _) _ _ _
  refine χ (wpAny_seqItems eS rfl ?_)
  show wpAny _ A.in1 (tryCatch (pyNext (.ref I)) _ >>= _) _ _ _
  refine χ (wpAny_tryCatch (W.item (j+1) s _ _ jl st fun v h' tk pv st' kp=>?_))
  have dY:=kp S _ nw eS
  show wpAny _ A.in1 (tryCatch (holding [v,v] (richCompare .Gt v vb >>= _)) _ >>= _) _ _ _
  refine χ (wpAny_tryCatch (CN (χ (cm (j+1) (argBest bt j) v vb _ _ _ pv pb ?_))))
  refine χ (CN (EF ?_))
  refine χ (wpAny_letGo (ω ?_))
  cases hb:bt (j+1) (argBest bt j) with
  |true=>
   rw[ξ rfl]
   refine χ ?_
   refine GJ dY rfl (χ (wpAny_letGo ?_))
   rw[nm]
   refine ω ⟨plainId_quiet CJ _,ih (j+1) _ v _ (by omega) jl (W.frame _ _ _ st' fun b mi o e=>?_) (by simp only[argBest,hb,CI];exact pv) (AU _ dY rfl) fun v' eL dP eW dZ=>?_⟩
   . exact(CD _ _ (fun z:S=b=>nf (by rw[z];exact mi))).trans e
   . exact fin v' eL dP eW fun b o bX dA e=>dZ b o bX dA ((CD _ _ (DR dA)).trans (kp b o bX e))
  |false=>
   rw[ψ η]
   refine χ (wpAny_letGo ?_)
   rw[nm]
   exact ω ⟨plainId_quiet CJ _,ih (j+1) _ vb c (by omega) jl st' (by simp only[argBest,hb,BC,CT];exact pb) dY fun v' eL dP eW dZ=>fin v' eL dP eW fun b o bX dA e=>dZ b o bX dA (kp b o bX e)⟩
def yD(kw:List (Str×Value))(W:Walks prog w A.in1 I fp wr n P St)(bt:Nat->Nat->Bool)(cm:CmpOf prog w A.in1 .Gt P bt)(S:Addr)(nf:S∉fp)(n0:0<n)(st:St 0 s.heap)
  (eS:s.heap.get? S=some { cls:=.type "list",dict:=none,data:=.seq #[] c,slots:=#[] }) (fin:∀v h' tk,P (argBest bt (n - 1)) v->(∀b o,b∉wr->b≠S->s.heap.get? b=some o->h'.get? b=some o)->R (.ok (.ret v)) { s with heap:=h',toks:=tk }) :
  codeAny (model prog w) A (.builtin "max.loop" ⟨[.ref I,.none,.ref S],kw⟩) R s:=by
 have nw:S∉wr:=fun h=>nf (W.sub _ h)
 have nm:(toString "max"++toString ".loop":String)="max.loop":=by decide
 refine GK FM ?_
 rw[GH CJ _]
 show wpAny _ A.in1 (seqItems? (.ref S) >>= _) _ _ _
 refine χ (wpAny_seqItems eS rfl ?_)
 show wpAny _ A.in1 (tryCatch (pyNext (.ref I)) _ >>= _) _ _ _
 refine χ (wpAny_tryCatch (W.item 0 s _ _ n0 st fun v h' tk pv st' kp=>?_))
 have dY:=kp S _ nw eS
 show wpAny _ A.in1 (updateSeq S (fun _=>#[v,v]) >>= _) _ _ _
 refine χ ?_
 refine GJ dY rfl ?_
 rw[nm]
 refine ω ⟨plainId_quiet CJ _,y25 kw W bt cm S nf _ 0 _ v _ rfl n0 (W.frame _ _ _ st' fun b mi o e=>?_) pv (AU _ dY rfl) fun v' eL dP eW dZ=>?_⟩
 . exact(CD _ _ (fun z:S=b=>nf (by rw[z];exact mi))).trans e
 . exact fin v' eL dP eW fun b o bX dA e=>dZ b o bX dA ((CD _ _ (DR dA)).trans (kp b o bX e))
def xi(q:Str)(dv:Value)(W:Walks prog w A.in1 I fp wr n P St)(S:Addr)(nf:S∉fp)(n0:n=0)(st:St 0 s.heap)
  (eS:s.heap.get? S=some { cls:=.type "list",dict:=none,data:=.seq #[] c,slots:=#[] }) (fin:∀h' tk,(∀b o,b∉wr->b≠S->s.heap.get? b=some o->h'.get? b=some o)->R (.ok (.ret dv)) { s with heap:=h',toks:=tk }) :
  codeAny (model prog w) A (.builtin "max.loop" ⟨[.ref I,.none,.ref S],[(q,dv)]⟩) R s:=by
 refine GK FM ?_
 rw[GH CJ _]
 show wpAny _ A.in1 (seqItems? (.ref S) >>= _) _ _ _
 refine χ (wpAny_seqItems eS rfl ?_)
 show wpAny _ A.in1 (tryCatch (pyNext (.ref I)) _ >>= _) _ _ _
 refine χ (wpAny_tryCatch (W.done s _ _ (n0 ▸ st) fun h' tk kp=>?_))
 show wpAny _ A.in1 (rule _ >>= _) _ _ _
 exact χ (wpAny_rule (ω (fin h' tk fun b o hb _ e=>kp b o hb e)))
end
def xh(a v:Value):argsOk "max" ⟨[a],[(Str.ofString "default",v)]⟩:=by unfold argsOk;kernel_rfl
section
variable {prog:Program}{w:World}{A:Around}{E:Value->Shared->Prop}{s:Shared}
def xg
  (h:wpAny (model prog w) A.in1 (pyIter x) (fun it ba=>∃I fp wr n P St bt,it=.ref I/\Walks prog w A.in1 I fp wr n P St/\St 0 ba.heap/\(∀b∈fp,b<ba.heap.objs.size)/\CmpOf prog w A.in1 .Gt P bt /\
   ∀v h' tk,((0<n/\P (argBest bt (n - 1)) v)\/(n=0/\v=dv))->(∀b o,b∉wr->ba.heap.get? b=some o->h'.get? b=some o)->Q v { ba with heap:=h',toks:=tk }) E s) :
  wpAny (model prog w) A (call (.builtin "max") [x] [(Str.ofString "default",dv)]) Q E s:=by
 have nm:(toString "max"++toString ".loop":String)="max.loop":=by decide
 refine kmk_tree PySem.F.kind_max PySem.F.plain_max PySem.F.entry_max (xh _ _) ?_
 show wpAny _ A.in1 (Builtin.Builtins.bindParams "max" ["key","default"] 0 ⟨[],[(Str.ofString "default",dv)]⟩ >>= _) _ _ s
 refine χ (wpAny_of_eq (show Builtin.Builtins.bindParams "max" ["key","default"] 0 ⟨[],[(Str.ofString "default",dv)]⟩=pure [none,some dv] from rfl) ?_)
 refine χ (ω ?_)
 refine χ (BR h (fun it ba g=>?_) fun _ _ e=>e)
 obtain⟨I,fp,wr,n,P,St,bt,rfl,W,st,bd,cm,hQ⟩:=g
 refine χ (wpAny_newObj_type ?_)
 have nf:ba.heap.objs.size∉fp:=fun hm=>DH _ (bd _ hm)
 rw[nm]
 refine ω ⟨plainId_quiet CJ _,?_⟩
 by_cases n0:0<n
 . exact yD _ W bt cm ba.heap.objs.size nf n0 (W.frame _ _ _ st fun b _ o e=>Ψ _ e) (Ξ _ rfl) fun v h' tk pv kp=>
    hQ v h' tk (.inl ⟨n0,pv⟩) fun b o bX e=>kp b o bX (BB (Φ e)) (Ψ _ e)
 . exact xi _ dv W ba.heap.objs.size nf (by lia) (W.frame _ _ _ st fun b _ o e=>Ψ _ e) (Ξ _ rfl) fun h' tk kp=>
    hQ dv h' tk (.inr ⟨by lia,rfl⟩) fun b o bX e=>kp b o bX (BB (Φ e)) (Ψ _ e)
variable {h₀:Heap}{L:Addr}{m:Str->Option Value}{iW:List (Addr×Obj)}
def xb(hh:A.handled=none)(F:Fr h₀ L s.heap m)(N:News h₀ L s.heap iW)(hl:s.heap.IsList l vs.toArray)(hi:IntsAre vs ns)
  (h:∀v h' tk,Fr h₀ L h' m->News h₀ L h' iW->((ns=[]/\v=dv)\/∃M t,v=.int M t/\M∈ns/\∀a,a∈ns->a<=M)->Q v { s with heap:=h',toks:=tk }) :
  wpAny (model prog w) A (call (.builtin "max") [.ref l] [(Str.ofString "default",dv)]) Q E s:=by
 obtain⟨xs,e⟩:=hi.allInts.items
 have en:ns=xs.toList.map (·.1):=by rw[<-hi.numsOf,<-nums_intItems,<-e]
 have el:ns.length=xs.size:=by rw[en,bI,AW]
 rw[e]at hl
 refine xg (iter_intList hl fun ba e st bd lI=>?_)
 subst e
 refine⟨_,_,_,_,_,_,_,rfl,Walks.list (A:=A.in1) hh _ l lI (intItems xs),st,bd,CmpOf.ints_gt (numAt xs) (fun _ _=>intItems_at),fun v h' tk pv kp=>?_⟩
 have dZ:=old_kept kp
 refine h v h' tk (F.grownK dZ) (N.grown dZ) ?_
 rcases pv with⟨n0,pv⟩ |⟨n0,rfl⟩
 . right;have AC:0<xs.size:=by simpa [intItems] using n0
   have eW:(intItems xs)[argBest (fun i j=>decide (numAt xs i > numAt xs j)) (xs.size - 1)]?=some v:=by simpa [intItems] using pv
   obtain⟨t,rfl⟩:=intItems_at eW;obtain⟨h1,h2⟩:=argBest_gt (numAt xs) (xs.size - 1);refine⟨_,t,rfl,?_,fun a ha=>?_⟩
   . rw[en,numAt_eq];exact getD_mem (by rw[bI,AW];lia)
   . rw[en]at ha;obtain⟨j,hj,rfl⟩:=mem_getD ha;rw[bI,AW]at hj;rw[<-numAt_eq];exact h2 j (by lia)
 . left;have:xs.size=0:=by simpa [intItems] using n0
   exact⟨List.length_eq_zero_iff.mp (by lia),rfl⟩
end
def mxD(d:Int):List Int->Int
 | []=>d
 |n::ns=>O1 n ns
def W1:List D->Option D
 | [.lst ds,.int d]=>(x4 ds).map fun ns=>.int (mxD d ns)
 |_=>none
def Gh:List V->Hp->VK->Prop:=fun xs H Q=>∃p ns d,xs=[.ref p,.int d]/\H p=some (.lst (ns.map V.int))/\Q (.int (mxD d ns)) H
def TEd.mono'{K:Frag}{EX:XW}{fr:Bool}{f:DE->R D}{U:St}{H:Hp}{Q Q':VK}(h:TEd K EX fr f U H Q)(hq:∀v H',Q v H'->Q' v H'):TEd K EX fr f U H Q':=by obtain⟨sx,ρ,H0,s,e,h⟩:=h;exact⟨sx,ρ,H0,s,e,h.mono fun a k v H' o=>hq _ _ (k v H' o)⟩
section
variable {X:Cx}{EX:XW}{e d:Expr}{p kp pos:Pos}{x:Str}{t1 t2:TE}{f1 f2:DE->R D}
def wZ(hc:X.calm=true)(hg:Gl X x)(hm:X.mg x=none)(hv:bootBuiltins x=some (.builtin "max"))(ha:PE X e t1)(hd:PE X d t2)(hn:x≠"__name__")(aI:(x==("__debug__":Str))=false)
  (hs:starEach [e] X.env=(false,eval e X.env)::starEach [] X.env) :
  PE X (.Call (.Name x p) [e] [⟨some (Str.ofString "default"),d,kp⟩] pos) (tCB Gh (J1 t1 (J1 t2 Q8))):=by
 intro pins s U H Q I h
 refine FR (P8 I hg hm hv ?_ hn aI)
 refine callWith_kw ?_ (by rw[hs];rfl) (by rw[hs];rfl)
 refine thn (Q1 ha pa_nil hs pos pins s U H (fun vs H1=>t2 U H1 fun u H2=>Gh (vs++[u]) H2 Q) I h) fun us s1 ⟨vs,H1,I1,r1,q1⟩=>?_
 refine kws_cons (thn (hd pins s1 U H1 _ I1 q1) fun u s2 ⟨y,H2,I2,r2,q2⟩=>kws_nil ?_)
 obtain⟨a,ns,i,e1,ea,q⟩:=q2
 obtain⟨rfl,rfl⟩:vs=[.ref a]/\y=.int i:=by
  cases vs with
  |nil=>cases e1
  |cons b r=>
   cases r with
   |nil=>cases e1;exact⟨rfl,rfl⟩
   |cons c r=>cases r<;>cases e1
 obtain⟨u1,rfl,ru⟩:=C3 r1
 cases ru
 obtain⟨t,rfl⟩:=r2
 obtain⟨its,rv,pl,_⟩:=I2.list (.of ea)
 obtain⟨m,mj,_⟩:=id I2.loc
 refine xb (I2.ok.hd hc) (Att.fr_all mj) (Lw (g:=Att.noObjs s2.heap) (L:=X.env.locals)) pl.isList (Em rv) fun v h' tk F N hM=>?_
 rcases hM with⟨rfl,rfl⟩ |⟨M,t,rfl,hM,cy⟩
 . exact⟨.int i,H2,I2.frn mj F N,⟨_,rfl⟩,q⟩
 . cases ns with
   |nil=>cases hM
   |cons n ns=>
    obtain⟨a1,a2⟩:=Ka ns n
    have e:M=O1 n ns:=Int.le_antisymm (a2 M hM) (cy _ a1)
    exact⟨.int M,H2,I2.frn mj F N,⟨t,rfl⟩,by rw[e];exact q⟩
def wY{K:Frag}:F8 K false W1 Gh:=by
 intro H0 H xs ds z Q s r ho k;unfold W1 at ho;split at ho<;>first |cases ho |skip
 rename_i es i;cases hq:x4 es with
 |none=>rw[hq]at ho;cases ho
 |some ns=>
  rw[hq]at ho
  cases ho
  simp only[RDs]at r
  obtain⟨x1,r1,rfl,q1,x2,r2,rfl,q2,rfl⟩:=r
  obtain⟨a,ys,rfl,ha,ra⟩:=q1.lst
  have e:=Y5 hq ra
  subst e
  cases q2.int
  exact⟨a,ns,i,rfl,s _ _ ha,k _ H (.pure s (.mkInt _))⟩
def qT(hc:X.calm=true)(hg:Gl X x)(hm:X.mg x=none)(hv:bootBuiltins x=some (.builtin "max"))(ha:QE X EX false e f1)(hd:QE X EX false d f2)(hn:x≠"__name__":=by decide)(aI:(x==("__debug__":Str))=false:=by decide)
  (hs:starEach [e] X.env=(false,eval e X.env)::starEach [] X.env:=by rfl) :
  QE X EX false (.Call (.Name x p) [e] [⟨some (Str.ofString "default"),d,kp⟩] pos) (eCB W1 (a7 f1 (a7 f2 a9))):=
 ⟨(wZ hc hg hm hv ha.h hd.h hn aI hs).imp fun _ _ _ q=>(Je (On wY q)).mono' fun _ _ q=>(Je q).mono' fun _ _ q=>Qe q⟩
end
noncomputable def SR.thn(r:SR)(g:DS->SR):SR:=match r with
 | .nx ρ'=>g ρ'
 |r=>r
noncomputable def SR.out(fr:Bool)(r:SR):R D:=match r with
 | .rt d=>.ok d
 | .nx _=>if fr=true then .st else .ok .non
 | .er x=>.er x
 |_=>.st
def ya(g1 g2:DS->SR)(ρ:DS):b9 g1 g2 ρ=(g1 ρ).thn g2:=rfl
def xZ(ρ:DS)(g:DS->SR):(SR.nx ρ).thn g=g ρ:=rfl
def zwz(d:D)(g:DS->SR):(SR.rt d).thn g=.rt d:=rfl
def zx0(x:Ex)(g:DS->SR):(SR.er x).thn g=.er x:=rfl
def zx1(g:DS->SR):(SR.st).thn g=.st:=rfl
def zsc(c:Prop)[Decidable c](a b:SR)(g:DS->SR):(if c then a else b).thn g=if c then a.thn g else b.thn g:=by split<;>rfl
def M9(fr:Bool)(n k:Nat)(g:DS->SR)(ds:List D):mOf fr n k g ds=if ds.length=n then(g (ds.map .im++List.replicate k .em)).out fr else .st:=rfl
def zx2(fr:Bool)(d:D):(SR.rt d).out fr=.ok d:=rfl
def zx3(ρ:DS):(SR.nx ρ).out false=.ok .non:=rfl
def zx4(fr:Bool)(x:Ex):(SR.er x).out fr=.er x:=rfl
def zx5(fr:Bool):(SR.st).out fr=.st:=rfl
def zsd(fr:Bool)(c:Prop)[Decidable c](a b:SR):(if c then a else b).out fr=if c then a.out fr else b.out fr:=by split<;>rfl
def Vf(m:List Bool)(f:DE->R D)(ρ:DS):d8 m f ρ=(f (vis m ρ)).toS fun d=>.rt d:=rfl
def xY(fr:Bool)(i:Nat)(m:List Bool)(f:DE->R D)(ρ:DS):e8 fr i m f ρ=(f (vis m ρ)).toS fun d=>.nx (K6 fr i d (l7 (keeps fr d) m ρ)):=rfl
def qS(t:DE->R Bool)(g1 g2:DS->SR)(ρ:DS):sIf t g1 g2 ρ=(t (see ρ)).toS fun b=>if b=true then g1 ρ else g2 ρ:=rfl
def P9(a:α)(k:α->SR):R.toS (.ok a) k=k a:=rfl
def zx7(x:Ex)(k:α->SR):R.toS (.er x:R α) k=.er x:=rfl
def zx8(k:α->SR):R.toS (.st:R α) k=.st:=rfl
def zse(c:Prop)[Decidable c](a b:R α)(k:α->SR):R.toS (if c then a else b) k=if c then R.toS a k else R.toS b k:=by split<;>rfl
def zsf(x:Ex)(k:α->R β):R.bind (.er x:R α) k=.er x:=rfl
def Jj(a:α):(R.ok a).noE=.ok a:=rfl
def y26(m:List Bool):vis m []=[]:=by cases m<;>rfl
def y27(s:Sl)(r:DS):vis [] (s::r)=s.see false::vis [] r:=rfl
def y28(b:Bool)(m:List Bool)(s:Sl)(r:DS):vis (b::m) (s::r)=s.see b::vis m r:=rfl
def Hg:see []=[]:=rfl
def Hf(s:Sl)(r:DS):see (s::r)=s.see true::see r:=rfl
def zx9(b:Bool):Sl.see b .em=none:=rfl
def Ji(b:Bool)(d:D):Sl.see b (.im d)=some d:=rfl
def Lf(d:D):Sl.see true (.ow d)=some d:=rfl
def zsg(d:D):Sl.see false (.ow d)=none:=rfl
def zxa(m:List Bool)(ρ:DS):l7 true m ρ=ρ:=rfl
def zn7(fr:Bool)(i:Int):keeps fr (.int i)=true:=by cases fr<;>rfl
def Yj(fr:Bool)(ds:List D):keeps fr (.tup ds)=j4 ds:=by cases fr<;>simp only[keeps,D.noL,D.shal,CI,BC,CT]
def Eg(ds:List D):keeps true (.lst ds)=j4 ds:=rfl
def zxb:j4 []=true:=by simp only[j4]
def Ve(d:D)(r:List D):j4 (d::r)=(d.noL&&j4 r):=by simp only[j4]
def Bf(i:Int):(D.int i).noL=true:=by simp only[D.noL]
def zsh(ds:List D):(D.tup ds).noL=j4 ds:=by simp only[D.noL]
def Xg(ds:List D):(D.lst ds).noL=false:=by simp only[D.noL]
def y29(i:Nat)(d:D)(ρ:DS):K6 false i d ρ=ρ.set i (.im d):=rfl
def y2a(i:Nat)(d:D)(ρ:DS):K6 true i d ρ=ρ.set i (.ow d):=rfl
def y2b(ρ:DE):sel [] ρ=[]:=rfl
def y2c(j:Nat)(r:List Nat)(ρ:DE):sel (j::r) ρ=(ρ[j]?).getD none::sel r ρ:=rfl
def y5i(d:D)(r:DE):a6 0 (some d::r)=.ok d:=rfl
def y5j(i:Nat)(d:Option D)(r:DE):a6 (i+1) (d::r)=a6 i r:=rfl
def y2d(g:Int->Int->D)(i j:Int):dI g (.int i) (.int j)=some (g i j):=rfl
def Hw(C:Int->Int->Prop)[∀i j,Decidable (C i j)](g:Int->Int->D)(i j:Int):dIC C g (.int i) (.int j)=if C i j then some (g i j) else none:=rfl
def y2e(b:Bool):asB (.bl b)=some b:=rfl
def zp4(b:Bool):l6 (.bl b)=some b:=rfl
def Bb(i j:Int):(i==j)=decide (i=j):=by rw[DA];simp
def zxc(i j:Int):dEq (.int i) (.int j)=some (.bl (decide (i=j))):=by unfold dEq;rw[ξ (by simp[D.pl,D.dep])];simp only[eqD,Bb]
def zxd(i j:Int):dNe (.int i) (.int j)=some (.bl (!decide (i=j))):=by unfold dNe;rw[ξ (by simp[D.pl,D.dep])];simp only[eqD,Bb]
def xX(a b c e:Int):dEq (.tup [.int a,.int b]) (.tup [.int c,.int e])=some (.bl (decide (a=c)&&decide (b=e))):=by unfold dEq;rw[ξ (by simp[D.pl,D.dep,pls,i7])];simp only[eqD,k8,Bb,FH]
def zxe(a b c e:Int):dNe (.tup [.int a,.int b]) (.tup [.int c,.int e])=some (.bl (!(decide (a=c)&&decide (b=e)))):=by unfold dNe;rw[ξ (by simp[D.pl,D.dep,pls,i7])];simp only[eqD,k8,Bb,FH]
def Jh(a:D)(r:List D):dIx (.tup (a::r)) (.int 0)=some a:=by simp only[dIx,dOr,D3,y50]
def xW(a b:D)(r:List D):dIx (.tup (a::b::r)) (.int 1)=some b:=by simp only[dIx,dOr,D3,y51]
def Sx{ds:List D}{j:Nat}{d:D}(h:ds[j]?=some d):dIx (.lst ds) (.int (j:Int))=some d:=by simp only[dIx,dOr,D3,Kp h]
def xV(ns:List D):t8 [.lst ns]=some (.int ns.length):=rfl
def zxf(ns:List D):t8 [.tup ns]=some (.int ns.length):=rfl
def y2f(b c:Bool):(if b=true then R.ok true else R.ok c)=R.ok (b||c):=by cases b<;>rfl
def zxg(b c:Bool):(if b=true then R.ok c else R.ok false)=R.ok (b&&c):=by cases b<;>rfl
def zxh(b c:Bool):(if b=true then R.ok (D.bl true) else R.ok (D.bl c))=R.ok (D.bl (b||c)):=by cases b<;>rfl
def zsi(b c:Bool):(if b=true then R.ok (D.bl c) else R.ok (D.bl false))=R.ok (D.bl (b&&c)):=by cases b<;>rfl
def zxi(i:Int):n9 "int" (.int i)=some (.bl true):=by simp[n9,D8,I0,G7]
def zxj(i:Int):n9 "bool" (.int i)=some (.bl false):=by simp[n9,D8,I0,G7]
def zxk(ds:List D):n9 "tuple" (.tup ds)=some (.bl true):=by simp[n9,D8,I0,G7]
def zxl(ds:List D):n9 "list" (.lst ds)=some (.bl true):=by simp[n9,D8,I0,G7]
noncomputable def SR.itr(r:SR)(k:DS->SR):SR:=match r with
 | .nx aA=>k aA
 | .ct aA=>k aA
 | .bk aA=>.nx aA
 | .rt d=>.rt d
 | .er x=>.er x
 | .st=>.st
def Vb(ρ:DS)(k:DS->SR):(SR.nx ρ).itr k=k ρ:=rfl
def E7{bn:D->Option (List D)}{f:DE->R D}{cs:DE}{α:Type}{en:α->D}{bs:α->List D}{g:α->D}(xs:List α)(hb:∀x∈xs,bn (en x)=some (bs x))(hf:∀x∈xs,f ((bs x).map some++cs)=.ok (g x)):E2 bn k7 f cs (xs.map en)=.ok (xs.map g):=by
 induction xs with
 |nil=>rfl
 |cons x xs ih=>
  simp only[dg,E2,hb x (by simp),k7,R.of_some,R.bind_ok,Jj,CI,hf x (by simp),ih (fun y hy=>hb y (by simp[hy])) (fun y hy=>hf y (by simp[hy]))]
def Bq{bn:D->Option (List D)}{t:DE->R Bool}{f:DE->R D}{cs:DE}{α:Type}{en:α->D}{bs:α->List D}{p:α->Bool}{g:α->D}(xs:List α)(hb:∀x∈xs,bn (en x)=some (bs x))(ht:∀x∈xs,t ((bs x).map some++cs)=.ok (p x))(hf:∀x∈xs,p x=true->f ((bs x).map some++cs)=.ok (g x)):E2 bn t f cs (xs.map en)=.ok ((xs.filter p).map g):=by
 induction xs with
 |nil=>rfl
 |cons x xs ih=>
  have sQ:=ih (fun y hy=>hb y (by simp[hy])) (fun y hy=>ht y (by simp[hy])) (fun y hy=>hf y (by simp[hy]))
  simp only[dg,E2,hb x (by simp),ht x (by simp),R.of_some,R.bind_ok,Jj,sQ]
  cases e:p x with
  |true=>simp only[CI,hf x (by simp) e,Jj,R.bind_ok,List.filter_cons,e,dg]
  |false=>simp only[BC,CT,List.filter_cons,e]
def Ec{tg:Tg}{g:DS->SR}{α:Type}{en:α->D}(P:List α->DS->Prop)(xs:List α)(ρ:DS)(h0:P xs ρ)(hs:∀x r ρ,P (x::r) ρ->∃bV aA,R1 tg (en x) ρ=some bV/\(g bV=.nx aA\/g bV=.ct aA)/\P r aA):∃ρ',D4 tg g (xs.map en) ρ=.nx ρ'/\P [] ρ':=by
 induction xs generalizing ρ with
 |nil=>exact⟨ρ,rfl,h0⟩
 |cons x r ih=>
  obtain⟨bV,aA,e1,e2,q⟩:=hs x r ρ h0
  obtain⟨ρ',e',p'⟩:=ih aA q
  refine⟨ρ',?_,p'⟩
  rcases e2 with e2 |e2<;>simp only[dg,D4,e1,e2,e']
noncomputable def L(ns:List Int):D:=.lst (ns.map .int)
def C7(f:α->D)(xs:List α)(h:∀x∈xs,(f x).noL=true):j4 (xs.map f)=true:=by
 induction xs with
 |nil=>simp only[CB,j4]
 |cons a r ih=>simp only[dg,j4,h a (by simp),ih fun x hx=>h x (by simp[hx]),GU]
def zxm(ns:List Int):keeps true (L ns)=true:=by unfold L;rw[Eg];exact C7 _ _ fun x _=>Bf x
def y2g(ns:List Int):t8 [L ns]=some (.int ns.length):=by unfold L;rw[xV,bI]
def zxn(ns:List Int):L8 [L ns]=some (L ns):=rfl
def zsj(ns:List Int):items (L ns)=some (ns.map .int):=rfl
def Of(h0:0<=x)(h1:x.toNat<ns.length):dIx (L ns) (.int x)=some (.int (ns.getD x.toNat 0)):=by
 have e:(ns.map D.int)[x.toNat]?=some (.int (ns.getD x.toNat 0)):=by rw[BF,AO h1,gc,AO h1];rfl
 have:=Sx e;rwa [show((x.toNat:Nat):Int)=x by lia]at this
def jJ{ns:List Int}{k:Nat}(h1:k<ns.length):dIx (L ns) (.int (k:Int))=some (.int (ns.getD k 0)):=Of (x:=(k:Int)) (by lia) (by simpa using h1)
def Pv(h:ns.length<100000):D1 (L ns) [.int x]=some (L (ns++[x])):=by simp only[L,D1,bI,h,CI,BG,dg,CB]
def qR{n:Nat}{x:Int}(h0:0<=x)(h1:x<n):ixN n x=some x.toNat:=by unfold ixN;rw[ξ h0,ξ h1]
def map_set(f:α->β)(xs:List α)(j:Nat)(a:α):(xs.map f).set j (f a)=(xs.set j a).map f:=by rw[List.map_set]
def Pu(h0:0<=x)(h1:x<ns.length):K4 (L ns) (.int x) (.int y)=some (L (ns.set x.toNat y)):=by simp only[L,K4,bI,qR h0 h1,BL,map_set]
def y2i(h0:0<=x)(h1:x<=ns.length)(h:ns.length<100000):Z4 (L ns) [.int x,.int y]=some (L (ns.take x.toNat++y::ns.drop x.toNat)):=by simp only[L,Z4,bI];rw[ξ (by refine⟨by lia,?_,h⟩;have:ns.length<2 ^ 63:=(by lia);lia)];congr 2;simp only[y6,Z5,bI,ψ (show ¬x<0 by lia),BG,List.map_take,dg,List.map_drop];rw[FJ (by lia)]
def zxr(ns:List Int)(lo hi:Option Int):dSl (.scr ns) lo hi=some (L (D2 ns lo hi)):=rfl
def qQ(ns:List Int):O3 [L ns]=some (.int ns.sum):=by simp only[L,O3,Ek,BL]
def any_map(xs:List α)(f:α->Bool):K5 [.lst (xs.map fun x=>D.bl (f x))]=some (.bl (xs.any f)):=by
 have:xs.map (fun x=>D.bl (f x))=(xs.map f).map D.bl:=by rw[BI];rfl
 rw[this];simp only[K5,Zh,BL,List.any_map];rfl
def Le{tg:Tg}{g:DS->SR}(n:Nat)(en:Nat->D)(P:Nat->DS->Prop)(ρ:DS)(h0:P 0 ρ)
  (hs:∀i,i<n->∀ρ,P i ρ->∃bV aA,R1 tg (en i) ρ=some bV/\(g bV=.nx aA\/g bV=.ct aA)/\P (i+1) aA) :
  ∃ρ',D4 tg g ((List.range n).map en) ρ=.nx ρ'/\P n ρ':=by
 have key:∀k s ρ,s+k=n->P s ρ->∃ρ',D4 tg g ((List.range' s k).map en) ρ=.nx ρ'/\P n ρ':=by
  intro k;induction k with
  |zero=>intro s ρ e h;exact⟨ρ,rfl,by rwa [<-e]⟩
  |succ k ih=>
   intro s ρ e h
   obtain⟨bV,aA,e1,e2,q⟩:=hs s (by lia) ρ h
   obtain⟨ρ',e',p'⟩:=ih (s+1) aA (by lia) q
   refine⟨ρ',?_,p'⟩
   rw[List.range'_succ,dg]
   rcases e2 with e2 |e2<;>simp only[D4,e1,e2,e']
 rw[List.range_eq_range']
 exact key n 0 ρ (by lia) h0
def Wu(n:Nat)(g:Nat->D):((zD 0 ((List.range n).map g).length).zip ((List.range n).map g)).map (fun p=>D.tup [p.1,p.2])=(List.range n).map fun (i:Nat)=>D.tup [.int (i:Int),g i]:=by
 simp only[zD,bI,FP];have:∀(l:List Nat),((l.map fun (i:Nat)=>D.int (0+i)).zip (l.map g)).map (fun p=>D.tup [p.1,p.2])=l.map fun (i:Nat)=>D.tup [.int (i:Int),g i]:=fun l=>by
  induction l with
  |nil=>rfl
  |cons a r ih=>simp only[Int.zero_add]at ih⊢;simp only[dg,AX,ih]
 exact this _
def Sw(xs:List α)(d:α):xs=(List.range xs.length).map fun i=>xs.getD i d:=by
 apply List.ext_getElem?;intro i;by_cases h:i<xs.length
 . rw[BF,List.getElem?_range h,BL,gc,AO h];rfl
 . rw[DG (by lia),DG (by simp;lia)]
def y2j(ns:List Int):isT "list" (L ns)=true:=by simp only[L,isT,beq_self_eq_true]
def zxt(m:List Bool)(ρ:DS):l7 false m ρ=frz m ρ:=rfl
def y2k(ρ:DS):frz [] ρ=ρ:=by cases ρ<;>rfl
def y2l(m:List Bool):frz m []=[]:=by cases m<;>rfl
def y2m(b:Bool)(m:List Bool)(s:Sl)(r:DS):frz (b::m) (s::r)=s.frz b::frz m r:=rfl
def zxu(b:Bool)(d:D):Sl.frz b (.im d)=.im d:=rfl
def zsk(d:D):Sl.frz false (.ow d)=.ow d:=rfl
def y2n(h:-(2 ^ 64)<i/\i<2 ^ 64):Fg (.int i) (.int j)=some (.int (i * j)):=by unfold Fg;rw[Hw,ξ (show CMul i j from Or.inl h)]
def L7(h:0<j):x9 (.int i) (.int j)=some (.int (i % j)):=by unfold x9;rw[Hw,ξ h]
def Gg(h:0<j/\j<1073741824):Q7 (.int i) (.int j)=some (.int (i / j)):=by unfold Q7;rw[Hw,ξ (show Q9 i j from h)]
def wX(hi:-100000<=i/\i<=100000)(hj:-100000<=j/\j<=100000):-(2 ^ 62)<=i/\i<2 ^ 62/\-(2 ^ 62)<=j/\j<2 ^ 62:=by lia
def wW(hj:-100000<=j/\j<=100000):-(2 ^ 62)<=j/\j<2 ^ 62:=by lia
def y2o(i j:Int)(hi:-100000<=i/\i<=100000)(hj:-100000<=j/\j<=100000)(h:fs ρ=.ok [.int i,.int j]):Z6 fs ρ=.ok (zD i (j - i).toNat):=by unfold Z6;rw[h,R.bind_ok];show R.of (if _ then _ else _)=_;rw[ξ (wX hi hj)];rfl
def Pt(j:Int)(hj:-100000<=j/\j<=100000)(h:fs ρ=.ok [.int j]):U6 fs ρ=.ok (zD 0 j.toNat):=by unfold U6;rw[h,R.bind_ok];show R.of (if _ then _ else _)=_;rw[ξ (wW hj)];rfl
def zso(ds:List D):items (.lst ds)=some ds:=rfl
def zsp(ds:List D):items (.tup ds)=some ds:=rfl
noncomputable def T2(p:Int×Int):D:=.tup [.int p.1,.int p.2]
noncomputable def T3(p:Int×Int×Int):D:=.tup [.int p.1,.int p.2.1,.int p.2.2]
def Md(h:ois l'=true)(p:l.Perm l'):u8 l=u8 l':=
 X9 (Ed ((Q4 l).trans p) h) (((Q4 l).trans p).trans (Q4 l').symm) (Q3 (Ed p h)) (Q3 h)
noncomputable def U4{α:Type}(lt:α->α->Bool)(d:α):List α->List α
 | []=>[d]
 |e::r=>if lt e d=true then e::U4 lt d r else d::e::r
def L5{α:Type}(lt:α->α->Bool):List α->List α
 | []=>[]
 |d::r=>U4 lt d (L5 lt r)
section
variable {α:Type}(f:α->D)
theorem Wt(d:α):∀l:List α,K3 (f d) (l.map f)=(U4 (fun a b=>ltT (f a) (f b)) d l).map f
 | []=>rfl
 |e::r=>by
  simp only[dg,K3,U4];split
  . rw[dg,Wt d r]
  . rfl
theorem Bp:∀l:List α,u8 (l.map f)=(L5 (fun a b=>ltT (f a) (f b)) l).map f
 | []=>rfl
 |d::r=>by simp only[dg,u8,L5,Bp r,Wt]
variable (lt:α->α->Bool)
theorem Xr(d:α):∀l:List α,(U4 lt d l).Perm (d::l)
 | []=>.refl _
 |e::r=>by
  unfold U4;split
  . exact((Xr d r).cons e).trans (.swap d e r)
  . exact .refl _
theorem Bu:∀l:List α,(L5 lt l).Perm l
 | []=>.refl _
 |d::r=>(Xr lt d (L5 lt r)).trans ((Bu r).cons d)
end
def so2(ls:List (Int×Int)):List (Int×Int):=L5 (fun a b=>ltT (T2 a) (T2 b)) ls
def so3(ls:List (Int×Int×Int)):List (Int×Int×Int):=L5 (fun a b=>ltT (T3 a) (T3 b)) ls
def soI(ls:List Int):List Int:=L5 (fun a b=>ltT (.int a) (.int b)) ls
def Dp(ls:List (Int×Int)):u8 (ls.map T2)=(so2 ls).map T2:=Bp _ _
def Ba(ls:List (Int×Int×Int)):u8 (ls.map T3)=(so3 ls).map T3:=Bp _ _
def wV(ls:List Int):u8 (ls.map D.int)=(soI ls).map D.int:=Bp _ _
def C6(ls:List (Int×Int)):(so2 ls).Perm ls:=Bu _ _
def C5(ls:List (Int×Int×Int)):(so3 ls).Perm ls:=Bu _ _
def yC(ls:List Int):(soI ls).Perm ls:=Bu _ _
def R9(xs:List α)(f:α->D)(p:D->Bool)(h:∀x,p (f x)=true):(xs.map f).all p=true:=by rw[CL];intro d hd;obtain⟨x,_,rfl⟩:=AS.mp hd;exact h x
def G0(xs:List α)(f:α->D)(h:∀x,(f x).oi=true):ois (xs.map f)=true:=
 ois_mem.mpr fun d hd=>by obtain⟨x,_,rfl⟩:=AS.mp hd;exact h x
def G3(xs:List α)(f:α->D)(n:Nat)(h:∀x,(f x).dep<=n):i7 (xs.map f)<=n:=by
 induction xs with
 |nil=>simp only[CB,i7,BQ]
 |cons a r ih=>simp only[dg,i7];have:=h a;lia
def pls_of(xs:List α)(f:α->D)(h:∀x,(f x).pl=true):pls (xs.map f)=true:=by
 induction xs with
 |nil=>simp only[CB,pls]
 |cons a r ih=>simp only[dg,pls,h a,ih,GU]
def Gf(p:Int×Int):(T2 p).oi=true:=by simp[T2,D.oi,ois]
def Ad(p:Int×Int×Int):(T3 p).oi=true:=by simp[T3,D.oi,ois]
def jI(p:Int):(D.int p).oi=true:=by simp[D.oi]
def R8(p:Int×Int):(T2 p).dep<=1:=by simp[T2,D.dep,i7]
def qP(p:Int×Int×Int):(T3 p).dep<=1:=by simp[T3,D.dep,i7]
def F6(p:Int×Int):(T2 p).pl=true:=by simp[T2,D.pl,pls]
def X1(p:Int×Int):(T2 p).noL=true:=by simp[T2,D.noL,j4]
def qO(p q:Int×Int):(d7 (T2 p) (T2 q)).isSome=true:=by simp only[T2,d7,k9];repeat (first |rfl |split)
def qN(p q:Int×Int×Int):(d7 (T3 p) (T3 q)).isSome=true:=by simp only[T3,d7,k9];repeat (first |rfl |split)
def y2p(p q:Int):(d7 (.int p) (.int q)).isSome=true:=by simp only[d7];rfl
def Hu(h:T3 p=T3 q):p=q:=by obtain⟨a,b,c⟩:=p;obtain⟨a',b',c'⟩:=q;simp only[T3,D.tup.injEq,List.cons.injEq,D.int.injEq,and_true]at h;simp only[Prod.mk.injEq];exact h
def Sv(h:T2 p=T2 q):p=q:=by obtain⟨a,b⟩:=p;obtain⟨a',b'⟩:=q;simp only[T2,D.tup.injEq,List.cons.injEq,D.int.injEq,and_true]at h;simp only[Prod.mk.injEq];exact h
theorem S8{α β:Type}{f:α->β}(hf:∀x y,f x=f y->x=y):∀{a b:List α},a.map f=b.map f->a=b
 | [],[],_=>rfl
 | [],_::_,h=>by simp at h
 |_::_,[],h=>by simp at h
 |x::a,y::b,h=>by simp only[dg,List.cons.injEq]at h;rw[hf _ _ h.1,S8 hf h.2]
def Ld(p:a.Perm b):so3 a=so3 b:=by have:=Md (G0 b T3 Ad) (p.map T3);rw[Ba,Ba]at this;exact S8 (fun _ _=>Hu) this
def Ws(p:a.Perm b):so2 a=so2 b:=by have:=Md (G0 b T2 Gf) (p.map T2);rw[Dp,Dp]at this;exact S8 (fun _ _=>Sv) this
def Ht(h1:∀y∈ys,y<=m)(h2:m∈ys\/(ys=[]/\d=m)):mxD d ys=m:=by
 cases ys with
 |nil=>
  rcases h2 with h2 |h2
  . cases h2
  . exact h2.2
 |cons n ns=>
  rcases h2 with h2 |h2
  . obtain⟨a,b⟩:=Ka ns n;exact Int.le_antisymm (h1 _ a) (b _ h2)
  . cases h2.1
def y2q(ds:List D):isT "list" (.lst ds)=true:=by simp only[isT,beq_self_eq_true]
def y2r(b:Bool):U7 [.bl b]=some (.int (if b then 1 else 0)):=rfl
def zxz(ds:List D):L8 [.tup ds]=some (.lst ds):=rfl
def zy0(ds:List D):L8 [.lst ds]=some (.lst ds):=rfl
def zss(ds:List D):J4 [.lst ds]=some (.tup ds):=rfl
def zn9(ls:List (Int×Int)):j4 (ls.map T2)=true:=C7 _ _ fun x _=>X1 x
def Su(h:ls.length<100000):D1 (.lst (ls.map T2)) [.tup [.int a,.int b]]=some (.lst ((ls++[(a,b)]).map T2)):=by simp only[D1,bI,h,CI,BG,dg,CB];rfl
def yB(hp:d.pl=true)(hd:d.dep<=20):dNe d d=some (.bl false):=by unfold dNe;rw[ξ ⟨hp,hp,hd⟩,Bm d hp];rfl
def Ss(ls:List (Int×Int)):(D.lst (ls.map T2)).pl=true/\(D.lst (ls.map T2)).dep<=20:=by have:=G3 ls T2 1 R8;simp only[D.pl,D.dep,pls_of ls T2 F6,true_and];lia
def Hs(p q:Int×Int):eqD (T2 p) (T2 q)=decide (p=q):=by obtain⟨a,b⟩:=p;obtain⟨c,d⟩:=q;simp only[T2,eqD,k8,Bb,FH,Prod.mk.injEq,Bool.decide_and]
def Hr(p:Int×Int)(ls:List (Int×Int)):dIn false (T2 p) (.tup (ls.map T2))=some (.bl (decide (p∈ls))):=by
 have h1:=G3 ls T2 1 R8;have e:(ls.map T2).any (fun e=>eqD e (T2 p))=decide (p∈ls):=by
  rw[List.any_map,DA,List.any_eq_true,AR];constructor
  . rintro⟨x,hx,h⟩;simp only[Function.comp,Hs,AR]at h;rw[<-h];exact hx
  . intro h;exact⟨p,h,by simp only[Function.comp,Hs,FK]⟩
 unfold dIn dOr O4;simp only[F6,pls_of ls T2 F6,true_and,ξ (show i7 (ls.map T2)<=20 by lia),e,BC,CT]
def y2s(t:Int×Int):dIx (T2 t) (.int 0)=some (.int t.1):=Jh _ _
def znb(t:Int×Int×Int):items (T3 t)=some [.int t.1,.int t.2.1,.int t.2.2]:=rfl
def cat_T2(a b:List (Int×Int))(h:a.length+b.length<=100000):B7 (.lst (a.map T2)) (.lst (b.map T2))=some (.lst ((a++b).map T2)):=by simp only[B7,bI,h,CI,BG]
mutual
noncomputable def nkD:D->Option NK
 | .int n=>some (.i n)
 | .tup ds=>(O0 ds).map .t
 |_=>none
noncomputable def O0:List D->Option (List NK)
 | []=>some []
 |d::ds=>match nkD d,O0 ds with
  |some k,some ks=>some (k::ks)
  |_,_=>none
end
mutual
theorem Hq{K:Frag}{H:Hp}:∀{d:D}{k:NK}{x:V},nkD d=some k->RD K H d x->NKr H k x
 | .int n,k,x,e,r=>by simp only[nkD,Option.some.injEq]at e;subst e;cases r.int;simp only[NKr]
 | .tup ds,k,x,e,r=>by simp only[nkD,EJ]at e;obtain⟨ks,e,rfl⟩:=e;obtain⟨a,xs,rfl,ha,ra⟩:=r.tup;simp only[NKr];exact⟨a,xs,rfl,ha,Va e ra⟩
 | .non,_,_,e,_=>by simp[nkD]at e
 | .bl _,_,_,e,_=>by simp[nkD]at e
 | .str _,_,_,e,_=>by simp[nkD]at e
 | .lst _,_,_,e,_=>by simp[nkD]at e
 | .dk _ _,_,_,e,_=>by simp[nkD]at e
 | .dt _ _,_,_,e,_=>by simp[nkD]at e
 | .dn _ _,_,_,e,_=>by simp[nkD]at e
 | .scr _,_,_,e,_=>by simp[nkD]at e
 | .exc _ _,_,_,e,_=>by simp[nkD]at e
theorem Va{K:Frag}{H:Hp}:∀{ds:List D}{ks:List NK}{xs:List V},O0 ds=some ks->RDs K H ds xs->NKrs H ks xs
 | [],ks,xs,e,r=>by simp only[O0,Option.some.injEq]at e;subst e;simp only[RDs]at r;subst r;simp only[NKrs]
 |d::ds,ks,xs,e,r=>by
  simp only[RDs]at r;obtain⟨x,r,rfl,r1,r2⟩:=r;simp only[O0]at e;split at e
  . rename_i k sR e1 e2;cases e;simp only[NKrs];exact⟨x,_,rfl,Hq e1 r1,Va e2 r2⟩
  . cases e
end
noncomputable def putQ(qs:List (NK×Addr))(k:NK)(b:Addr):List (NK×Addr):=if k∈qs.map (·.1) then qs else qs++[(k,b)]
noncomputable def z3(qs:List (NK×Addr))(vs:List Value):List (NK×Addr×Value):=(qs.zip vs).map fun q=>(q.1.1,q.1.2,q.2)
theorem Ho:∀(qs:List (NK×Addr))(vs:List Value),qs.length=vs.length->(z3 qs vs).map (·.1)=qs.map (·.1)
 | [],_,_=>rfl
 |q::qs,[],h=>by simp at h
 |q::qs,v::vs,h=>by have:=Ho qs vs (by simpa using h);simp only[z3,AX,dg]at this⊢;rw[this]
def Sr(qs:List (NK×Addr))(vs:List Value)(h:qs.length=vs.length):(z3 qs vs).length=qs.length:=by simp only[z3,bI,BW];lia
def wU(xs:List (NK×Addr×α))(k:NK):((xs.find? fun x=>decide (x.1=k)).map (·.2)).isSome=decide (k∈xs.map (·.1)):=by
 rw[GN,DA,List.find?_isSome,AR,AS];constructor
 . rintro⟨x,hx,e⟩;exact⟨x,hx,by simpa using e⟩
 . rintro⟨x,hx,e⟩;exact⟨x,hx,by simpa using e⟩
def qM(qs:List (NK×Addr))(vs:List Value)(h:qs.length=vs.length)(k:NK)(b:Addr)(u:Value):storedH (z3 qs vs) k b u=z3 (putQ qs k b) (o8 (qs.map (·.1)) vs k u)/\(putQ qs k b).length=(o8 (qs.map (·.1)) vs k u).length:=by
 unfold storedH putQ o8;have e:=wU (z3 qs vs) k;rw[Ho qs vs h]at e;rw[show(atKey (z3 qs vs) k).isSome=decide (k∈qs.map (·.1)) from e];by_cases hk:k∈qs.map (·.1)
 . rw[ξ (decide_eq_true hk),ξ hk,ξ hk];have go:∀(qs:List (NK×Addr))(vs:List Value),qs.length=vs.length->(z3 qs vs).map (putAt k u)=z3 qs (List.zipWith (fun k' d'=>if k'=k then u else d') (qs.map (·.1)) vs)/\qs.length=(List.zipWith (fun k' d'=>if k'=k then u else d') (qs.map (·.1)) vs).length:=by
    intro qs;induction qs with
    |nil=>intro vs _;exact⟨rfl,rfl⟩
    |cons q qs ih=>
     intro vs h
     cases vs with
     |nil=>simp at h
     |cons v vs=>
      obtain⟨i1,i2⟩:=ih vs (by simpa using h)
      simp only[z3,AX,dg,DT,io]at i1 i2⊢
      refine⟨?_,by lia⟩
      rw[i1]
      congr 1
      unfold putAt
      by_cases z:q.1=k
      . simp only[ξ z]
      . simp only[ψ z]
   exact go qs vs h
 . rw[ψ (by simpa using hk),ψ hk,ψ hk];refine⟨?_,by simp;lia⟩;unfold z3;rw[List.zip_append h,BG];rfl
section
variable {X:Cx}{pins:List (Addr×Obj)}{U:St}{H:Hp}{s:Shared}
def zH{ks:List NK}{k:NK}{v:V}{u:Value}(ru:RelV v u){xs:List V}{vs:List Value}(r:Vals xs vs):Vals (o8 ks xs k v) (o8 ks vs k u):=by
 unfold o8;split
 . have go:∀(ks:List NK)(xs:List V)(vs:List Value),Vals xs vs->Vals (List.zipWith (fun k' d'=>if k'=k then v else d') ks xs) (List.zipWith (fun k' d'=>if k'=k then u else d') ks vs):=by
    intro ks
    induction ks with
    |nil=>intro xs vs _;exact .nil
    |cons k' ks ih=>
     intro xs vs r
     cases r with
     |nil=>exact .nil
     |cons a1 a2=>
      simp only[DT]
      refine .cons ?_ (ih _ _ a2)
      split
      . exact ru
      . exact a1
   exact go ks xs vs r
 . exact r.append (.cons ru .nil)
def Jz(I:Inv X pins U H s)(e:H a=some (.ext (dnP a qs xs ob)))(n:DN H a qs):s.heap.get? a=some ob/\∃vs,Vals xs vs/\qs.length=vs.length/\Heap.DictOfH (deepKind X.prog X.w) s.heap a (z3 qs vs):=by obtain⟨p,_,_⟩:=(show ObjOk X.prog X.w H s.heap a (.ext (dnP a qs xs ob)) from I.hok a _ e);obtain⟨p3,vs,es,ep,p1,p2,p4,p5,p6⟩:=p;refine⟨p3,vs,p1,p2,ob,es,ep,p3,p4,p5,p6,fun x hx=>?_,by rw[Ho qs vs p2];exact n.1⟩;obtain⟨q,hq,rfl⟩:=AS.mp hx;have oH:=(List.of_mem_zip hq).1;exact⟨Cm I (n.2.1 _ oH).1 rfl,(n.2.1 _ oH).2⟩
end
def Ps:V3:=fun o i v H Q=>∃(a:Addr)(qs:List (NK×Addr))(xs:List V)(k:NK)(b:Addr)(ob:Obj),o=.ref a/\i=.ref b/\H a=some (.ext (dnP a qs xs ob))/\DN H a qs/\NKr H k (.ref b)/\k.dep<=8/\qs.length<sizeLine/\∀ml,Q (upd H a (.ext (dnP a (putQ qs k b) (o8 (qs.map (·.1)) xs k v) ml)))
def y2t(hu:X.A.units+64<cLine):Fn X Ps:=by
 intro pins s U H o i v ov iv u Q I ro ri rv h;obtain⟨a,qs,xs,k,b,ob,rfl,rfl,e,n,hk,hd,hl,q⟩:=h;cases ro;cases ri;obtain⟨_,vs,p1,p2,dd⟩:=Jz I e n;have hz:(z3 qs vs).length<=sizeLine:=by rw[Sr qs vs p2];lia
 refine wpAny_setItem_heap (knd:=deepKind X.prog X.w) (hsz:=hz) (by show X.A.units+1+8<cLine;lia) ⟨Cm I hk rfl,hd⟩ dd fun h' eK hs=>?_
 obtain⟨e1,e2⟩:=qM qs vs p2 k b u;rw[e1]at eK;obtain⟨o',es,ep,d1,d2,d3,d4,_⟩:=eK;refine⟨_,?_,q o'⟩;exact Kn I (by rw[e];exact True.intro) hs ⟨o',d1⟩ ⟨⟨d1,_,es,ep,zH rv p1,e2,d2,d3,d4⟩,⟨o',d1⟩,dnP.stay⟩
def dSetN:D->D->D->Option D
 | .dn ks ds,.tup es,v=>match nkD (.tup es) with
  |some k=>if ks.length<100000/\k.dep<=8 then some (.dn (F7 ks k) (o8 ks ds k v)) else none
  |none=>none
 |_,_,_=>none
def wT{K:Frag}:Om K dSetN Ps:=by
 intro H0 H a d d' dk dv y v Q s h0 ob rk rv hm k;cases d<;>simp only[dSetN]at hm<;>first |cases hm |skip
 cases dk<;>simp only[dSetN]at hm<;>first |cases hm |skip
 rename_i ks ds es;split at hm
 . rename_i kk fy;split at hm
   . rename_i hl;cases hm;simp only[OB]at ob;obtain⟨qs,xs,sS,hx,hk,n,rx⟩:=ob;have sT:=rk;obtain⟨b,ys,rfl,hb,rb⟩:=rk.tup;have nk:=Hq fy sT;have ag:qs.length=ks.length:=by rw[<-hk,bI]
     have mono:∀a ys,H0 a=some (.tup ys)->H a=some (.tup ys):=fun c ys q=>s _ _ q
     refine⟨a,qs,xs,kk,b,sS,rfl,rfl,hx,n.tk mono,NKr.mono mono nk,hl.2,by rw[ag];exact S9 hl.1,fun ml=>k _ ?_⟩;simp only[OB];refine⟨_,_,ml,l4,?_,?_,by rw[hk];exact Kd kk rv rx⟩
     . unfold putQ F7;rw[hk];split
       . exact hk
       . rw[BG,hk];rfl
     . obtain⟨n1,n2,n3,n4⟩:=n;unfold putQ;split
       . exact⟨n1,n2,n3,n4⟩
       . rename_i hn;refine⟨?_,fun q hq=>?_,n3,?_⟩
         . rw[BG,dg,CB];exact List.nodup_append.mpr ⟨n1,by simp,fun x hx y hy e=>hn (by rw[AV.mp hy]at e;have e':x=kk:=e;rw[<-e'];exact hx)⟩
         . rcases AQ.mp hq with z |z
           . exact n2 q z
           . rw[AV.mp z];exact⟨nk,hl.2⟩
         . have:=S9 hl.1;rw[θ,EQ];lia
   . cases hm
 . cases hm
section
variable {X:Cx}{EX:XW}{fr:Bool}{m:List Bool}{pos:Pos}{e:Expr}{fk fv:DE->R D}
def qK(hu:X.A.units+64<cLine)(ho:PE X o (D5 i))(hk:QE X EX false ix fk)(hv:QE X EX false e fv)
 (ha:∀v,assign (.Subscript o ix aq) X.env v=(do
  let ov <-holding [v] (eval o X.env)
  let iv <-holding [v,ov] (eval ix X.env)
  standAt aq
  holding [v,ov,iv] (setItem ov iv v)
  release [v,ov,iv] []):=by intro _;rfl) (hs:swapsWithSole [.Subscript o ix aq] e pos.line X.env=pure false:=by rfl) (hw:swappedStores [.Subscript o ix aq] e X.env=pure none:=by rfl)
 (h1:(assignEach [.Subscript o ix aq] X.env).map (·.2)=[assign (.Subscript o ix aq) X.env]:=by rfl):QS X EX fr (.Assign [.Subscript o ix aq] e pos) (R4 dSetN i m fk fv):=⟨(Jg hv.h (Tv ho hk.h (y2t hu) ha) hs hw h1).imp fun _ _ _ q=>Qd wT q⟩
noncomputable def Cj:DE->R D:=fun _=>.ok (.dn [] [])
def pe_dnewN:PE X (.Dict [] [] pos) (fun _ H Q=>∀p ob,H p=none->(p==sysModules)=false->Q (.ref p) (upd H p (.ext (dnP p [] [] ob)))):=fun pins s U H Q I h=>
 wpAny_Dict_empty ⟨.ref s.heap.objs.size,_,I.laid (a:=s.heap.objs.size) (o:=.ext (dnP s.heap.objs.size [] [] { cls:=.type "dict",data:=.dict #[] })) (t':=s.toks) (fun _ _ q=>Ψ _ q) (ζ _) ⟨⟨Ξ _ rfl,[],#[],0,.nil,rfl,⟨rfl,rfl,rfl⟩,rfl,rfl⟩,⟨_,Ξ _ rfl⟩,dnP.stay⟩,rfl,h _ _ (I.hok.fresh (ζ _)) (beq_eq_false_iff_ne.mpr (DR (BB I.big)))⟩
def qJ:QE X EX true (.Dict [] [] pos) Cj:=⟨pe_dnewN.imp fun U H Q ⟨sx,ρ,H0,s,e,h⟩ p ob hp hq=>h _ _ (.new s hp fun H' hH=>by simp only[OB];exact⟨[],[],ob,hH,rfl,⟨List.nodup_nil,fun q hq=>(by simp at hq),hq,BQ _⟩,.nil⟩)⟩
end
section
open PySem.SeqAt
open PySem.AutoSeq1 (wpAny_loadPart')
open PySem.MeetsSeq PySem.MeetsSeq2 PySem.MeetsSeq3
end
noncomputable def TuI(ns:List Int):D:=.tup (ns.map .int)
end L2
namespace L2
open PySem PySem.Spec PyProof.Rows
section
variable {X:Cx}
noncomputable def W0:D->D->Option D
 | .tup ds,.tup es=>if ds.length+es.length<=100000 then some (.tup (ds++es)) else none
 |_,_=>none
def Pr(K:Frag):R2:=fun x y H Q=>∃a b xs ys,x=.ref a/\y=.ref b/\SqT K H a xs/\SqT K H b ys/\xs.length+ys.length<=sizeLine /\
 (xs=[]->Q (.ref b) H)/\(xs≠[]->ys=[]->Q (.ref a) H)/\(xs≠[]->ys≠[]->∀p,H p=none->Q (.ref p) (upd H p (.tup (xs++ys))))
def wS:OpR X (binaryOp .Add) (Pr X.K):=by
 intro pins s U H x y v u Q I rx ry h;obtain⟨a,b,xs,ys,rfl,rfl,ha,hb,hz,q0,q1,q2⟩:=h;by_cases hx:xs=[]
 . cases rx;cases ry;obtain⟨its,r1,p1,_⟩:=I.tuple ha;obtain⟨ao,r2,p2,_⟩:=I.tuple hb;obtain⟨⟨cls,dd,data,sl⟩,ho,hc,n,hd⟩:=id p1;obtain⟨⟨iE,dm,data2,cK⟩,bS,cQ,n2,cg⟩:=id p2;simp only at hc hd cQ cg;subst hc hd cQ cg;have he:its=[]:=r1.nil_iff.mpr hx;exact concat_meets ⟨_,ho,rfl⟩ ⟨_,bS,rfl⟩ noFill_tuple_add seq_tuple_add PySem.F.slot_tuple_add PySem.F.entry_tuple_add (GR _ _)
    (tuple_addW0 a b its.toArray ao.toArray n n2 dd dm sl cK (by simp[he])) ⟨ho,bS,⟨.ref b,H,I,rfl,q0 hx⟩⟩
 . exact xN pins s U H _ _ v u Q I rx ry ⟨a,b,xs,ys,rfl,rfl,ha,hb,hx,hz,q1 hx,q2 hx⟩
def wR{K:Frag}:OpD K false W0 (Pr K):=by
 intro H0 H x y d e z Q s rx ry ho k;cases d<;>simp only[W0]at ho<;>first |cases ho |skip
 cases e<;>simp only[W0]at ho<;>first |cases ho |skip
 rename_i ds es;split at ho<;>cases ho;rename_i hl;obtain⟨a,xs,rfl,ha,ra⟩:=rx.tup;obtain⟨b,ys,rfl,hb,rb⟩:=ry.tup;refine⟨a,b,xs,ys,rfl,rfl,.of (s _ _ ha),.of (s _ _ hb),by rw[<-ra.length,<-rb.length];exact U8 hl,fun e=>?_,fun _ e=>?_,fun _ _ p hp=>?_⟩
 . have:ds=[]:=by have:=ra.length;rw[e]at this;exact EI this
   subst this;refine k _ _ (.pure s ?_);simp only[RD,EM];exact⟨b,ys,rfl,hb,rb⟩
 . have:es=[]:=by have:=rb.length;rw[e]at this;exact EI this
   subst this;refine k _ _ (.pure s ?_);simp only[RD,DZ];exact⟨a,xs,rfl,ha,ra⟩
 . refine k _ _ (.val (Same.upd_new hp) (.new s hp) ?_);simp only[RD];have s0:Same H0 (upd H0 p (.tup (xs++ys))):=Same.upd_new (s.none hp);exact⟨p,xs++ys,rfl,l4,(ra.append rb).mono s0⟩
end
def y2u(T:String)(mt:D->List D->Option D)(i:Nat)(m:List Bool)(f:DE->R D):DS->SR:=fun ρ=>match ρ[i]? with
 |some (.ow d0)=>if isT T d0=true then(f (vis m ρ)).toS fun d=>match (l7 (keeps true d) m ρ)[i]? with
  |some (.ow dx)=>(R.of (mt dx [d])).toS fun d'=>.nx ((l7 (keeps true d) m ρ).set i (.ow d'))
  |_=>.st
  else .st
 |_=>.st
noncomputable def r9(es:Array DictEntry)(ep:Nat):Obj:={ cls:=.type "dict",data:=.dict es ep }
section
open PySem.SeqAt
open PySem.AutoSeq1 (wpAny_loadPart')
end
mutual
noncomputable def y4:NK->D
 | .i n=>.int n
 | .t ks=>.tup (P6 ks)
noncomputable def P6:List NK->List D
 | []=>[]
 |k::ks=>y4 k::P6 ks
end
mutual
theorem Pq{K:Frag}{H:Hp}:∀{k:NK}{x:V},NKr H k x->RD K H (y4 k) x
 | .i n,x,h=>by simp only[NKr]at h;subst h;simp only[y4,RD]
 | .t ks,x,h=>by simp only[NKr]at h;obtain⟨a,xs,rfl,ha,hs⟩:=h;simp only[y4,RD];exact⟨a,xs,rfl,ha,Sq hs⟩
theorem Sq{K:Frag}{H:Hp}:∀{ks:List NK}{xs:List V},NKrs H ks xs->RDs K H (P6 ks) xs
 | [],xs,h=>by simp only[NKrs]at h;subst h;simp only[P6,RDs]
 |k::ks,xs,h=>by simp only[NKrs]at h;obtain⟨x,r,rfl,h1,h2⟩:=h;simp only[P6,RDs];exact⟨x,r,rfl,Pq h1,Sq h2⟩
end
end L2
namespace L2
open PySem PySem.Spec PyProof.Rows
noncomputable def l9(TI TO:Addr)(f0:Value):Obj:={ cls:=.type "zip",data:=.fields #[f0,.bool false,.bool false,.ref TI,.ref TO] }
noncomputable def d6(a b:Value):Obj:={ cls:=.type "tuple",data:=.seq #[a,b] }
noncomputable def m9(l:Addr)(i:Nat):Obj:={ cls:=.type "tuple_iterator",data:=.fields #[.ref l,.int i 0] }
noncomputable def j6(l:Addr)(i:Nat):Obj:={ cls:=.type "list_iterator",data:=.fields #[.ref l,.int i 0] }
abbrev up1(i:Nat):Obj->Obj:=Obj.mapFields (·.setIfInBounds 1 (rawInt ((i:Int)+1)))
def V9(i:Addr)(x:Value)(f:Obj->Obj)(A:Around)(s:Shared):Prop:=∀(prog:Program)(w:World)(E:Value->Shared->Prop)(Q:Value->Shared->Prop),Q x { s with heap:=s.heap.update i f }->wpAny (model prog w) A (Builtin.SmallTypes.nextOf (.ref i)) Q E s
def Ge(i:Addr)(A:Around)(s:Shared):Prop:=∀(prog:Program)(w:World)(E:Value->Shared->Prop)(Q:Value->Shared->Prop),
 (∀h' e,(∀c o,c≠i->s.heap.get? c=some o->h'.get? c=some o)->(∃o,h'.get? e=some o/\o.cls=.type "StopIteration")->E (.ref e) { s with heap:=h' })->wpAny (model prog w) A (Builtin.SmallTypes.nextOf (.ref i)) Q E s
section
open PySem.SeqAt
open PySem.AutoSeq1 (wpAny_loadPart')
def zG(it l:Addr)(items:Array Value)(i n:Nat)(dd:Option Addr)(sl:Array (Option Value))(x:Value)(hx:items[i]?=some x) :
  Meets (Builtin.«tuple_iterator.__next__» ⟨[.ref it],[]⟩) (fun _ R s=>s.heap.get? it=some (m9 l i)/\s.heap.get? l=some { cls:=.type "tuple",dict:=dd,data:=.seq items n,slots:=sl }/\R (.ok (.ret x)) { s with heap:=s.heap.update it (up1 i) }):=
 .of_wp fun prog w A R s h=>by
  obtain⟨hp,g,dr,tk,os⟩:=s;obtain⟨hl,hd,h⟩:=h;unfold m9 at hl;have dB:items[((i:Nat):Int).toNat]?=some x:=by simpa using hx
  wp_walk using pp hl,pp hd
  rw[dB]
  wp_walk using pp hl,pp hd
  exact⟨_,rfl,h⟩
def zF(it l:Addr)(items:Array Value)(i n:Nat)(dd:Option Addr)(sl:Array (Option Value))(x:Value)(hx:items[i]?=some x) :
  Meets (Builtin.«list_iterator.__next__» ⟨[.ref it],[]⟩) (fun _ R s=>s.heap.get? it=some (j6 l i)/\s.heap.get? l=some { cls:=.type "list",dict:=dd,data:=.seq items n,slots:=sl }/\R (.ok (.ret x)) { s with heap:=s.heap.update it (up1 i) }):=
 .of_wp fun prog w A R s h=>by
  obtain⟨hp,g,dr,tk,os⟩:=s;obtain⟨hl,hd,h⟩:=h;unfold j6 at hl;have dB:items[((i:Nat):Int).toNat]?=some x:=by simpa using hx
  wp_walk using pp hl,pp hd
  rw[dB]
  wp_walk using pp hl,pp hd
  exact⟨_,rfl,h⟩
def zE{it l:Addr}{items:Array Value}{i:Nat}{x:Value}{A:Around}{s:Shared}(aV:s.heap.get? it=some (m9 l i))(hl:s.heap.IsTuple l items)(hx:items[i]?=some x):V9 it x (up1 i) A s:=fun prog w E Q q=>by obtain⟨⟨cl,dd,da,sl⟩,ho,hc,n,hd⟩:=hl;simp only at hc hd;subst hc hd;unfold Builtin.SmallTypes.nextOf;exact χ (CV (name:=Str.ofString "__next__") ⟨_,aV,rfl⟩ F.slot_tuple_iterator_next (call_meets F.slot_tuple_iterator_next ⟨_,aV,rfl⟩ F.entry_tuple_iterator_next (F.args_tuple_iterator_next_1 _) (zG it l items i n dd sl x hx) ⟨aV,ho,ω q⟩))
def zC{it l:Addr}{items:Array Value}{i:Nat}{x:Value}{A:Around}{s:Shared}(aV:s.heap.get? it=some (j6 l i))(hl:s.heap.IsList l items)(hx:items[i]?=some x):V9 it x (up1 i) A s:=fun prog w E Q q=>by obtain⟨⟨cl,dd,da,sl⟩,ho,hc,n,hd⟩:=hl;simp only at hc hd;subst hc hd;unfold Builtin.SmallTypes.nextOf;exact χ (CV (name:=Str.ofString "__next__") ⟨_,aV,rfl⟩ slot_listiter_next (call_meets slot_listiter_next ⟨_,aV,rfl⟩ entry_listiter_next (args_listiter_next _) (zF it l items i n dd sl x hx) ⟨aV,ho,ω q⟩))
noncomputable def zH1(hp:Heap)(z:Addr):Heap:=hp.update z (Obj.mapFields (·.setIfInBounds 0 .ellipsis))
def zH4(hp:Heap)(z TO i1 i2:Addr)(x:Value)(f1 f2:Obj->Obj):Heap:=(((zH1 hp z).update i1 f1).update TO (Obj.mapSeq (·.setIfInBounds 0 x))).update i2 f2
def zHF(hp:Heap)(z TO i1 i2:Addr)(x y:Value)(f1 f2:Obj->Obj):Heap:=((((zH4 hp z TO i1 i2 x f1 f2).update TO (Obj.mapSeq (·.setIfInBounds 1 y))).push (d6 x y)).update z (Obj.mapFields (·.setIfInBounds 0 (rawInt hp.objs.size)))).update z (Obj.mapFields (·.setIfInBounds 1 (.bool false)))
def U3(p:Prop):Prop:=p
def zB(z TI TO i1 i2:Addr)(a b x y:Value)(f1 f2:Obj->Obj)(n2:TO≠z)(n3:TO≠i1)(n4:TO≠i2)(n5:i1≠z)(n6:i2≠z) :
  Meets (Builtin.«zip.__next__» ⟨[.ref z],[]⟩) (fun A R s=>s.heap.get? z=some (l9 TI TO .none)/\s.heap.get? TI=some (d6 (.ref i1) (.ref i2))/\s.heap.get? TO=some (d6 a b) /\
   V9 i1 x f1 A.in1 { s with heap:=zH1 s.heap z }/\V9 i2 y f2 A.in1 { s with heap:=((zH1 s.heap z).update i1 f1).update TO (Obj.mapSeq (·.setIfInBounds 0 x)) } /\
   R (.ok (.ret (.ref s.heap.objs.size))) { s with heap:=zHF s.heap z TO i1 i2 x y f1 f2 }):=
 .of_wp fun prog w A R s h=>by
  obtain⟨hp,g,dr,tk,os⟩:=s;obtain⟨hz,bE,bi,g1,g2,h⟩:=h;unfold l9 at hz;unfold d6 at bE bi;have gL:=g1 prog w;have oI:=g2 prog w;simp only[zH1]at gL oI;have mn:∀(E:Value->Shared->Prop)(Q:Value->Shared->Prop),U3 (Q x { heap:=(hp.update z (Obj.mapFields (·.setIfInBounds 0 .ellipsis))).update i1 f1,gens:=g,drawn:=dr,toks:=tk,os:=os })->wpAny (model prog w) A.in1 (Builtin.SmallTypes.nextOf (.ref i1)) Q E { heap:=hp.update z (Obj.mapFields (·.setIfInBounds 0 .ellipsis)),gens:=g,drawn:=dr,toks:=tk,os:=os }:=fun E Q h=>gL E Q h
  wp_walk using wpAny_onRaise,pp hz,pp bE,pp bi,(mn _ _)
  unfold U3;have fQ:((hp.update z (Obj.mapFields (·.setIfInBounds 0 .ellipsis))).update i1 f1).get? TO=some { cls:=.type "tuple",data:=.seq #[a,b] }:=by rw[BH _ _ _ _ n3,BH _ _ _ _ n2];exact bi
  have nA:(((hp.update z (Obj.mapFields (·.setIfInBounds 0 .ellipsis))).update i1 f1).update TO (Obj.mapSeq (·.setIfInBounds 0 x))).get? TO=some { cls:=.type "tuple",data:=.seq #[x,b] }:=by rw[AU _ fQ rfl];rfl
  have sU:∀(E:Value->Shared->Prop)(Q:Value->Shared->Prop),U3 (Q y { heap:=(((hp.update z (Obj.mapFields (·.setIfInBounds 0 .ellipsis))).update i1 f1).update TO (Obj.mapSeq (·.setIfInBounds 0 x))).update i2 f2,gens:=g,drawn:=dr,toks:=tk,os:=os })->wpAny (model prog w) A.in1 (Builtin.SmallTypes.nextOf (.ref i2)) Q E { heap:=((hp.update z (Obj.mapFields (·.setIfInBounds 0 .ellipsis))).update i1 f1).update TO (Obj.mapSeq (·.setIfInBounds 0 x)),gens:=g,drawn:=dr,toks:=tk,os:=os }:=fun E Q h=>oI E Q h
  wp_walk using wpAny_onRaise,(sU _ _),pp (s:={ heap:=(hp.update z (Obj.mapFields (·.setIfInBounds 0 .ellipsis))).update i1 f1,gens:=g,drawn:=dr,toks:=tk,os:=os }) fQ,(GJ (s:={ heap:=(hp.update z (Obj.mapFields (·.setIfInBounds 0 .ellipsis))).update i1 f1,gens:=g,drawn:=dr,toks:=tk,os:=os }) fQ rfl)
  unfold U3;have e4:zH4 hp z TO i1 i2 x f1 f2=((((hp.update z (Obj.mapFields (·.setIfInBounds 0 .ellipsis))).update i1 f1).update TO (Obj.mapSeq (·.setIfInBounds 0 x))).update i2 f2):=rfl;unfold zHF at h;rw[e4]at h;generalize mo:((((hp.update z (Obj.mapFields (·.setIfInBounds 0 .ellipsis))).update i1 f1).update TO (Obj.mapSeq (·.setIfInBounds 0 x))).update i2 f2)=H4 at h;have fR:H4.get? TO=some { cls:=.type "tuple",data:=.seq #[x,b] }:=by rw[<-mo,BH _ _ _ _ n4];exact nA
  have nB:(H4.update TO (Obj.mapSeq (·.setIfInBounds 1 y))).get? TO=some { cls:=.type "tuple",data:=.seq #[x,y] }:=by rw[AU _ fR rfl];rfl
  have AD:(H4.update TO (Obj.mapSeq (·.setIfInBounds 1 y))).get? z=some { cls:=.type "zip",data:=.fields #[.ellipsis,.bool false,.bool false,.ref TI,.ref TO] }:=by rw[BH _ _ _ _ n2.symm,<-mo,BH _ _ _ _ n6.symm,BH _ _ _ _ n2.symm,BH _ _ _ _ n5.symm,AU _ hz rfl];rfl
  wp_walk using pp (s:={ heap:=H4,gens:=g,drawn:=dr,toks:=tk,os:=os }) fR,(GJ (s:={ heap:=H4,gens:=g,drawn:=dr,toks:=tk,os:=os }) fR rfl),pp (s:={ heap:=H4.update TO (Obj.mapSeq (·.setIfInBounds 1 y)),gens:=g,drawn:=dr,toks:=tk,os:=os }) nB
  have hsz:(H4.update TO (Obj.mapSeq (·.setIfInBounds (0+1) y))).objs.size=hp.objs.size:=by rw[BM,<-mo,BM,BM,BM,BM]
  refine⟨_,rfl,?_⟩;show R (.ok (.ret (.ref (H4.update TO (Obj.mapSeq (·.setIfInBounds (0+1) y))).objs.size))) { heap:=(((H4.update TO (Obj.mapSeq (·.setIfInBounds (0+1) y))).push { cls:=.type "tuple",data:=.seq #[x,y].toList.toArray }).update z (Obj.mapFields (·.setIfInBounds 0 (rawInt ((H4.update TO (Obj.mapSeq (·.setIfInBounds (0+1) y))).objs.size:Nat))))).update z (Obj.mapFields (·.setIfInBounds 1 (.bool false))),gens:=g,drawn:=dr,toks:=tk,os:=os };rw[hsz];exact h
def yA(z TI TO i1 i2:Addr)(a b:Value)(n5:i1≠z) :
  Meets (Builtin.«zip.__next__» ⟨[.ref z],[]⟩) (fun A R s=>s.heap.get? z=some (l9 TI TO .none)/\s.heap.get? TI=some (d6 (.ref i1) (.ref i2))/\s.heap.get? TO=some (d6 a b) /\
   Ge i1 A.in1 { s with heap:=zH1 s.heap z }/\∀h' e,(∀c o,c≠z->c≠i1->s.heap.get? c=some o->h'.get? c=some o)->(∃o,h'.get? e=some o/\o.cls=.type "StopIteration")->R (.error (.ref e)) { s with heap:=h' }):=
 .of_wp fun prog w A R s h=>by
  obtain⟨hp,g,dr,tk,os⟩:=s;obtain⟨hz,bE,bi,g1,h⟩:=h;unfold l9 at hz;unfold d6 at bE bi;have gL:=g1 prog w;simp only[zH1]at gL;have mn:∀(E:Value->Shared->Prop)(Q:Value->Shared->Prop),U3 (∀h' e,(∀c o,c≠i1->(hp.update z (Obj.mapFields (·.setIfInBounds 0 .ellipsis))).get? c=some o->h'.get? c=some o)->(∃o,h'.get? e=some o/\o.cls=.type "StopIteration")->E (.ref e) { heap:=h',gens:=g,drawn:=dr,toks:=tk,os:=os })->wpAny (model prog w) A.in1 (Builtin.SmallTypes.nextOf (.ref i1)) Q E { heap:=hp.update z (Obj.mapFields (·.setIfInBounds 0 .ellipsis)),gens:=g,drawn:=dr,toks:=tk,os:=os }:=fun E Q h=>gL E Q h
  wp_walk using wpAny_onRaise,pp hz,pp bE,pp bi,(mn _ _)
  unfold U3;intro h' e kp he;obtain⟨oe,fD,oJ⟩:=he;have eX:h'.get? z=some { cls:=.type "zip",data:=.fields #[.ellipsis,.bool false,.bool false,.ref TI,.ref TO] }:=kp z _ n5.symm (by rw[AU _ hz rfl];rfl);have sV:e≠z:=fun q=>by rw[q,eX]at fD;cases fD;simp at oJ
  refine wpAny_setField eX rfl (by simp) (h _ e (fun c o c1 c2 q=>?_) ⟨oe,by rw[BH _ _ _ _ sV];exact fD,oJ⟩);rw[BH _ _ _ _ c1];exact kp c o c2 (by rw[BH _ _ _ _ c1];exact q)
end
end L2
namespace L2
open PySem PySem.Spec PyProof.Rows
section
variable {hp:Heap}{z TI TO i1 i2 l1 l2:Addr}{b x y:Value}
def j7{h:Heap}{c e:Addr}{f:Obj->Obj}(n:c≠e):(h.update e f).get? c=h.get? c:=BH _ _ _ _ n
def y2v{H4:Heap}{o1 o2:Obj}(D:ZipApart z TI TO i1 i2 l1 l2)(u1:H4.get? i1=some o1)(u2:H4.get? i2=some o2)(u3:H4.get? TO=some (d6 x b))(u4:H4.get? z=some (l9 TI TO .ellipsis))
  (u5:∀c o,c≠z->c≠TO->c≠i1->c≠i2->hp.get? c=some o->H4.get? c=some o) (sz:(H4.update TO (Obj.mapSeq (·.setIfInBounds 1 y))).objs.size=hp.objs.size) (nz:hp.objs.size≠z) :
  (((((H4.update TO (Obj.mapSeq (·.setIfInBounds 1 y))).push (d6 x y)).update z (Obj.mapFields (·.setIfInBounds 0 (rawInt hp.objs.size)))).update z (Obj.mapFields (·.setIfInBounds 1 (.bool false)))).get? z=some (l9 TI TO (rawInt hp.objs.size))) /\
  (((((H4.update TO (Obj.mapSeq (·.setIfInBounds 1 y))).push (d6 x y)).update z (Obj.mapFields (·.setIfInBounds 0 (rawInt hp.objs.size)))).update z (Obj.mapFields (·.setIfInBounds 1 (.bool false)))).get? TO=some (d6 x y)) /\
  (((((H4.update TO (Obj.mapSeq (·.setIfInBounds 1 y))).push (d6 x y)).update z (Obj.mapFields (·.setIfInBounds 0 (rawInt hp.objs.size)))).update z (Obj.mapFields (·.setIfInBounds 1 (.bool false)))).get? hp.objs.size=some (d6 x y)) /\
  (((((H4.update TO (Obj.mapSeq (·.setIfInBounds 1 y))).push (d6 x y)).update z (Obj.mapFields (·.setIfInBounds 0 (rawInt hp.objs.size)))).update z (Obj.mapFields (·.setIfInBounds 1 (.bool false)))).get? i1=some o1) /\
  (((((H4.update TO (Obj.mapSeq (·.setIfInBounds 1 y))).push (d6 x y)).update z (Obj.mapFields (·.setIfInBounds 0 (rawInt hp.objs.size)))).update z (Obj.mapFields (·.setIfInBounds 1 (.bool false)))).get? i2=some o2) /\
  ∀c o,c≠z->c≠TO->c≠i1->c≠i2->hp.get? c=some o->((((H4.update TO (Obj.mapSeq (·.setIfInBounds 1 y))).push (d6 x y)).update z (Obj.mapFields (·.setIfInBounds 0 (rawInt hp.objs.size)))).update z (Obj.mapFields (·.setIfInBounds 1 (.bool false)))).get? c=some o:=by
 have t5:(H4.update TO (Obj.mapSeq (·.setIfInBounds 1 y))).get? TO=some (d6 x y):=by rw[AU _ u3 rfl];rfl
 have z5:(H4.update TO (Obj.mapSeq (·.setIfInBounds 1 y))).get? z=some (l9 TI TO .ellipsis):=by rw[j7 D.TOz.symm];exact u4
 have a5:(H4.update TO (Obj.mapSeq (·.setIfInBounds 1 y))).get? i1=some o1:=by rw[j7 D.TOi1.symm];exact u1
 have b5:(H4.update TO (Obj.mapSeq (·.setIfInBounds 1 y))).get? i2=some o2:=by rw[j7 D.TOi2.symm];exact u2
 have c5:∀c o,c≠z->c≠TO->c≠i1->c≠i2->hp.get? c=some o->(H4.update TO (Obj.mapSeq (·.setIfInBounds 1 y))).get? c=some o:=fun c o c1 c2 c3 c4 e=>by rw[j7 c2];exact u5 c o c1 c2 c3 c4 e
 generalize H4.update TO (Obj.mapSeq (·.setIfInBounds 1 y))=H5 at *
 have z6:(H5.push (d6 x y)).get? z=some (l9 TI TO .ellipsis):=Ψ _ z5
 have z7:((H5.push (d6 x y)).update z (Obj.mapFields (·.setIfInBounds 0 (rawInt hp.objs.size)))).get? z=some (l9 TI TO (rawInt hp.objs.size)):=by rw[AU _ z6 rfl];rfl
 have two:∀{c:Addr},c≠z->(((H5.push (d6 x y)).update z (Obj.mapFields (·.setIfInBounds 0 (rawInt hp.objs.size)))).update z (Obj.mapFields (·.setIfInBounds 1 (.bool false)))).get? c=(H5.push (d6 x y)).get? c:=fun n=>by rw[j7 n,j7 n]
 refine⟨?_,?_,?_,?_,?_,fun c o c1 c2 c3 c4 e=>?_⟩
 . rw[AU _ z7 rfl];rfl
 . rw[two D.TOz];exact Ψ _ t5
 . rw[two nz,<-sz];exact Ξ _ rfl
 . rw[two D.i1z];exact Ψ _ a5
 . rw[two D.i2z];exact Ψ _ b5
 . rw[two c1];exact Ψ _ (c5 c o c1 c2 c3 c4 e)
end
noncomputable def zN(h:Heap)(os:List Obj):Heap:=os.foldl Heap.push h
theorem Uz:∀(os:List Obj)(h:Heap),(zN h os).objs.size=h.objs.size+os.length
 | [],h=>rfl
 |o::os,h=>by show(zN (h.push o) os).objs.size=_;rw[Uz os,FU,io];lia
theorem Jy:∀(os:List Obj){h:Heap}{c:Addr}{o:Obj},h.get? c=some o->(zN h os).get? c=some o
 | [],_,_,_,e=>e
 |o::os,h,c,u,e=>Jy os (h:=h.push o) (Ψ _ e)
def Ac(os:List Obj)(o:Obj)(rest:List Obj)(h:Heap)(hf:o.isFreed=false):(zN h (os++o::rest)).get? (h.objs.size+os.length)=some o:=by
 have e:zN h (os++o::rest)=zN ((zN h os).push o) rest:=by unfold zN;rw[List.foldl_append];rfl
 rw[e,<-Uz];exact Jy rest (Ξ _ hf)
section
open PySem.SeqAt
open PySem.AutoSeq1 (wpAny_loadPart')
end
end L2
namespace L2
open PySem PySem.Spec PyProof.Rows
section
open PySem.SeqAt
open PySem.AutoSeq1 (wpAny_loadPart')
def yz(it l:Addr)(items:Array Value)(i n:Nat)(dd:Option Addr)(sl:Array (Option Value))(hx:items[i]?=none) :
  Meets (Builtin.«list_iterator.__next__» ⟨[.ref it],[]⟩) (fun A R s=>s.heap.get? it=some (j6 l i)/\s.heap.get? l=some { cls:=.type "list",dict:=dd,data:=.seq items n,slots:=sl }/\A.in1.handled=none /\
   ∀h' e,(∀c o,c≠it->s.heap.get? c=some o->h'.get? c=some o)->(∃o,h'.get? e=some o/\o.cls=.type "StopIteration")->R (.error (.ref e)) { s with heap:=h' }):=
 .of_wp fun prog w A R s h=>by
  obtain⟨hp,g,dr,tk,os⟩:=s;obtain⟨hl,hd,hh,h⟩:=h;unfold j6 at hl;have dB:items[((i:Nat):Int).toNat]?=none:=by simpa using hx
  wp_walk using pp hl,pp hd
  rw[dB]
  wp_walk using pp hl,pp hd
  unfold raiseNew;refine χ (wpAny_handled ?_);rw[hh];refine χ (ω (wpAny_throw (h _ _ (fun c o hc e=>?_) ⟨_,Ξ _ rfl,rfl⟩)));refine Ψ _ (Ψ _ ?_);rw[BH _ _ _ _ hc];exact e
def yy{it l:Addr}{items:Array Value}{i:Nat}{A:Around}{s:Shared}(hh:A.handled=none)(aV:s.heap.get? it=some (j6 l i))(hl:s.heap.IsList l items)(hx:items[i]?=none):Ge it A s:=fun prog w E Q q=>by obtain⟨⟨cl,dd,da,sl⟩,ho,hc,n,hd⟩:=hl;simp only at hc hd;subst hc hd;unfold Builtin.SmallTypes.nextOf;exact χ (CV (name:=Str.ofString "__next__") ⟨_,aV,rfl⟩ slot_listiter_next (call_meets slot_listiter_next ⟨_,aV,rfl⟩ entry_listiter_next (args_listiter_next _) (yz it l items i n dd sl hx) ⟨aV,ho,hh,q⟩))
end
section
variable {hp:Heap}{z TI TO i1 i2 l1 l2:Addr}{a b x y:Value}{k:Nat}
def wQ(D:ZipApart z TI TO i1 i2 l1 l2)(hz:hp.get? z=some (l9 TI TO .none))(bi:hp.get? TO=some (d6 a b))(h1:hp.get? i1=some (j6 l1 k))(h2:hp.get? i2=some (m9 l2 k)) :
  (zHF hp z TO i1 i2 x y (up1 k) (up1 k)).get? z=some (l9 TI TO (rawInt hp.objs.size))/\(zHF hp z TO i1 i2 x y (up1 k) (up1 k)).get? TO=some (d6 x y)/\(zHF hp z TO i1 i2 x y (up1 k) (up1 k)).get? hp.objs.size=some (d6 x y) /\
  (zHF hp z TO i1 i2 x y (up1 k) (up1 k)).get? i1=some (j6 l1 (k+1))/\(zHF hp z TO i1 i2 x y (up1 k) (up1 k)).get? i2=some (m9 l2 (k+1)) /\
  ∀c o,c≠z->c≠TO->c≠i1->c≠i2->hp.get? c=some o->(zHF hp z TO i1 i2 x y (up1 k) (up1 k)).get? c=some o:=by
 have z1:(zH1 hp z).get? z=some (l9 TI TO .ellipsis):=by unfold zH1;rw[AU _ hz rfl];rfl
 have zn:∀{c},c≠z->(zH1 hp z).get? c=hp.get? c:=fun n=>j7 n
 have t2:((zH1 hp z).update i1 (up1 k)).get? TO=some (d6 a b):=by rw[j7 D.TOi1,zn D.TOz];exact bi
 have t3:(((zH1 hp z).update i1 (up1 k)).update TO (Obj.mapSeq (·.setIfInBounds 0 x))).get? TO=some (d6 x b):=by rw[AU _ t2 rfl];rfl
 have sW:(((zH1 hp z).update i1 (up1 k)).update TO (Obj.mapSeq (·.setIfInBounds 0 x))).get? i2=some (m9 l2 k):=by rw[j7 D.TOi2.symm,j7 D.i12.symm,zn D.i2z];exact h2
 have u2:(zH4 hp z TO i1 i2 x (up1 k) (up1 k)).get? i2=some (m9 l2 (k+1)):=by unfold zH4;rw[AU _ sW rfl];simp[m9,Obj.mapFields,rawInt]
 have u1:(zH4 hp z TO i1 i2 x (up1 k) (up1 k)).get? i1=some (j6 l1 (k+1)):=by unfold zH4;rw[j7 D.i12,j7 D.TOi1.symm,AU _ (show(zH1 hp z).get? i1=some (j6 l1 k) by rw[zn D.i1z];exact h1) rfl];simp[j6,Obj.mapFields,rawInt]
 have u3:(zH4 hp z TO i1 i2 x (up1 k) (up1 k)).get? TO=some (d6 x b):=by unfold zH4;rw[j7 D.TOi2];exact t3
 have u4:(zH4 hp z TO i1 i2 x (up1 k) (up1 k)).get? z=some (l9 TI TO .ellipsis):=by unfold zH4;rw[j7 D.i2z.symm,j7 D.TOz.symm,j7 D.i1z.symm];exact z1
 have u5:∀c o,c≠z->c≠TO->c≠i1->c≠i2->hp.get? c=some o->(zH4 hp z TO i1 i2 x (up1 k) (up1 k)).get? c=some o:=fun c o c1 c2 c3 c4 e=>by unfold zH4;rw[j7 c4,j7 c2,j7 c3,zn c1];exact e
 have sz:((zH4 hp z TO i1 i2 x (up1 k) (up1 k)).update TO (Obj.mapSeq (·.setIfInBounds 1 y))).objs.size=hp.objs.size:=by unfold zH4 zH1;rw[BM,BM,BM,BM,BM]
 have nz:hp.objs.size≠z:=Nat.ne_of_gt (Φ hz)
 exact y2v D u1 u2 u3 u4 u5 sz nz
end
section
variable {prog:Program}{w:World}{A:Around}{E:Value->Shared->Prop}{s:Shared}{z TI TO i1 i2 l1 l2:Addr}{a b x y:Value}{k:Nat}{xs ys:Array Value}
def zA(D:ZipApart z TI TO i1 i2 l1 l2)(hz:s.heap.get? z=some (l9 TI TO .none))(bE:s.heap.get? TI=some (d6 (.ref i1) (.ref i2)))(bi:s.heap.get? TO=some (d6 a b))
  (h1:s.heap.get? i1=some (j6 l1 k)) (h2:s.heap.get? i2=some (m9 l2 k)) (fE:s.heap.IsList l1 xs) (fY:s.heap.IsTuple l2 ys) (hx:xs[k]?=some x) (hy:ys[k]?=some y)
  (hQ:Q (some (.ref s.heap.objs.size)) { s with heap:=zHF s.heap z TO i1 i2 x y (up1 k) (up1 k) }):wpAny (model prog w) A (pyNext (.ref z)) Q E s:=by
 have hT:s.TypeIs (.ref z) "zip":=⟨_,hz,rfl⟩
 have k1:∀{c o},c≠z->s.heap.get? c=some o->(zH1 s.heap z).get? c=some o:=fun n e=>by unfold zH1;rw[j7 n];exact e
 have g1:V9 i1 x (up1 k) A.in1 { s with heap:=zH1 s.heap z }:=zC (k1 D.i1z h1) (let ⟨o,ho,r⟩:=fE;⟨o,k1 D.l1z ho,r⟩) hx
 have k3:∀{c o},c≠z->c≠i1->c≠TO->s.heap.get? c=some o->(((zH1 s.heap z).update i1 (up1 k)).update TO (Obj.mapSeq (·.setIfInBounds 0 x))).get? c=some o:=fun n1 n2 n3 e=>by rw[j7 n3,j7 n2];exact k1 n1 e
 have g2:V9 i2 y (up1 k) A.in1 { s with heap:=((zH1 s.heap z).update i1 (up1 k)).update TO (Obj.mapSeq (·.setIfInBounds 0 x)) }:=zE (k3 D.i2z D.i12.symm D.TOi2.symm h2) (let ⟨o,ho,r⟩:=fY;⟨o,k3 D.l2z D.l2i1 D.l2TO ho,r⟩) hy
 unfold pyNext
 exact χ (wpAny_attempt (CV (name:=Str.ofString "__next__") hT F.slot_zip_next
  (call_meets F.slot_zip_next hT F.entry_zip_next (F.args_zip_next_1 _) (zB z TI TO i1 i2 a b x y (up1 k) (up1 k) D.TOz D.TOi1 D.TOi2 D.i1z D.i2z) ⟨hz,bE,bi,g1,g2,ω hQ⟩)))
def yx(hh:A.handled=none)(D:ZipApart z TI TO i1 i2 l1 l2)(hz:s.heap.get? z=some (l9 TI TO .none))(bE:s.heap.get? TI=some (d6 (.ref i1) (.ref i2)))(bi:s.heap.get? TO=some (d6 a b))
  (h1:s.heap.get? i1=some (j6 l1 k)) (fE:s.heap.IsList l1 xs) (hx:xs[k]?=none) (hQ:∀h',(∀c o,c≠z->c≠i1->s.heap.get? c=some o->h'.get? c=some o)->Q none { s with heap:=h' }):wpAny (model prog w) A (pyNext (.ref z)) Q E s:=by
 have hT:s.TypeIs (.ref z) "zip":=⟨_,hz,rfl⟩
 have k1:∀{c o},c≠z->s.heap.get? c=some o->(zH1 s.heap z).get? c=some o:=fun n e=>by unfold zH1;rw[j7 n];exact e
 have g1:Ge i1 A.in1 { s with heap:=zH1 s.heap z }:=yy hh (k1 D.i1z h1) (let ⟨o,ho,r⟩:=fE;⟨o,k1 D.l1z ho,r⟩) hx
 unfold pyNext
 refine χ (wpAny_attempt (CV (name:=Str.ofString "__next__") hT F.slot_zip_next
  (call_meets F.slot_zip_next hT F.entry_zip_next (F.args_zip_next_1 _) (yA z TI TO i1 i2 a b D.i1z) ⟨hz,bE,bi,g1,fun h' e kp he=>?_⟩)))
 obtain⟨o,ho,hc⟩:=he
 exact χ (wpAny_isInstance (T:="StopIteration") (b:=true) ⟨o,ho,hc⟩ isSubtype_stop (ω (hQ h' kp)))
end
def zh9{P:Program}{w:World}{K:Frag}{aN:List Expr}{k:Nat}{pos:Pos}{z TI TO i1 i2 l1 l2:Addr}{xs ys:List V}(D:ZipApart z TI TO i1 i2 l1 l2)(ag:xs.length=ys.length) :
  Turn P w K (.Tuple aN k pos) (ItP (fun H=>Rd H l1 (.lst xs)/\Rd H l2 (.tup ys)) (xs.zip ys)) [z,TI,TO,i1,i2] z
   (fun i h=>h.get? z=some (l9 TI TO .none)/\h.get? TI=some (d6 (.ref i1) (.ref i2))/\(∃a b,h.get? TO=some (d6 a b))/\h.get? i1=some (j6 l1 i)/\h.get? i2=some (m9 l2 i)) where
 mem:=by simp
 obj:=fun i h ⟨hz,bE,⟨a,b,bi⟩,h1,h2⟩ c hc=>by
  have ar:c=z\/c=TI\/c=TO\/c=i1\/c=i2:=by simpa using hc
  rcases ar with rfl |rfl |rfl |rfl |rfl
  . exact⟨_,hz,fun v e=>by cases e⟩
  . exact⟨_,bE,fun v e=>by cases e⟩
  . exact⟨_,bi,fun v e=>by cases e⟩
  . exact⟨_,h1,fun v e=>by cases e⟩
  . exact⟨_,h2,fun v e=>by cases e⟩
 keep:=fun i h h' ⟨hz,bE,⟨a,b,bi⟩,h1,h2⟩ kp=>⟨kp z (by simp) _ hz,kp TI (by simp) _ bE,⟨a,b,kp TO (by simp) _ bi⟩,kp i1 (by simp) _ h1,kp i2 (by simp) _ h2⟩
 item:=by
  intro X hP hw hK hc i pins s U H E I hf st hg;subst hP hw hK;obtain⟨⟨mq,oK⟩,aJ⟩:=hg;obtain⟨hz,bE,⟨a0,b0,bi⟩,h1,h2⟩:=st;obtain⟨fm,r1,p1,z1⟩:=I.list (.inl mq);obtain⟨ao,r2,p2,z2⟩:=I.tuple (.inl oK);have lE:=r1.length;have le2:=r2.length;rw[BW]at aJ;obtain⟨a,ea⟩:∃a,xs[i]?=some a:=⟨xs[i]'(by lia),by simp⟩;obtain⟨b,eb⟩:∃b,ys[i]?=some b:=⟨ys[i]'(by lia),by simp⟩;obtain⟨x,q1,lF⟩:=r1.get ea;obtain⟨y,q2,sX⟩:=r2.get eb;obtain⟨f1,f2,f3,f4,f5,f6⟩:=wQ (x:=x) (y:=y) D hz bi h1 h2;refine zA D hz bE bi h1 h2 p1.isList p2 (by simpa using q1) (by simpa using q2) ⟨.ref s.heap.objs.size,rfl,?_⟩;generalize zHF s.heap z TO i1 i2 x y (up1 i) (up1 i)=HF at f1 f2 f3 f4 f5 f6;refine wpAny_letOwnedTupleGo_zip (TI:=TI) (TO:=TO) f1 fun h' eX mv=>?_
  have nT:∀{c o},s.heap.get? c=some o->s.heap.objs.size≠c:=fun e=>Nat.ne_of_gt (Φ e)
  have up:∀{c o},c≠z->HF.get? c=some o->h'.get? c=some o:=fun n e=>mv.extBut _ _ n e
  have ht:IsTp h' s.heap.objs.size ([x,y]:List Value).toArray:=.mk' (up (nT hz) f3);have sub:∀c∈[z,TO,i1,i2],t9 X pins H c:=fun c ar=>hf c (by
   have:c=z\/c=TO\/c=i1\/c=i2:=by simpa using ar
   rcases this with rfl |rfl |rfl |rfl<;>simp)
  have I2:=I.turnedT (tk:=s.toks) (h':=h') (xs:=[a,b]) (its:=[x,y]) sub (fun c o cT e=>by
   have ar:c≠z/\c≠TO/\c≠i1/\c≠i2:=by simpa using cT
   exact up ar.1 (f6 c o ar.1 ar.2.1 ar.2.2.1 ar.2.2.2 e)) (ζ _) ht (.cons lF (.cons sX .nil)) Jf
  have HT:H s.heap.objs.size=none:=I.hok.fresh (ζ _);refine⟨.ref s.heap.objs.size,upd H s.heap.objs.size (.tup [a,b]),I2,rfl,⟨s.heap.objs.size,a,b,rfl,HT,rfl,?_⟩,⟨eX,up D.TIz (f6 _ _ D.TIz D.TITO D.TIi1 D.TIi2 bE),⟨x,y,up D.TOz f2⟩,up D.i1z f4,up D.i2z f5⟩,fun c ar=>?_⟩
  . rw[DB];exact⟨ea,eb⟩
  . rw[d9]
    . exact(hf c ar).1
    . intro e;have dN:c=z\/c=TI\/c=TO\/c=i1\/c=i2:=by simpa using ar
      rcases dN with q |q |q |q |q<;>rw[q]at e
      . exact nT hz e.symm
      . exact nT bE e.symm
      . exact nT bi e.symm
      . exact nT h1 e.symm
      . exact nT h2 e.symm
 done:=by
  intro X hP hw hK hc i pins s U H E I hf st hg;subst hP hw hK;obtain⟨⟨mq,oK⟩,cy⟩:=hg;obtain⟨hz,bE,⟨a0,b0,bi⟩,h1,h2⟩:=st;obtain⟨fm,r1,p1,z1⟩:=I.list (.inl mq);have lE:=r1.length;rw[BW]at cy;have sub:∀c∈[z,i1],t9 X pins H c:=fun c ar=>hf c (by
   have:c=z\/c=i1:=by simpa using ar
   rcases this with rfl |rfl<;>simp)
  refine yx (I.ok.hd hc) D hz bE bi h1 p1.isList (by simp;lia) fun h' kp=>⟨rfl,?_⟩
  exact I.turnedN (tk:=s.toks) sub fun c o cT e=>by
   have ar:c≠z/\c≠i1:=by simpa using cT
   exact kp c o ar.1 ar.2 e
 self:=fun A i s Q E st h=>wpAny_pyIter_zip (TI:=TI) (TO:=TO) (f0:=.none) st.1 h
def jH(n:Nat)(l1 l2:Addr):List Obj:=[j6 l1 0,m9 l2 0,d6 (.ref n) (.ref (n+1)),d6 .none .none,l9 (n+2) (n+3) .none]
section
open PySem.SeqAt
open PySem.AutoSeq1 (wpAny_loadPart')
def zz(l1 l2:Addr)(xs ys:Array Value) :
  Meets (Builtin.«zip.__new__» ⟨[.type "zip",.ref l1,.ref l2],[]⟩) (fun _ R s=>s.heap.IsList l1 xs/\s.heap.IsTuple l2 ys/\R (.ok (.ret (.ref (s.heap.objs.size+4)))) { s with heap:=zN s.heap (jH s.heap.objs.size l1 l2) }):=
 .of_wp fun prog w A R s h=>by
  obtain⟨hp,g,dr,tk,os⟩:=s;obtain⟨q1,q2,h⟩:=h;have f0:=sub_zip;have a1:Heap.IsList (Shared.heap ⟨hp,g,dr,tk,os⟩) l1 xs:=q1;have a2:Heap.IsTuple (Shared.heap ⟨hp.push { cls:=.type "list_iterator",data:=.fields #[.ref l1,.int 0 0] },g,dr,tk,os⟩) l2 ys:=Heap.IsTuple.push q2 _
  wp_walk using wpAny_pyIter_list a1,wpAny_pyIter_tuple a2
  refine⟨_,rfl,?_⟩;have s1:(hp.push (j6 l1 0)).objs.size=hp.objs.size+1:=FU ..;have s2:((hp.push (j6 l1 0)).push (m9 l2 0)).objs.size=hp.objs.size+2:=by rw[FU,s1]
  have s3:(((hp.push (j6 l1 0)).push (m9 l2 0)).push (d6 (.ref hp.objs.size) (.ref (hp.push (j6 l1 0)).objs.size))).objs.size=hp.objs.size+3:=by rw[FU,s2]
  have s4:((((hp.push (j6 l1 0)).push (m9 l2 0)).push (d6 (.ref hp.objs.size) (.ref (hp.push (j6 l1 0)).objs.size))).push (d6 .none .none)).objs.size=hp.objs.size+4:=by rw[FU,s3]
  show R (.ok (.ret (.ref ((((hp.push (j6 l1 0)).push (m9 l2 0)).push (d6 (.ref hp.objs.size) (.ref (hp.push (j6 l1 0)).objs.size))).push (d6 .none .none)).objs.size))) { heap:=((((hp.push (j6 l1 0)).push (m9 l2 0)).push (d6 (.ref hp.objs.size) (.ref (hp.push (j6 l1 0)).objs.size))).push (d6 .none .none)).push (l9 ((hp.push (j6 l1 0)).push (m9 l2 0)).objs.size (((hp.push (j6 l1 0)).push (m9 l2 0)).push (d6 (.ref hp.objs.size) (.ref (hp.push (j6 l1 0)).objs.size))).objs.size .none),gens:=g,drawn:=dr,toks:=tk,os:=os };rw[s4,s3,s2,s1];exact h
end
def qH(ta:TA):TI:=fun U H R=>ta U H fun vs H1=>match vs with
 | [.ref l1,.ref l2]=>∃xs ys,Rd H1 l1 (.lst xs)/\Rd H1 l2 (.tup ys)/\xs.length=ys.length/\R (ItP (fun H=>Rd H l1 (.lst xs)/\Rd H l2 (.tup ys)) (xs.zip ys)) H1
 |_=>False
section
variable {X:Cx}{a b:Expr}{ta:TA}{p pos aq:Pos}{aN:List Expr}{k:Nat}
def yw(hg:Gl X "zip")(hm:X.mg "zip"=none)(ha:PA X [a,b] ta)(hs:starEach [a,b] X.env=[(false,eval a X.env),(false,eval b X.env)])(dw:starEach [b] X.env=[(false,eval b X.env)]) :
  PI X (.Tuple aN k aq) (.Call (.Name "zip" p) [a,b] [] pos) (qH ta):=by
 intro pins s U H R I h
 refine Call_ (P8 I hg hm boot_zip (DQ (thn (ha pos pins s U H _ I h) fun us s1 ⟨vs,H1,I1,r1,q1⟩=>?_) (by rw[hs,dw]) (by rw[dw];rfl)))
 dsimp only at q1
 split at q1
 . rename_i l1 l2;obtain⟨xs,ys,e1,e2,ag,q⟩:=q1;obtain⟨u,w',rfl,ru,rw'⟩:=Ha r1;cases ru;cases rw';obtain⟨fm,rJ,p1,_⟩:=I1.list (.inl e1);obtain⟨ao,AE,p2,_⟩:=I1.tuple (.inl e2);have il:l1<s1.heap.objs.size:=by obtain⟨o,ho,_⟩:=p1.isList;exact Φ ho
   have mw:l2<s1.heap.objs.size:=by obtain⟨o,ho,_⟩:=p2;exact Φ ho
   refine callType_new F.called_zip (by decide) (F.typeCall_zip_2 _ _) (F.newCall_zip_2 _ _) (fun obj=>F.args_object_init_3 obj _ _) F.entry_zip_new (zz l1 l2 fm.toArray ao.toArray) ⟨p1.isList,p2,?_⟩;have g4:=Ac [j6 l1 0,m9 l2 0,d6 (.ref s1.heap.objs.size) (.ref (s1.heap.objs.size+1)),d6 .none .none] (l9 (s1.heap.objs.size+2) (s1.heap.objs.size+3) .none) [] s1.heap rfl;have g3:=Ac [j6 l1 0,m9 l2 0,d6 (.ref s1.heap.objs.size) (.ref (s1.heap.objs.size+1))] (d6 .none .none) [l9 (s1.heap.objs.size+2) (s1.heap.objs.size+3) .none] s1.heap rfl;have g2:=Ac [j6 l1 0,m9 l2 0] (d6 (.ref s1.heap.objs.size) (.ref (s1.heap.objs.size+1))) [d6 .none .none,l9 (s1.heap.objs.size+2) (s1.heap.objs.size+3) .none] s1.heap rfl;have g1:=Ac [j6 l1 0] (m9 l2 0) [d6 (.ref s1.heap.objs.size) (.ref (s1.heap.objs.size+1)),d6 .none .none,l9 (s1.heap.objs.size+2) (s1.heap.objs.size+3) .none] s1.heap rfl;have g0:=Ac [] (j6 l1 0) [m9 l2 0,d6 (.ref s1.heap.objs.size) (.ref (s1.heap.objs.size+1)),d6 .none .none,l9 (s1.heap.objs.size+2) (s1.heap.objs.size+3) .none] s1.heap rfl;have kp:∀c o,s1.heap.get? c=some o->(zN s1.heap (jH s1.heap.objs.size l1 l2)).get? c=some o:=fun c o e=>Jy _ e
   refine⟨⟨_,g4,rfl⟩,?_⟩;refine wpAny_pyIter_zip (TI:=s1.heap.objs.size+2) (TO:=s1.heap.objs.size+3) (f0:=.none) g4 ⟨s1.heap.objs.size+4,[s1.heap.objs.size+4,s1.heap.objs.size+2,s1.heap.objs.size+3,s1.heap.objs.size,s1.heap.objs.size+1],_,_,H1,rfl,I1.kept (t':=s1.toks) kp,zh9 (zP il mw) ag,⟨g4,g2,⟨_,_,g3⟩,g0,g1⟩,fun c hc=>?_,q⟩;have ar:s1.heap.objs.size<=c:=by
    have:c=s1.heap.objs.size+4\/c=s1.heap.objs.size+2\/c=s1.heap.objs.size+3\/c=s1.heap.objs.size\/c=s1.heap.objs.size+1:=by simpa using hc
    rcases this with q |q |q |q |q<;>rw[q]<;>first |exact Nat.le_add_right _ _ |exact ζ _
   exact I1.fpOk ar (I1.hok.fresh ar)
 . exact q1.elim
end
def F5(fs:DE->R (List D)):DE->R (List D):=fun ρ=>(fs ρ).bind fun ds=>R.of (match ds with
 | [.lst es,.tup gs]=>if es.length=gs.length then some ((es.zip gs).map fun p=>D.tup [p.1,p.2]) else none
 |_=>none)
def So(hg:Gl X "zip")(hm:X.mg "zip"=none)(ha:QA X EX [a,b] fs)(hs:starEach [a,b] X.env=[(false,eval a X.env),(false,eval b X.env)]:=by rfl)(dw:starEach [b] X.env=[(false,eval b X.env)]:=by rfl) :
  QI X EX false (.Tuple aN k aq) (.Call (.Name "zip" p) [a,b] [] pos) (F5 fs):=⟨(yw hg hm ha.h hs dw).imp fun U H Q ⟨sx,ρ,H0,s,e,h⟩=>by
 unfold F5 at h
 rw[Rk.bind]at h
 refine TAd.go sx s e h fun ds h vs H1 ak s1 e1 r1=>?_
 obtain⟨es,hd,h⟩:=h.of
 split at hd<;>first |cases hd |skip
 split at hd<;>cases hd
 rename_i lC
 obtain⟨x,y,rfl,q1,q2⟩:=r1.duo
 obtain⟨l,xs,rfl,hl,rl⟩:=q1.lst
 obtain⟨l',ys,rfl,cX,oM⟩:=q2.tup
 exact⟨xs,ys,.inl (e1.2.1 _ _ hl),.inl (e1.2.1 _ _ cX),by rw[<-rl.length,<-oM.length];exact lC,h _ H1 ak s1 e1 (Ja (fun H s=>⟨.inl (s _ _ hl),.inl (s _ _ cX)⟩) rl oM)⟩⟩
end L2
namespace L2
open PySem PySem.Spec PyProof.Rows
noncomputable def E6(d:Addr):Obj:={ cls:=.type "dict_items",data:=.fields #[.ref d] }
noncomputable def r6(f0:Value)(d:Addr)(i n ep:Nat)(ok ov:Value):Obj:={ cls:=.type "dict_itemiterator",data:=.fields #[f0,.bool false,.ref d,.int i 0,.int n 0,.int ep 0,ok,ov] }
def itH(hp:Heap)(it:Addr)(i:Nat)(k v:Value):Heap:=
 (((((hp.update it (Obj.mapFields (·.setIfInBounds (2+1) (rawInt ((i:Int)+1))))).push (d6 k v)).update it (Obj.mapFields (·.setIfInBounds 6 k))).update it (Obj.mapFields (·.setIfInBounds (6+1) v))).update it (Obj.mapFields (·.setIfInBounds 0 (rawInt hp.objs.size)))).update it (Obj.mapFields (·.setIfInBounds 1 (.bool false)))
def qG(hl:hp.get? it=some (r6 .none d i n ep ok ov)) :
  (itH hp it i k v).get? it=some (r6 (rawInt hp.objs.size) d (i+1) n ep k v)/\(itH hp it i k v).get? hp.objs.size=some (d6 k v)/\∀c o,c≠it->hp.get? c=some o->(itH hp it i k v).get? c=some o:=by
 have e1:(hp.update it (Obj.mapFields (·.setIfInBounds (2+1) (rawInt ((i:Int)+1))))).get? it=some (r6 .none d (i+1) n ep ok ov):=by rw[AU _ hl rfl];simp[r6,Obj.mapFields,rawInt]
 have s1:(hp.update it (Obj.mapFields (·.setIfInBounds (2+1) (rawInt ((i:Int)+1))))).objs.size=hp.objs.size:=BM ..
 have k1:∀c o,c≠it->hp.get? c=some o->(hp.update it (Obj.mapFields (·.setIfInBounds (2+1) (rawInt ((i:Int)+1))))).get? c=some o:=fun c o n e=>by rw[j7 n];exact e
 have ne:hp.objs.size≠it:=Nat.ne_of_gt (Φ hl)
 unfold itH
 generalize hp.update it (Obj.mapFields (·.setIfInBounds (2+1) (rawInt ((i:Int)+1))))=H1 at *
 have e2:(H1.push (d6 k v)).get? it=some (r6 .none d (i+1) n ep ok ov):=Ψ _ e1
 have t2:(H1.push (d6 k v)).get? hp.objs.size=some (d6 k v):=by rw[<-s1];exact Ξ _ rfl
 have e3:((H1.push (d6 k v)).update it (Obj.mapFields (·.setIfInBounds 6 k))).get? it=some (r6 .none d (i+1) n ep k ov):=by rw[AU _ e2 rfl];rfl
 have e4:(((H1.push (d6 k v)).update it (Obj.mapFields (·.setIfInBounds 6 k))).update it (Obj.mapFields (·.setIfInBounds (6+1) v))).get? it=some (r6 .none d (i+1) n ep k v):=by rw[AU _ e3 rfl];rfl
 have e5:((((H1.push (d6 k v)).update it (Obj.mapFields (·.setIfInBounds 6 k))).update it (Obj.mapFields (·.setIfInBounds (6+1) v))).update it (Obj.mapFields (·.setIfInBounds 0 (rawInt hp.objs.size)))).get? it=some (r6 (rawInt hp.objs.size) d (i+1) n ep k v):=by rw[AU _ e4 rfl];rfl
 refine⟨by rw[AU _ e5 rfl];rfl,by rw[j7 ne,j7 ne,j7 ne,j7 ne];exact t2,fun c o n e=>?_⟩
 rw[j7 n,j7 n,j7 n,j7 n]
 exact Ψ _ (k1 c o n e)
section
open PySem.SeqAt
open PySem.AutoSeq1 (wpAny_loadPart')
def wP(d:Addr)(es:Array DictEntry)(ep:Nat)(hd:(d==sysModules)=false) :
  Meets (Builtin.«dict.items» ⟨[.ref d],[]⟩) (fun _ R s=>s.heap.get? d=some (r9 es ep)/\R (.ok (.ret (.ref s.heap.objs.size))) { s with heap:=s.heap.push (E6 d) }):=
 .of_wp fun prog w A R s h=>by
  obtain⟨hp,g,dr,tk,os⟩:=s;obtain⟨hl,h⟩:=h;unfold r9 at hl
  wp_walk using pp hl
  exact⟨_,rfl,h⟩
def yu(v d:Addr)(es:Array DictEntry)(ep:Nat) :
  Meets (Builtin.«dict_items.__iter__» ⟨[.ref v],[]⟩) (fun _ R s=>s.heap.get? v=some (E6 d)/\s.heap.get? d=some (r9 es ep)/\R (.ok (.ret (.ref s.heap.objs.size))) { s with heap:=s.heap.push (r6 .none d 0 es.size ep .none .none) }):=
 .of_wp fun prog w A R s h=>by
  obtain⟨hp,g,dr,tk,os⟩:=s;obtain⟨hl,hd,h⟩:=h;unfold r9 at hd;unfold E6 at hl
  wp_walk using pp hl,pp hd
  exact⟨_,rfl,h⟩
def yt(it d:Addr)(es:Array DictEntry)(ep i:Nat)(ok ov:Value)(hi:i<es.size) :
  Meets (Builtin.«dict_itemiterator.__next__» ⟨[.ref it],[]⟩) (fun _ R s=>s.heap.get? it=some (r6 .none d i es.size ep ok ov)/\s.heap.get? d=some (r9 es ep) /\
   R (.ok (.ret (.ref s.heap.objs.size))) { s with heap:=itH s.heap it i es[i].key es[i].val }):=
 .of_wp fun prog w A R s h=>by
  obtain⟨hp,g,dr,tk,os⟩:=s;obtain⟨hl,hd,h⟩:=h;unfold r9 at hd;unfold r6 at hl;have hsz:(((es.size:Int) != (es.size:Int))=true)=False:=by simp
  have sY:(((ep:Int) != (ep:Int))=true)=False:=by simp
  have dB:(if(i:Int)<0 then none else es[((i:Nat):Int).toNat]?)=some es[i]:=by rw[ψ (by lia)];simp[hi]
  wp_walk using pp hl,pp hd
  rw[dB]
  wp_walk using pp hl,pp hd
  have nC:Builtin.Dict_items.ownsTuple ((Manifest.find? "dict_itemiterator").elim "dict_itemiterator" fun x=>x.tpName)=true:=by decide +kernel
  refine⟨_,rfl,?_⟩;rw[ξ nC,ψ (by decide +kernel),BM];exact h
def wO(it d:Addr)(es:Array DictEntry)(ep i:Nat)(ok ov:Value)(hi:es.size<=i) :
  Meets (Builtin.«dict_itemiterator.__next__» ⟨[.ref it],[]⟩) (fun A R s=>s.heap.get? it=some (r6 .none d i es.size ep ok ov)/\s.heap.get? d=some (r9 es ep)/\A.in1.handled=none /\
   ∀h' e,(∀c o,c≠it->s.heap.get? c=some o->h'.get? c=some o)->(∃o,h'.get? e=some o/\o.cls=.type "StopIteration")->R (.error (.ref e)) { s with heap:=h' }):=
 .of_wp fun prog w A R s h=>by
  obtain⟨hp,g,dr,tk,os⟩:=s;obtain⟨hl,hd,hh,h⟩:=h;unfold r9 at hd;unfold r6 at hl;have hsz:(((es.size:Int) != (es.size:Int))=true)=False:=by simp
  have sY:(((ep:Int) != (ep:Int))=true)=False:=by simp
  have dB:(if(i:Int)<0 then none else es[((i:Nat):Int).toNat]?)=none:=by rw[ψ (by omega)];simp[hi]
  wp_walk using pp hl,pp hd
  rw[dB]
  wp_walk using pp hl,pp hd
  unfold raiseNew;refine χ (wpAny_handled ?_);rw[hh];refine χ (ω (wpAny_throw (h _ _ (fun c o hc e=>?_) ⟨_,Ξ _ rfl,rfl⟩)));refine Ψ _ (Ψ _ ?_);rw[BH _ _ _ _ hc];exact e
end
end L2
namespace L2
open PySem PySem.Spec PyProof.Rows
section
variable {prog:Program}{w:World}{A:Around}{E:Value->Shared->Prop}{s:Shared}{d it v:Addr}{es:Array DictEntry}{ep i:Nat}{ok ov:Value}
def zdc:entryFor table "dict_itemiterator.__iter__"=some Builtin.«dict_keyiterator.__iter__»:=entryFor_alias (id':="dict_keyiterator.__iter__") (by kernel_rfl) rfl (by decide +kernel) (by kernel_rfl)
def zha(aV:s.heap.get? it=some (r6 .none d i es.size ep ok ov))(h:Q (.ref it) s):wpAny (model prog w) A (pyIter (.ref it)) Q E s:=by refine wpAny_pyIter_slot ⟨_,aV,rfl⟩ F.slot_dict_itemiterator_iter (wpAny_call_entry F.slot_dict_itemiterator_iter ⟨_,aV,rfl⟩ zdc ?_ (F.args_dict_itemiterator_iter_1 _));show wpAny _ _ (ret (.ref it)) _ _ s;exact ω ⟨_,rfl,"dict_itemiterator",_,⟨_,aV,rfl⟩,CS.lookup,h⟩
def zhb(hv:s.heap.get? v=some (E6 d))(hm:s.heap.get? d=some (r9 es ep))(hQ:Q (.ref s.heap.objs.size) { s with heap:=s.heap.push (r6 .none d 0 es.size ep .none .none) }) :
  wpAny (model prog w) A (pyIter (.ref v)) Q E s:=
 wpAny_pyIter_slot ⟨_,hv,rfl⟩ F.slot_dict_items_iter (call_meets F.slot_dict_items_iter ⟨_,hv,rfl⟩ F.entry_dict_items_iter (F.args_dict_items_iter_1 _) (yu v d es ep)
  ⟨hv,hm,⟨"dict_itemiterator",_,⟨_,Ξ _ rfl,rfl⟩,CS.lookup,hQ⟩⟩)
def zhc(aV:s.heap.get? it=some (r6 .none d i es.size ep ok ov))(hm:s.heap.get? d=some (r9 es ep))(hi:i<es.size)
  (hQ:Q (some (.ref s.heap.objs.size)) { s with heap:=itH s.heap it i es[i].key es[i].val }):wpAny (model prog w) A (pyNext (.ref it)) Q E s:=by
 unfold pyNext
 exact χ (wpAny_attempt (CV (name:=Str.ofString "__next__") ⟨_,aV,rfl⟩ CS
  (call_meets CS ⟨_,aV,rfl⟩ F.entry_dict_itemiterator_next (F.args_dict_itemiterator_next_1 _) (yt it d es ep i ok ov hi) ⟨aV,hm,ω hQ⟩)))
def zy(hh:A.handled=none)(aV:s.heap.get? it=some (r6 .none d i es.size ep ok ov))(hm:s.heap.get? d=some (r9 es ep))(hi:es.size<=i)
  (hQ:∀h',(∀c o,c≠it->s.heap.get? c=some o->h'.get? c=some o)->Q none { s with heap:=h' }):wpAny (model prog w) A (pyNext (.ref it)) Q E s:=by
 unfold pyNext
 refine χ (wpAny_attempt (CV (name:=Str.ofString "__next__") ⟨_,aV,rfl⟩ CS
  (call_meets CS ⟨_,aV,rfl⟩ F.entry_dict_itemiterator_next (F.args_dict_itemiterator_next_1 _) (wO it d es ep i ok ov hi) ⟨aV,hm,hh,fun h' e kp he=>?_⟩)))
 obtain⟨o,ho,hc⟩:=he
 exact χ (wpAny_isInstance (T:="StopIteration") (b:=true) ⟨o,ho,hc⟩ isSubtype_stop (ω (hQ h' kp)))
end
def Cr(I:Inv X pins U H s)(e:H a=some (.ext (dnP a qs xs ob)))(n:DN H a qs) :
  ∃vs es ep,ob=r9 es ep/\s.heap.get? a=some (r9 es ep)/\Vals xs vs/\qs.length=vs.length/\es.toList=(z3 qs vs).map dnE:=by
 obtain⟨g0,vs,p1,p2,o,es,ep,d1,d2,d3,d4,_⟩:=Jz I e n
 rw[g0]at d1;cases d1
 have eo:ob=r9 es ep:=by obtain⟨cl,di,da,sl⟩:=ob;obtain⟨q1,q2,q3⟩:=d2;simp only at q1 q2 q3 d3;subst q1 q2 q3 d3;rfl
 exact⟨vs,es,ep,eo,by rw[g0,eo],p1,p2,d4⟩
def Wr(h:r9 es ep=r9 eF eG):es=eF/\ep=eG:=by unfold r9 at h;injection h with _ _ h;injection h with h1 h2;exact⟨h1,h2⟩
def zhd{P:Program}{w:World}{K:Frag}{aN:List Expr}{k:Nat}{pos:Pos}{it d:Addr}{qs:List (NK×Addr)}{ys:List V}{es:Array DictEntry}{ep:Nat}(hl:qs.length=ys.length)(cW:es.size=qs.length) :
  Turn P w K (.Tuple aN k pos) (ItP (fun H=>H d=some (.ext (dnP d qs ys (r9 es ep)))/\DN H d qs) ((qs.map fun q=>V.ref q.2).zip ys)) [it] it
   (fun i h=>∃ok ov,h.get? it=some (r6 .none d i es.size ep ok ov)) where
 mem:=by simp
 obj:=fun i h ⟨ok,ov,hz⟩ c hc=>by
  have ar:c=it:=by simpa using hc
  subst ar;exact⟨_,hz,fun v e=>by cases e⟩
 keep:=fun i h h' ⟨ok,ov,hz⟩ kp=>⟨ok,ov,kp it (by simp) _ hz⟩
 item:=by
  intro X hP hw hK hc i pins s U H E I hf st hg;subst hP hw hK;obtain⟨⟨hS,n⟩,aJ⟩:=hg;obtain⟨ok,ov,hz⟩:=st;obtain⟨vs,eF,eG,eo,ed,p1,p2,d4⟩:=Cr I hS n;obtain⟨rfl,rfl⟩:=Wr eo;rw[BW,bI]at aJ;have hi:i<es.size:=by lia
  have oN:i<qs.length:=by lia
  obtain⟨y,ey⟩:∃y,ys[i]?=some y:=⟨ys[i]'(by lia),by simp⟩;obtain⟨u,hu,ru⟩:=p1.get ey;have gM:(z3 qs vs)[i]?=some (qs[i].1,qs[i].2,u):=by unfold z3;have sZ:(qs.zip vs)[i]?=some (qs[i],u):=DB.mpr ⟨AO oN,hu⟩;rw[BF,sZ];rfl
  have he:es[i]=dnE (qs[i].1,qs[i].2,u):=by
   have h1:es.toList[i]?=some (dnE (qs[i].1,qs[i].2,u)):=by rw[d4,BF,gM];rfl
   rw[ES,Array.getElem?_eq_getElem hi]at h1;exact Option.some.inj h1
  obtain⟨f1,f2,f3⟩:=qG (k:=es[i].key) (v:=es[i].val) hz;refine zhc hz ed hi ⟨.ref s.heap.objs.size,rfl,?_⟩;generalize itH s.heap it i es[i].key es[i].val=HF at f1 f2 f3;rw[he]at f1 f2;refine wpAny_letOwnedTupleGo_items f1 fun h' eX mv=>?_
  have nT:s.heap.objs.size≠it:=Nat.ne_of_gt (Φ hz);have up:∀{c o},c≠it->HF.get? c=some o->h'.get? c=some o:=fun n e=>mv.extBut _ _ n e
  have ht:IsTp h' s.heap.objs.size ([Value.ref qs[i].2,u]:List Value).toArray:=.mk' (up nT f2);have sub:∀c∈[it],t9 X pins H c:=hf;have I2:=I.turnedT (tk:=s.toks) (h':=h') (xs:=[V.ref qs[i].2,y]) (its:=[Value.ref qs[i].2,u]) sub (fun c o cT e=>by
   have ar:c≠it:=by simpa using cT
   exact up ar (f3 c o ar e)) (ζ _) ht (.cons rfl (.cons ru .nil)) Jf
  have HT:H s.heap.objs.size=none:=I.hok.fresh (ζ _);refine⟨.ref s.heap.objs.size,upd H s.heap.objs.size (.tup [V.ref qs[i].2,y]),I2,rfl,⟨s.heap.objs.size,_,_,rfl,HT,rfl,?_⟩,⟨_,_,eX⟩,fun c ar=>?_⟩
  . rw[DB];exact⟨by rw[BF,AO oN];rfl,ey⟩
  . rw[d9]
    . exact(hf c ar).1
    . intro e;have dN:c=it:=by simpa using ar
      rw[dN]at e;exact nT e.symm
 done:=by
  intro X hP hw hK hc i pins s U H E I hf st hg;subst hP hw hK;obtain⟨⟨hS,n⟩,cy⟩:=hg;obtain⟨ok,ov,hz⟩:=st;obtain⟨vs,eF,eG,eo,ed,p1,p2,d4⟩:=Cr I hS n;obtain⟨rfl,rfl⟩:=Wr eo;rw[BW,bI]at cy;refine zy (I.ok.hd hc) hz ed (by lia) fun h' kp=>⟨rfl,?_⟩
  exact I.turnedN (tk:=s.toks) (wr:=[it]) hf fun c o cT e=>kp c o (by simpa using cT) e
 self:=fun A i s Q E ⟨ok,ov,st⟩ h=>zha st h
def qF(td:TE):TI:=fun U H R=>td U H fun x H1=>∃(a:Addr)(qs:List (NK×Addr))(ys:List V)(ob:Obj),x=.ref a/\H1 a=some (.ext (dnP a qs ys ob))/\DN H1 a qs/\qs.length=ys.length /\
 R (ItP (fun H=>H a=some (.ext (dnP a qs ys ob))/\DN H a qs) ((qs.map fun q=>V.ref q.2).zip ys)) H1
section
variable {X:Cx}{o:Expr}{td:TE}{apos cpos aq:Pos}{aN:List Expr}{k:Nat}
def yr(ho:PE X o td)(az:attributeBase o "items" X.env (eval o X.env)=eval o X.env)(aS:(apos.endLine==cpos.line)=true) :
  PI X (.Tuple aN k aq) (.Call (.Attribute o "items" apos) [] [] cpos) (qF td):=by
 intro pins s U H R I h
 refine wpAny_Call_method0_late az aS (thn (ho pins s U H _ I h) fun u s1 ⟨x,H1,I1,r1,a,qs,ys,ob,ex,e,n,tf,q⟩=>?_)
 subst ex
 cases r1
 obtain⟨vs,es,ep,rfl,ed,p1,p2,d4⟩:=Cr I1 e n
 have hsz:es.size=qs.length:=by rw[<-AW,d4,bI,Sr qs vs p2]
 refine⟨"dict","dict.items",PySem.F.plainAttrs_dict,PySem.F.slot_dict_items,PySem.F.type_dict_items,⟨_,ed,rfl⟩,fun b eb=>?_,FV rfl (PySem.evalArgs_none ?_)⟩
 . cases eb;exact⟨_,ed,rfl⟩
 . refine call_meets F.slot_dict_items ⟨_,ed,rfl⟩ F.entry_dict_items (F.args_dict_items_1 _) (wP a es ep n.2.2.1) ⟨ed,?_⟩;have kp:∀c o,s1.heap.get? c=some o->(s1.heap.push (E6 a)).get? c=some o:=fun c o e=>Ψ _ e
   refine zhb (s:={ s1 with heap:=s1.heap.push (E6 a) }) (Ξ _ rfl) (kp _ _ ed) ?_;have I2:Inv X pins U H1 { s1 with heap:=s1.heap.push (E6 a) }:=I1.kept (t':=s1.toks) kp;have tj:∀c o,(s1.heap.push (E6 a)).get? c=some o->((s1.heap.push (E6 a)).push (r6 .none a 0 es.size ep .none .none)).get? c=some o:=fun c o e=>Ψ _ e
   have I3:=I2.kept (t':=s1.toks) tj;refine⟨(s1.heap.push (E6 a)).objs.size,[(s1.heap.push (E6 a)).objs.size],_,_,H1,rfl,I3,zhd tf hsz,⟨_,_,Ξ _ rfl⟩,fun c hc=>?_,q⟩;have ar:c=(s1.heap.push (E6 a)).objs.size:=by simpa using hc
   rw[ar];exact I2.fpOk (ζ _) (I2.hok.fresh (ζ _))
end
def Q5(f:DE->R D):DE->R (List D):=fun ρ=>(f ρ).bind fun d=>match d with
 | .dn ks ds=>if ks.length=ds.length then .ok ((ks.zip ds).map fun p=>D.tup [y4 p.1,p.2]) else .st
 |_=>.st
theorem Uy{K:Frag}{H0:Hp}:∀{qs:List (NK×Addr)},(∀q∈qs,NKr H0 q.1 (.ref q.2))->RDs K H0 (qs.map fun q=>y4 q.1) (qs.map fun q=>V.ref q.2)
 | [],_=>.nil
 |q::qs,h=>.cons (Pq (h q (by simp))) (Uy fun p hp=>h p (by simp[hp]))
def wN(ho:QE X EX false o f)(az:attributeBase o "items" X.env (eval o X.env)=eval o X.env:=by rfl)(aS:(apos.endLine==cpos.line)=true:=by rfl) :
  QI X EX false (.Tuple aN k aq) (.Call (.Attribute o "items" apos) [] [] cpos) (Q5 f):=⟨(yr ho.h az aS).imp fun U H Q ⟨sx,ρ,H0,s,e,h⟩=>by
 unfold Q5 at h
 rw[Rk.bind]at h
 refine TEd.go sx s e h fun d h v H1 ak s1 e1 r1=>?_
 split at h
 . rename_i ks ds;split at h
   . rename_i hl;simp only[RD]at r1;obtain⟨a,qs,ys,ob,rfl,h1,hk,n,ra⟩:=r1;have mono:∀b zs,ak b=some (.tup zs)->H1 b=some (.tup zs):=fun b zs q=>e1.2.1 _ _ q
     have hq:qs.length=ys.length:=by rw[<-ra.length,<-hl,<-hk,bI]
     refine⟨a,qs,ys,ob,rfl,e1.2.1 _ _ h1,n.tk mono,hq,h _ H1 ak s1 e1 ?_⟩;rw[show(ks.zip ds).map (fun p=>D.tup [y4 p.1,p.2])=((qs.map fun q=>y4 q.1).zip ds).map fun p=>D.tup [p.1,p.2] by rw[<-hk,List.zip_map_left,List.zip_map_left,BI,BI];rfl];exact Ja (fun H s=>⟨s _ _ h1,n.tk fun b zs q=>s _ _ q⟩) (Uy fun q hq=>(n.2.1 q hq).1) ra
   . exact h.elim
 . exact h.elim⟩
noncomputable def valN{α:Type}(ks:List NK)(xs:List α)(k:NK):Option α:=((ks.zip xs).find? fun p=>decide (p.1=k)).map (·.2)
theorem Wq(rz:RelV z u):∀{qs:List (NK×Addr)}{xs:List V}{vs:List Value},Vals xs vs->qs.length=vs.length->RelV ((valN (qs.map (·.1)) xs k).getD z) (((atKey (z3 qs vs) k).map (·.2)).getD u)
 | [],xs,vs,r,hl=>by have:vs=[]:=EI (by simpa using hl.symm);subst this;exact rz
 |q::qs,_,_,.nil,hl=>by simp at hl
 |q::qs,_,_,.cons (a:=x) (b:=v) (l₁:=xs) (l₂:=vs) r rr,hl=>by
  have ih:=Wq (k:=k) rz (qs:=qs) rr (by simpa using hl);by_cases h:q.1=k
  . have e1:valN ((q::qs).map (·.1)) (x::xs) k=some x:=by
     unfold valN
     rw[dg,AX,EK (by simpa using h)];rfl
    have e2:atKey (z3 (q::qs) (v::vs)) k=some (q.2,v):=by show((z3 (q::qs) (v::vs)).find? fun x=>decide (x.1=k)).map (·.2)=_;unfold z3;rw[AX,dg,EK (by simpa using h)];rfl
    rw[e1,e2];exact r
  . have e1:valN ((q::qs).map (·.1)) (x::xs) k=valN (qs.map (·.1)) xs k:=by
     unfold valN
     rw[dg,AX,EL (by simpa using h)]
    have e2:atKey (z3 (q::qs) (v::vs)) k=atKey (z3 qs vs) k:=by show((z3 (q::qs) (v::vs)).find? fun x=>decide (x.1=k)).map (·.2)=((z3 qs vs).find? fun x=>decide (x.1=k)).map (·.2);unfold z3;rw[AX,dg,EL (by simpa using h)]
    rw[e1,e2];exact ih
def Pp(td ty tx:TE):TE:=fun U H Q=>td U H fun x H1=>∃(a:Addr)(qs:List (NK×Addr))(xs:List V)(ob:Obj),x=.ref a/\H1 a=some (.ext (dnP a qs xs ob))/\DN H1 a qs/\ty U H1 fun y H2=>tx U H2 fun z H3=>
 ∃(k:NK)(b:Addr),y=.ref b/\H3 a=some (.ext (dnP a qs xs ob))/\DN H3 a qs/\NKr H3 k (.ref b)/\k.dep<=8/\Q ((valN (qs.map (·.1)) xs k).getD z) H3
section
variable {X:Cx}{o e f:Expr}{td ty tx:TE}{apos cpos:Pos}
def wM(hu:X.A.units+64<cLine)(ho:PE X o td)(he:PE X e ty)(hf:PE X f tx)(m:M2 X o "get" apos e f cpos):PE X (.Call (.Attribute o "get" apos) [e,f] [] cpos) (Pp td ty tx):=by
 intro pins s U H Q I h;refine wpAny_Call_method m.base m.few m.line PySem.F.plainAttrs_dict PySem.F.slot_dict_get PySem.F.type_dict_get (thn (ho pins s U H _ I h) fun u s1 ⟨x,H1,I1,rx,a,qs,xs,ob,ex,e1,n1,q1⟩=>?_);subst ex;obtain rfl:u=Value.ref a:=rx;obtain⟨_,es,ep,_,ed,_⟩:=Cr I1 e1 n1;refine⟨⟨_,ed,rfl⟩,fun b eb=>?_,?_⟩
 . cases eb;exact⟨_,ed,rfl⟩
 rw[m.trees];refine FV rfl (GG (Calls.spliced_cons (thn (he pins s1 U H1 _ I1 q1) fun iv s2 ⟨y,H2,I2,ry,q2⟩=>
  Calls.spliced_cons (thn (hf pins s2 U H2 _ I2 q2) fun fv s3 ⟨z,H3,I3,rz,k,b,ey,e3,n3,hk,hd,q3⟩=>Calls.spliced_nil ?_))))
 subst ey;cases ry;obtain⟨_,vs,p1,p2,dd⟩:=Jz I3 e3 n3;exact call_meetsIn PySem.F.slot_dict_get dd.typeIs PySem.F.entry_dict_get (PySem.F.args_dict_get_3 _ _ _) (meetsH_dict_get_default (deepKind X.prog X.w) a b n3.2.2.1 fv)
  ⟨by show X.A.units+1+8<cLine;lia,k,z3 qs vs,⟨Cm I3 hk rfl,hd⟩,dd,_,H3,I3.tok _,Wq (qs:=qs) rz p1 p2,q3⟩
end
def dGetN:D->D->D->Option D
 | .dn ks ds,.tup es,z=>match nkD (.tup es) with
  |some k=>if k.dep<=8 then some ((valN ks ds k).getD z) else none
  |none=>none
 |_,_,_=>none
def eGetN(fd fk fz:DE->R D):DE->R D:=fun ρ=>(fd ρ).bind fun d=>match d with
 | .dn ks ds=>(fk ρ).bind fun k=>(fz ρ).bind fun z=>R.of (dGetN (.dn ks ds) k z)
 |_=>.st
theorem Ux{K:Frag}{H:Hp}{k:NK}{z:D}{zv:V}(rz:RD K H z zv):∀{ks:List NK}{ds:List D}{xs:List V},RDs K H ds xs->RD K H ((valN ks ds k).getD z) ((valN ks xs k).getD zv)
 | [],ds,xs,r=>by unfold valN;rw[GO,GO];exact rz
 |k'::ks,[],xs,r=>by simp only[RDs]at r;subst r;exact rz
 |k'::ks,d::ds,xs,r=>by
  simp only[RDs]at r;obtain⟨x,r',rfl,r1,r2⟩:=r;by_cases h:k'=k
  . have e1:∀{α:Type}(a:α)(as:List α),valN (k'::ks) (a::as) k=some a:=fun a as=>by
     unfold valN
     rw[AX,EK (by simpa using h)];rfl
    rw[e1,e1];exact r1
  . have e1:∀{α:Type}(a:α)(as:List α),valN (k'::ks) (a::as) k=valN ks as k:=fun a as=>by
     unfold valN
     rw[AX,EL (by simpa using h)]
    rw[e1,e1];exact Ux rz r2
section
variable {X:Cx}{EX:XW}{U:St}{H:Hp}{Q:VK}
def qE{K:Frag}{fd fk fz:DE->R D}(h:TEd K EX false (eGetN fd fk fz) U H Q):Pp (TEd K EX false fd) (TEd K EX false fk) (TEd K EX false fz) U H Q:=by
 obtain⟨sx,ρ,H0,s,e,h⟩:=h;unfold eGetN at h;rw[Rk.bind]at h;refine TEd.go sx s e h fun d h v H1 ak s1 e1 r1=>?_
 cases d<;>first | (exact h.elim) |skip
 rename_i ks ds;simp only at h;have AF:=r1;simp only[RD]at r1;obtain⟨a,qs,xs,ob,rfl,h1,hk,n,ra⟩:=r1;refine⟨a,qs,xs,ob,rfl,e1.2.1 _ _ h1,n.tk fun b zs q=>e1.2.1 _ _ q,?_⟩;rw[Rk.bind]at h;refine TEd.go (sx.trans s1) e1.2.1 (e.mono e1.1) h fun d2 h v2 H2 bD s2 e2 r2=>?_
 rw[Rk.bind]at h;refine TEd.go ((sx.trans s1).trans s2) e2.2.1 (e.mono (e1.1.trans e2.1)) h fun d3 h v3 H3 cV s3 e3 r3=>?_
 obtain⟨w,hw,h⟩:=h.of;cases d2<;>simp only[dGetN]at hw<;>first | (cases hw;done) |skip
 rename_i es;split at hw<;>first | (cases hw;done) |skip
 rename_i kk fy;split at hw<;>first | (cases hw;done) |skip
 rename_i hd;cases hw;have nk:=Hq fy r2;obtain⟨b,ys,rfl,hb,rb⟩:=r2.tup;refine⟨kk,b,rfl,e3.2.1 _ _ (e3.1 _ _ (e2.1 _ _ h1)),n.tk fun b zs q=>e3.2.1 _ _ (e3.1 _ _ (e2.1 _ _ q)),NKr.mono (fun b zs q=>e3.2.1 _ _ (e3.1 _ _ q)) nk,hd,h _ H3 ?_⟩;refine .val ((s1.trans s2).trans s3) ((e1.trans s1 e2).trans (s1.trans s2) e3) ?_;rw[hk];exact Ux r3 (ra.mono (e2.1.trans e3.1))
variable {o e f:Expr}{apos cpos:Pos}{fd fk fz:DE->R D}
def qC(hu:X.A.units+64<cLine)(ho:QE X EX false o fd)(he:QE X EX false e fk)(hf:QE X EX false f fz)(m:M2 X o "get" apos e f cpos:=by exact⟨rfl,rfl,rfl,rfl⟩):QE X EX false (.Call (.Attribute o "get" apos) [e,f] [] cpos) (eGetN fd fk fz):=
 ⟨(wM hu ho.h he.h hf.h m).imp fun _ _ _ q=>qE q⟩
end
noncomputable def u7:List Int->List Int->Bool
 | [],[]=>true
 | [],_::_=>false
 |_::_,[]=>true
 |x::xs,y::ys=>if x=y then u7 xs ys else decide (y<=x)
def zhe(x y:Int)(xs ys:List Int):u7 (x::xs) (y::ys)=if x=y then u7 xs ys else decide (y<=x):=rfl
def U2(m r:Bool):List (Value×Value)->Prop
 | []=>r=m
 |p::ps=>∃a t c u,p=(.int a t,.int c u)/\if a=c then U2 m r ps else r=decide (c<=a)
def yq(h:IntsAre vs ns):∀{ws:List Value}{ms:List Int},IntsAre ws ms->∀m,m=decide (ws.length<=vs.length)->U2 m (u7 ns ms) (vs.zip ws):=by
 induction h with
 |nil=>intro ws ms g m hm;cases g<;>simp[U2,u7,hm]
 |cons a t _ ih=>
  intro ws ms g m hm
  cases g with
  |nil=>simp[U2,u7,hm]
  |cons c u g'=>
   refine⟨a,t,c,u,rfl,?_⟩
   have:=ih g' m (by rw[hm];simp)
   by_cases e:a=c
   . rw[ξ e,show u7 (a::_) (c::_)=_ from ξ e];exact this
   . rw[ψ e];simp[u7,e]
def yp(A:Around)(s:Shared)(a:Int)(t:Tok)(c:Int)(u:Tok)(prog:Program)(w:World)(E:Value->Shared->Prop)(Q:Value->Shared->Prop)(h:Q (.bool (decide (c<=a))) s) :
  wpAny (model prog w) A (richCompare .GtE (.int a t) (.int c u)) Q E s:=
 (PyProof.Rows.ge_int h:wpAny (model prog w) A (compareOp .GtE (.int a t) (.int c u)) Q E s)
section
open HT
open PySem.SeqAt
open PySem.AutoSeq1 (wpAny_loadPart')
open PySem.MeetsSeq PySem.MeetsSeq2 PySem.MeetsSeq3
def zbf(l b:Addr)(o o2:Obj)(items aE:Array Value)(n n2:Nat)(r:Bool)(h1:o.cls=.type "tuple")(h2:o2.cls=.type "tuple")(e1:o.data=.seq items n)(e2:o2.data=.seq aE n2)
  (hr:U2 (decide (aE.size<=items.size)) r (items.toList.zip aE.toList)) :
  Meets (Builtin.«tuple.__ge__» ⟨[.ref l,.ref b],[]⟩) (fun _ R s=>(s.heap.get? l=some o/\s.heap.get? b=some o2)/\R (.ok (.ret (.bool r))) s):=
 .of_wp fun prog w A R s ⟨⟨q1,q2⟩,k⟩=>by
  cases o;cases o2;cases h1;cases h2;cases e1;cases e2;have tt:=AutoSeq1.sub_tuple_tuple
  wp_walk using pp q1,pp q2,wpAny_forIn_list _ (fun rest b s'=>(b.1=none/\s'=s)/\U2 (decide (aE.size<=items.size)) r rest) _
  case turn=>
   rintro p rest b s' ⟨⟨hb,rfl⟩,a,t,c,u,rfl,hp⟩
   obtain⟨e,he,iX⟩:=ze A.in1 s' a t c u
   refine χ (he prog w _ _ ?_)
   by_cases q:a=c
   . cases iX.mpr q;rw[ξ q]at hp
     wp_walk
     exact⟨⟨rfl,rfl⟩,hp⟩
   . have:e=false:=by cases e with |false=>rfl |true=>exact absurd (iX.mp rfl) q
     cases this;rw[ψ q]at hp;have lt:=yp A.in1 s' a t c u prog w
     wp_walk using lt
     exact⟨_,rfl,by subst hp;simpa using k⟩
  case fin=>
   rintro⟨x,y⟩ s' ⟨⟨hx,rfl⟩,hp⟩
   cases hx
   cases hp
   wp_walk
   refine⟨_,rfl,?_⟩
   simpa [Builtin.Tuple.tupleCompareSizes] using k
  case h=>exact⟨⟨rfl,rfl⟩,hr⟩
end
def zhf(hl:IsTup s.heap l vs)(hb:IsTup s.heap b ws)
  (hi:IntsAre vs.toList ns) (hj:IntsAre ws.toList ms) (hu:A.units<cLine) (h:Q (.bool (u7 ns ms)) s):wpAny (model prog w) A (compareOp .GtE (.ref l) (.ref b)) Q E s:=by
 obtain⟨o,ho,c1,_,d1⟩:=hl
 obtain⟨o2,bS,c2,_,d2⟩:=hb
 have t:=zbf l b o o2 vs ws _ _ _ c1 c2 d1 d2 (yq hi hj _ (by simp))
 exact richCompare_meets_room (op:=.GtE) ⟨o,ho,c1⟩ ⟨o2,bS,c2⟩ PySem.F.slot_tuple_ge PySem.F.entry_tuple_ge (PySem.F.args_tuple_ge_2 _ _) t ⟨⟨ho,bS⟩,⟨(fun x=>nomatch x),h⟩⟩ hu
def jG(K:Frag):R2:=fun x y H Q=>∃a b ns ms,x=.ref a/\y=.ref b/\SqT K H a (ns.map V.int)/\SqT K H b (ms.map V.int)/\Q (.bl (u7 ns ms)) H
def y2w(hu:X.A.units+64<cLine):OpR X (compareOp .GtE) (jG X.K):=by intro pins s U H x y v u Q I rx ry h;obtain⟨a,b,ns,ms,rfl,rfl,ha,hb,q⟩:=h;cases rx;cases ry;obtain⟨its,r1,p1,_⟩:=I.tuple ha;obtain⟨ao,r2,p2,_⟩:=I.tuple hb;have i1:IntsAre its.toArray.toList ns:=Em r1;have i2:IntsAre ao.toArray.toList ms:=Em r2;exact zhf p1 p2 i1 i2 (by lia) ⟨.bl (u7 ns ms),H,I,rfl,q⟩
def Z1:D->D->Option D
 | .tup ds,.tup es=>match x4 ds,x4 es with
  |some ns,some ms=>some (.bl (u7 ns ms))
  |_,_=>none
 |_,_=>none
def qB{K:Frag}:OpD K false Z1 (jG K):=by
 intro H0 H x y d e z Q s rx ry ho k;unfold Z1 at ho;split at ho<;>first | (cases ho;done) |skip
 split at ho<;>first | (cases ho;done) |skip
 rename_i ns ms h1 h2;cases ho;obtain⟨a,xs,rfl,ha,ra⟩:=rx.tup;obtain⟨b,ys,rfl,hb,rb⟩:=ry.tup;have e1:=Y5 h1 ra;have e2:=Y5 h2 rb;subst e1 e2;exact⟨a,b,ns,ms,rfl,rfl,.of (s _ _ ha),.of (s _ _ hb),k _ H (.pure s (.mkBl _))⟩
end L2
namespace L2
open PySem PySem.Spec PyProof.Rows
structure FnAt(K:Frag)(x:Str)(st:Stmt)(f:Addr):Prop where
 ns:nsIn K mainGlobals x=some (some (.ref f))
 fn:∃fd,Fun K x x st f fd
section
variable {P:Program}{w:World}{K:Frag}{mg:Str->Option Value}{base h:Heap}{x:Str}{st:Stmt}{f:Addr}{ps:List Str}{k:Nat}{sp:Sp}
def fat{oc:Value}{od an:Option Addr}{osl:Array (Option Value)}{kV doc pm cdv ct:Value}(a:nsIn K mainGlobals x=some (some (.ref f)))(l:K.lookup f=some ⟨oc,od,.func (PySem.W.fnOf x x (Q0 st) (J6 st) (h7 st) .none kV doc pm an cdv ct),osl⟩)
 (c:codeIn K cdv x=true) (k:keepIn K (.ref f)=true):FnAt K x st f:=⟨a,_,vC l c k⟩
def BP:List Str->(List Value->Prop)->Prop
 | [],P=>P []
 |_::r,P=>∀u,BP r fun us=>P (u::us)
def BP.all(h:BP ps Q)(us:List Value)(hl:us.length=ps.length):Q us:=by
 induction ps generalizing Q us with
 |nil=>rw[EI hl];exact h
 |cons p r ih=>
  cases us with
  |nil=>cases hl
  |cons u us=>exact ih (h u) us (Nat.succ.inj hl)
def got(X:K.In h)(G:h.Ns mainGlobals mg)(A:FnAt K x st f)(ok:∀{fd},Fun K x x st f fd->FnOk P w K mg base (CX1 P w) k f fd ps sp)
  (hb:∀(kV doc pm:Value)(an:Option Addr)(cdv ct:Value),BP ps fun us=>bindArgs (PySem.W.fnOf x x (Q0 st) (J6 st) (h7 st) .none kV doc pm an cdv ct) ⟨us,[]⟩=pure (ps.zip us):=by (repeat intro _);exact rfl):i9 P w K mg base x ps k sp:=by
 obtain⟨fd,F⟩:=A.fn
 exact⟨f,fd,ok F,F.binds fun kV doc pm an cdv ct=>(hb kV doc pm an cdv ct).all,GQ X G A.ns,F.kp⟩
def qA(X:K.In h)(G:h.Ns mainGlobals mg)(mx:mg x=some (.ref fa))(A:FnAt K x st f)(hb:∀(s:Shared)(v kV doc pm:Value)(an:Option Addr)(cdv ct:Value),BindsTo s (PySem.W.fnOf x x (Q0 st) (J6 st) (h7 st) .none kV doc pm an cdv ct) ⟨[v],[]⟩ [(z,v)])
  (ok:∀base:Heap,K.In base->base.Ns mainGlobals mg->∀{fd},Fun K x x st f fd->FnOk P w K mg base (CX1 P w) k f fd ps sp) :
  ∃fd:FuncData,(∀(s:Shared)(v:Value),BindsTo s fd ⟨[v],[]⟩ [(z,v)])/\∀base:Heap,K.In base->base.Ns mainGlobals mg->FnOk P w K mg base (CX1 P w) k fa fd ps sp:=by
 have e:=mx.symm.trans (GQ X G A.ns)
 cases e
 obtain⟨fd,F⟩:=A.fn
 have F':=F
 obtain⟨oc,od,kV,doc,pm,an,cdv,ct,osl,rfl,lk,bN⟩:=F'.ex
 exact⟨_,fun s v=>hb s v _ _ _ _ _ _,fun base kb nb=>ok base kb nb F⟩
def fsc(a:sc.kind=.function:=by rfl)(b:sc.isCoroutine=false:=by rfl)(c:sc.isGenerator=false:=by rfl)(d:N.Nodup:=by decide +kernel)(e:N.take ps.length=ps:=by rfl)
 (f:∀x∈ps,sc.names.lookup x=some .local\/sc.names.lookup x=some .cell:=by decide +kernel) (g:∀y∈sc.names,y.2≠.free:=by decide +kernel):FnScope N ps sc:=⟨a,b,c,d,e,f,g⟩
end
section
variable {X:Cx}{EX:XW}{fr cq:Bool}{a b e:Expr}{f g:DE->R D}{pos p:Pos}{m:List Bool}{j:Nat}
def qI(hr:Room j X.A)(ha:QE X EX false a f)(hb:QE X EX false b g)(hs:Ko b:=by exact fun _ _=>rfl):QE X EX false (.Subscript a b pos) (eOp dIx f g):=y5b (y5a hr.units) y1u ha hb hs
def qL(hm:X.mg "len"=none)(ha:QE X EX false e f)(hg:Gl X "len":=by rfl)(he:starEach [e] X.env=(false,eval e X.env)::starEach [] X.env:=by rfl)(hpl:(backTo pos (starEach [] X.env)).any (·.1)=false:=by rfl) :
 QE X EX false (.Call (.Name "len" p) [e] [] pos) (eCB t8 (a7 f a9)):=E8 vg vf hg hm PySem.boot_len (a8 ha b6 he) (he:=he) (hpl:=hpl)
def sA(i:Nat)(hN:X.N.Nodup)(he:QE X EX cq e f)(hi:X.N[i]?=some x:=by rfl)(hx:Loc X.env.scope x:=by first |exact .inl rfl |exact .inr rfl)(hs:swapsWith e (some (.Name x dH)) pos.line X.env=pure false:=by rfl)(hf:X.fn x=true\/X.env.scope.names.lookup x=some .local:=by exact .inl rfl) :
 QS X EX fr (.Assign [.Name x dH] e pos) (e8 cq i m f):=y1x hN hi hx he hs hf
def tE(hr:Room j X.A)(ha:QE X EX false a f)(hb:QE X EX false b g)(hm:behindInMarks .Eq b=false):QT X EX (.Compare a [.Eq] [b] pos) (b8 asB (eOp dEq f g)):=p7 (P0 hr.units) O9 ha hb hm
def tN(hr:Room j X.A)(ha:QE X EX false a f)(hb:QE X EX false b g)(hm:behindInMarks .NotEq b=false):QT X EX (.Compare a [.NotEq] [b] pos) (b8 asB (eOp dNe f g)):=p7 (y1m hr.units) y1n ha hb hm
end
end L2
set_option maxHeartbeats 1000000
namespace L2
open PySem PySem.Spec PyProof.Rows
def N9(ds:List D)(d:D):Option D:=if pls ds=true/\d.pl=true/\i7 ds<=20 then some (.int ((ds.countP (fun e=>eqD e d):Nat):Int)) else none
def Ci(K:Frag)(tp:Bool):V->List V->Hp->VK->Prop:=fun x vs H Q=>∃(l:Addr)(xs:List V)(ds:List D)(y:V)(d:D),x=.ref l/\vs=[y]/\H l=some (if tp=true then .tup xs else .lst xs)/\RDs K H ds xs/\RD K H d y/\pls ds=true/\d.pl=true/\i7 ds<=20/\Q (.int ((ds.countP (fun e=>eqD e d):Nat):Int)) H
theorem Jx{K:Frag}{H:Hp}{d:D}:∀{ds:List D}{xs:List V}{its:List Value},pls ds=true->RDs K H ds xs->Vals xs its->its.countP (hitD K H d)=ds.countP (fun e=>eqD e d)
 | [],_,_,_,h,r=>by simp only[RDs]at h;subst h;cases r;rfl
 |e::ds,_,_,p,h,r=>by
  simp only[RDs]at h;obtain⟨x,xs,rfl,h1,h2⟩:=h;cases r with
  |cons r1 r2=>
   have pe:e.pl=true/\pls ds=true:=by simpa [pls] using p
   rw[List.countP_cons,List.countP_cons,Jx pe.2 h2 r2,Kl pe.1 r1 h1]
def wL(hu:X.A.units+64<cLine):MtM X "list.count" (Ci X.K false):=by
 intro pins s U H x vs v us Q I rx rv h;obtain⟨l,xs,ds,y,d,rfl,rfl,hH,eO,rd,pl,pd,hd,q⟩:=h;cases rx;obtain⟨u,rfl,ru⟩:=rv.one;obtain⟨z,its,n,r,hl,e⟩:=I.lstM hH;refine call_meets F.slot_list_count ⟨_,e,rfl⟩ F.entry_list_count (F.args_list_count_2 _ _)
  (SeqAt.list_countAt l its.toArray n none #[] u (hitD X.K H d)) ⟨e,fun y hy=>S6 (A:=X.A) I (by lia) pd rd ru pl eO r hd y (by simpa using hy),?_⟩
 rw[show its.toArray.toList.countP (hitD X.K H d)=ds.countP (fun e=>eqD e d) from Jx pl eO r];exact⟨.int _,H,I.tok _,⟨_,rfl⟩,q⟩
def wK(hu:X.A.units+64<cLine):MtM X "tuple.count" (Ci X.K true):=by
 intro pins s U H x vs v us Q I rx rv h;obtain⟨l,xs,ds,y,d,rfl,rfl,hH,eO,rd,pl,pd,hd,q⟩:=h;cases rx;obtain⟨u,rfl,ru⟩:=rv.one;obtain⟨_,its,r,o,e,hc,⟨n,iY⟩,_⟩:=(show ObjOk X.prog X.w H s.heap l (.tup xs) from I.hok l _ hH);obtain⟨cls,tm,AG,sl⟩:=o;dsimp only at hc iY;subst hc iY;refine call_meets F.slot_tuple_count ⟨_,e,rfl⟩ F.entry_tuple_count (F.args_tuple_count_2 _ _)
  (SeqAt.tuple_countAt l its.toArray n tm sl u (hitD X.K H d)) ⟨e,fun y hy=>S6 (A:=X.A) I (by lia) pd rd ru pl eO r hd y (by simpa using hy),?_⟩
 rw[show its.toArray.toList.countP (hitD X.K H d)=ds.countP (fun e=>eqD e d) from Jx pl eO r];exact⟨.int _,H,I.tok _,⟨_,rfl⟩,q⟩
noncomputable def tTM(r:V->List V->Hp->VK->Prop)(to:TE)(t:TA):TE:=fun U H Q=>to U H fun x H1=>(∃a xs,x=.ref a/\H1 a=some (.tup xs))/\t U H1 fun xs H2=>r x xs H2 Q
def y2x{X:Cx}{o e:Expr}{es:List Expr}{to:TE}{t:TA}{name:Str}{apos cpos:Pos}{id:String}{r:V->List V->Hp->VK->Prop}(slot:Slot "tuple" name id)(eJ:typeOf (.builtin id)=pure (.type "method_descriptor"))(hm:MtM X id r)(ho:PE X o to)(ha:PA X (e::es) t)
  (az:attributeBase o name X.env (eval o X.env)=eval o X.env)
  (bW:((backTo cpos (starEach (e::es) X.env)).all (fun x=>!x.1)&&(backToKw cpos (keywordEach [] X.env)).all (fun x=>x.1.isSome)
   && decide ((e::es).length+([]:List Keyword).length+(if([]:List Keyword).isEmpty then 0 else 1)<30))=true)
  (aS:(apos.endLine==cpos.line)=true) (hs:starEach (e::es) X.env=(false,eval e X.env)::starEach es X.env) (bb:(backTo cpos (starEach es X.env)).any (·.1)=false) :
  PE X (.Call (.Attribute o name apos) (e::es) [] cpos) (tTM r to t):=by
 intro pins s U H Q I h
 refine wpAny_Call_method_late az bW aS rfl (thn (ho pins s U H _ I h) fun v s1 ⟨x,H1,I1,r1,ty,q1⟩=>?_)
 obtain⟨a,xs,rfl,hH⟩:=ty
 cases r1
 obtain⟨_,its,_,ob,e1,hc,_,hd⟩:=(show ObjOk X.prog X.w H1 s1.heap a (.tup xs) from I1.hok a _ hH)
 refine⟨"tuple",id,PySem.F.plainAttrs_tuple,slot,eJ,⟨ob,e1,hc⟩,fun b z=>by cases z;exact⟨ob,e1,hd⟩,?_⟩
 have hA:=ha cpos pins s1 U H1 _ I1 q1
 rw[hs]at hA⊢
 refine FV (by show(false||(backTo cpos (starEach es X.env)).any (·.1))=false;rw[bb]<;>rfl) (GG ?_)
 exact thn hA fun us s2 ⟨vs,H2,I2,r2,q2⟩=>hm pins s2 U H2 (.ref a) vs (.ref a) us Q I2 rfl r2 q2
def L0(fa fb:DE->R D):DE->R D:=fun ρ=>(fa ρ).bind fun x=>match x with
 | .lst ds=>(fb ρ).bind fun y=>R.of (N9 ds y)
 |_=>.st
def K9(fa fb:DE->R D):DE->R D:=fun ρ=>(fa ρ).bind fun x=>match x with
 | .tup ds=>(fb ρ).bind fun y=>R.of (N9 ds y)
 |_=>.st
section
variable {X:Cx}{EX:XW}{U:St}{H:Hp}{Q:VK}
def qz{K:Frag}{fa fb:DE->R D}(h:TEd K EX false (L0 fa fb) U H Q):tBM K "list" (Ci K false) (TEd K EX false fa) (J1 (TEd K EX false fb) Q8) U H Q:=by
 obtain⟨sx,ρ,H0,s,e,h⟩:=h;unfold L0 at h;rw[Rk.bind]at h;refine TEd.go sx s e h fun d h v H1 ak s1 e1 r1=>?_
 cases d<;>first | (exact h.elim) |skip
 rename_i ds;simp only at h;obtain⟨a,xs,rfl,ha,rs⟩:=r1.lst;refine⟨.inl ⟨rfl,xs,.of (e1.2.1 _ _ ha)⟩,?_⟩;rw[Rk.bind]at h;refine TEd.go (sx.trans s1) e1.2.1 (e.mono e1.1) h fun d2 h v2 H2 bD s2 e2 r2=>?_
 obtain⟨z,hz,h⟩:=h.of;simp only[N9]at hz;split at hz<;>first | (cases hz;done) |skip
 rename_i hc;cases hz;refine⟨a,xs,ds,v2,d2,rfl,rfl,s2 _ _ (e1.2.1 _ _ ha),rs.mono (e2.1.trans e2.2.1),r2.mono e2.2.1,hc.1,hc.2.1,hc.2.2,h _ H2 ?_⟩;exact .val (s1.trans s2) (e1.trans s1 e2) (.mkInt _)
def qy{K:Frag}{fa fb:DE->R D}(h:TEd K EX false (K9 fa fb) U H Q):tTM (Ci K true) (TEd K EX false fa) (J1 (TEd K EX false fb) Q8) U H Q:=by
 obtain⟨sx,ρ,H0,s,e,h⟩:=h;unfold K9 at h;rw[Rk.bind]at h;refine TEd.go sx s e h fun d h v H1 ak s1 e1 r1=>?_
 cases d<;>first | (exact h.elim) |skip
 rename_i ds;simp only at h;obtain⟨a,xs,rfl,ha,rs⟩:=r1.tup;refine⟨⟨a,xs,rfl,e1.2.1 _ _ ha⟩,?_⟩;rw[Rk.bind]at h;refine TEd.go (sx.trans s1) e1.2.1 (e.mono e1.1) h fun d2 h v2 H2 bD s2 e2 r2=>?_
 obtain⟨z,hz,h⟩:=h.of;simp only[N9]at hz;split at hz<;>first | (cases hz;done) |skip
 rename_i hc;cases hz;refine⟨a,xs,ds,v2,d2,rfl,rfl,s2 _ _ (e1.2.1 _ _ ha),rs.mono (e2.1.trans e2.2.1),r2.mono e2.2.1,hc.1,hc.2.1,hc.2.2,h _ H2 ?_⟩;exact .val (s1.trans s2) (e1.trans s1 e2) (.mkInt _)
variable {o e:Expr}{apos cpos:Pos}{fa fb:DE->R D}
def qx(hu:X.A.units+64<cLine)(ho:QE X EX false o fa)(ha:QE X EX false e fb)(az:attributeBase o "count" X.env (eval o X.env)=eval o X.env:=by rfl)
  (bW:((backTo cpos (starEach [e] X.env)).all (fun x=>!x.1)&&(backToKw cpos (keywordEach [] X.env)).all (fun x=>x.1.isSome)
   && decide ([e].length+([]:List Keyword).length+(if([]:List Keyword).isEmpty then 0 else 1)<30))=true:=by rfl)
  (aS:(apos.endLine==cpos.line)=true:=by rfl) (hs:starEach [e] X.env=(false,eval e X.env)::starEach [] X.env:=by rfl) (bb:(backTo cpos (starEach [] X.env)).any (·.1)=false:=by rfl) :
  QE X EX false (.Call (.Attribute o "count" apos) [e] [] cpos) (L0 fa fb):=
 ⟨(Qp CU PySem.F.slot_list_count PySem.F.type_list_count (wL hu) ho.h (Q1 ha.h pa_nil hs) az bW aS hs bb).imp fun _ _ _ q=>qz q⟩
def qw(hu:X.A.units+64<cLine)(ho:QE X EX false o fa)(ha:QE X EX false e fb)(az:attributeBase o "count" X.env (eval o X.env)=eval o X.env:=by rfl)
  (bW:((backTo cpos (starEach [e] X.env)).all (fun x=>!x.1)&&(backToKw cpos (keywordEach [] X.env)).all (fun x=>x.1.isSome)
   && decide ([e].length+([]:List Keyword).length+(if([]:List Keyword).isEmpty then 0 else 1)<30))=true:=by rfl)
  (aS:(apos.endLine==cpos.line)=true:=by rfl) (hs:starEach [e] X.env=(false,eval e X.env)::starEach [] X.env:=by rfl) (bb:(backTo cpos (starEach [] X.env)).any (·.1)=false:=by rfl) :
  QE X EX false (.Call (.Attribute o "count" apos) [e] [] cpos) (K9 fa fb):=
 ⟨(y2x PySem.F.slot_tuple_count PySem.F.type_tuple_count (wK hu) ho.h (Q1 ha.h pa_nil hs) az bW aS hs bb).imp fun _ _ _ q=>qy q⟩
end
section
variable {prog:Program}{w:World}{A:Around}{E:Value->Shared->Prop}{s:Shared}{κ:SortKind}{a₀:Array Keyed}{rk:Keyed->Nat}
noncomputable def tk(rk:Keyed->Nat)(xs:Array Keyed)(i:Nat):Nat:=match xs[i]? with
 |some p=>rk p
 |none=>0
def C0(prog:Program)(w:World)(A:Around)(E:Value->Shared->Prop)(s:Shared)(κ:SortKind)(a₀:Array Keyed)(rk:Keyed->Nat):Prop:=
 ∀x y,x∈a₀->y∈a₀->∀(st:SortSt)(Q:Option Bool->SortSt->Prop),kindOf st=κ->Q (some (decide (rk x<rk y))) st->wpS (model prog w) A E s (lt' x y) Q st
structure TBs(κ:SortKind)(a₀:Array Keyed)(st:SortSt):Prop where
 perm:(arrOf st).Perm a₀
 kind:kindOf st=κ
 ok:failedOf st=none
def TSo(rk:Keyed->Nat)(xs:Array Keyed)(lo hi:Nat):Prop:=∀i j,lo<=i->i<=j->j<hi->tk rk xs i<=tk rk xs j
def k6(h:i<xs.size):tk rk xs i=rk xs[i]:=by unfold tk;rw[getElem?_pos xs i h]
def Eb(h:xs[i]?=ys[j]?):tk rk xs i=tk rk ys j:=by unfold tk;rw[h]
def TBs.size{st:SortSt}(B:TBs κ a₀ st):(arrOf st).size=a₀.size:=B.perm.size_eq
def TBs.mem{st:SortSt}(B:TBs κ a₀ st){x:Keyed}(h:x∈arrOf st):x∈a₀:=FI.mpr ((FA.mp B.perm).mem_iff.mp (FI.mp h))
def TBs.set{st:SortSt}(B:TBs κ a₀ st){xs:Array Keyed}(hp:xs.Perm (arrOf st)):TBs κ a₀ (setArr st xs):=⟨hp.trans B.perm,B.kind,B.ok⟩
def m8{st:SortSt}{xs:Array Keyed}{i:Nat}{Q:Keyed->SortSt->Prop}(h:i<xs.size)(q:Q xs[i] st):wpS (model prog w) A E s (elem' xs i) Q st:=by rw[elem'_eq,getElem?_pos xs i h];exact π q
def U1(hc:C0 prog w A E s κ a₀ rk){st:SortSt}(B:TBs κ a₀ st){i j:Nat}(hi:i<a₀.size)(hj:j<a₀.size){Q:Option Bool->SortSt->Prop}
  (h:Q (some (decide (tk rk (arrOf st) i<tk rk (arrOf st) j))) st):wpS (model prog w) A E s (ltAt' i j) Q st:=by
 rw[ltAt'_eq]
 have bY:i<(arrOf st).size:=by rw[B.size];exact hi
 have iq:j<(arrOf st).size:=by rw[B.size];exact hj
 rw[k6 bY,k6 iq]at h
 refine δ (wpS_get (δ (m8 bY (δ (m8 iq ?_)))))
 exact hc _ _ (B.mem (Array.getElem_mem _)) (B.mem (Array.getElem_mem _)) st Q B.kind h
def Mc(hj:j<=xs.size)(k:Nat):tk rk (mirror xs i j ((j - i) / 2)) k=if i<=k/\k<j then tk rk xs (i+j - 1 - k) else tk rk xs k:=by
 by_cases h:i<=k/\k<j<;>simp only[h,CI,CT]<;>refine Eb ?_<;>rw[getElem?_mirror_all hj]
 . rw[ξ h]
 . rw[ψ h]
def zx(hs:dC<xs.size)(hd:d<=dC)(k:Nat) :
  tk rk (bubble xs dC d) k=if k=dC - d then tk rk xs dC else if dC - d<k/\k<=dC then tk rk xs (k - 1) else tk rk xs k:=by
 have e:=getElem?_bubble hs d hd k
 by_cases h1:k=dC - d
 . rw[ξ h1]at e⊢;exact Eb e
 . rw[ψ h1]at e⊢;by_cases h2:dC - d<k/\k<=dC
   . rw[ξ h2]at e⊢;exact Eb e
   . rw[ψ h2]at e⊢;exact Eb e
def Lc(hj:j<=xs.size)(ha:∀k,i<=k->k<j->tk rk xs k=tk rk xs (j - 1))(k:Nat):tk rk (mirror xs i j ((j - i) / 2)) k=tk rk xs k:=by
 rw[Mc hj];by_cases h:i<=k/\k<j
 . rw[ξ h,ha (i+j - 1 - k) (by omega) (by omega),ha k h.1 h.2]
 . rw[ψ h]
def TSo.step{xs:Array Keyed}{lo n:Nat}(h:TSo rk xs lo (lo+n))(h1:1<=n)(hn:tk rk xs (lo+n - 1)<=tk rk xs (lo+n)):TSo rk xs lo (lo+(n+1)):=fun i j h0 gu h2=>by
 by_cases hj:j=lo+n
 . subst hj;by_cases hi:i=lo+n
   . rw[hi];exact ζ _
   . exact sg (h i (lo+n - 1) h0 (by lia) (by lia)) hn
 . exact h i j h0 gu (by lia)
def TSo.one(lo:Nat):TSo rk xs lo (lo+1):=fun i j h0 h1 h2=>by
 obtain rfl:i=j:=by lia
 exact ζ _
structure TL(st st':SortSt)(lo:Nat):Prop where
 low:∀k,k<lo->(arrOf st')[k]?=(arrOf st)[k]?
 pend:pendingOf st'=pendingOf st
def TL.refl(st:SortSt)(lo:Nat):TL st st lo:=⟨fun _ _=>rfl,rfl⟩
def TL.trans{a b c:SortSt}{lo:Nat}(h:TL a b lo)(k:TL b c lo):TL a c lo:=⟨fun i hi=>(k.low i hi).trans (h.low i hi),k.pend.trans h.pend⟩
def TL.mirror{st:SortSt}{lo i j:Nat}(hi:lo<=i)(hj:j<=(arrOf st).size):TL st (setArr st (mirror (arrOf st) i j ((j - i) / 2))) lo:=
 ⟨fun k hk=>by show(PyProof.Rows.mirror (arrOf st) i j ((j - i) / 2))[k]?=_;rw[getElem?_mirror_all hj,ψ (by lia)],rfl⟩
def Ch{st:SortSt}{i j:Nat}{Q:Unit->SortSt->Prop}(h:Q () (setArr st (mirror (arrOf st) i j ((j - i) / 2)))):wpS (model prog w) A E s (reverseSlice' i j) Q st:=by rw[reverseSlice'_eq];exact wpS_modify h
theorem TSo.ups'{xs:Array Keyed}{lo a:Nat}(h:TSo rk xs lo (lo+a))(ha:1<=a):∀{n:Nat},a<=n->(∀i,a<=i->i<n->tk rk xs (lo+i - 1)<=tk rk xs (lo+i))->TSo rk xs lo (lo+n)
 | 0,z,_=>by lia
 |n+1,z,up=>by
  by_cases e:a=n+1
  . rw[<-e];exact h
  . exact(TSo.ups' h ha (n:=n) (by lia) fun i a b=>up i a (by lia)).step (by lia) (up n (by lia) (by lia))
def TSo.ups{xs:Array Keyed}{lo n:Nat}(h:TSo rk xs lo (lo+1))(hn:1<=n)(up:∀i,1<=i->i<n->tk rk xs (lo+i - 1)<=tk rk xs (lo+i)):TSo rk xs lo (lo+n):=h.ups' (ζ _) hn up
def X0{U:Type}{r:String}{Q:Unit->U->Prop}{st:U}(h:Q () st):wpS (model prog w) A E s (liftM (rule r):StateT U Sem Unit) Q st:=wpS_lift (wpAny_rule ⟨rfl,h⟩)
def jF(mk:Nat->β)(st:U)(down:Nat->Bool)(bh:a<=b)
  (go:∀x n (Q:ForInStep β->U->Prop),a<=n->n<b->Q (if down n=true then .done (mk n) else .yield (mk (n+1))) st->wpS (model prog w) A E s (f x (mk n)) Q st)
  (h:∀n,a<=n->n<=b->(∀i,a<=i->i<n->down i=false)->(n<b->down n=true)->Q (mk n) st):wpS (model prog w) A E s (forIn [a:b] (mk a) f) Q st:=by
 refine CZ (I:=fun x c u=>u=st/\c=mk x/\∀i,a<=i->i<x->down i=false) (fun x c u hx hb hI=>?_) (fun c u hI=>?_) ⟨rfl,rfl,fun i y z=>by lia⟩
 . obtain⟨rfl,rfl,up⟩:=hI;refine go x x _ hx hb ?_;cases hd:down x
   . exact⟨rfl,rfl,fun i y z=>by
      by_cases e:i=x
      . rw[e];exact hd
      . exact up i y (by lia)⟩
   . exact h x hx (EB hb) up fun _=>hd
 . obtain⟨rfl,rfl,up⟩:=hI;rw[EH bh]at up⊢;exact h b bh (ζ _) up fun z=>absurd z (DH _)
def Sn(mk:Nat->Nat->β)(st:U)(mid:Nat->Nat->Nat)(p:Nat->Bool)(nD:∀l r,l<r->l<=mid l r/\mid l r<r)
  (go:∀x l r (Q:ForInStep β->U->Prop),l0<=l->l<r->r<=r0->Q (.yield (if p (mid l r)=true then mk (mid l r+1) r else mk l (mid l r))) st->wpS (model prog w) A E s (f x (mk l r)) Q st)
  (stop:∀x l (Q:ForInStep β->U->Prop),l<=r0->Q (.done (mk l l)) st->wpS (model prog w) A E s (f x (mk l l)) Q st)
  (mono:∀i j,l0<=i->i<=j->j<r0->p j=true->p i=true) (hl:l0<=r0) (hN:r0<=l0+N)
  (h:∀k,l0<=k->k<=r0->(∀i,l0<=i->i<k->p i=true)->(∀i,k<=i->i<r0->p i=false)->Q (mk k k) st):wpS (model prog w) A E s (forIn [0:N] (mk l0 r0) f) Q st:=by
 have key:∀l r,l0<=l->l<=r->r<=r0->(∀i,l0<=i->i<l->p i=true)->(∀i,r<=i->i<r0->p i=false)->l=r->Q (mk l r) st:=fun l r a b c d e z=>by subst z;exact h l a c d e
 refine CZ (I:=fun x c u=>u=st/\∃l r,(l0<=l/\l<=r/\r<=r0/\r+x<=l+N)/\c=mk l r/\(∀i,l0<=i->i<l->p i=true)/\∀i,r<=i->i<r0->p i=false)
  (fun x c u _ hb hI=>?_) (fun c u hI=>?_) ⟨rfl,l0,r0,⟨ζ _,hl,ζ _,by lia⟩,rfl,fun i a b=>by lia,fun i a b=>by lia⟩
 . obtain⟨rfl,l,r,⟨b1,b2,b3,b4⟩,rfl,lt,gt⟩:=hI;by_cases e:l=r
   . subst e;exact stop x l _ b3 (key l l b1 b2 b3 lt gt rfl)
   . have hm:=nD l r (by lia);refine go x l r _ b1 (by lia) b3 ?_;cases hp:p (mid l r)
     . exact⟨rfl,l,mid l r,⟨b1,hm.1,by lia,by lia⟩,rfl,lt,fun i a b=>by
        cases hi:p i
        . rfl
        . rw[mono (mid l r) i (by lia) a b hi]at hp;cases hp⟩
     . exact⟨rfl,mid l r+1,r,⟨by lia,by lia,b3,by lia⟩,rfl,fun i a b=>mono i (mid l r) a (by lia) (by lia) hp,gt⟩
 . obtain⟨rfl,l,r,⟨b1,b2,b3,b4⟩,rfl,lt,gt⟩:=hI;exact key l r b1 b2 b3 lt gt (by simp only[FN]at b4;lia)
def Uw{α:Type}{Q:α->SortSt->Prop}{st:SortSt}{p:Prop}[Decidable p]{t g:StateT SortSt Sem α}(R:SortSt->Prop)(hg:∀u,R u->wpS (model prog w) A E s g Q u)(ht:p->(∀u,R u->wpS (model prog w) A E s g Q u)->wpS (model prog w) A E s t Q st)(hn:¬p->R st):wpS (model prog w) A E s (if p then t else g) Q st:=by
 split
 . exact ht ‹_› hg
 . exact hg _ (hn ‹_›)
def wJ(hc:C0 prog w A E s κ a₀ rk){st:SortSt}(B:TBs κ a₀ st){lo bQ:Nat}(hz:lo+bQ<=a₀.size)(h1:1<=bQ){Q:Option Nat->SortSt->Prop}
  (h:∀n st',1<=n->n<=bQ->TBs κ a₀ st'->TL st st' lo->TSo rk (arrOf st') lo (lo+n)->Q (some n) st'):wpS (model prog w) A E s (countRun' lo bQ) Q st:=by
 rw[countRun'_eq]
 refine δ (jF (fun n=>(none,n)) st (fun n=>decide (tk rk (arrOf st) (lo+n)<tk rk (arrOf st) (lo+n - 1))) h1 (fun x n Q a b q=>δ (U1 hc B (by lia) (by lia) ?_)) fun n my ig up dn=>?_)
 . by_cases hl:tk rk (arrOf st) (lo+n)<tk rk (arrOf st) (lo+n - 1)
   . simp only[hl,FK,CI]at q⊢;exact π q
   . simp only[hl,FL,BC,CT]at q⊢;exact π q
 have hs:=TSo.ups (n:=n) (TSo.one (rk:=rk) (xs:=arrOf st) lo) my fun i a b=>by have:=up i a b;simp only[AT]at this;lia
 have hd:n<bQ->tk rk (arrOf st) (lo+n)<tk rk (arrOf st) (lo+n - 1):=fun z=>by simpa using dn z
 dsimp only
 by_cases oO:n=bQ
 . rw[ξ (by simp[oO])];exact π (h n _ my ig B (.refl _ _) hs)
 rw[ψ (by simp[oO])]
 have cw:=hd (by lia)
 have i8:∀(xs:Array Keyed),TSo rk xs lo (lo+n)->¬tk rk xs lo<tk rk xs (lo+n - 1)->∀k,lo<=k->k<lo+n->tk rk xs k=tk rk xs (lo+n - 1):=fun xs hs hr k h0 h1=>by
  have a:=hs lo k (ζ _) h0 h1;have b:=hs k (lo+n - 1) h0 (by lia) (by lia)
  lia
 have mz:∀(xs:Array Keyed),(∀k,lo<=k->k<lo+n->tk rk xs k=tk rk xs (lo+n - 1))->tk rk xs (lo+n)<tk rk xs (lo+n - 1)->∀i j,lo<=i->i<=j->j<lo+(n+1)->tk rk xs j<=tk rk xs i:=fun xs fl hd i j h0 h1 h2=>by
  by_cases hj:j=lo+n
  . subst hj;by_cases hi:i=lo+n
    . rw[hi];exact ζ _
    . rw[fl i h0 (by lia)];lia
  . rw[fl i h0 (by lia),fl j (by lia) (by lia)];exact ζ _
 refine Uw (fun u=>TBs κ a₀ u/\TL st u lo/\∀i j,lo<=i->i<=j->j<lo+(n+1)->tk rk (arrOf u) j<=tk rk (arrOf u) i) (fun AH z=>?_) (fun hn J=>?_) fun hn=>⟨B,.refl _ _,mz _ (i8 _ hs (by rw[show lo+n - 1=lo by lia];exact DH _)) cw⟩
 rotate_left
 . refine δ (U1 hc B (by lia) (by lia) ?_);by_cases hr:tk rk (arrOf st) lo<tk rk (arrOf st) (lo+n - 1)
   . rw[decide_eq_true hr];dsimp only;rw[ξ rfl];exact π (h n _ my ig B (.refl _ _) hs)
   rw[decide_eq_false hr];dsimp only;rw[ψ η];have oP:lo+n<=(arrOf st).size:=by rw[B.size];lia
   have fl:=i8 _ hs hr;have ea:=Lc oP fl;exact δ (Ch (J _ ⟨B.set (mirror_perm _ _ _ _),.mirror (ζ _) oP,fun i j h0 h1 h2=>by show tk rk (mirror (arrOf st) _ _ _) j<=tk rk (mirror (arrOf st) _ _ _) i;rw[ea,ea];exact mz _ fl cw i j h0 h1 h2⟩))
 clear i8 mz hd cw hs up dn
 obtain⟨B1,L1,ni⟩:=z
 refine δ (X0 ?_)
 refine δ (GI (CZ (I:=fun x c st2=>TBs κ a₀ st2/\TL st st2 lo/\∃q,c=(none,x,q)/\q+1<=x/\(∀i j,lo<=i->i<=j->j<lo+x->tk rk (arrOf st2) j<=tk rk (arrOf st2) i)/\∀k,lo+x - (q+1)<=k->k<lo+x->tk rk (arrOf st2) k=tk rk (arrOf st2) (lo+x - 1))
  (Q:=fun c st2=>TBs κ a₀ st2/\TL st st2 lo/\∃x q,c=(none,x,q)/\1<=x/\x<=bQ/\q+1<=x/\(∀i j,lo<=i->i<=j->j<lo+x->tk rk (arrOf st2) j<=tk rk (arrOf st2) i)/\∀k,lo+x - (q+1)<=k->k<lo+x->tk rk (arrOf st2) k=tk rk (arrOf st2) (lo+x - 1)) ?step ?fin ⟨B1,L1,0,rfl,by lia,ni,fun k h0 h1=>by rw[show k=lo+(n+1) - 1 by lia]⟩) ?post)
 case fin=>
  rintro c st2 ⟨B2,L2,q,rfl,hq,dD,al⟩
  rw[show max (n+1) bQ=bQ by lia]at *
  exact⟨B2,L2,bQ,q,rfl,h1,ζ _,hq,dD,al⟩
 case post=>
  rintro c st2 ⟨B2,L2,x,q,rfl,mh,mf,hq,dD,al⟩
  have gN:lo+x<=(arrOf st2).size:=by rw[B2.size];lia
  dsimp only
  refine Uw (fun u=>TBs κ a₀ u/\TL st u lo/\∀i j,lo<=i->i<=j->j<lo+x->tk rk (arrOf u) j<=tk rk (arrOf u) i) (fun cP z=>?_) (fun mB J=>?_) fun _=>⟨B2,L2,dD⟩
  rotate_left
  . have ea:=Lc gN al;exact δ (Ch (J _ ⟨B2.set (mirror_perm _ _ _ _),L2.trans (.mirror (by lia) gN),fun i j h0 h1 h2=>by show tk rk (mirror (arrOf st2) _ _ _) j<=tk rk (mirror (arrOf st2) _ _ _) i;rw[ea,ea];exact dD i j h0 h1 h2⟩))
  obtain⟨B3,L3,tu⟩:=z
  have gM:lo+x<=(arrOf cP).size:=by rw[B3.size];lia
  refine δ (Ch ?_)
  obtain⟨ci,e4⟩:∃ci,ci=setArr cP (mirror (arrOf cP) lo (lo+x) ((lo+x - lo) / 2)):=⟨_,rfl⟩
  have B4:TBs κ a₀ ci:=e4 ▸ B3.set (mirror_perm _ _ _ _)
  have L4:TL st ci lo:=e4 ▸ L3.trans (.mirror (ζ _) gM)
  have s0:TSo rk (arrOf ci) lo (lo+x):=fun i j h0 h1 h2=>by rw[e4];show tk rk (mirror (arrOf cP) lo (lo+x) _) i<=tk rk (mirror (arrOf cP) lo (lo+x) _) j;rw[Mc gM,Mc gM,ξ (by lia),ξ (by lia)];exact tu _ _ (by lia) (by lia) (by lia)
  rw[<-e4]
  clear e4
  refine δ (jF (fun n=>(none,n)) ci (fun n=>decide (tk rk (arrOf ci) (lo+n)<tk rk (arrOf ci) (lo+n - 1))) mf (fun y m Q a b q=>δ (U1 hc B4 (by lia) (by lia) ?_)) fun m oQ gO up _=>?_)
  . by_cases hl:tk rk (arrOf ci) (lo+m)<tk rk (arrOf ci) (lo+m - 1)
    . simp only[hl,FK,CI]at q⊢;exact π q
    . simp only[hl,FL,BC,CT]at q⊢;exact π q
  . dsimp only;refine π (h m _ (by lia) gO B4 L4 (s0.ups' mh oQ fun i a b=>?_));have:=up i a b;simp only[AT]at this
    lia
 case step=>
  rintro x c st2 AI AJ ⟨B2,L2,q,rfl,hq,dD,al⟩
  have gN:lo+x<=(arrOf st2).size:=by rw[B2.size];lia
  dsimp only
  refine δ (U1 hc B2 (by lia) (by lia) ?_)
  have ext:∀(xs:Array Keyed),(∀i j,lo<=i->i<=j->j<lo+x->tk rk xs j<=tk rk xs i)->tk rk xs (lo+x)<=tk rk xs (lo+x - 1)->∀i j,lo<=i->i<=j->j<lo+(x+1)->tk rk xs j<=tk rk xs i:=fun xs nx hx i j h0 h1 h2=>by
   by_cases hj:j=lo+x
   . subst hj;by_cases hi:i=lo+x
     . rw[hi];exact ζ _
     . exact sg hx (nx i (lo+x - 1) h0 (by lia) (by lia))
   . exact nx i j h0 h1 (by lia)
  by_cases hl:tk rk (arrOf st2) (lo+x)<tk rk (arrOf st2) (lo+x - 1)
  . simp only[hl,FK,CI];by_cases mB:q > 0
    . rw[ξ mB];have ea:=Lc gN al;refine δ (Ch (π ⟨B2.set (mirror_perm _ _ _ _),L2.trans (.mirror (by lia) gN),0,rfl,by lia,ext _ (fun i j h0 h1 h2=>?_) ?_,fun k h0 h1=>by rw[show k=lo+(x+1) - 1 by lia]⟩))
      . show tk rk (mirror (arrOf st2) _ _ _) j<=tk rk (mirror (arrOf st2) _ _ _) i;rw[ea,ea];exact dD i j h0 h1 h2
      . show tk rk (mirror (arrOf st2) _ _ _) _<=tk rk (mirror (arrOf st2) _ _ _) _;rw[ea,ea];exact EB hl
    . rw[ψ mB];exact π ⟨B2,L2,0,rfl,by lia,ext _ dD (EB hl),fun k h0 h1=>by rw[show k=lo+(x+1) - 1 by lia]⟩
  . simp only[hl,FL,BC,CT];refine δ (U1 hc B2 (by lia) (by lia) ?_);by_cases hg:tk rk (arrOf st2) (lo+x - 1)<tk rk (arrOf st2) (lo+x)
    . simp only[hg,FK,CI];exact π ⟨B2,L2,x,q,rfl,by lia,by lia,hq,dD,al⟩
    . simp only[hg,FL,BC,CT];refine π ⟨B2,L2,q+1,rfl,by lia,ext _ dD (by lia),fun k h0 h1=>?_⟩;rw[show lo+(x+1) - 1=lo+x by lia];by_cases hk:k=lo+x
      . rw[hk]
      . rw[al k (by lia) (by lia)];lia
def TSo.down{xs:Array Keyed}{lo k l:Nat}(hz:lo+k<xs.size)(hl:l<=k)(hs:TSo rk xs lo (lo+k))(below:∀i,i<l->tk rk xs (lo+i)<=tk rk xs (lo+k))(above:∀i,l<=i->i<k->tk rk xs (lo+k)<tk rk xs (lo+i)) :
  TSo rk (bubble xs (lo+k) (lo+k - (lo+l))) lo (lo+(k+1)):=fun i j h0 cN hj=>by
 obtain⟨i,rfl⟩:∃i',i=lo+i':=⟨i - lo,by lia⟩
 obtain⟨j,rfl⟩:∃j',j=lo+j':=⟨j - lo,by lia⟩
 have val:∀m,m<=k->tk rk (bubble xs (lo+k) (lo+k - (lo+l))) (lo+m)=if m<l then tk rk xs (lo+m) else if m=l then tk rk xs (lo+k) else tk rk xs (lo+(m - 1)):=fun m hm=>by
  rw[zx hz (by lia)];by_cases a:m<l
  . rw[ψ (by lia),ψ (by lia),ξ a]
  . by_cases b:m=l
    . rw[ξ (by lia),ψ a,ξ b]
    . rw[ψ (by lia),ξ (by lia),ψ a,ψ b,show lo+m - 1=lo+(m - 1) by lia]
 have st:∀a b,a<=b->b<k->tk rk xs (lo+a)<=tk rk xs (lo+b):=fun a b u v=>hs _ _ (by lia) (by lia) (by lia)
 rw[val i (by lia),val j (by lia)]
 by_cases a:j<l
 . rw[ξ a,ξ (by lia)];exact st i j (by lia) (by lia)
 . rw[ψ a];by_cases b:i<l
   . rw[ξ b];by_cases c:j=l
     . rw[ξ c];exact below i b
     . rw[ψ c];exact st i (j - 1) (by lia) (by lia)
   . rw[ψ b];by_cases c:i=l
     . rw[ξ c];by_cases d:j=l
       . rw[ξ d];exact ζ _
       . rw[ψ d];exact EB (above _ (by lia) (by lia))
     . rw[ψ c,ψ (by lia)];exact st _ _ (by lia) (by lia)
def y2y(hc:C0 prog w A E s κ a₀ rk){st:SortSt}(B:TBs κ a₀ st){lo n ok:Nat}(hz:lo+n<=a₀.size)(h1:1<=ok)(hok:ok<=n)(hs:TSo rk (arrOf st) lo (lo+ok)){Q:Bool->SortSt->Prop}
  (h:∀u,TBs κ a₀ u->TL st u lo->TSo rk (arrOf u) lo (lo+n)->Q true u):wpS (model prog w) A E s (binarySort' lo n ok) Q st:=by
 rw[binarySort'_eq,Nat.max_eq_left h1]
 refine δ (GI (CZ (I:=fun k c u=>c=(none,())/\TBs κ a₀ u/\TL st u lo/\TSo rk (arrOf u) lo (lo+k))
  (Q:=fun c u=>c=(none,())/\TBs κ a₀ u/\TL st u lo/\TSo rk (arrOf u) lo (lo+n)) (fun k c u ha hb hI=>?_) (fun c u hI=>by rwa [EH hok]at hI) ⟨rfl,B,.refl _ _,hs⟩) fun c u hI=>?_)
 . obtain⟨rfl,B1,L1,hs⟩:=hI;have oR:lo+k<(arrOf u).size:=by rw[B1.size];lia
   refine δ (Sn (fun l r=>(none,l,r)) u (fun l r=>(l+r) / 2) (fun i=>decide (tk rk (arrOf u) (lo+i)<=tk rk (arrOf u) (lo+k))) (fun l r _=>by lia) (fun x l r Q a b c q=>?_) (fun x l Q _ q=>?_) (fun i j _ a b c=>?_) (BQ _) (by lia) fun l _ hl lt gt=>?_)
   . dsimp only;rw[ψ (by lia)];refine δ (U1 hc B1 (by lia) (by lia) ?_);by_cases z:tk rk (arrOf u) (lo+k)<tk rk (arrOf u) (lo+(l+r) / 2)
     . simp only[z,Nat.not_le.mpr z,FK,FL,BC,CI,CT]at q⊢;exact π q
     . simp only[z,Nat.not_lt.mp z,FK,FL,BC,CI,CT]at q⊢;exact π q
   . dsimp only;rw[ξ (ζ _)];exact π q
   . simp only[AR]at c⊢;exact sg (hs _ _ (by lia) (by lia) (by lia)) c
   . dsimp only;rw[moveDown'_eq];refine δ (wpS_modify (π ⟨rfl,B1.set (bubble_perm _ _ _),L1.trans ⟨fun j hj=>?_,rfl⟩,?_⟩))
     . show(bubble (arrOf u) (lo+k) (lo+k - (lo+l)))[j]?=_;rw[getElem?_bubble oR _ (by lia),ψ (by lia),ψ (by lia)]
     . exact TSo.down oR hl hs (fun i a=>by simpa using lt i (BQ _) a) fun i a b=>by simpa using gt i a b
 . obtain⟨rfl,B1,L1,hs⟩:=hI;exact π (h u B1 L1 hs)
end
section
variable {prog:Program}{w:World}{A:Around}{E:Value->Shared->Prop}{s:Shared}{κ:SortKind}{a₀:Array Keyed}{rk:Keyed->Nat}
def Po(mk:Nat->Nat->β)(st:U)(q:Nat->Bool)(q0:q 0=true)(hM:0<M)(hN:M<=N)
  (go:∀x last av (Q:ForInStep β->U->Prop),0<av->av<M->Q (if q av=true then .yield (mk av (2 * av+1)) else .done (mk last av)) st->wpS (model prog w) A E s (f x (mk last av)) Q st)
  (stop:∀x last av (Q:ForInStep β->U->Prop),M<=av->Q (.done (mk last av)) st->wpS (model prog w) A E s (f x (mk last av)) Q st)
  (h:∀last av,last<av->last<M->q last=true->(av<M->q av=false)->Q (mk last av) st):wpS (model prog w) A E s (forIn [0:N] (mk 0 1) f) Q st:=by
 refine CZ (I:=fun x c u=>u=st/\∃last av,c=mk last av/\x<av/\last<av/\last<M/\q last=true) (fun x c u _ _ hI=>?_) (fun c u hI=>?_) ⟨rfl,0,1,rfl,by lia,by lia,hM,q0⟩
 . obtain⟨rfl,last,av,rfl,b1,b2,b3,b4⟩:=hI;by_cases hm:av<M
   . refine go x last av _ (by lia) hm ?_;cases hq:q av
     . exact h last av b2 b3 b4 fun _=>hq
     . exact⟨rfl,av,2 * av+1,rfl,by lia,by lia,hm,hq⟩
   . exact stop x last av _ (by lia) (h last av b2 b3 b4 fun z=>absurd z hm)
 . obtain⟨rfl,last,av,rfl,b1,b2,b3,b4⟩:=hI;exact h last av b2 b3 b4 fun z=>by lia
noncomputable def gal:Bool->Keyed->Array Keyed->Nat->Nat->Nat->StateT SortSt Sem (Option Nat):=sortPriv% PySem.Builtin.gallop
def bey(rk:Keyed->Nat)(left:Bool)(key:Keyed)(arr:Array Keyed)(base i:Nat):Bool:=if left=true then decide (tk rk arr (base+i)<rk key) else !decide (rk key<tk rk arr (base+i))
def y2z(hc:C0 prog w A E s κ a₀ rk){st:SortSt}(hk:kindOf st=κ){left:Bool}{key:Keyed}{arr:Array Keyed}{base i:Nat}(kin:key∈a₀)(cA:∀x∈arr,x∈a₀)(hz:base+i<arr.size){Q:Option Bool->SortSt->Prop}
  (h:Q (some (bey rk left key arr base i)) st):wpS (model prog w) A E s (elem' arr (base+i) >>= fun x=>if left=true then lt' x key else lt' key x >>= fun r=>pure (r.map fun b=>!b)) Q st:=by
 refine δ (m8 hz ?_)
 unfold bey at h
 rw[k6 hz]at h
 cases left with
 |true=>
  rw[ξ rfl]at h⊢
  exact hc _ _ (cA _ (Array.getElem_mem _)) kin st Q hk h
 |false=>
  rw[ψ η]at h⊢
  exact δ (hc _ _ kin (cA _ (Array.getElem_mem _)) st _ hk (π h))
def V8(hc:C0 prog w A E s κ a₀ rk){st:SortSt}(hk:kindOf st=κ){left:Bool}{key:Keyed}{arr:Array Keyed}{base n hint:Nat}(kin:key∈a₀)(cA:∀x∈arr,x∈a₀)(hz:base+n<=arr.size)(hh:hint<n)
  (mono:∀i j,i<=j->j<n->bey rk left key arr base j=true->bey rk left key arr base i=true) {Q:Option Nat->SortSt->Prop}
  (h:∀k,k<=n->(∀i,i<k->bey rk left key arr base i=true)->(∀i,k<=i->i<n->bey rk left key arr base i=false)->Q (some k) st):wpS (model prog w) A E s (gal left key arr base n hint) Q st:=by
 have iZ:∀i j,i<=j->j<n->bey rk left key arr base i=false->bey rk left key arr base j=false:=fun i j a b c=>by
  cases e:bey rk left key arr base j
  . rfl
  . rw[mono i j a b e]at c;cases c
 have ask:∀i (Q:Option Bool->SortSt->Prop),i<n->Q (some (bey rk left key arr base i)) st->wpS (model prog w) A E s (elem' arr (base+i) >>= fun x=>if left=true then lt' x key else lt' key x >>= fun r=>pure (r.map fun b=>!b)) Q st:=fun i Q hi q=>y2z hc hk kin cA (by omega) q
 unfold gal
 refine δ (ask hint _ hh ?_)
 dsimp only
 rcases hr:bey rk left key arr base hint with _ |_
 case' true=>
  rw[ξ rfl]
  refine δ (Po (fun l o=>(none,l,o)) st (fun o=>bey rk left key arr base (hint+o)) (M:=n - hint) hr (by omega) (by omega) (fun x last av Q a b q=>?_) (fun x last av Q a q=>?_) fun last av a b c d=>?_)
  . dsimp only;rw[ψ (by omega)];refine δ (ask _ _ (by omega) ?_);dsimp only;cases e:bey rk left key arr base (hint+av)<;>rw[e]at q<;>exact π q
  . dsimp only;rw[ξ (by omega)];exact π q
  dsimp only
  obtain⟨lo,hi,gP,gQ,b1,b2,b3,b4⟩:∃lo hi,lo=hint+last+1/\hi=hint+min av (n - hint)/\lo<=hi/\hi<=n/\(∀i,i<lo->bey rk left key arr base i=true)/\∀i,hi<=i->i<n->bey rk left key arr base i=false:=
   ⟨_,_,rfl,rfl,by omega,by omega,fun i z=>mono i (hint+last) (by omega) (by omega) c,fun i y z=>iZ (hint+av) i (by omega) z (d (by omega))⟩
  rw[<-gP,<-gQ]
  clear gP gQ c d
 case' false=>
  rw[ψ η]
  refine δ (Po (fun l o=>(none,l,o)) st (fun o=>!bey rk left key arr base (hint - o)) (M:=hint+1) (by rw[Nat.sub_zero,hr];rfl) (by omega) (by omega) (fun x last av Q a b q=>?_) (fun x last av Q a q=>?_) fun last av a b c d=>?_)
  . dsimp only;rw[ψ (by omega)];refine δ (ask _ _ (by omega) ?_);dsimp only;cases e:bey rk left key arr base (hint - av)<;>rw[e]at q<;>exact π q
  . dsimp only;rw[ξ (by omega)];exact π q
  dsimp only
  obtain⟨lo,hi,gP,gQ,b1,b2,b3,b4⟩:∃lo hi,lo=hint+1 - min av (hint+1)/\hi=hint - last/\lo<=hi/\hi<=n/\(∀i,i<lo->bey rk left key arr base i=true)/\∀i,hi<=i->i<n->bey rk left key arr base i=false:=
   ⟨_,_,rfl,rfl,by omega,by omega,fun i z=>mono i (hint - av) (by omega) (by omega) (by simpa using d (by omega)),fun i y z=>iZ (hint - last) i (by omega) z (by simpa using c)⟩
  rw[<-gP,<-gQ]
  clear gP gQ c d
 all_goals
  refine δ (Sn (fun l r=>(none,l,r)) st (fun l r=>l+(r - l) / 2) (bey rk left key arr base) (fun l r _=>by omega) (fun x l r Q a b c q=>?_) (fun x l Q _ q=>?_) (fun i j _ a b c=>mono i j a (by omega) c) b1 (by omega) fun k _ hk lt gt=>?_)
  . dsimp only;rw[ψ (by omega)];refine δ (ask _ _ (by omega) ?_);dsimp only;cases e:bey rk left key arr base (l+(r - l) / 2)<;>rw[e]at q<;>exact π q
  . dsimp only;rw[ξ (ζ _)];exact π q
  . dsimp only;refine π (h k (by omega) (fun i z=>?_) fun i y z=>?_)
    . by_cases e:i<lo
      . exact b3 i e
      . exact lt i (by omega) z
    . by_cases e:i<hi
      . exact gt i y e
      . exact b4 i (by omega) z
end
section
variable {R:Keyed->Keyed->Prop}
def AscR(R:Keyed->Keyed->Prop)(l:List Keyed):Prop:=l.Pairwise R
structure MR(R:Keyed->Keyed->Prop)(A B out:List Keyed)(ia ib:Nat):Prop where
 perm:out.Perm (A.take ia++B.take ib)
 asc:AscR R out
 la:∀x∈out,∀y∈A.drop ia,R x y
 lb:∀x∈out,∀y∈B.drop ib,R x y
def AscR.drop(h:AscR R l)(n:Nat):AscR R (l.drop n):=h.sublist (List.drop_sublist _ _)
def AscR.take(h:AscR R l)(n:Nat):AscR R (l.take n):=h.sublist (List.take_sublist _ _)
def drop_take(l:List Keyed)(n k:Nat):l.drop n=(l.drop n).take k++l.drop (n+k):=by rw[<-List.drop_drop,EO]
def zu(l:List Keyed)(n k:Nat):l.take (n+k)=l.take n++(l.drop n).take k:=by rw[List.take_add]
variable {A B out:List Keyed}{ia ib k:Nat}
def MR.appA(M:MR R A B out ia ib)(hA:AscR R A)(h:∀x∈(A.drop ia).take k,∀y∈B.drop ib,R x y):MR R A B (out++(A.drop ia).take k) (ia+k) ib:=by
 have dd:=drop_take A ia k;have sA:=hA.drop ia;rw[dd]at sA;have pw:=EZ.mp sA;refine⟨?_,EZ.mpr ⟨M.asc,pw.1,fun x hx y hy=>M.la x hx y (FT hy)⟩,fun x hx y hy=>?_,fun x hx y hy=>?_⟩
 . rw[zu];refine(M.perm.append_right _).trans ?_;rw[DK,DK];exact BV.append_left _
 . rcases AQ.mp hx with z |z
   . exact M.la x z y (by rw[dd];exact BE _ hy)
   . exact pw.2.2 x z y hy
 . rcases AQ.mp hx with z |z
   . exact M.lb x z y hy
   . exact h x z y hy
def MR.swap(M:MR R A B out ia ib):MR R B A out ib ia:=⟨M.perm.trans BV,M.asc,M.lb,M.la⟩
def MR.appB(M:MR R A B out ia ib)(hB:AscR R B)(h:∀x∈(B.drop ib).take k,∀y∈A.drop ia,R x y):MR R A B (out++(B.drop ib).take k) ia (ib+k):=(M.swap.appA hB h).swap
def MR.fin(M:MR R A B out ia ib)(hA:AscR R A)(h:∀x∈A.drop ia,∀y∈B.drop ib,R x y)(hB:AscR R B):(out++A.drop ia++B.drop ib).Perm (A++B)/\AscR R (out++A.drop ia++B.drop ib):=by have m1:=M.appA (k:=A.length) hA (fun x hx=>h x (FT hx));have e1:(A.drop ia).take A.length=A.drop ia:=CA (by rw[BN];lia);rw[e1]at m1;have d1:A.drop (ia+A.length)=[]:=List.drop_eq_nil_of_le (by lia);have m2:=m1.appB (k:=B.length) hB (fun x _ y hy=>by rw[d1]at hy;cases hy);have e2:(B.drop ib).take B.length=B.drop ib:=CA (by rw[BN];lia);rw[e2]at m2;refine⟨m2.perm.trans ?_,m2.asc⟩;rw[CA (by lia),CA (by lia)]
variable {rk:Keyed->Nat}
abbrev Asc(rk:Keyed->Nat)(l:List Keyed):Prop:=AscR (fun x y=>rk x<=rk y) l
abbrev MI(rk:Keyed->Nat)(A B out:List Keyed)(ia ib:Nat):Prop:=MR (fun x y=>rk x<=rk y) A B out ia ib
variable {a b:Array Keyed}{outA:Array Keyed}
def z8(h:Asc rk a.toList)(cN:i<=j)(hj:j<a.size):tk rk a i<=tk rk a j:=by
 rw[k6 (by lia),k6 hj];rcases Nat.lt_or_ge i j with z |z
 . have:=DX.mp h i j (by simpa using (by lia:i<a.size)) (by simpa using hj) z;simpa using this
 . obtain rfl:i=j:=by lia
   exact ζ _
def Uv(h:∀j,n<=j->j<a.size->r<=tk rk a j):∀y∈a.toList.drop n,r<=rk y:=fun y hy=>by
 obtain⟨i,hi,e⟩:=BO.mp hy;rw[EU]at e;have bY:n+i<a.size:=by simp at hi;lia
 have:=h (n+i) (by lia) bY;rw[k6 bY]at this;rw[<-e];simpa using this
def Uu(h:∀i,i<k->n+i<a.size->tk rk a (n+i)<=r):∀y∈(a.toList.drop n).take k,rk y<=r:=fun y hy=>by
 obtain⟨i,hi,e⟩:=BO.mp hy;rw[ET,EU]at e;simp only[BA,BN,AW]at hi;have bY:n+i<a.size:=by omega
 have:=h i (by omega) bY;rw[k6 bY]at this;rw[<-e];simpa using this
abbrev MA(rk:Keyed->Nat)(a b out:Array Keyed)(ia ib:Nat):Prop:=MI rk a.toList b.toList out.toList ia ib
def Gd(n k:Nat):(a.extract n (n+k)).toList=(a.toList.drop n).take k:=by rw[ED,DC,Nat.add_sub_cancel_left]
def Do(n:Nat):(a.extract n a.size).toList=a.toList.drop n:=by rw[ED,DC];refine CA ?_;simp
def Pn(h:n<a.size):(a.toList.drop n).take 1=[a[n]]:=by rw[DF (by simpa using h)];simp
def MI.extA(M:MA rk a b outA ia ib)(hA:Asc rk a.toList)(h1:∀i,i<k->ia+i<a.size->tk rk a (ia+i)<=r)(h2:∀j,ib<=j->j<b.size->r<=tk rk b j):MA rk a b (outA++a.extract ia (ia+k)) (ia+k) ib:=by show MI rk a.toList b.toList (outA++a.extract ia (ia+k)).toList (ia+k) ib;rw[CF,Gd];exact MR.appA M hA fun x hx y hy=>sg (Uu h1 x hx) (Uv h2 y hy)
def MI.pushA(M:MA rk a b outA ia ib)(hA:Asc rk a.toList)(hi:ia<a.size)(h2:∀j,ib<=j->j<b.size->tk rk a ia<=tk rk b j):MA rk a b (outA.push a[ia]) (ia+1) ib:=by have m:=M.extA (k:=1) (r:=tk rk a ia) hA (fun i z _=>by rw[show i=0 by lia];exact ζ _) h2;show MI rk a.toList b.toList (outA.push a[ia]).toList (ia+1) ib;rw[Array.toList_push,<-Pn hi,<-Gd,<-CF];exact m
def MI.swapA(M:MA rk a b outA ia ib):MA rk b a outA ib ia:=MR.swap M
def MI.done(M:MA rk a b outA ia ib)(hA:Asc rk a.toList)(hB:Asc rk b.toList)(h:a.size<=ia\/b.size<=ib) :
  (outA++a.extract ia a.size++b.extract ib b.size).toList.Perm (a.toList++b.toList)/\Asc rk (outA++a.extract ia a.size++b.extract ib b.size).toList:=by
 rw[CF,CF,Do,Do]
 refine MR.fin M hA (fun x hx y hy=>?_) hB
 rcases h with z |z
 . rw[List.drop_eq_nil_of_le (by simpa using z)]at hx;cases hx
 . rw[List.drop_eq_nil_of_le (by simpa using z)]at hy;cases hy
def MI.last(M:MA rk a b outA ia ib)(hA:Asc rk a.toList)(hB:Asc rk b.toList)(h:∀x∈b.toList.drop ib,∀y∈a.toList.drop ia,rk x<=rk y) :
  (outA++b.extract ib b.size++a.extract ia a.size).toList.Perm (a.toList++b.toList)/\Asc rk (outA++b.extract ib b.size++a.extract ia a.size).toList:=by
 rw[CF,CF,Do,Do]
 have:=MR.fin M.swap hB h hA
 exact⟨this.1.trans BV,this.2⟩
end
section
variable {prog:Program}{w:World}{A:Around}{E:Value->Shared->Prop}{s:Shared}{κ:SortKind}{a₀:Array Keyed}{rk:Keyed->Nat}
noncomputable def mlo:Array Keyed->Array Keyed->StateT SortSt Sem (Array Keyed):=sortPriv% PySem.Builtin.mergeLo
structure GS(st u:SortSt):Prop where
 kind:kindOf u=kindOf st
 arr:arrOf u=arrOf st
 pend:pendingOf u=pendingOf st
 ok:failedOf u=failedOf st
def GS.refl(st:SortSt):GS st st:=⟨rfl,rfl,rfl,rfl⟩
def GS.g{st u:SortSt}(h:GS st u)(n:Nat):GS st (SortSt.mk' (kindOf u) (arrOf u) (pendingOf u) n (failedOf u)):=⟨h.kind,h.arr,h.pend,h.ok⟩
section
variable {α:Type}{Q:α->SortSt->Prop}{st:SortSt}
def t6{τ:Sort _}{F:τ}{B:τ->StateT SortSt Sem α}(h:wpS (model prog w) A E s (B F) Q st):wpS (model prog w) A E s (have jp:=F;B jp) Q st:=h
def Wp{β:Type}{g:β->StateT SortSt Sem α}{p:Prop}[Decidable p]{x y:β}(h:∀m,wpS (model prog w) A E s (g m) Q st):wpS (model prog w) A E s (if p then g x else g y) Q st:=by
 split
 . exact h _
 . exact h _
def Dn(g:β->γ->StateT SortSt Sem α)(R:β->γ->Prop)(hF:∀o i,R o i->wpS (model prog w) A E s (g o i) Q st)(h:(∀o i,R o i->wpS (model prog w) A E s (g o i) Q st)->wpS (model prog w) A E s t Q st):wpS (model prog w) A E s t Q st:=h hF
end
def y5k(hc:C0 prog w A E s κ a₀ rk){st:SortSt}(hk:kindOf st=κ){a b:Array Keyed}(cA:∀x∈a,x∈a₀)(bin:∀x∈b,x∈a₀)(hA:Asc rk a.toList)(hB:Asc rk b.toList)(na:0<a.size)(nb:0<b.size)
  (first:∀j,j<a.size->tk rk b 0<=tk rk a j) (last:∀j,j<b.size->tk rk b j<=tk rk a (a.size - 1)) {Q:Array Keyed->SortSt->Prop}
  (h:∀out u,GS st u->out.toList.Perm (a.toList++b.toList)/\Asc rk out.toList->Q out u):wpS (model prog w) A E s (mlo a b) Q st:=by
 have M0:MA rk a b #[b[0]] 0 1:=(MI.pushA (outA:=#[]) (ia:=0) (ib:=0) (show MA rk b a #[] 0 0 from⟨.refl _,.nil,fun x hx=>absurd hx AZ,fun x hx=>absurd hx AZ⟩) hB nb fun j _ hj=>first j hj).swapA
 have dj:∀{out:Array Keyed}{ia ib:Nat},MA rk a b out ia ib->ia+1=a.size->(out++b.extract ib b.size++a.extract ia a.size).toList.Perm (a.toList++b.toList)/\Asc rk (out++b.extract ib b.size++a.extract ia a.size).toList:=fun {out ia ib} M e=>by
  refine M.last hA hB fun x hx y hy=>?_
  refine Uv (fun j h1 h2=>?_) y hy;obtain⟨i,hi,ex⟩:=BO.mp (List.mem_of_mem_drop hx);have bY:i<b.size:=by simpa using hi
  have:=last i bY;rw[k6 bY]at this;rw[show j=a.size - 1 by lia,<-ex];simpa using this
 unfold mlo
 refine δ (X0 ?_)
 iterate 3 refine t6 ?_
 refine δ (m8 nb ?_)
 iterate 3 refine t6 ?_
 by_cases e1:1=b.size
 . rw[ξ (by simp[<-e1])];exact π (h _ st (.refl _) (M0.done hA hB (.inr (by lia))))
 rw[ψ (by simpa using e1)]
 by_cases e2:0+1=a.size
 . rw[ξ (by simp[<-e2])];exact π (h _ st (.refl _) (dj M0 e2))
 rw[ψ (by simpa using e2)]
 refine δ (wpS_get ?_)
 refine t6 ?_
 refine δ (GI (CZ (I:=fun x c u=>GS st u/\∃out ia ib g,c=(none,out,ia,ib,g)/\MA rk a b out ia ib/\ia+1<a.size/\ib<b.size/\x+1<=ia+ib)
  (Q:=fun c u=>GS st u/\∃r t,c=(some r,t)/\r.toList.Perm (a.toList++b.toList)/\Asc rk r.toList) ?step ?fin ⟨.refl _,_,0,1,_,rfl,M0,by lia,by lia,by lia⟩) ?post)
 case fin=>
  rintro c u ⟨_,out,ia,ib,g,rfl,_,h1,h2,h3⟩
  simp only[FN]at h3
  lia
 case post=>
  rintro c u ⟨G,r,t,rfl,f⟩
  exact π (h r u G f)
 case step=>
  rintro x c u _ _ ⟨G,out,ia,ib,g,rfl,M,h1,h2,h3⟩
  iterate 9 refine t6 ?_
  dsimp -zetaHave only
  refine δ (GI (CZ (I:=fun y c v=>v=u/\∃out ia ib ac bc,c=(none,out,ia,ib,ac,bc)/\MA rk a b out ia ib/\ia+1<a.size/\ib<b.size/\x+1+y<=ia+ib)
   (Q:=fun c v=>v=u/\((∃r t,c=(some r,t)/\r.toList.Perm (a.toList++b.toList)/\Asc rk r.toList)\/∃out ia ib ac bc,c=(none,out,ia,ib,ac,bc)/\MA rk a b out ia ib/\ia+1<a.size/\ib<b.size/\x+2<=ia+ib))
   ?walk ?wfin ⟨rfl,out,ia,ib,0,0,rfl,M,h1,h2,by lia⟩) ?wpost)
  case wfin=>
   rintro c v ⟨rfl,out,ia,ib,ac,bc,rfl,M,h1,h2,h3⟩
   simp only[FN]at h3
   exact⟨rfl,.inr ⟨out,ia,ib,ac,bc,rfl,M,h1,h2,by lia⟩⟩
  case walk=>
   rintro y c v _ _ ⟨rfl,out,ia,ib,ac,bc,rfl,M,h1,h2,h3⟩
   iterate 9 refine t6 ?_
   dsimp -zetaHave only
   refine δ (m8 h2 (δ (m8 (show ia<a.size by lia) (δ (hc _ _ (bin _ (Array.getElem_mem _)) (cA _ (Array.getElem_mem _)) _ _ (G.kind.trans hk) ?_)))))
   rw[<-k6 (rk:=rk),<-k6 (rk:=rk)]
   by_cases l:tk rk b ib<tk rk a ia
   . rw[decide_eq_true l];dsimp -zetaHave only;rw[ξ rfl];have M':=(MI.pushA M.swapA hB h2 fun j z1 z2=>sg (EB l) (z8 hA z1 z2)).swapA;refine δ (m8 h2 ?_)
     iterate 4 refine t6 ?_
     by_cases f1:ib+1=b.size
     . rw[ξ (by simpa using f1)];exact π ⟨rfl,.inl ⟨_,_,rfl,M'.done hA hB (.inr (by lia))⟩⟩
     rw[ψ (by simpa using f1)];split
     . exact π ⟨rfl,.inr ⟨_,_,_,_,_,rfl,M',h1,by lia,by lia⟩⟩
     . exact π ⟨rfl,_,_,_,_,_,rfl,M',h1,by lia,by lia⟩
   . rw[decide_eq_false l];dsimp -zetaHave only;rw[ψ η];have M':=MI.pushA M hA (by lia) fun j z1 z2=>sg (Nat.not_lt.mp l) (z8 hB z1 z2)
     refine δ (m8 (show ia<a.size by lia) ?_)
     iterate 4 refine t6 ?_
     by_cases f1:ia+1+1=a.size
     . rw[ξ (by simpa using f1)];exact π ⟨rfl,.inl ⟨_,_,rfl,dj M' f1⟩⟩
     rw[ψ (by simpa using f1)];split
     . exact π ⟨rfl,.inr ⟨_,_,_,_,_,rfl,M',by lia,h2,by lia⟩⟩
     . exact π ⟨rfl,_,_,_,_,_,rfl,M',by lia,h2,by lia⟩
  case wpost=>
   rintro c v ⟨rfl,⟨r,t,rfl,f⟩ |⟨out,ia,ib,ac,bc,rfl,M,h1,h2,h3⟩⟩
   . exact π ⟨G,r,_,rfl,f⟩
   iterate 10 refine t6 ?_
   dsimp -zetaHave only
   refine δ (X0 ?_)
   refine t6 ?_
   refine δ (GI (CZ (I:=fun _ c v=>GS st v/\∃out ia ib mg ac bc,c=(none,out,ia,ib,mg,ac,bc)/\MA rk a b out ia ib/\ia+1<a.size/\ib<b.size/\x+2<=ia+ib)
    (Q:=fun c v=>GS st v/\((∃r t,c=(some r,t)/\r.toList.Perm (a.toList++b.toList)/\Asc rk r.toList)\/∃out ia ib mg ac bc,c=(none,out,ia,ib,mg,ac,bc)/\MA rk a b out ia ib/\ia+1<a.size/\ib<b.size/\x+2<=ia+ib))
    ?jump (fun c v hI=>⟨hI.1,.inr hI.2⟩) ⟨G,out,ia,ib,_,ac,bc,rfl,M,h1,h2,h3⟩) ?jpost)
   case jpost=>
    rintro c v2 ⟨G2,⟨r,t,rfl,f⟩ |⟨out,ia,ib,mg,ac,bc,rfl,M,h1,h2,h3⟩⟩
    . exact π ⟨G2,r,_,rfl,f⟩
    . exact δ (wpS_modify (π ⟨G2.g _,out,ia,ib,_,rfl,M,h1,h2,by lia⟩))
   case jump=>
    clear M h1 h2 h3 out ia ib ac bc
    rintro y c v2 _ _ ⟨G2,out,ia,ib,mg,ac,bc,rfl,M,h1,h2,h3⟩
    extract_lets s1 o1 s2 i1 s3 b1 s4 m1 s5 a1 c1 bZ jp tv
    have N:MA rk a b o1 i1 b1/\i1+1<a.size/\b1<b.size/\x+2<=i1+b1:=⟨M,h1,h2,h3⟩
    have tw:bZ=b1+1:=rfl
    clear M h1 h2 h3
    clear_value o1 i1 b1 m1 a1 c1 bZ
    obtain⟨M,h1,h2,h3⟩:=N
    refine Wp (g:=jp ⟨⟩) fun m=>?_
    refine δ (wpS_modify ?_)
    refine δ (m8 h2 ?_)
    refine δ (V8 hc (by exact G2.kind.trans hk) (bin _ (Array.getElem_mem _)) cA (by lia) (by lia) (fun i j z1 z2 z3=>?_) fun k iA lt gt=>?_)
    . unfold bey at z3⊢;rw[ψ η]at z3⊢;have:=z8 hA (show i1+i<=i1+j by lia) (by lia);simp only[CO,AT]at z3⊢
      lia
    dsimp -zetaHave only
    have cb:i1+k<a.size->tk rk b b1<=tk rk a (i1+k):=fun z=>by
     have:=gt k (ζ _) (by lia);unfold bey at this;rw[ψ η,<-k6 (rk:=rk)]at this;simp only[Bool.not_eq_false',AR]at this
     lia
    have ca:∀i,i<k->i1+i<a.size->tk rk a (i1+i)<=tk rk b b1:=fun i z _=>by
     have:=lt i z;unfold bey at this;rw[ψ η,<-k6 (rk:=rk)]at this;simp only[CO,AT]at this
     lia
    have M1:=MI.extA (k:=k) M hA ca fun j z1 z2=>z8 hB z1 z2
    clear ca lt gt
    extract_lets tz jq o2 i2
    refine Dn (jq ⟨⟩) (fun de cr=>MA rk a b de cr b1/\cr+1<a.size/\tk rk b b1<=tk rk a cr/\x+2<=cr+b1) (fun de cr z=>?_) fun J=>?_
    rotate_left
    . have ei:i2=i1+k:=rfl;split
      . by_cases f1:i2+1=a.size
        . rw[ξ (by simpa using f1)];exact π ⟨G2.g _,.inl ⟨_,_,rfl,dj M1 f1⟩⟩
        rw[ψ (by simpa using f1)];by_cases f2:i2=a.size
        . rw[ξ (by simpa using f2)];exact π ⟨G2.g _,.inl ⟨_,_,rfl,M1.done hA hB (.inl (by lia))⟩⟩
        rw[ψ (by simpa using f2)];exact J _ _ ⟨M1,by lia,cb (by lia),by lia⟩
      . exact J o1 i1 ⟨M,h1,by have:=cb (by lia);rwa [show i1+k=i1 by lia]at this,h3⟩
    clear M M1 cb h1 h3 o2 i2
    obtain⟨M2,q1,r1,p1⟩:=z
    refine δ (m8 h2 ?_)
    extract_lets o3 oS
    have M3:=(MI.pushA M2.swapA hB h2 fun j z1 z2=>sg r1 (z8 hA z1 z2)).swapA
    rw[<-tw]at M3
    have M3:MA rk a b o3 cr bZ:=M3
    clear_value o3
    by_cases f3:bZ=b.size
    . rw[ξ (by simpa using f3)];exact π ⟨G2.g _,.inl ⟨_,_,rfl,M3.done hA hB (.inr (by lia))⟩⟩
    rw[ψ (by simpa using f3)]
    have fF:cr<a.size:=by lia
    refine δ (m8 fF ?_)
    refine δ (V8 hc (by exact G2.kind.trans hk) (cA _ (Array.getElem_mem _)) bin (by lia) (by lia) (fun i j z1 z2 z3=>?_) fun k2 iA lt gt=>?_)
    . unfold bey at z3⊢;rw[ξ rfl]at z3⊢;have:=z8 hB (show bZ+i<=bZ+j by lia) (by lia);simp only[AR]at z3⊢
      lia
    dsimp -zetaHave only
    have cb:bZ+k2<b.size->tk rk a cr<=tk rk b (bZ+k2):=fun z=>by
     have:=gt k2 (ζ _) (by lia);unfold bey at this;rw[ξ rfl,<-k6 (rk:=rk)]at this;simp only[AT]at this
     lia
    have ca:∀i,i<k2->bZ+i<b.size->tk rk b (bZ+i)<=tk rk a cr:=fun i z _=>by
     have:=lt i z;unfold bey at this;rw[ξ rfl,<-k6 (rk:=rk)]at this;simp only[AR]at this
     lia
    have M4:=(MI.extA (k:=k2) M3.swapA hB ca fun j z1 z2=>z8 hA z1 z2).swapA
    clear ca lt gt
    extract_lets tD jr o4 mC
    refine Dn (jr ⟨⟩) (fun dQ ib=>MA rk a b dQ cr ib/\ib<b.size/\tk rk a cr<=tk rk b ib/\x+2<=cr+ib) (fun dQ ib z=>?_) fun J=>?_
    rotate_left
    . have ei:mC=bZ+k2:=rfl;split
      . by_cases f4:mC=b.size
        . rw[ξ (by simpa using f4)];exact π ⟨G2.g _,.inl ⟨_,_,rfl,M4.done hA hB (.inr (by lia))⟩⟩
        rw[ψ (by simpa using f4)];exact J _ _ ⟨M4,by lia,cb (by lia),by lia⟩
      . exact J o3 bZ ⟨M3,by lia,by have:=cb (by lia);rwa [show bZ+k2=bZ by lia]at this,by lia⟩
    clear M4 M3 cb o4 mC
    obtain⟨M5,b2,c2,p2⟩:=z
    refine δ (m8 fF ?_)
    extract_lets o5
    have M6:=MI.pushA M5 hA fF fun j z1 z2=>sg c2 (z8 hB z1 z2)
    by_cases f5:cr+1+1=a.size
    . rw[ξ (show(oS+1==a.size)=true by simpa using f5)];exact π ⟨G2.g _,.inl ⟨_,_,rfl,dj M6 f5⟩⟩
    rw[ψ (show ¬(oS+1==a.size)=true by simpa using f5)]
    split
    . exact π ⟨G2.g _,.inr ⟨_,_,_,_,_,_,rfl,M6,by lia,b2,by lia⟩⟩
    . exact π ⟨G2.g _,_,_,_,_,_,_,rfl,M6,by lia,b2,by lia⟩
end
section
variable {rk:Keyed->Nat}{a b outA:Array Keyed}{na nb:Nat}
abbrev MH(rk:Keyed->Nat)(a b out:Array Keyed)(na nb:Nat):Prop:=MR (fun x y=>rk y<=rk x) a.toList.reverse b.toList.reverse out.toList (a.size - na) (b.size - nb)
def Jw(h:Asc rk a.toList):AscR (fun x y=>rk y<=rk x) a.toList.reverse:=List.pairwise_reverse.mpr h
def X8(h:na<=a.size):a.toList.reverse.drop (a.size - na)=(a.toList.take na).reverse:=by rw[List.drop_reverse,AW,show a.size - (a.size - na)=na by omega]
def Ut(h:∀j,j<na->j<a.size->tk rk a j<=r):∀y∈a.toList.take na,rk y<=r:=by have:=Uu (rk:=rk) (a:=a) (n:=0) (k:=na) (r:=r) (fun i z1 z2=>by rw[CK];exact h i z1 (by lia));rwa [List.drop_zero]at this
def MR.extH(M:MH rk a b outA na nb)(hA:Asc rk a.toList)(hp:p<=na)(hn:na<=a.size)(hb:nb<=b.size)(h1:∀i,p<=i->i<na->r<=tk rk a i)(h2:∀j,j<nb->tk rk b j<=r):MH rk a b (outA++(a.extract p na).reverse) p nb:=by
 have e:((a.extract p na).reverse).toList=(a.toList.reverse.drop (a.size - na)).take (na - p):=by rw[X8 hn,FW,ED,DC,List.take_reverse,BA,AW,List.drop_take];rw[show min na a.size - (na - p)=p by lia]
 show MR _ _ _ (outA++(a.extract p na).reverse).toList (a.size - p) (b.size - nb);rw[CF,e,show a.size - p=a.size - na+(na - p) by lia];refine MR.appA M (Jw hA) fun x hx y hy=>?_
 rw[<-e,FW,List.mem_reverse,ED,DC]at hx;rw[X8 hb,List.mem_reverse]at hy;refine sg (Ut (fun j z _=>h2 j z) y hy) ?_;obtain⟨i,hi,ex⟩:=BO.mp hx;rw[ET,EU]at ex;simp only[BA,BN,AW]at hi;have:=h1 (p+i) (by lia) (by lia);rw[k6 (show p+i<a.size by lia)]at this;rw[<-ex];simpa using this
def MR.pushH(M:MH rk a b outA na nb)(hA:Asc rk a.toList)(h0:0<na)(hn:na<=a.size)(hb:nb<=b.size)(h2:∀j,j<nb->tk rk b j<=tk rk a (na - 1)):MH rk a b (outA.push a[na - 1]) (na - 1) nb:=by
 have m:=MR.extH M hA (p:=na - 1) (r:=tk rk a (na - 1)) (by omega) hn hb (fun i z1 z2=>by rw[show i=na - 1 by omega];exact ζ _) h2;have e:(a.extract (na - 1) na).reverse.toList=[a[na - 1]]:=by rw[FW,show a.extract (na - 1) na=a.extract (na - 1) (na - 1+1) by rw[Nat.sub_add_cancel h0],Gd,Pn (by omega)];rfl
 show MR _ _ _ (outA.push a[na - 1]).toList _ _;rw[Array.toList_push,<-e,<-CF];exact m
def MR.finH(M:MH rk a b outA na nb)(hA:Asc rk a.toList)(hB:Asc rk b.toList)(hn:na<=a.size)(hb:nb<=b.size)(h:∀x∈b.toList.take nb,∀y∈a.toList.take na,rk y<=rk x) :
  (a.extract 0 na++b.extract 0 nb++outA.reverse).toList.Perm (a.toList++b.toList)/\Asc rk (a.extract 0 na++b.extract 0 nb++outA.reverse).toList:=by
 have f:=MR.fin M.swap (Jw hB) (fun x hx y hy=>?_) (Jw hA)
 . rw[X8 hn,X8 hb]at f;have e:(a.extract 0 na++b.extract 0 nb++outA.reverse).toList=(outA.toList++(b.toList.take nb).reverse++(a.toList.take na).reverse).reverse:=by
    have ea:∀(c:Array Keyed)(k:Nat),(c.extract 0 k).toList=c.toList.take k:=fun c k=>by rw[ED,DC,List.drop_zero,Nat.sub_zero]
    rw[CF,CF,ea,ea,FW];simp
   rw[e];refine⟨(List.reverse_perm _).trans (f.1.trans ?_),List.pairwise_reverse.mpr f.2⟩;exact((List.reverse_perm _).append (List.reverse_perm _)).trans BV
 . rw[X8 hb,List.mem_reverse]at hx;rw[X8 hn,List.mem_reverse]at hy;exact h x hx y hy
end
section
variable {prog:Program}{w:World}{A:Around}{E:Value->Shared->Prop}{s:Shared}{κ:SortKind}{a₀:Array Keyed}{rk:Keyed->Nat}
noncomputable def mhi:Array Keyed->Array Keyed->StateT SortSt Sem (Array Keyed):=sortPriv% PySem.Builtin.mergeHi
def y5l(hc:C0 prog w A E s κ a₀ rk){st:SortSt}(hk:kindOf st=κ){a b:Array Keyed}(cA:∀x∈a,x∈a₀)(bin:∀x∈b,x∈a₀)(hA:Asc rk a.toList)(hB:Asc rk b.toList)(tF:0<a.size)(AK:0<b.size)
  (first:∀j,j<a.size->tk rk b 0<=tk rk a j) (last:∀j,j<b.size->tk rk b j<=tk rk a (a.size - 1)) {Q:Array Keyed->SortSt->Prop}
  (h:∀out u,GS st u->out.toList.Perm (a.toList++b.toList)/\Asc rk out.toList->Q out u):wpS (model prog w) A E s (mhi a b) Q st:=by
 have M0:MH rk a b #[a[a.size - 1]] (a.size - 1) b.size:=MR.pushH (outA:=#[]) (na:=a.size) (nb:=b.size)
  (show MH rk a b #[] a.size b.size from⟨by simp,.nil,fun x hx=>absurd hx AZ,fun x hx=>absurd hx AZ⟩) hA tF (ζ _) (ζ _) last
 have dn:∀{out:Array Keyed}{na nb:Nat},MH rk a b out na nb->na<=a.size->nb<=b.size->(na=0\/nb=0)->(a.extract 0 na++b.extract 0 nb++out.reverse).toList.Perm (a.toList++b.toList)/\Asc rk (a.extract 0 na++b.extract 0 nb++out.reverse).toList:=fun {out na nb} M h1 h2 e=>by
  refine MR.finH M hA hB h1 h2 fun x hx y hy=>?_
  rcases e with rfl |rfl
  . rw[List.take_zero]at hy;cases hy
  . rw[List.take_zero]at hx;cases hx
 have fb:∀{out:Array Keyed}{na nb:Nat},MH rk a b out na nb->na<=a.size->nb<=b.size->nb=1->(b.extract 0 nb++a.extract 0 na++out.reverse).toList.Perm (a.toList++b.toList)/\Asc rk (b.extract 0 nb++a.extract 0 na++out.reverse).toList:=fun {out na nb} M h1 h2 e=>by
  have f:=MR.finH (a:=b) (b:=a) M.swap hB hA h2 h1 fun x hx y hy=>?_
  . exact⟨f.1.trans BV,f.2⟩
  . obtain⟨i,hi,ex⟩:=BO.mp (FT hx);have bY:i<a.size:=by simpa using hi
    have q:=first i bY
    rw[k6 bY]at q;rw[<-ex];refine sg (Ut (r:=tk rk b 0) (fun j z1 z2=>by rw[show j=0 by lia];exact ζ _) y hy) (by simpa using q)
 unfold mhi
 refine δ (X0 ?_)
 iterate 3 refine t6 ?_
 refine δ (m8 (show a.size - 1<a.size by lia) ?_)
 iterate 3 refine t6 ?_
 by_cases e1:a.size - 1=0
 . rw[ξ (by simpa using e1)];exact π (h _ st (.refl _) (dn M0 (by lia) (ζ _) (.inl e1)))
 rw[ψ (by simpa using e1)]
 by_cases e2:b.size=1
 . rw[ξ (by simpa using e2)];exact π (h _ st (.refl _) (fb M0 (by lia) (ζ _) e2))
 rw[ψ (by simpa using e2)]
 refine δ (wpS_get ?_)
 refine t6 ?_
 refine δ (GI (CZ (I:=fun x c u=>GS st u/\∃na nb out g,c=(none,na,nb,out,g)/\MH rk a b out na nb/\(0<na/\na<=a.size)/\(1<nb/\nb<=b.size)/\na+nb+x+1<=a.size+b.size)
  (Q:=fun c u=>GS st u/\∃r t,c=(some r,t)/\r.toList.Perm (a.toList++b.toList)/\Asc rk r.toList) ?step ?fin ⟨.refl _,_,_,_,_,rfl,M0,by lia,by lia,by lia⟩) ?post)
 case fin=>
  rintro c u ⟨_,na,nb,out,g,rfl,_,h1,h2,h3⟩
  simp only[FN]at h3
  lia
 case post=>
  rintro c u ⟨G,r,t,rfl,f⟩
  exact π (h r u G f)
 case step=>
  rintro x c u _ _ ⟨G,na,nb,out,g,rfl,M,h1,h2,h3⟩
  iterate 9 refine t6 ?_
  dsimp -zetaHave only
  refine δ (GI (CZ (I:=fun y c v=>v=u/\∃na nb out ac bc,c=(none,na,nb,out,ac,bc)/\MH rk a b out na nb/\(0<na/\na<=a.size)/\(1<nb/\nb<=b.size)/\na+nb+x+1+y<=a.size+b.size)
   (Q:=fun c v=>v=u/\((∃r t,c=(some r,t)/\r.toList.Perm (a.toList++b.toList)/\Asc rk r.toList)\/∃na nb out ac bc,c=(none,na,nb,out,ac,bc)/\MH rk a b out na nb/\(0<na/\na<=a.size)/\(1<nb/\nb<=b.size)/\na+nb+x+2<=a.size+b.size))
   ?walk ?wfin ⟨rfl,na,nb,out,0,0,rfl,M,h1,h2,by lia⟩) ?wpost)
  case wfin=>
   rintro c v ⟨rfl,na,nb,out,ac,bc,rfl,M,h1,h2,h3⟩
   simp only[FN]at h3
   exact⟨rfl,.inr ⟨na,nb,out,ac,bc,rfl,M,h1,h2,by lia⟩⟩
  case walk=>
   rintro y c v _ _ ⟨rfl,na,nb,out,ac,bc,rfl,M,h1,h2,h3⟩
   iterate 9 refine t6 ?_
   dsimp -zetaHave only
   refine δ (m8 (show nb - 1<b.size by lia) (δ (m8 (show na - 1<a.size by lia) (δ (hc _ _ (bin _ (Array.getElem_mem _)) (cA _ (Array.getElem_mem _)) _ _ (G.kind.trans hk) ?_)))))
   rw[<-k6 (rk:=rk),<-k6 (rk:=rk)]
   by_cases l:tk rk b (nb - 1)<tk rk a (na - 1)
   . rw[decide_eq_true l];dsimp -zetaHave only;rw[ξ rfl];have M':=MR.pushH M hA h1.1 h1.2 h2.2 fun j z=>sg (z8 hB (show j<=nb - 1 by lia) (by lia)) (EB l)
     refine δ (m8 (show na - 1<a.size by lia) ?_)
     iterate 4 refine t6 ?_
     by_cases f1:na - 1=0
     . rw[ξ (by simpa using f1)];exact π ⟨rfl,.inl ⟨_,_,rfl,dn M' (by lia) h2.2 (.inl f1)⟩⟩
     rw[ψ (by simpa using f1)];split
     . exact π ⟨rfl,.inr ⟨_,_,_,_,_,rfl,M',by lia,h2,by lia⟩⟩
     . exact π ⟨rfl,_,_,_,_,_,rfl,M',by lia,h2,by lia⟩
   . rw[decide_eq_false l];dsimp -zetaHave only;rw[ψ η];have M':MH rk a b (out.push b[nb - 1]) na (nb - 1):=(MR.pushH (a:=b) (b:=a) M.swap hB (by lia) h2.2 h1.2 fun j z=>sg (z8 hA (show j<=na - 1 by lia) (by lia)) (Nat.not_lt.mp l)).swap;refine δ (m8 (show nb - 1<b.size by lia) ?_)
     iterate 4 refine t6 ?_
     by_cases f1:nb - 1=1
     . rw[ξ (by simpa using f1)];exact π ⟨rfl,.inl ⟨_,_,rfl,fb M' h1.2 (by lia) f1⟩⟩
     rw[ψ (by simpa using f1)];split
     . exact π ⟨rfl,.inr ⟨_,_,_,_,_,rfl,M',h1,by lia,by lia⟩⟩
     . exact π ⟨rfl,_,_,_,_,_,rfl,M',h1,by lia,by lia⟩
  case wpost=>
   rintro c v ⟨rfl,⟨r,t,rfl,f⟩ |⟨na,nb,out,ac,bc,rfl,M,h1,h2,h3⟩⟩
   . exact π ⟨G,r,_,rfl,f⟩
   iterate 10 refine t6 ?_
   dsimp -zetaHave only
   refine δ (X0 ?_)
   refine t6 ?_
   refine δ (GI (CZ (I:=fun _ c v=>GS st v/\∃na nb out mg ac bc,c=(none,na,nb,out,mg,ac,bc)/\MH rk a b out na nb/\(0<na/\na<=a.size)/\(1<nb/\nb<=b.size)/\na+nb+x+2<=a.size+b.size)
    (Q:=fun c v=>GS st v/\((∃r t,c=(some r,t)/\r.toList.Perm (a.toList++b.toList)/\Asc rk r.toList)\/∃na nb out mg ac bc,c=(none,na,nb,out,mg,ac,bc)/\MH rk a b out na nb/\(0<na/\na<=a.size)/\(1<nb/\nb<=b.size)/\na+nb+x+2<=a.size+b.size))
    ?jump (fun c v hI=>⟨hI.1,.inr hI.2⟩) ⟨G,na,nb,out,_,ac,bc,rfl,M,h1,h2,h3⟩) ?jpost)
   case jpost=>
    rintro c v2 ⟨G2,⟨r,t,rfl,f⟩ |⟨na,nb,out,mg,ac,bc,rfl,M,h1,h2,h3⟩⟩
    . exact π ⟨G2,r,_,rfl,f⟩
    . exact δ (wpS_modify (π ⟨G2.g _,na,nb,out,_,rfl,M,h1,h2,by lia⟩))
   case jump=>
    clear M h1 h2 h3 out na nb ac bc
    rintro y c v2 _ _ ⟨G2,na,nb,out,mg,ac,bc,rfl,M,h1,h2,h3⟩
    extract_lets s1 n1 s2 b1 s3 o1 s4 m1 s5 a1 c1 eg jp tv
    have N:MH rk a b o1 n1 b1/\(0<n1/\n1<=a.size)/\(1<b1/\b1<=b.size)/\n1+b1+x+2<=a.size+b.size:=⟨M,h1,h2,h3⟩
    have eb:eg=b1 - 1:=rfl
    clear M h1 h2 h3
    clear_value o1 n1 b1 m1 a1 c1 eg
    obtain⟨M,h1,h2,h3⟩:=N
    have mD:b1 - 1<b.size:=by lia
    refine Wp (g:=jp ⟨⟩) fun m=>?_
    refine δ (wpS_modify ?_)
    refine δ (m8 mD ?_)
    refine δ (V8 hc (by exact G2.kind.trans hk) (bin _ (Array.getElem_mem _)) cA (by lia) (by lia) (fun i j z1 z2 z3=>?_) fun p hp lt gt=>?_)
    . unfold bey at z3⊢;rw[ψ η]at z3⊢;have:=z8 hA (show 0+i<=0+j by lia) (by lia);simp only[CO,AT]at z3⊢
      lia
    dsimp -zetaHave only
    have ca:∀i,p<=i->i<n1->tk rk b (b1 - 1)<=tk rk a i:=fun i z1 z2=>by
     have:=gt i z1 z2;unfold bey at this;rw[ψ η,<-k6 (rk:=rk),CK]at this;simp only[Bool.not_eq_false',AR]at this
     lia
    have cb:∀i,i<p->tk rk a i<=tk rk b (b1 - 1):=fun i z=>by
     have:=lt i z;unfold bey at this;rw[ψ η,<-k6 (rk:=rk),CK]at this;simp only[CO,AT]at this
     lia
    have M1:=MR.extH M hA (p:=p) hp h1.2 h2.2 ca fun j z=>z8 hB (show j<=b1 - 1 by lia) (by lia)
    clear ca lt gt
    extract_lets k tz jq o2 n2
    refine Dn (jq ⟨⟩) (fun bM de=>MH rk a b de bM b1/\(0<bM/\bM<=a.size)/\(∀i,i<bM->tk rk a i<=tk rk b (b1 - 1))/\bM+b1+x+2<=a.size+b.size) (fun bM de z=>?_) fun J=>?_
    rotate_left
    . have ek:k=n1 - p:=rfl;split
      . by_cases f1:p=0
        . rw[ξ (by simpa using f1)];exact π ⟨G2.g _,.inl ⟨_,_,rfl,dn M1 (by lia) h2.2 (.inl f1)⟩⟩
        rw[ψ (by simpa using f1)];exact J _ _ ⟨M1,by lia,cb,by lia⟩
      . exact J n1 o1 ⟨M,h1,fun i z=>cb i (by lia),h3⟩
    clear M M1 cb h1 h3 o2 n2
    obtain⟨M2,q1,r1,p1⟩:=z
    rw[<-eb]at mD r1
    refine δ (m8 mD ?_)
    extract_lets o3 oU
    have M3:MH rk a b (de.push b[b1 - 1]) bM (b1 - 1):=(MR.pushH (a:=b) (b:=a) M2.swap hB (by lia) h2.2 q1.2 (eb ▸ r1)).swap
    have M3:MH rk a b o3 bM eg:=by subst eb;exact M3
    clear_value o3
    by_cases f3:eg=1
    . rw[ξ (by simpa using f3)];exact π ⟨G2.g _,.inl ⟨_,_,rfl,fb M3 q1.2 (by lia) f3⟩⟩
    rw[ψ (by simpa using f3)]
    have fF:bM - 1<a.size:=by lia
    refine δ (m8 fF ?_)
    refine δ (V8 hc (by exact G2.kind.trans hk) (cA _ (Array.getElem_mem _)) bin (by lia) (by lia) (fun i j z1 z2 z3=>?_) fun p2 lv lt gt=>?_)
    . unfold bey at z3⊢;rw[ξ rfl]at z3⊢;have:=z8 hB (show 0+i<=0+j by lia) (by lia);simp only[AR]at z3⊢
      lia
    dsimp -zetaHave only
    have ca:∀i,p2<=i->i<eg->tk rk a (bM - 1)<=tk rk b i:=fun i z1 z2=>by
     have:=gt i z1 z2;unfold bey at this;rw[ξ rfl,<-k6 (rk:=rk),CK]at this;simp only[AT]at this
     lia
    have cb:∀i,i<p2->tk rk b i<=tk rk a (bM - 1):=fun i z=>by
     have:=lt i z;unfold bey at this;rw[ξ rfl,<-k6 (rk:=rk),CK]at this;simp only[AR]at this
     lia
    have M4:MH rk a b (o3++(b.extract p2 eg).reverse) bM p2:=(MR.extH (a:=b) (b:=a) M3.swap hB (p:=p2) lv (by lia) q1.2 ca fun j z=>z8 hA (show j<=bM - 1 by lia) (by lia)).swap
    clear ca lt gt
    extract_lets k2 tD jr o4 tG
    refine Dn (jr ⟨⟩) (fun nb dQ=>MH rk a b dQ bM nb/\(1<nb/\nb<=b.size)/\(∀i,i<nb->tk rk b i<=tk rk a (bM - 1))/\bM+nb+x+2<=a.size+b.size) (fun nb dQ z=>?_) fun J=>?_
    rotate_left
    . have ek:k2=eg - p2:=rfl;split
      . by_cases f4:p2=1
        . rw[ξ (by simpa using f4)];exact π ⟨G2.g _,.inl ⟨_,_,rfl,fb M4 q1.2 (by lia) f4⟩⟩
        rw[ψ (by simpa using f4)];by_cases f5:p2=0
        . rw[ξ (by simpa using f5)];exact π ⟨G2.g _,.inl ⟨_,_,rfl,dn M4 q1.2 (by lia) (.inr f5)⟩⟩
        rw[ψ (by simpa using f5)];exact J _ _ ⟨M4,by lia,cb,by lia⟩
      . exact J eg o3 ⟨M3,by lia,fun i z=>cb i (by lia),by lia⟩
    clear M4 M3 cb o4 tG
    obtain⟨M5,b2,c2,p2⟩:=z
    refine δ (m8 fF ?_)
    extract_lets o5
    have M6:=MR.pushH M5 hA q1.1 q1.2 b2.2 c2
    by_cases f6:bM - 1=0
    . rw[ξ (show(oU==0)=true by simpa using f6)];exact π ⟨G2.g _,.inl ⟨_,_,rfl,dn M6 (by lia) b2.2 (.inl f6)⟩⟩
    rw[ψ (show ¬(oU==0)=true by simpa using f6)]
    split
    . exact π ⟨G2.g _,.inr ⟨_,_,_,_,_,_,rfl,M6,by lia,b2,by lia⟩⟩
    . exact π ⟨G2.g _,_,_,_,_,_,_,rfl,M6,by lia,b2,by lia⟩
end
section
variable {rk:Keyed->Nat}
theorem Sm(c:Nat):∀(m:List Keyed)(n:Nat)(ys:Array Keyed),c+n+m.length<=ys.size ->
  ((m.zipIdx n).foldl (fun a (q:Keyed×Nat)=>a.setIfInBounds (c+q.2) q.1) ys).toList=ys.toList.take (c+n)++m++ys.toList.drop (c+n+m.length)
 | [],n,ys,_=>by simp
 |p::m,n,ys,h=>by
  simp only[io]at h;rw[List.zipIdx_cons,List.foldl_cons,Sm c m (n+1) _ (by rw[Array.size_setIfInBounds];lia),Array.toList_setIfInBounds];have hl:c+n<ys.toList.length:=by rw[AW];lia
  rw[show c+(n+1)=c+n+1 by lia,List.take_set,List.drop_set_of_lt (by lia),List.take_succ_eq_append_getElem hl,List.set_append_right _ _ (by rw[BA];lia)];rw[BA,show c+n - min (c+n) ys.toList.length=0 by lia,List.set_cons_zero,io,show c+n+1+m.length=c+n+(m.length+1) by lia];simp
structure Seg(xs:Array Keyed)(pre X post:List Keyed):Prop where
 eq:xs.toList=pre++X++post
variable {xs:Array Keyed}{pre X post:List Keyed}
def Seg.size(S:Seg xs pre X post):xs.size=pre.length+X.length+post.length:=by rw[<-AW,S.eq,θ,θ]
def Seg.at(S:Seg xs pre X post)(h:i<X.length):∃hh:pre.length+i<xs.size,xs[pre.length+i]=X[i]:=by refine⟨by rw[S.size];lia,?_⟩;rw[<-Array.getElem_toList];simp only[S.eq];rw[List.getElem_append_left (by rw[θ];lia),List.getElem_append_right (by lia)];simp
def Seg.tk(S:Seg xs pre X post)(h:i<X.length):tk rk xs (pre.length+i)=rk X[i]:=by obtain⟨hh,e⟩:=S.at h;rw[k6 hh,e]
def Asc.at(h:Asc rk l)(cN:i<=j)(hj:j<l.length):rk l[i]<=rk l[j]:=by
 rcases Nat.lt_or_ge i j with z |z
 . exact DX.mp h i j (by lia) hj z
 . obtain rfl:i=j:=by lia
   exact ζ _
def Seg.ext(S:Seg xs pre X post)(k m:Nat)(h:k<=m)(hm:m<=X.length):(xs.extract (pre.length+k) (pre.length+m)).toList=(X.drop k).take (m - k):=by
 rw[ED,DC,S.eq,DK,<-List.drop_drop,List.drop_left,List.drop_append_of_le_length (by lia),show pre.length+m - (pre.length+k)=m - k by lia,
  List.take_append_of_le_length (by rw[BN];lia)]
end
section
variable {prog:Program}{w:World}{A:Around}{E:Value->Shared->Prop}{s:Shared}{κ:SortKind}{a₀:Array Keyed}{rk:Keyed->Nat}
def jE(e:a.toList=l)(h:i<l.length):tk rk a i=rk l[i]:=by subst e;rw[k6 (by simpa using h)];simp
def y30{U:Type}{M:Model}{v st:U}{Q:PUnit->U->Prop}(h:Q ⟨⟩ v):wpS M A E s (set v:StateT U Sem PUnit) Q st:=by unfold wpS;rw[StateT.run_set];exact ω ⟨rfl,h⟩
def y5m(hc:C0 prog w A E s κ a₀ rk){st:SortSt}(B:TBs κ a₀ st){L R:List (Nat×Nat×Nat)}{pw pw':Nat}{pre X Y post:List Keyed}(hP:(pendingOf st).toList=L++(pre.length,X.length,pw)::(pre.length+X.length,Y.length,pw')::R)
  (hx:(arrOf st).toList=pre++X++(Y++post)) (aX:Asc rk X) (aY:Asc rk Y) (nX:0<X.length) (nY:0<Y.length) {Q:Bool->SortSt->Prop}
  (h:∀u Z,TBs κ a₀ u->(pendingOf u).toList=L++(pre.length,X.length+Y.length,pw)::R->(arrOf u).toList=pre++Z++post->Asc rk Z->Z.length=X.length+Y.length->Q true u):wpS (model prog w) A E s (mergeAt' L.length) Q st:=by
 have S1:Seg (arrOf st) pre X (Y++post):=⟨hx⟩
 have S2:Seg (arrOf st) (pre++X) Y post:=⟨by rw[hx,<-DK]⟩
 have l2:(pre++X).length=pre.length+X.length:=θ
 have p1:(pendingOf st)[L.length]?=some (pre.length,X.length,pw):=by rw[<-ES,hP];simp
 have p2:(pendingOf st)[L.length+1]?=some (pre.length+X.length,Y.length,pw'):=by rw[<-ES,hP];simp
 have pn:(((pendingOf st).setIfInBounds L.length (pre.length,X.length+Y.length,pw)).eraseIdxIfInBounds (L.length+1)).toList=L++(pre.length,X.length+Y.length,pw)::R:=by rw[Array.toList_eraseIdxIfInBounds,Array.toList_setIfInBounds,hP];simp[List.eraseIdx_append_of_length_le]
 unfold mergeAt'
 refine δ (wpS_get ?_)
 dsimp only
 rw[p1,p2]
 dsimp only
 refine δ (y30 ?_)
 have z0:pre.length+X.length<(arrOf st).size:=by rw[S1.size,θ];lia
 refine δ (m8 z0 ?_)
 have kin:∀x∈arrOf st,x∈a₀:=fun x hx=>B.mem hx
 have hX:=S1.size
 rw[θ]at hX
 have vX:∀{i:Nat}(hi:i<X.length),tk rk (arrOf st) (pre.length+i)=rk X[i]:=fun hi=>S1.tk hi
 have vY:∀{i:Nat}(hi:i<Y.length),tk rk (arrOf st) (pre.length+X.length+i)=rk Y[i]:=fun {i} hi=>by have:=S2.tk (rk:=rk) hi;rwa [l2]at this
 have ky:rk (arrOf st)[pre.length+X.length]=rk Y[0]:=by rw[<-k6 (rk:=rk) z0];exact vY nY
 refine δ (V8 hc (by exact B.kind) (kin _ (Array.getElem_mem _)) kin (by lia) nX (fun i j z1 z2 z3=>?_) fun k iA lt gt=>?_)
 . unfold bey at z3⊢;rw[ψ η]at z3⊢;rw[vX (by lia)]at z3⊢;have:=aX.at z1 z2;simp only[CO,AT]at z3⊢
   lia
 dsimp only
 have ca:∀i (hi:i<X.length),i<k->rk X[i]<=rk Y[0]:=fun i hi z=>by
  have:=lt i z;unfold bey at this;rw[ψ η,vX hi,ky]at this;simp only[CO,AT]at this
  lia
 have cb:∀i (hi:i<X.length),k<=i->rk Y[0]<rk X[i]:=fun i hi z=>by have:=gt i z hi;unfold bey at this;rw[ψ η,vX hi,ky]at this;simpa using this
 have fM:(∀i (hi:i<X.length) j (hj:j<Y.length),rk X[i]<=rk Y[j])->Asc rk (X++Y):=fun q=>by refine EZ.mpr ⟨aX,aY,fun x hx y hy=>?_⟩;obtain⟨i,hi,rfl⟩:=BO.mp hx;obtain⟨j,hj,rfl⟩:=BO.mp hy;exact q i hi j hj
 by_cases e1:X.length - k=0
 . rw[ξ (by simpa using e1)];exact π (h _ (X++Y) ⟨B.perm,B.kind,B.ok⟩ pn (by show(arrOf st).toList=_;rw[hx];simp) (fM fun i hi j hj=>sg (ca i hi (by lia)) (aY.at (BQ _) hj)) θ)
 rw[ψ (by simpa using e1)]
 have z1:pre.length+k+(X.length - k) - 1<(arrOf st).size:=by lia
 refine δ (m8 z1 ?_)
 have kx:rk (arrOf st)[pre.length+k+(X.length - k) - 1]=rk X[X.length - 1]:=by rw[<-k6 (rk:=rk) z1,show pre.length+k+(X.length - k) - 1=pre.length+(X.length - 1) by lia];exact vX (by lia)
 refine δ (V8 hc (by exact B.kind) (kin _ (Array.getElem_mem _)) kin (by lia) (by lia) (fun i j z1 z2 z3=>?_) fun m hm mw tH=>?_)
 . unfold bey at z3⊢;rw[ξ rfl]at z3⊢;rw[vY (by lia)]at z3⊢;have:=aY.at z1 z2;simp only[AR]at z3⊢
   lia
 dsimp only
 have da:∀j (hj:j<Y.length),j<m->rk Y[j]<rk X[X.length - 1]:=fun j hj z=>by have:=mw j z;unfold bey at this;rw[ξ rfl,vY hj,kx]at this;simpa using this
 have db:∀j (hj:j<Y.length),m<=j->rk X[X.length - 1]<=rk Y[j]:=fun j hj z=>by
  have:=tH j z hj;unfold bey at this;rw[ξ rfl,vY hj,kx]at this;simp only[AT]at this
  lia
 by_cases e2:m=0
 . rw[ξ (by simpa using e2)];exact π (h _ (X++Y) ⟨B.perm,B.kind,B.ok⟩ pn (by show(arrOf st).toList=_;rw[hx];simp) (fM fun i hi j hj=>sg (aX.at (show i<=X.length - 1 by lia) (by lia)) (db j hj (by lia))) θ)
 rw[ψ (by simpa using e2)]
 have ex:((arrOf st).extract (pre.length+k) (pre.length+X.length)).toList=X.drop k:=by rw[S1.ext k X.length iA (ζ _)];exact CA (by rw[BN];lia)
 have ey:((arrOf st).extract (pre.length+X.length) (pre.length+X.length+m)).toList=Y.take m:=by have:=S2.ext 0 m (BQ _) hm;rwa [l2,Nat.add_zero,List.drop_zero,Nat.sub_zero]at this
 generalize mh:(arrOf st).extract (pre.length+k) (pre.length+X.length)=x1 at *
 generalize AL:(arrOf st).extract (pre.length+X.length) (pre.length+X.length+m)=y1 at *
 have lx:x1.size=X.length - k:=by rw[<-AW,ex,BN]
 have ly:y1.size=m:=by rw[<-AW,ey,BA];lia
 have tx:∀i,i<X.length - k->∃hi:k+i<X.length,tk rk x1 i=rk X[k+i]:=fun i hi=>⟨by lia,by rw[jE ex (by rw[BN];exact hi),EU]⟩
 have ty:∀i,i<m->∃hi:i<Y.length,tk rk y1 i=rk Y[i]:=fun i hi=>⟨by lia,by rw[jE ey (by rw[BA];lia),ET]⟩
 have oV:∀x∈x1,x∈a₀:=fun x hx=>kin x (FI.mpr (by rw[FI,ex]at hx;rw[S1.eq];exact EC _ (BE _ (List.mem_of_mem_drop hx))))
 have oW:∀x∈y1,x∈a₀:=fun x hx=>kin x (FI.mpr (by rw[FI,ey]at hx;rw[S2.eq];exact EC _ (BE _ (FT hx))))
 have first:∀j,j<x1.size->tk rk y1 0<=tk rk x1 j:=fun j hj=>by obtain⟨h1,e1⟩:=tx j (by lia);obtain⟨h2,e2⟩:=ty 0 (by lia);rw[e1,e2];exact EB (cb _ h1 (by lia))
 have last:∀j,j<y1.size->tk rk y1 j<=tk rk x1 (x1.size - 1):=fun j hj=>by
  obtain⟨h1,e1⟩:=tx (x1.size - 1) (by lia);obtain⟨h2,e2⟩:=ty j (by lia);rw[e1,e2];have:=da j h2 (by lia);simp only[show k+(x1.size - 1)=X.length - 1 by lia]
  lia
 have A1:Asc rk x1.toList:=by rw[ex];exact aX.drop k
 have A2:Asc rk y1.toList:=by rw[ey];exact aY.take m
 have done:∀(out:Array Keyed)(u:SortSt),GS (SortSt.mk' (kindOf st) (arrOf st) (((pendingOf st).setIfInBounds L.length (pre.length,X.length+Y.length,pw)).eraseIdxIfInBounds (L.length+1)) (gallopOf st) (failedOf st)) u->out.toList.Perm (x1.toList++y1.toList)/\Asc rk out.toList ->
   Q (failedOf (SortSt.mk' (kindOf u) (List.foldl (fun a (q:Keyed×Nat)=>a.setIfInBounds (pre.length+k+q.2) q.1) (arrOf u) out.toList.zipIdx) (pendingOf u) (gallopOf u) (failedOf u))).isNone (SortSt.mk' (kindOf u) (List.foldl (fun a (q:Keyed×Nat)=>a.setIfInBounds (pre.length+k+q.2) q.1) (arrOf u) out.toList.zipIdx) (pendingOf u) (gallopOf u) (failedOf u)):=fun out u G f=>by
  have eu:arrOf u=arrOf st:=G.arr
  have lo:out.toList.length=X.length - k+m:=by rw[f.1.length_eq,θ,ex,ey,BN,BA];lia
  have en:=Sm (pre.length+k) out.toList 0 (arrOf u) (by rw[eu];lia)
  rw[Nat.add_zero,eu,hx,lo]at en
  have t1:(pre++X++(Y++post)).take (pre.length+k)=pre++X.take k:=by rw[DK,List.take_length_add_append,List.take_append_of_le_length iA]
  have t2:(pre++X++(Y++post)).drop (pre.length+k+(X.length - k+m))=Y.drop m++post:=by rw[show pre.length+k+(X.length - k+m)=(pre++X).length+m by rw[l2];lia,List.drop_length_add_append,List.drop_append_of_le_length hm]
  rw[t1,t2]at en
  have ok:failedOf u=none:=G.ok.trans B.ok
  have pz:(X.take k++out.toList++Y.drop m).Perm (X++Y):=by refine((f.1.append_left (X.take k)).append_right (Y.drop m)).trans ?_;rw[ex,ey,<-DK,EO,DK,EO]
  rw[show(failedOf (SortSt.mk' (kindOf u) (List.foldl (fun a (q:Keyed×Nat)=>a.setIfInBounds (pre.length+k+q.2) q.1) (arrOf u) out.toList.zipIdx) (pendingOf u) (gallopOf u) (failedOf u))).isNone=true by show(failedOf u).isNone=true;rw[ok];rfl]
  refine h _ (X.take k++out.toList++Y.drop m) ⟨?_,G.kind.trans B.kind,ok⟩ (by show(pendingOf u).toList=_;rw[G.pend];exact pn) (by show(List.foldl _ (arrOf u) _).toList=_;rw[eu,en];simp) ?_ (by rw[pz.length_eq,θ])
  . refine FA.mpr ?_;show(List.foldl _ (arrOf u) _).toList.Perm _;rw[eu,en];refine List.Perm.trans ?_ (FA.mp B.perm);rw[hx];have e1:pre++X.take k++out.toList++(Y.drop m++post)=pre++((X.take k++out.toList++Y.drop m)++post):=by simp
    have e2:pre++X++(Y++post)=pre++((X++Y)++post):=by simp
    rw[e1,e2];exact(pz.append_right _).append_left _
  . have lc:∀y∈out.toList,(∃(i:Nat)(hi:i<X.length),k<=i/\y=X[i])\/∃(j:Nat)(hj:j<Y.length),j<m/\y=Y[j]:=fun y hy=>by
     rcases AQ.mp (f.1.mem_iff.mp hy) with z |z
     . rw[ex]at z;obtain⟨i,hi,rfl⟩:=BO.mp z;rw[BN]at hi;exact .inl ⟨k+i,by lia,by lia,EU⟩
     . rw[ey]at z;obtain⟨i,hi,rfl⟩:=BO.mp z;rw[BA]at hi;exact .inr ⟨i,by lia,by lia,ET⟩
    refine EZ.mpr ⟨EZ.mpr ⟨aX.take k,f.2,fun x hx y hy=>?_⟩,aY.drop m,fun x hx y hy=>?_⟩
    . obtain⟨i,hi,rfl⟩:=BO.mp hx;rw[BA]at hi;rw[ET];rcases lc y hy with⟨j,hj,z,rfl⟩ |⟨j,hj,z,rfl⟩
      . exact aX.at (by lia) hj
      . exact sg (ca i (by lia) (by lia)) (aY.at (BQ _) hj)
    . obtain⟨j,hj,rfl⟩:=BO.mp hy;rw[BN]at hj;rw[EU];rcases AQ.mp hx with z |z
      . obtain⟨i,hi,rfl⟩:=BO.mp z;rw[BA]at hi;rw[ET];exact sg (ca i (by lia) (by lia)) (aY.at (BQ _) (by lia))
      . rcases lc x z with⟨i,hi,_,rfl⟩ |⟨i,hi,q,rfl⟩
        . exact sg (aX.at (show i<=X.length - 1 by lia) (by lia)) (db _ (by lia) (by lia))
        . exact aY.at (by lia) (by lia)
 by_cases e3:X.length - k<=m
 . rw[ξ e3];exact δ (y5k hc (by exact B.kind) oV oW A1 A2 (by lia) (by lia) first last fun out u G f=>δ (wpS_modify (δ (wpS_get (π (done out u G f))))))
 . rw[ψ e3];exact δ (y5l hc (by exact B.kind) oV oW A1 A2 (by lia) (by lia) first last fun out u G f=>δ (wpS_modify (δ (wpS_get (π (done out u G f))))))
end
section
variable {rk:Keyed->Nat}
noncomputable def pend:Nat->List (List Keyed×Nat)->List (Nat×Nat×Nat)
 |_,[]=>[]
 |lo,(X,pw)::S=>(lo,X.length,pw)::pend (lo+X.length) S
noncomputable def i8(S:List (List Keyed×Nat)):List Keyed:=(S.map (·.1)).flatten
def J8(S T:List (List Keyed×Nat)):i8 (S++T)=i8 S++i8 T:=by simp[i8]
def x6(X:List Keyed)(pw:Nat)(S:List (List Keyed×Nat)):i8 ((X,pw)::S)=X++i8 S:=by simp[i8]
theorem X7:∀(lo:Nat)(S T:List (List Keyed×Nat)),pend lo (S++T)=pend lo S++pend (lo+(i8 S).length) T
 |lo,[],T=>by simp[pend,i8]
 |lo,(X,pw)::S,T=>by rw[CC,pend,pend,X7,x6,θ,CC,Nat.add_assoc]
theorem X6:∀(lo:Nat)(S:List (List Keyed×Nat)),(pend lo S).length=S.length
 |_,[]=>rfl
 |lo,(X,pw)::S=>by rw[pend,io,X6,io]
structure Runs(rk:Keyed->Nat)(u:SortSt)(S:List (List Keyed×Nat))(rest:List Keyed):Prop where
 arr:(arrOf u).toList=i8 S++rest
 pend:(pendingOf u).toList=L2.pend 0 S
 asc:∀X∈S,Asc rk X.1/\0<X.1.length
variable {prog:Program}{w:World}{A:Around}{E:Value->Shared->Prop}{s:Shared}{κ:SortKind}{a₀:Array Keyed}
def qu(hc:C0 prog w A E s κ a₀ rk){u:SortSt}(B:TBs κ a₀ u){S T:List (List Keyed×Nat)}{X Y:List Keyed}{pw pw':Nat}{rest:List Keyed}(H:Runs rk u (S++(X,pw)::(Y,pw')::T) rest){Q:Bool->SortSt->Prop}
  (h:∀v Z,TBs κ a₀ v->Runs rk v (S++(Z,pw)::T) rest->Z.length=X.length+Y.length->Q true v):wpS (model prog w) A E s (mergeAt' S.length) Q u:=by
 have aX:=H.asc (X,pw) (by simp)
 have aY:=H.asc (Y,pw') (by simp)
 have hl:(pend 0 S).length=S.length:=X6 0 S
 rw[<-hl]
 refine y5m hc B (L:=pend 0 S) (R:=pend ((i8 S).length+X.length+Y.length) T) (pw:=pw) (pw':=pw') (pre:=i8 S) (X:=X) (Y:=Y) (post:=i8 T++rest) ?_ ?_ aX.1 aY.1 aX.2 aY.2 fun v Z B' hp ha aZ lZ=>?_
 . rw[H.pend,X7,CK,pend,pend]
 . rw[H.arr,J8,x6,x6];simp
 . refine h v Z B' ⟨?_,?_,fun W hW=>?_⟩ lZ
   . rw[ha,J8,x6];simp
   . rw[hp,X7,CK,pend,lZ,Nat.add_assoc]
   . rcases AQ.mp hW with z |z
     . exact H.asc W (EC _ z)
     . rcases ee.mp z with rfl |z
       . exact⟨aZ,by show 0<Z.length;rw[lZ];exact AY aX.2 (Nat.le_add_right _ _)⟩
       . exact H.asc W (BE _ (.tail _ (.tail _ z)))
def qt{xs:Array Keyed}{lo n:Nat}(h:TSo rk xs lo (lo+n))(hz:lo+n<=xs.size):Asc rk ((xs.toList.drop lo).take n):=by
 refine DX.mpr fun i j hi hj cN=>?_
 simp only[BA,BN,AW]at hi hj;have:=h (lo+i) (lo+j) (by lia) (by lia) (by lia);rw[k6 (by lia),k6 (by lia)]at this;simpa using this
theorem Runs.few{u:SortSt}{rest:List Keyed}:∀{S:List (List Keyed×Nat)},(∀X∈S,Asc rk X.1/\0<X.1.length)->S.length<=(i8 S).length
 | [],_=>BQ _
 | (X,pw)::S,h=>by
  have:=Runs.few (u:=u) (rest:=rest) (S:=S) fun Y hY=>h Y (.tail _ hY)
  have:=(h (X,pw) (.head _)).2;rw[x6,θ,io];simp only at this
  lia
def qr(h:i+1<S.length):∃S1 X pw Y pw' T,S=S1++(X,pw)::(Y,pw')::T/\S1.length=i:=by refine⟨S.take i,S[i].1,S[i].2,S[i+1].1,S[i+1].2,S.drop (i+2),?_,by rw[BA];lia⟩;have e1:=DF (show i<S.length by lia);have e2:=DF h;show S=S.take i++S[i]::S[i+1]::S.drop (i+1+1);rw[<-e2,<-e1,EO]
def Pm(hc:C0 prog w A E s κ a₀ rk){u:SortSt}(B:TBs κ a₀ u){S:List (List Keyed×Nat)}{rest:List Keyed}(H:Runs rk u S rest){i:Nat}(hi:i+1<S.length){Q:Bool->SortSt->Prop}
  (h:∀v S',TBs κ a₀ v->Runs rk v S' rest->(i8 S').length=(i8 S).length->S'.length+1=S.length->Q true v):wpS (model prog w) A E s (mergeAt' i) Q u:=by
 obtain⟨S1,X,pw,Y,pw',T,rfl,rfl⟩:=qr hi
 refine qu hc B H fun v Z B' H' lZ=>h v _ B' H' ?_ ?_
 . rw[J8,J8,x6,x6,x6];simp only[θ];lia
 . simp only[θ,io];lia
def Runs.push(H:Runs rk v S (Z++r))(a:Asc rk Z)(z:0<Z.length):Runs rk (setPending v ((pendingOf v).push ((i8 S).length,Z.length,0))) (S++[(Z,0)]) r:=by
 refine⟨?_,?_,fun X hX=>?_⟩
 . show(arrOf v).toList=_;rw[H.arr,J8,x6];simp[i8]
 . show((pendingOf v).push _).toList=_;rw[Array.toList_push,H.pend,X7,CK];rfl
 . rcases AQ.mp hX with q |q
   . exact H.asc X q
   . rw[AV]at q;subst q;exact⟨a,z⟩
theorem Us(f:β->β):∀(l:List β)(x:β),(l++[x]).modify l.length f=l++[f x]
 | [],_=>rfl
 |a::l,x=>by rw[CC,io,List.modify_succ_cons,Us f l x,CC]
def Runs.repow(H:Runs rk v S r)(hS:S≠[])(P:Nat):∃S',Runs rk (setPending v ((pendingOf v).modify ((pendingOf v).size - 1) fun x=>(x.1,x.2.1,P))) S' r/\i8 S'=i8 S:=by
 obtain⟨S0,⟨X,pw⟩,rfl⟩:∃S0 t,S=S0++[t]:=⟨S.dropLast,S.getLast hS,(List.dropLast_concat_getLast hS).symm⟩;have sz:(pendingOf v).size=S0.length+1:=by rw[<-AW,H.pend,X6];simp
 refine⟨S0++[(X,P)],⟨?_,?_,fun Y hY=>?_⟩,by rw[J8,J8,x6,x6]⟩
 . show(arrOf v).toList=_;rw[H.arr,J8,J8,x6,x6]
 . show((pendingOf v).modify _ _).toList=_;rw[Array.toList_modify,H.pend,sz,X7,X7,Nat.add_sub_cancel,<-X6 0 S0];exact Us _ _ _
 . rcases AQ.mp hY with q |q
   . exact H.asc Y (EC _ q)
   . rw[AV]at q;subst q;exact H.asc (X,pw) (by simp)
def y31[Decidable c](h:n=m)(h2:¬n<=1):(if c then n - 2 - 1 else n - 2)+1<m:=by split<;>omega
def wI{α:Type}{Q:α->SortSt->Prop}{C:Nat->SortSt->Prop}{p:Nat->Prop}{dp:∀n,Decidable (p n)}{t g:Nat->StateT SortSt Sem α}(R:Nat->SortSt->Prop)(hg:∀m u,R m u->wpS (model prog w) A E s (g m) Q u)(ht:∀n u,C n u->p n->(∀m u,R m u->wpS (model prog w) A E s (g m) Q u)->wpS (model prog w) A E s (t n) Q u)(hn:∀n u,C n u->¬p n->R n u):∀n u,C n u->wpS (model prog w) A E s (if p n then t n else g n) Q u:=by
 intro n u c;by_cases h:p n
 . rw[ξ h];exact ht n u c h hg
 . rw[ψ h];exact hg _ _ (hn n u c h)
def qq(hc:C0 prog w A E s κ a₀ rk){st:SortSt}(B:TBs κ a₀ st)(h2:2<=a₀.size)(hp:pendingOf st=#[]){Q:Unit->SortSt->Prop}(h:∀u,TBs κ a₀ u->Asc rk (arrOf u).toList->Q () u):wpS (model prog w) A E s sortRuns' Q st:=by
 rw[sortRuns'_eq];refine δ (wpS_get ?_);dsimp only;rw[B.size];refine δ (GI (CZ (I:=fun x c u=>TBs κ a₀ u/\∃lo S rest,c=(none,lo)/\Runs rk u S rest/\(i8 S).length=lo/\lo<=a₀.size/\(x<=lo\/lo=a₀.size))
  (Q:=fun c u=>TBs κ a₀ u/\∃S rest,c=(none,a₀.size)/\Runs rk u S rest/\(i8 S).length=a₀.size) ?step ?fin ⟨B,0,[],(arrOf st).toList,rfl,⟨rfl,by rw[hp];rfl,fun X hX=>absurd hX AZ⟩,rfl,BQ _,.inl (ζ _)⟩) ?post)
 case fin=>
  rintro c u ⟨B1,lo,S,rest,rfl,H,e,l1,l2⟩
  simp only[FN]at l2
  obtain rfl:lo=a₀.size:=by lia
  exact⟨B1,S,rest,rfl,H,e⟩
 case post=>
  rintro c u ⟨B1,S,rest,rfl,H,e⟩
  dsimp only
  refine δ (GI (CZ (I:=fun x c v=>c=(none,())/\TBs κ a₀ v/\∃S rest,Runs rk v S rest/\(i8 S).length=a₀.size/\S.length+x<=a₀.size)
   (Q:=fun c v=>c=(none,())/\TBs κ a₀ v/\∃S rest,Runs rk v S rest/\(i8 S).length=a₀.size/\S.length<=1) (fun x c v _ _ hI=>?_) (fun c v hI=>?_) ⟨rfl,B1,S,rest,H,e,by have:=Runs.few (u:=u) (rest:=rest) H.asc;lia⟩) fun c v hI=>?_)
  . obtain⟨rfl,B2,S,rest,H,e,l⟩:=hI;have sz:(pendingOf v).size=S.length:=by rw[<-AW,H.pend,X6]
    refine δ (wpS_get ?_);by_cases q:(pendingOf v).size<=1
    . rw[ξ q];exact π ⟨rfl,B2,S,rest,H,e,by lia⟩
    . rw[ψ q];refine δ (Pm hc B2 H (y31 sz q) fun u2 S' B3 H' e' l'=>?_);exact π ⟨rfl,B3,S',rest,H',e'.trans e,by lia⟩
  . obtain⟨rfl,B2,S,rest,H,e,l⟩:=hI;exact⟨rfl,B2,S,rest,H,e,by simp only[FN]at l;lia⟩
  . obtain⟨rfl,B2,S,rest,H,e,l⟩:=hI;refine π (h v B2 ?_);have hr:rest=[]:=by have:=CP List.length H.arr;rw[AW,B2.size,θ,e]at this;exact List.length_eq_zero_iff.mp (by lia)
    rw[H.arr,hr,DZ]
    match S,l,H.asc with
    | [],_,_=>exact .nil
    | [(X,pw)],_,a=>rw[x6];simpa [i8] using (a _ (.head _)).1
    |_::_::_,l,_=>simp at l
 case step=>
  rintro x c u _ _ ⟨B1,lo,S,rest,rfl,H,e,l1,l2⟩
  dsimp only
  by_cases q:lo ≥ a₀.size
  . rw[ξ q];obtain rfl:lo=a₀.size:=by lia
    exact π ⟨B1,S,rest,rfl,H,e⟩
  rw[ψ q]
  refine δ (wJ hc B1 (by lia) (by lia) fun n u1 n1 n2 B2 L2 so=>?_)
  dsimp only
  generalize minRun' a₀.size a₀.size 0=mr
  have hh:=And.intro n1 (And.intro n2 (And.intro B2 (And.intro L2 so)))
  clear n1 n2 B2 L2 so
  revert n u1
  refine wI (fun m u2=>1<=m/\lo+m<=a₀.size/\TSo rk (arrOf u2) lo (lo+m)/\TBs κ a₀ u2/\TL u u2 lo) (fun m u2 hR=>?_) (fun n u1 ⟨n1,n2,B2,L2,so⟩ hn k=>?_) fun n u1 ⟨n1,n2,B2,L2,so⟩ hn=>⟨n1,by lia,so,B2,L2⟩
  rotate_left
  . refine δ (X0 ?_);refine δ (y2y hc B2 (n:=min (a₀.size - lo) mr) (by lia) n1 (by lia) so fun u2 B3 L3 so2=>?_);rw[ψ (by simp)];exact k _ _ ⟨by lia,by lia,so2,B3,L2.trans L3⟩
  . obtain⟨m1,m2,so3,B3,L4⟩:=hR;have hz:lo+m<=(arrOf u2).size:=by rw[B3.size];exact m2
    obtain⟨Z,eZ⟩:∃Z,Z=((arrOf u2).toList.drop lo).take m:=⟨_,rfl⟩;have aZ:Asc rk Z:=eZ ▸ qt so3 hz;have lZ:Z.length=m:=by rw[eZ,BA,BN,AW];lia
    have H2:Runs rk u2 S (Z++(arrOf u2).toList.drop (lo+m)):=by
     refine⟨?_,by rw[L4.pend];exact H.pend,H.asc⟩;have t:(arrOf u2).toList.take lo=i8 S:=by
      have:(arrOf u2).toList.take lo=(arrOf u).toList.take lo:=by
       refine List.ext_getElem? fun i=>?_
       rw[List.getElem?_take,List.getElem?_take];by_cases z:i<lo
       . rw[ξ z,ξ z,ES,ES];exact L4.low i z
       . rw[ψ z,ψ z]
      rw[this,H.arr,<-e,List.take_left]
     rw[<-t,eZ,<-drop_take,EO]
    generalize (arrOf u2).toList.drop (lo+m)=r2 at H2;refine δ (wpS_get ?_);have fin:∀(v:SortSt)(S':List (List Keyed×Nat)),TBs κ a₀ v->Runs rk v S' (Z++r2)->(i8 S').length=lo ->
      TBs κ a₀ (setPending v ((pendingOf v).push (lo,m,0)))/\∃gS oX rest,((none:Option Unit),lo+m)=(none,gS)/\Runs rk (setPending v ((pendingOf v).push (lo,m,0))) oX rest/\(i8 oX).length=gS/\gS<=a₀.size/\(x+1<=gS\/gS=a₀.size):=fun v S' Bv Hv ev=>by
     have:=Hv.push aZ (by lia)
     rw[ev,lZ]at this
     exact⟨⟨Bv.perm,Bv.kind,Bv.ok⟩,lo+m,_,r2,rfl,this,by rw[J8,x6,θ,ev,θ,lZ];simp[i8],m2,.inl (by lia)⟩
    cases hb:(pendingOf u2).back? with
    |none=>exact δ (wpS_modify (π (fin u2 S B3 H2 e)))
    |some t=>
     obtain⟨s1,mE,p1⟩:=t
     dsimp only
     have hS:S≠[]:=fun z=>by have:=H2.pend;rw[z]at this;rw[Array.toList_eq_nil_iff.mp this]at hb;cases hb
     refine δ (GI (CZ (I:=fun _ c v=>c=(none,())/\TBs κ a₀ v/\∃S',Runs rk v S' (Z++r2)/\(i8 S').length=lo/\S'≠[])
      (Q:=fun c v=>c=(none,())/\TBs κ a₀ v/\∃S',Runs rk v S' (Z++r2)/\(i8 S').length=lo/\S'≠[]) (fun y c v _ _ hI=>?_) (fun c v hI=>hI) ⟨rfl,B3,S,H2,e,hS⟩) fun c v hI=>?_)
     . obtain⟨rfl,Bv,S',Hv,ev,nv⟩:=hI;refine δ (wpS_get ?_);have sz:(pendingOf v).size=S'.length:=by rw[<-AW,Hv.pend,X6]
       cases hq:(if(pendingOf v).size > 1 then(pendingOf v)[(pendingOf v).size - 2]? else none) with
       |none=>exact π ⟨rfl,Bv,S',Hv,ev,nv⟩
       |some t=>
        obtain⟨q1,q2,pC⟩:=t
        dsimp only
        have hs:(pendingOf v).size > 1:=by
         by_cases z:(pendingOf v).size > 1
         . exact z
         . rw[ψ z]at hq;cases hq
        split
        . exact π ⟨rfl,Bv,S',Hv,ev,nv⟩
        . refine δ (Pm hc Bv Hv (by lia) fun v2 S2 B5 H5 e5 l5=>?_);rw[ψ (by simp)];exact π ⟨rfl,B5,S2,H5,e5.trans ev,fun z=>by rw[z]at l5;simp at l5;lia⟩
     . obtain⟨rfl,Bv,S',Hv,ev,nv⟩:=hI;dsimp only;obtain⟨S2,H5,e5⟩:=Hv.repow nv (power' a₀.size (2 * s1+mE) (2 * s1+mE+mE+m) a₀.size);exact δ (wpS_modify (δ (wpS_modify (π (fin _ S2 ⟨Bv.perm,Bv.kind,Bv.ok⟩ H5 (by rw[e5];exact ev))))))
end
section
variable {prog:Program}{w:World}{E:Value->Shared->Prop}{s:Shared}{A:Around}
noncomputable def x5(h:Heap)(a:Addr)(vs:List Value):Heap:=((h.update a (Obj.mapSeq fun _=>#[])).push (seqObj "tuple" vs.toArray 0)).push (seqObj "list" #[] 0)
def Yv(ho:h.get? a=some (seqObj "list" vs.toArray n)) :
  ∃k,(h.update a (Obj.mapSeq fun _=>#[])).get? a=some (seqObj "list" #[] k)/\(x5 h a vs).get? a=some (seqObj "list" #[] k):=
 ⟨_,get?_update_seq ho fun _=>#[],Ψ _ (Ψ _ (get?_update_seq ho fun _=>#[]))⟩
def yo(ho:s.heap.get? a=some (seqObj "list" vs.toArray n))(h2:2<=vs.length)(hz:vs.length<=sizeLine)
  (gT:∀(Q:SortKind->Shared->Prop),Q κ { s with heap:=x5 s.heap a vs }->wpAny (model prog w) A (keyKind' vs.toArray) Q E { s with heap:=x5 s.heap a vs })
  (hc:C0 prog w A E { s with heap:=x5 s.heap a vs } κ (pairsOf vs) rk)
  (h:∀out:Array Keyed,out.Perm (pairsOf vs)->Asc rk out.toList->P (.done (.ret .none)) { s with heap:=sortedHeap s.heap a vs (out.map (·.2)) }):wpAny (model prog w) A (Builtin.«list.sort» ⟨[.ref a],[]⟩) P E s:=by
 obtain⟨k,k1,k2⟩:=Yv ho
 have nn:¬vs.toArray.size<2:=by rw[mK];lia
 rw[list_sort_plain]
 refine χ (listItems_at ho rfl (χ (listUpdate_at ho rfl (χ (seqEpoch_at k1 rfl (χ (wpAny_newTuple (χ (wpAny_newList (CN ?_) (BQ _))) hz)))) (by rw[mK];exact hz) (BQ _))))
 show wpAny (model prog w) A _ P E { s with heap:=x5 s.heap a vs }
 rw[ψ nn,ψ nn]
 refine χ (gT _ (χ (BR (qq (st:=SortSt.mk' κ (pairsOf vs) #[] 7 none) hc ⟨.refl _,rfl,rfl⟩ (by rw[pairsOf_size];exact h2) rfl (Q:=fun _ u=>TBs κ (pairsOf vs) u/\Asc rk (arrOf u).toList) fun u B a=>⟨B,a⟩) ?_ fun _ _ x=>x)))
 rintro⟨⟨⟩,u⟩ s' ⟨rfl,B,hA⟩
 refine χ (seqEpoch_at k2 rfl (χ (listUpdate_at k2 rfl ?_ (BQ _) (by rw[Array.size_map,B.size,pairsOf_size];exact Nat.le_succ_of_le hz))))
 rw[B.ok,bne_self_eq_false]
 exact ω (h _ B.perm hA)
noncomputable def y9(h:Heap)(vs:List Value):Heap:=((h.push (seqObj "list" #[] 0)).update h.objs.size (Obj.mapSeq (·++vs.toArray))).push (seqObj "list" vs.toArray 0)
def Mb(h:Heap)(vs:List Value):(y9 h vs).get? (h.objs.size+1)=some (seqObj "list" vs.toArray 0):=by
 have e:((h.push (seqObj "list" #[] 0)).update h.objs.size (Obj.mapSeq (·++vs.toArray))).objs.size=h.objs.size+1:=(BM _ _ _).trans (size_push' _ _);unfold y9
 conv=>lhs;arg 2;rw[<-e]
 exact Ξ _ rfl
def zhh(q:h.get? b=some o):(x5 (y9 h vs) (h.objs.size+1) vs).get? b=some o:=by have lt:b<h.objs.size:=Φ q;refine Ψ _ (Ψ _ ?_);rw[BH _ _ _ _ (BB (Nat.lt_add_right 1 lt))];refine Ψ _ ?_;rw[BH _ _ _ _ (BB lt)];exact Ψ _ q
def zhi(hl:s.heap.IsList l vs.toArray)(h2:2<=vs.length)(hz:vs.length<=sizeLine)
  (gT:∀(Q:SortKind->Shared->Prop),Q κ { s with heap:=x5 (y9 s.heap vs) (s.heap.objs.size+1) vs }->wpAny (model prog w) A.in1.in1 (keyKind' vs.toArray) Q (fun _ _=>False) { s with heap:=x5 (y9 s.heap vs) (s.heap.objs.size+1) vs })
  (hc:C0 prog w A.in1.in1 (fun _ _=>False) { s with heap:=x5 (y9 s.heap vs) (s.heap.objs.size+1) vs } κ (pairsOf vs) rk)
  (h:∀out:Array Keyed,out.Perm (pairsOf vs)->Asc rk out.toList->Q (.ref (s.heap.objs.size+1)) { s with heap:=sortedAll s.heap vs (out.map (·.2)) }):wpAny (model prog w) A (call (.builtin "sorted") [.ref l]) Q E s:=by
 have e:((s.heap.push (seqObj "list" #[] 0)).update s.heap.objs.size (Obj.mapSeq (·++vs.toArray))).objs.size=s.heap.objs.size+1:=(BM _ _ _).trans (size_push' _ _)
 have b:=yo (s:={ s with heap:=y9 s.heap vs }) (E:=fun _ _=>False) (P:=fun f s'=>∃x,f=.done (.ret x)/\Q (.ref (s.heap.objs.size+1)) s') (Mb s.heap vs) h2 hz gT hc fun out p a=>⟨_,rfl,h out p a⟩
 apply Calls.call_function_entry kind_sorted plain_sorted entry_sorted (args_sorted1 (.ref l))
 unfold Builtin.«sorted»
 refine χ (m:=checkCount "sorted" 1 1 _) (ω (χ (collect_list hl (χ (wpAny_newList ?_ hz)) hz)))
 show wpAny _ _ _ _ _ { s with heap:=y9 s.heap vs }
 rw[e]
 refine χ (CN (wpAny_call_entry slot_list_sort ⟨_,Mb s.heap vs,rfl⟩ entry_list_sort (BR b (fun f s' q=>?_) fun _ _ x=>x.elim) (args_list_sort _)))
 obtain⟨x,rfl,q⟩:=q
 exact⟨_,rfl,ω ⟨_,rfl,q⟩⟩
end
def rkD(ds:List D)(d:D):Nat:=ds.countP fun e=>ltT e d
def Sk(h:ois ds=true)(hd:d∈ds)(he:e∈ds):decide (rkD ds d<rkD ds e)=ltT d e:=by
 have ho:∀x∈ds,x.oi=true:=fun x hx=>ois_mem.mp h x hx
 have up:∀{d e:D},d∈ds->e∈ds->ltT d e=true->rkD ds d<rkD ds e:=fun {d e} hd he q=>by
  unfold rkD;have le:∀l:List D,(∀x∈l,x∈ds)->l.countP (fun x=>ltT x d)<=l.countP (fun x=>ltT x e):=fun l hl=>
   List.countP_mono_left fun x hx tI=>Ck (ho x (hl x hx)) (ho d hd) (ho e he) tI q
  obtain⟨l1,l2,rfl⟩:=List.append_of_mem hd;have a:=le l1 fun x hx=>by simp[hx]
  have b:=le l2 fun x hx=>by simp[hx]
  simp only[List.countP_append,List.countP_cons,q,Hy (ho d hd)];simp
  lia
 cases q:ltT d e with
 |true=>simpa using up hd he q
 |false=>
  cases q':ltT e d with
  |true=>have:=up he hd q';simp;lia
  |false=>obtain rfl:=Cs (ho d hd) (ho e he) q q';simp
def Bj{d:D}(h:d.oi=true):(∃a,d=.int a)\/∃ds,d=.tup ds/\ois ds=true:=by
 cases d with
 |int a=>exact .inl ⟨a,rfl⟩
 |tup ds=>exact .inr ⟨ds,rfl,by simpa only [D.oi] using h⟩
 |_=>exact nomatch h
def wH{K:Frag}{H:Hp}{n:Nat}(ih:∀{d e:D}{x:V},d.dep<=n->d.oi=true->e.oi=true->RD K H d x->RD K H e x->d=e):∀{ds es:List D}{xs:List V},i7 ds<=n->ois ds=true->ois es=true->RDs K H ds xs->RDs K H es xs->ds=es:=by
 intro ds;induction ds with
 |nil=>
  intro es xs _ _ _ r1 r2
  have l:=r2.length
  rw[<-r1.length]at l
  exact(List.length_eq_zero_iff.mp l).symm
 |cons d ds tJ=>
  intro es xs hd o1 o2 r1 r2
  cases es with
  |nil=>
   have l:=r1.length
   rw[<-r2.length]at l
   cases l
  |cons e es=>
   simp only[RDs]at r1 r2
   obtain⟨x,ys,h1,p1,q1⟩:=r1
   obtain⟨y,zs,h2,p2,q2⟩:=r2
   rw[h1]at h2;cases h2
   simp only[ois,pr]at o1 o2
   simp only[i7]at hd
   rw[ih (sg (Nat.le_max_left _ _) hd) o1.1 o2.1 p1 p2,tJ (sg (Nat.le_max_right _ _) hd) o1.2 o2.2 q1 q2]
def qp{K:Frag}{H:Hp}:∀(n:Nat){d e:D}{x:V},d.dep<=n->d.oi=true->e.oi=true->RD K H d x->RD K H e x->d=e:=by
 intro n;induction n with
 |zero=>
  intro d e x hd o1 o2 r1 r2
  rcases Bj o1 with⟨a,rfl⟩ |⟨ds,rfl,_⟩
  . have h1:=r1.int;rcases Bj o2 with⟨b,rfl⟩ |⟨es,rfl,_⟩
    . have h2:=r2.int;rw[h1]at h2;cases h2;rfl
    . obtain⟨_,_,h2,_⟩:=r2.tup;rw[h1]at h2;cases h2
  . simp only[D.dep]at hd;exact absurd hd (Nat.not_succ_le_zero _)
 |succ n ih=>
  intro d e x hd o1 o2 r1 r2
  rcases Bj o1 with⟨a,rfl⟩ |⟨ds,rfl,p1⟩
  . have h1:=r1.int;rcases Bj o2 with⟨b,rfl⟩ |⟨es,rfl,_⟩
    . have h2:=r2.int;rw[h1]at h2;cases h2;rfl
    . obtain⟨_,_,h2,_⟩:=r2.tup;rw[h1]at h2;cases h2
  . obtain⟨a,ys,h1,q1,w1⟩:=r1.tup;rcases Bj o2 with⟨b,rfl⟩ |⟨es,rfl,p2⟩
    . have h2:=r2.int;rw[h1]at h2;cases h2
    . obtain⟨b,zs,h2,q2,w2⟩:=r2.tup;rw[h1]at h2;cases h2;rw[q1]at q2;cases q2;simp only[D.dep]at hd;rw[wH ih (Nat.le_of_succ_le_succ hd) p1 p2 w1 w2]
def y32{K:Frag}{H:Hp}{d e:D}{x:V}(o1:d.oi=true)(o2:e.oi=true)(r1:RD K H d x)(r2:RD K H e x):d=e:=qp d.dep (ζ _) o1 o2 r1 r2
def zes(p:l.Perm m):∀{xs:List α},m=xs.map f->∃ys:List α,ys.Perm xs/\l=ys.map f:=by
 induction p with
 |nil=>intro xs h;exact⟨xs,.refl _,h⟩
 |cons a p ih=>
  intro xs h
  cases xs with
  |nil=>cases h
  |cons x xs=>
   simp only[dg,List.cons.injEq]at h
   obtain⟨ys,p',e⟩:=ih h.2
   exact⟨x::ys,p'.cons x,by rw[e,h.1];rfl⟩
 |swap a b l=>
  intro xs h
  match xs,h with
  |x::y::xs,h=>
   simp only[dg,List.cons.injEq]at h
   exact⟨y::x::xs,.swap _ _ _,by rw[h.1,h.2.1,h.2.2];rfl⟩
 |trans p q tK tL=>
  intro xs h
  obtain⟨ys,p',e⟩:=tL h
  obtain⟨zs,q',e'⟩:=tK e
  exact⟨zs,q'.trans p',e'⟩
def Yu(l:List D):(List.range l.length).map (fun i=>l.getD i (.int 0))=l:=by
 apply List.ext_getElem?;intro i;rw[BF];by_cases hi:i<l.length
 . rw[List.getElem?_range hi];simp[hi]
 . rw[DG (by simpa using hi),DG (by simpa using hi)];rfl
noncomputable def atOf(its:List Value)(v:Value):Nat:=Classical.epsilon fun i=>i<its.length/\its.getD i Value.none=v
def Jv(h:i<its.length):atOf its (its.getD i Value.none)<its.length/\its.getD (atOf its (its.getD i Value.none)) Value.none=its.getD i Value.none:=by have hh:∃j,j<its.length/\its.getD j Value.none=its.getD i Value.none:=⟨i,h,rfl⟩;exact Classical.epsilon_spec hh
def S5(ds:List D):Bool:=ois ds&&decide (i7 ds<=20)&&ds.all (fun d=>ds.all fun e=>(d7 d e).isSome)&&(ds.all isI||ds.all K2||ds.all O2)
def x3:List D->Option D
 | [.lst ds]=>if S5 ds=true then some (.lst (u8 ds)) else none
 |_=>none
def Sj(K:Frag):List V->Hp->VK->Prop:=fun xs H Q=>∃p ys ds,xs=[.ref p]/\H p=some (.lst ys)/\RDs K H ds ys/\S5 ds=true/\∀(l:Addr)(is:List Nat),H l=none->(∀i∈is,i<ys.length)->u8 ds=is.map (fun i=>ds.getD i (.int 0))->Q (.ref l) (upd H l (.lst (is.map fun i=>ys.getD i .non)))
def Bi{K:Frag}:F8 K true x3 (Sj K):=by
 intro H0 H xs ds z Q s r ho k;unfold x3 at ho;split at ho<;>first |cases ho |skip
 split at ho<;>cases ho;rename_i es hok;obtain⟨x,rfl,q1⟩:=r.uno;obtain⟨p,ys,rfl,hp,ry⟩:=q1.lst;refine⟨p,ys,es,rfl,s _ _ hp,ry.mono s,hok,fun l is hl hi he=>k _ _ (.new s hl fun H' hH=>?_)⟩;simp only[OB];refine⟨_,hH,?_⟩;rw[he];exact ry.pick hi
section
variable {X:Cx}{pins:List (Addr×Obj)}{U:St}{H:Hp}{s:Shared}
def wG(hx:(∃k,x=.int k)\/∃a,x=.ref a)(hy:(∃k,y=.int k)\/∃a,y=.ref a)(r1:RelV x v)(r2:RelV y v):x=y:=by
 rcases hx with⟨k,rfl⟩ |⟨a,rfl⟩<;>rcases hy with⟨j,rfl⟩ |⟨b,rfl⟩<;>simp only[RelV]at r1 r2
 . obtain⟨t,rfl⟩:=r1;obtain⟨u,h⟩:=r2;cases h;rfl
 . obtain⟨t,rfl⟩:=r1;cases r2
 . obtain⟨t,rfl⟩:=r2;cases r1
 . subst r1;cases r2;rfl
def jD{K:Frag}{d:D}{x:V}(o:d.oi=true)(r:RD K H d x):(∃k,x=.int k)\/∃a,x=.ref a:=by
 cases d<;>simp only[D.oi]at o<;>first |cases o |skip
 . exact .inl ⟨_,r.int⟩
 . obtain⟨a,_,h,_⟩:=r.tup;exact .inr ⟨a,h⟩
def Zg(vs:List Value):(pairsOf vs).toList=(List.range vs.length).map fun i=>((vs.getD i Value.none,vs.getD i Value.none):Keyed):=by
 unfold pairsOf;rw[Array.toList_zip];apply List.ext_getElem
 . simp
 . intro i h1 h2;simp at h1;simp[h1]
def Xq(h:x∈pairsOf vs):∃i,i<vs.length/\x=(vs.getD i Value.none,vs.getD i Value.none):=by rw[FI,Zg]at h;obtain⟨i,hi,e⟩:=AS.mp h;exact⟨i,CW.mp hi,e.symm⟩
theorem Yt:∀(vs:List Value),(∀i,i<vs.length->∃n t,vs.getD i Value.none=.int n t)->∃ns,IntsAre vs ns
 | [],_=>⟨[],.nil⟩
 |v::vs,h=>by
  obtain⟨n,t,e⟩:=h 0 (by simp);obtain⟨ns,r⟩:=Yt vs fun i hi=>by simpa using h (i+1) (by simpa using hi)
  have e':v=.int n t:=by simpa using e
  subst e';exact⟨n::ns,.cons n t r⟩
def wF(ia:IntsAre vs ns)(h:2<=vs.length):keyKind' vs.toArray=pure oneType':=by
 match vs,ia,h with
 |v1::v2::vs,ia,_=>exact keyKind_ints ia
def Az(hc:X.calm=true)(hu:X.A.units+64<cLine):CallR X (.builtin "sorted") (Sj X.K):=by
 intro pins s U H xs us Q I r h;obtain⟨p,ys,ds,rfl,hp,rd,hok,k⟩:=h;obtain⟨u,rfl,ru⟩:=C3 r;cases ru;obtain⟨its,rv,pl,hz⟩:=I.list (.of hp);obtain⟨m,hn,_⟩:=id I.loc;have F:=Att.fr_all hn;have N:=Lw (g:=Att.noObjs s.heap) (h:=s.heap) (L:=X.env.locals);unfold S5 at hok;simp only[pr,FX,AR]at hok;obtain⟨⟨⟨eh,uH⟩,nE⟩,cc⟩:=hok;have fE:=rd.length;have fY:=rv.length;have fin:∀{gU:Array Value}{is:List Nat},(∀i∈is,i<ys.length)->u8 ds=is.map (fun i=>ds.getD i (.int 0))->gU=(is.map fun i=>its.getD i Value.none).toArray->EP X pins U Q (.ref (s.heap.objs.size+1)) { s with heap:=sortedAll s.heap its gU }:=fun {gU is} hi he hv=>by
  have ag:(is.map fun i=>ys.getD i .non).length<=sizeLine:=by
   have e1:is.length=ds.length:=by have:=CP List.length he;rw[bI,(Q4 ds).length_eq]at this;exact this.symm
   rw[bI,e1,fE];exact hz
  obtain⟨e,fA⟩:=sortedAll_at s.heap its gU;have kp:∀b o,s.heap.get? b=some o->(sortedAll s.heap its gU).get? b=some o:=fun b o q=>sortedAll_old q
  have hN:=N.kept_cons F kp (Nat.le_succ _) fA;obtain⟨HD,I'⟩:=I.frnew (tk:=s.toks) (o:=.lst (is.map fun i=>ys.getD i .non)) hn (F.kept kp) hN (Heap.get?_none_of_le (Nat.le_succ _)) ⟨ag,_,e,rv.pick hi,by subst hv;exact(hN _ (.head _)).1⟩;exact⟨.ref _,_,I',rfl,k _ is HD hi he⟩
 by_cases h2:2<=its.length
 . have kp:∀b o,s.heap.get? b=some o->(x5 (y9 s.heap its) (s.heap.objs.size+1) its).get? b=some o:=fun b o q=>zhh q
   have I':Inv X pins U H { s with heap:=x5 (y9 s.heap its) (s.heap.objs.size+1) its }:=I.frn (tk:=s.toks) hn (F.kept kp) fun q hq=>(N.kept_cons F kp (Nat.le_succ _) (Yv (Mb s.heap its)).choose_spec.2) q (.tail _ hq)
   have tM:X.A.in1.in1.units+20<cLine:=by show X.A.units+1+1+20<cLine;lia
   have main:∀κ:SortKind,(∀(Q:SortKind->Shared->Prop),Q κ { s with heap:=x5 (y9 s.heap its) (s.heap.objs.size+1) its }->wpAny (model X.prog X.w) X.A.in1.in1 (keyKind' its.toArray) Q (fun _ _=>False) { s with heap:=x5 (y9 s.heap its) (s.heap.objs.size+1) its }) ->
     (∀(E:Value->Shared->Prop)(C:Bool->Shared->Prop)(i j:Nat),i<ys.length->j<ys.length->C (ltI ds i j) { s with heap:=x5 (y9 s.heap its) (s.heap.objs.size+1) its }->wpAny (model X.prog X.w) X.A.in1.in1 (keyLt' κ (its.getD i Value.none) (its.getD j Value.none)) C E { s with heap:=x5 (y9 s.heap its) (s.heap.objs.size+1) its }) ->
     wpAny (model X.prog X.w) X.A (call (.builtin "sorted") [.ref p]) (EP X pins U Q) X.xe s:=by
    intro κ gT aJ
    refine zhi (rk:=fun q=>rkD ds (ds.getD (atOf its q.1) (.int 0))) pl.isList h2 (by lia) gT ?_ fun out tO hA=>?_
    . intro x y hx hy st Q' hk q;obtain⟨i,hi,rfl⟩:=Xq hx;obtain⟨j,hj,rfl⟩:=Xq hy;have ai:=Jv hi;have aj:=Jv hj;dsimp only at q;rw[Sk eh (getD_mem (by lia)) (getD_mem (by lia))]at q;rw[lt'_eq];refine δ (wpS_get (δ (wpS_lift (wpAny_attempt ?_))));rw[hk];dsimp only;generalize atOf its (its.getD i Value.none)=i' at *;generalize atOf its (its.getD j Value.none)=j' at *;rw[<-ai.2,<-aj.2];exact aJ _ _ i' j' (by lia) (by lia) ⟨rfl,π q⟩
    . have e0:(pairsOf its).toList=(List.range its.length).map fun i=>((its.getD i Value.none,its.getD i Value.none):Keyed):=Zg its
      obtain⟨is,oY,oZ⟩:=zes (FA.mp tO) e0;have gW:∀i∈is,i<its.length:=fun i hi=>CW.mp (oY.mem_iff.mp hi)
      have pm:(is.map fun i=>ds.getD i (.int 0)).Perm ds:=by refine(oY.map _).trans ?_;rw[show its.length=ds.length by lia,Yu]
      refine fin (is:=is) (fun i hi=>by have:=gW i hi;lia) (X9 (Ed (Q4 _) eh) ((Q4 _).trans pm.symm) (Q3 eh) ?_) ?_
      . rw[oZ]at hA;refine CG.mpr ((CG.mp hA).imp_of_mem fun {a b} ha hb bh=>?_);have same:∀i,i<its.length->ds.getD (atOf its (its.getD i Value.none)) (.int 0)=ds.getD i (.int 0):=fun i hi=>by have q:=Jv hi;have v1:=rv.getD (i:=atOf its (its.getD i Value.none)) (by lia);have v2:=rv.getD (i:=i) (by lia);have r1:=rd.getD (i:=atOf its (its.getD i Value.none)) (by lia);have r2:=rd.getD (i:=i) (by lia);have o1:=Kb (i:=atOf its (its.getD i Value.none)) eh;have o2:=Kb (i:=i) eh;rw[q.2]at v1;rw[wG (jD o1 r1) (jD o2 r2) v1 v2]at r1;exact y32 o1 o2 r1 r2
        dsimp only at bh;rw[same a (gW a ha),same b (gW b hb)]at bh;have z:=Sk eh (d:=ds.getD b (.int 0)) (e:=ds.getD a (.int 0)) (getD_mem (by have:=gW b hb;lia)) (getD_mem (by have:=gW a ha;lia));rw[<-z,AT]
        lia
      . rw[<-Array.toList_inj,Array.toList_map,oZ,BI];rfl
   by_cases hI:ds.all isI=true
   . have fS:∀i,i<ys.length->∃n t,ds.getD i (.int 0)=.int n/\its.getD i Value.none=.int n t:=fun i hi=>by
      have r1:=rd.getD hi
      have v1:=rv.getD hi
      have m1:isI (ds.getD i (.int 0))=true:=CL.mp hI _ (getD_mem (by lia))
      generalize ds.getD i (.int 0)=d at *
      cases d<;>simp only[isI]at m1<;>first |cases m1 |skip
      rw[r1.int]at v1
      obtain⟨t,e⟩:=v1
      exact⟨_,t,rfl,e⟩
     refine main oneType' (fun Q' q=>?_) fun E C i j hi hj hC=>?_
     . have ia:∃ns,IntsAre its ns:=Yt its fun i hi=>by obtain⟨n,t,_,e⟩:=fS i (by lia);exact⟨n,t,e⟩
       obtain⟨ns,ia⟩:=ia;rw[wF ia h2];exact ω q
     . obtain⟨n,t,e1,e2⟩:=fS i hi;obtain⟨n',t',e3,e4⟩:=fS j hj;rw[e2,e4];refine PySem.W.kat_lt_int ?_;unfold ltI at hC;rw[e1,e3]at hC;simpa only [ltT] using hC
   . obtain⟨T,hT⟩:∃T:Bool,∀d∈ds,(if T=true then O2 d else K2 d)=true:=by
      rcases cc with (z |z) |z
      . exact absurd z hI
      . exact⟨false,fun d hd=>by rw[ψ η];exact CL.mp z d hd⟩
      . exact⟨true,fun d hd=>by rw[ξ rfl];exact CL.mp z d hd⟩
     obtain⟨fs,t1,t2,t3⟩:=Ta (M:=model X.prog X.w) I' T hT rd rv
     refine main (tuples' ((.type (if T=true then "tuple" else "int"):Value) != Value.type "tuple")) (fun Q' q=>PySem.W.kat_kind t1 (by lia) t3 (by cases T<;>rfl) q) fun E C i j hi hj hC=>?_
     have r1:=rd.getD hi
     have r2:=rd.getD hj
     have v1:=rv.getD hi
     have v2:=rv.getD hj
     have m1:ds.getD i (.int 0)∈ds:=getD_mem (by lia)
     have m2:ds.getD j (.int 0)∈ds:=getD_mem (by lia)
     have o1:=(ois_mem.mp eh) _ m1
     have o2:=(ois_mem.mp eh) _ m2
     have d1:=Lm m1
     have f1:=hT _ m1
     have f2:=hT _ m2
     obtain⟨b,hb⟩:=Option.isSome_iff_exists.mp (CL.mp (CL.mp nE _ m1) _ m2)
     have tP:b=ltI ds i j:=Th hb
     rw[<-tP]at hC
     generalize ds.getD i (.int 0)=da at *
     generalize ds.getD j (.int 0)=db at *
     have tp:∀{d:L2.D},(if T=true then O2 d else K2 d)=true->∃es,d=.tup es/\(T=false->∃k r,es=.int k::r):=fun {d} h=>by
      cases T with
      |false=>
       rw[ψ η]at h
       cases d<;>simp only[K2]at h<;>first |cases h |skip
       rename_i es
       cases es with
       |nil=>simp at h
       |cons e es=>cases e<;>simp at h;exact⟨_,rfl,fun _=>⟨_,_,rfl⟩⟩
      |true=>
       rw[ξ rfl]at h
       cases d<;>simp only[O2]at h<;>first |cases h |skip
       exact⟨_,rfl,fun z=>nomatch z⟩
     obtain⟨ea,rfl,ka⟩:=tp f1
     obtain⟨eb,rfl,kb⟩:=tp f2
     obtain⟨a,xa,e1,ha,ra⟩:=r1.tup
     obtain⟨c,xc,e2,dS,rc⟩:=r2.tup
     rw[e1]at v1;rw[e2]at v2
     rw[show its.getD i Value.none=Value.ref a from v1,show its.getD j Value.none=Value.ref c from v2]
     obtain⟨ia,va,oa,mF,_,na,tQ⟩:=I'.tupA ha
     obtain⟨ic,vc,oc,hJ,_,nc,cz⟩:=I'.tupA dS
     simp only[L2.D.oi]at o1 o2
     simp only[L2.D.dep]at d1
     simp only[d7]at hb
     refine PySem.W.kat_lt mF tQ hJ cz (Vj I' tM hC 0 (fun tR _=>?_) o1 o2 (by lia) ra rc va vc hb (by simp))
     cases T with
     |false=>exact⟨ka rfl,kb rfl⟩
     |true=>exact absurd tR (by simp)
 . have tS:u8 ds=ds:=by
    match ds,fE,fY with
    | [],_,_=>rfl
    | [d],_,_=>rfl
    |_::_::_,a,b=>simp at a;lia
   have pz:∀l:List Value,l.length<2->(pairsOf l).map (·.2)=(List.map (fun i=>l.getD i Value.none) (List.range l.length)).toArray:=fun l hl=>by
    match l,hl with
    | [],_=>simp[pairsOf]
    | [v],_=>simp[pairsOf]
    |_::_::_,z=>simp at z;lia
   refine zd8 pl.isList (by lia) (fin (is:=List.range its.length) (fun i hi=>by simp at hi;lia) ?_ (pz its (by lia)))
   rw[tS,show its.length=ds.length by lia,Yu]
end
open PySem.W in
noncomputable def Dm(tb:String->Option Builtin)(p:Program)(w:World)(m:Nat)(gX:Option Value):Nat->SharedT->Thread->Option SharedT
 | 0,_,_=>none
 |n+1,s,t=>match through t with
  |true=>some s
  |false=>match stepOk m gX t with
   |false=>none
   |true=>match stepT (denote tb) p w s t with
    |some (s',t')=>Dm tb p w m gX n s' t'
    |none=>none
open PySem.W in
theorem Ys:∀(n:Nat){s s':SharedT}{t:Thread},Dm tb p w m gX n s t=some s'->topRun tb p w m gX n s.abs t=some s'.abs
 | 0,_,_,_,h=>nomatch h
 |n+1,s,s',t,h=>by
  unfold Dm at h;unfold topRun;cases a:through t with
  |true=>rw[a]at h;cases h;rfl
  |false=>
   rw[a]at h
   cases b:stepOk m gX t with
   |false=>rw[b]at h;cases h
   |true=>
    rw[b]at h
    cases c:stepT (denote tb) p w s t with
    |none=>rw[c]at h;cases h
    |some z=>
     obtain⟨s2,t2⟩:=z
     rw[c]at h
     rw[stepT_spec c]
     exact Ys n h
open PySem.W in
noncomputable def Si:List Obj->Nat->BT->BT
 | [],_,t=>t
 |o::l,i,t=>Si l (i+1) (t.ins i o)
open PySem.W in
def bootS(w:World)(os:OsState):SharedT:=⟨Si (boot_heap w.params).objs.toList 0 .nil,(boot_heap w.params).objs.size,(boot_heap w.params).life,Array.mk [],boot_drawn,boot_toks,os⟩
open PySem.W in
noncomputable def seenAt(p q:Program)(loose:List Str)(Xt:Shared->Bool){α:Type}(Yf:Shared->α)(w:World)(t:Shared):=
 (staticsOk (importedModules p.main.body) (boot_heap w.params) t.heap&&namesBound p t.heap&&gensDone t&&laidKept (boot_heap w.params) t.heap,openSeen q loose (importedModules p.main.body) Xt true t,Yf t)
open PySem.W in
def outAt(p q:Program)(loose:List Str)(Xt:Shared->Bool){α:Type}(Yf:Shared->α)(N:Nat)(w:World)(os:OsState):=
 (Dm treeTable p w (boot_heap w.params).objs.size ((boot_heap w.params).nsMap mainGlobals "__annotations__") N (bootS w os) (topStub p)).map fun s=>seenAt p q loose Xt Yf w s.abs
open PySem.W in
def yn:∀(w:World)(os:OsState),(bootS w os).abs=⟨boot_heap w.params,Array.mk [],boot_drawn,boot_toks,os⟩:=fun _ _=>by kernel_rfl
open PySem.W in
def wE:∀w:World,(boot_heap w.params).isNs mainGlobals=true:=fun _=>by kernel_rfl
open PySem.W in
def wC(e:opening p=plainProg p.main.scope.names)(hN:Nat.ble 600 N=true)
  (f:∀s,fenceModules? p s=some s) (h:∀w os,outAt p q loose Xt Yf N w os=some (true,openGood q loose,Ya w)):LeftO p q loose Xt Yf Ya N:=fun w=>by
 obtain⟨⟨hp,gs,d,k,os⟩,a,b⟩:=EJ.mp (boot_open e hN f w)
 obtain⟨rfl,rfl,rfl,rfl⟩:hp=boot_heap w.params/\gs=Array.mk []/\d=boot_drawn/\k=boot_toks:=by simpa using b
 obtain⟨s,r,c⟩:=EJ.mp (h w os)
 have r2:=Ys N r
 rw[yn]at r2
 obtain⟨l1,l2,l3⟩:_/\_/\_:=by simpa only [seenAt,Prod.mk.injEq] using c
 have t:topFrom treeTable p w N ⟨boot_heap w.params,Array.mk [],boot_drawn,boot_toks,os⟩=some s.abs:=by unfold topFrom;dsimp only;rw[wE,r2];show(match staticsOk (importedModules p.main.body) (boot_heap w.params) s.abs.heap&&namesBound p s.abs.heap&&gensDone s.abs&&laidKept (boot_heap w.params) s.abs.heap with |true=>_ |false=>_)=_;rw[l1]
 unfold openEnds
 rw[a]
 show(topFrom treeTable p w N _).map _=_
 rw[t]
 exact CP some (Prod.ext l2 l3)
abbrev vs(x:String)(t:Nat):Value:=.str (Str.ofString x) t
abbrev en(P:Params)(x:String)(t:Nat)(v:Value):DictEntry:=⟨PyData.keyHash P (Str.ofString x),.str (Str.ofString x) t,v⟩
abbrev oT(l:List Value):Obj:={ cls:=.type "tuple",data:=.seq l.toArray }
abbrev oD(l:List DictEntry)(n:Nat):Obj:={ cls:=.type "dict",data:=.dict l.toArray n }
abbrev oF(st:Stmt)(x q:String)(dV kV doc pm:Value)(an:Option Addr)(cd ct:Value):Obj:={ cls:=.type "function",data:=.func (PySem.W.fnOf (Str.ofString x) (Str.ofString q) (Q0 st) (J6 st) (h7 st) dV kV doc pm an cd ct) }
end L2
namespace Bd
abbrev Vc:=Int×Int
def dt(u v:Vc):Int:=u.1 * v.2 - u.2 * v.1
def N4(a:Vc):dt a a=0:=by simp only[dt];grind
def ad(u v:Vc):Vc:=(u.1+v.1,u.2+v.2)
def ng(u:Vc):Vc:=(-u.1,-u.2)
def Dl(a b c:Vc):dt (ad a b) c=dt a c+dt b c:=by simp only[dt,ad];grind
def Ay(a b c:Vc):dt c (ad a b)=dt c a+dt c b:=by simp only[dt,ad];grind
def wB(a c:Vc):dt c (ng a)=- dt c a:=by simp only[dt,ng];grind
def Gc(a c:Vc):dt c a=- dt a c:=by simp only[dt];grind
structure Fr(n:Nat)(R:Nat->Int)(v:Nat->Vc):Prop where
 per:∀k,v (k+n)=ng (v k)
 ini:dt (v 0) (v 1)=1
 rc1:∀k,(v (k+2)).1=R ((k+1) % n) * (v (k+1)).1 - (v k).1
 rc2:∀k,(v (k+2)).2=R ((k+1) % n) * (v (k+1)).2 - (v k).2
 pos:∀i j,i<j->j<i+n->0<dt (v i) (v j)
variable {n:Nat}{R:Nat->Int}{v:Nat->Vc}
def Fr.rc(F:Fr n R v)(u:Vc)(k:Nat) :
  dt u (v (k+2))=R ((k+1) % n) * dt u (v (k+1)) - dt u (v k):=by
 simp only[dt,F.rc1 k,F.rc2 k];grind
theorem Fr.one(F:Fr n R v):∀k,dt (v k) (v (k+1))=1
 | 0=>F.ini
 |k+1=>by have h:=F.rc (v (k+1)) k;rw[h,N4,Gc (v k),F.one k];grind
def Fr.turn(F:Fr n R v)(i j:Nat):dt (v i) (v (j+n))=- dt (v i) (v j):=by rw[F.per,wB]
def Fr.nn(F:Fr n R v)(i j:Nat)(h:i<=j)(h2:j<=i+n):0<=dt (v i) (v j):=by
 by_cases e:i=j
 . subst e;rw[N4];lia
 by_cases e2:j=i+n
 . subst e2;rw[F.turn,N4];lia
 have:=F.pos i j (by lia) (by lia);lia
def gR(n c:Nat)(R:Nat->Int)(k:Nat):Int:=
 if k=c+1 then 1 else
 let o:=if k<=c then k else k - 1
 R o+(if o=c then 1 else 0)+(if o=(c+1) % n then 1 else 0)
def gq(n c:Nat)(v:Nat->Vc)(q r:Nat):Vc:=
 if r<=c then v (q * n+r) else if r=c+1 then ad (v (q * n+c)) (v (q * n+c+1)) else v (q * n+(r - 1))
def gV(n c:Nat)(v:Nat->Vc)(k:Nat):Vc:=gq n c v (k / (n+1)) (k % (n+1))
def r8(n c:Nat)(v:Nat->Vc)(q r:Nat)(h:r<=n):gV n c v (q * (n+1)+r)=gq n c v q r:=by
 unfold gV;rw[show(q * (n+1)+r) / (n+1)=q by
   rw[FO,Nat.mul_add_div (by lia),Nat.div_eq_of_lt (by lia)];lia,
  show(q * (n+1)+r) % (n+1)=r by rw[FO,Nat.mul_add_mod];exact BJ (by lia)]
def V7(n k:Nat):∃q r,k=q * (n+1)+r/\r<=n:=
 ⟨k / (n+1),k % (n+1),by rw[FO];exact(Nat.div_add_mod k (n+1)).symm,by have:=Nat.mod_lt k (show n+1 > 0 by lia);lia⟩
def sm(q n:Nat):(q+1) * n=q * n+n:=Nat.succ_mul q n
def mdn(q n s:Nat)(h:s<n):(q * n+s) % n=s:=by rw[FO,Nat.mul_add_mod];exact BJ h
def qo(F:Fr n R v)(c:Nat)(k:Nat):gV n c v (k+(n+1))=ng (gV n c v k):=by
 obtain⟨q,r,rfl,h⟩:=V7 n k;rw[show q * (n+1)+r+(n+1)=(q+1) * (n+1)+r by rw[sm q (n+1)];lia,r8 _ _ _ _ _ h,r8 _ _ _ _ _ h];unfold gq;split
 . rw[show(q+1)*n+r=q * n+r+n by rw[sm];lia,F.per]
 split
 . rw[show(q+1)*n+c=q * n+c+n by rw[sm];lia,show q * n+c+n+1=q * n+c+1+n by lia,F.per,F.per];simp only[ng,ad];ext<;>simp<;>lia
 . rw[show(q+1)*n+(r-1)=q * n+(r-1)+n by rw[sm];lia,F.per]
def lin(x:Int)(b a:Vc):Vc:=(x * b.1 - a.1,x * b.2 - a.2)
def Fr.rv(F:Fr n R v)(k:Nat):v (k+2)=lin (R ((k+1) % n)) (v (k+1)) (v k):=by have h1:=F.rc1 k;have h2:=F.rc2 k;exact Prod.ext h1 h2
def Fr.rvq(F:Fr n R v)(q s:Nat)(h:s+1<n):v (q * n+s+2)=lin (R (s+1)) (v (q * n+s+1)) (v (q * n+s)):=by rw[F.rv,show q * n+s+1=q * n+(s+1) by lia,mdn q n (s+1) h]
def Fr.rv0(F:Fr n R v)(q:Nat)(h:1<=n):v (q * n+n+1)=lin (R 0) (v (q * n+n)) (v (q * n+(n - 1))):=by have:=F.rv (q * n+(n - 1));rw[show q * n+(n-1)+2=q * n+n+1 by lia,show q * n+(n-1)+1=(q+1) * n+0 by rw[sm];lia,mdn (q+1) n 0 (by lia)]at this;rw[this];congr 2;rw[sm];rfl
def y3(n c:Nat)(v:Nat->Vc)(q r:Nat)(h:r<=c):gq n c v q r=v (q * n+r):=by unfold gq;rw[ξ h]
def J2(n c:Nat)(v:Nat->Vc)(q:Nat):gq n c v q (c+1)=ad (v (q * n+c)) (v (q * n+c+1)):=by unfold gq;rw[ψ (by lia),ξ rfl]
def D7(n c:Nat)(v:Nat->Vc)(q r:Nat)(h:c+1<=r):gq n c v q (r+1)=v (q * n+r):=by unfold gq;rw[ψ (by lia),ψ (by lia)];rfl
def Pl(x:Int)(a b:Vc):ad b (lin x b a)=lin (x+1) b a:=by simp only[ad,lin,Prod.mk.injEq];constructor<;>grind
def Pk(a b:Vc):b=lin 1 (ad a b) a:=by apply Prod.ext<;>simp only[ad,lin]<;>grind
def Gb(x:Int)(a b:Vc):lin x b a=lin (x+1) b (ad a b):=by simp only[ad,lin,Prod.mk.injEq];constructor<;>grind
def Sf(F:Fr n R v)(c:Nat)(hc:c<n)(hn:3<=n)(k:Nat) :
  gV n c v (k+2)=lin (gR n c R ((k+1) % (n+1))) (gV n c v (k+1)) (gV n c v k):=by
 obtain⟨q,r,rfl,h⟩:=V7 n k
 by_cases h2:r+2<=n
 . rw[show q * (n+1)+r+2=q * (n+1)+(r+2) by lia,show q * (n+1)+r+1=q * (n+1)+(r+1) by lia,
    mdn q (n+1) (r+1) (by lia),r8 _ _ _ _ _ h2,r8 _ _ _ _ _ (by lia),r8 _ _ _ _ _ h]
   by_cases e1:r+2<=c
   . rw[y3 _ _ _ _ _ e1,y3 _ _ _ _ _ (by lia),y3 _ _ _ _ _ (by lia),show gR n c R (r+1)=R (r+1) by
      have:¬(r+1=(c+1) % n):=by
       by_cases z:c+1=n
       . rw[z,FD];lia
       . rw[BJ (by lia)];lia
      simp only[gR,ψ (show ¬(r+1=c+1) by lia),ξ (show r+1<=c by lia),ψ (show ¬(r+1=c) by lia),ψ this];lia]
     exact F.rvq q r (by lia)
   by_cases e2:r+1=c
   . subst e2;rw[y3 _ _ _ _ r (by lia),y3 _ _ _ _ (r+1) (by lia),show r+2=(r+1)+1 by rfl,J2,
      show gR n (r+1) R (r+1)=R (r+1)+1 by
      have:¬(r+1=(r+1+1) % n):=by
       by_cases z:r+1+1=n
       . rw[z,FD];lia
       . rw[BJ (by lia)];lia
      simp only[gR,ψ (show ¬(r+1=r+1+1) by lia),ξ (ζ (r+1)),ψ this,CI];lia]
     have:=F.rvq q r (by lia);rw[show q * n+(r+1)+1=q * n+r+2 by lia,this,<-Pl];rfl
   by_cases e3:r=c
   . subst e3;rw[y3 _ _ _ _ r (by lia),J2,D7 _ _ _ _ (r+1) (by lia),show gR n r R (r+1)=1 by simp only[gR,CI]];exact Pk _ _
   by_cases e4:r=c+1
   . subst e4;rw[J2,D7 _ _ _ _ _ (by lia),D7 _ _ _ _ _ (by lia),show gR n c R (c+1+1)=R (c+1)+1 by have:(c+1) % n=c+1:=BJ (by lia);simp only[gR,ψ (show ¬(c+1+1=c+1) by lia),ψ (show ¬(c+1+1<=c) by lia),this];rw[show c+1+1 - 1=c+1 by lia,ψ (by lia),ξ rfl];lia];have:=F.rvq q c (by lia);rw[show q * n+(c+1+1)=q * n+c+2 by lia,this,Gb];rfl
   . obtain⟨s,rfl⟩:∃s,r=s+1:=⟨r - 1,by lia⟩;rw[D7 _ _ _ _ s (by lia),show s+1+2=(s+2)+1 by rfl,D7 _ _ _ _ (s+2) (by lia),D7 _ _ _ _ (s+1) (by lia),show gR n c R (s+1+1)=R (s+1) by
      have:¬(s+1=(c+1) % n):=by rw[BJ (by lia)];lia
      simp only[gR,ψ (show ¬(s+1+1=c+1) by lia),ψ (show ¬(s+1+1<=c) by lia),show s+1+1 - 1=s+1 by lia,ψ (show ¬(s+1=c) by lia),ψ this];lia]
     exact F.rvq q s (by lia)
 by_cases h3:r+1=n
 . subst h3;rw[show q * (r+1+1)+r+2=(q+1) * (r+1+1)+0 by rw[sm q];lia,show q * (r+1+1)+r+1=q * (r+1+1)+(r+1) by lia,
    mdn q (r+1+1) (r+1) (by lia),r8 _ _ _ _ _ (by lia),r8 _ _ _ _ _ (by lia),r8 _ _ _ _ _ h,y3 _ _ _ _ 0 (by lia)]
   rw[show(q+1) * (r+1)+0=q * (r+1)+r+1 by rw[sm q];lia];by_cases e:r=c
   . subst e;rw[y3 _ _ _ _ r (by lia),J2,show gR (r+1) r R (r+1)=1 by simp only[gR,CI]];exact Pk _ _
   by_cases e4:r=c+1
   . subst e4;rw[J2,D7 _ _ _ _ _ (by lia),show gR (c+1+1) c R (c+1+1)=R (c+1)+1 by have:(c+1) % (c+1+1)=c+1:=BJ (by lia);simp only[gR,ψ (show ¬(c+1+1=c+1) by lia),ψ (show ¬(c+1+1<=c) by lia),this];rw[show c+1+1 - 1=c+1 by lia,ψ (by lia),ξ rfl];lia];have:=F.rvq q c (by lia);rw[show q * (c+1+1)+(c+1)+1=q * (c+1+1)+c+2 by lia,this,Gb];rfl
   . obtain⟨s,rfl⟩:∃s,r=s+1:=⟨r - 1,by lia⟩;rw[D7 _ _ _ _ _ (by lia),D7 _ _ _ _ _ (by lia),show gR (s+1+1) c R (s+1+1)=R (s+1) by
      have:¬(s+1=(c+1) % (s+1+1)):=by rw[BJ (by lia)];lia
      simp only[gR,ψ (show ¬(s+1+1=c+1) by lia),ψ (show ¬(s+1+1<=c) by lia),show s+1+1 - 1=s+1 by lia,ψ (show ¬(s+1=c) by lia),ψ this];lia]
     exact F.rvq q s (by lia)
 . obtain rfl:r=n:=by lia
   rw[show q * (r+1)+r+2=(q+1) * (r+1)+1 by rw[sm q];lia,show q * (r+1)+r+1=(q+1) * (r+1)+0 by rw[sm q];lia,
    mdn (q+1) (r+1) 0 (by lia),r8 _ _ _ _ _ (by lia),r8 _ _ _ _ _ (by lia),r8 _ _ _ _ _ h,y3 _ _ _ _ 0 (by lia)]
   rw[show(q+1) * r+0=q * r+r by rw[sm q];lia];have key:=F.rv0 q (by lia);by_cases e0:c=0
   . subst e0;obtain⟨s,rfl⟩:∃s,r=s+1:=⟨r - 1,by lia⟩;rw[show gq (s+1) 0 v (q+1) 1=ad (v ((q+1) * (s+1)+0)) (v ((q+1) * (s+1)+0+1)) from J2 _ _ _ _,D7 _ _ _ _ _ (by lia),show gR (s+1) 0 R 0=R 0+1 by
      have:¬(0=(0+1) % (s+1)):=by rw[BJ (by lia)];lia
      simp only[gR,ψ (show ¬(0=0+1) by lia),ξ (ζ 0),CI,ψ this];lia]
     rw[show(q+1) * (s+1)+0=q * (s+1)+(s+1) by rw[sm q];lia,key,Pl];rfl
   rw[y3 _ _ _ _ 1 (by lia)];by_cases e1:c+1=r
   . subst e1;rw[J2,show gR (c+1) c R 0=R 0+1 by simp only[gR,ψ (show ¬(0=c+1) by lia),ξ (BQ c),ψ (show ¬(0=c) by lia),FD,CI];lia];rw[show(q+1) * (c+1)+1=q * (c+1)+(c+1)+1 by rw[sm q],key,Gb];rfl
   . obtain⟨s,rfl⟩:∃s,r=s+1:=⟨r - 1,by lia⟩;rw[D7 _ _ _ _ _ (by lia),show gR (s+1) c R 0=R 0 by
      have:¬(0=(c+1) % (s+1)):=by rw[BJ (by lia)];lia
      simp only[gR,ψ (show ¬(0=c+1) by lia),ξ (BQ c),ψ (show ¬(0=c) by lia),ψ this];lia]
     rw[show(q+1) * (s+1)+1=q * (s+1)+(s+1)+1 by rw[sm q],key];rfl
def Q2(n c:Nat)(hc:c<n)(v:Nat->Vc)(q r:Nat)(h:r<=n) :
  (r≠c+1/\gq n c v q r=v (q * n+(if r<=c then r else r - 1))) \/
  (r=c+1/\gq n c v q r=ad (v (q * n+c)) (v (q * n+c+1))):=by
 by_cases e:r=c+1
 . right;subst e;exact⟨rfl,J2 _ _ _ _⟩
 . left;refine⟨e,?_⟩;by_cases e2:r<=c
   . rw[ξ e2,y3 _ _ _ _ _ e2]
   . rw[ψ e2];unfold gq;rw[ψ e2,ψ e]
def Fr.new_l(F:Fr n R v)(hn:3<=n)(p p':Nat)(h1:p+1<=p')(h2:p'<=p+n) :
  0<dt (ad (v p) (v (p+1))) (v p')/\(p+1<p'->p'<p+n->1<dt (ad (v p) (v (p+1))) (v p')):=by
 rw[Dl]
 have a:=F.nn p p' (by omega) h2
 have b:=F.nn (p+1) p' h1 (by omega)
 have a':=fun z=>F.pos p p' (by omega) z
 have b':=fun z=>F.pos (p+1) p' z (by omega)
 constructor
 . by_cases z:p'<p+n
   . have:=a' z;omega
   . have:=b' (by omega);omega
 . intro z z';have:=a' z';have:=b' z;omega
def Fr.new_r(F:Fr n R v)(hn:3<=n)(i p:Nat)(h1:i<=p)(h2:p+1<=i+n) :
  0<dt (v i) (ad (v p) (v (p+1)))/\(i<p->p+1<i+n->1<dt (v i) (ad (v p) (v (p+1)))):=by
 rw[Ay]
 have a:=F.nn i p h1 (by omega)
 have b:=F.nn i (p+1) (by omega) h2
 have a':=fun z=>F.pos i p z (by omega)
 have b':=fun z=>F.pos i (p+1) (by omega) z
 constructor
 . by_cases z:i<p
   . have:=a' z;omega
   . have:=b' (by omega);omega
 . intro z z';have:=a' z;have:=b' z';omega
def qm(F:Fr n R v)(c:Nat)(hc:c<n)(hn:3<=n)(i j:Nat)(h:i<j)(h2:j<i+(n+1)) :
  0<dt (gV n c v i) (gV n c v j):=by
 obtain⟨q,r,rfl,hr⟩:=V7 n i
 obtain⟨q',s,rfl,hs⟩:=V7 n j
 have hq:q'=q\/q'=q+1:=by
  by_cases a:q'<q
  . have:(q'+1) * (n+1)<=q * (n+1):=EA _ a;rw[sm]at this;lia
  by_cases b:q+1<q'
  . have:(q+1+1) * (n+1)<=q' * (n+1):=EA _ b;rw[sm,sm]at this;lia
  lia
 rw[r8 _ _ _ _ _ hr,r8 _ _ _ _ _ hs]
 rcases hq with rfl |rfl
 . rcases Q2 n c hc v q' r hr with⟨e,g⟩ |⟨e,g⟩<;>rcases Q2 n c hc v q' s hs with⟨e',g'⟩ |⟨e',g'⟩<;>rw[g,g']
   . exact F.pos _ _ (by split<;>split<;>lia) (by split<;>split<;>lia)
   . exact(F.new_r hn _ _ (by split<;>lia) (by split<;>lia)).1
   . exact(F.new_l hn _ _ (by split<;>lia) (by split<;>lia)).1
   . lia
 . rw[sm q (n+1)]at h h2;rcases Q2 n c hc v q r hr with⟨e,g⟩ |⟨e,g⟩<;>rcases Q2 n c hc v (q+1) s hs with⟨e',g'⟩ |⟨e',g'⟩<;>rw[g,g',sm q n]
   . exact F.pos _ _ (by split<;>split<;>lia) (by split<;>split<;>lia)
   . exact(F.new_r hn _ _ (by split<;>lia) (by split<;>lia)).1
   . exact(F.new_l hn _ _ (by split<;>lia) (by split<;>lia)).1
   . lia
def Fr.grow(F:Fr n R v)(c:Nat)(hc:c<n)(hn:3<=n):Fr (n+1) (gR n c R) (gV n c v) where
 per:=qo F c
 ini:=by
  have a0:gV n c v 0=v 0:=by have:=r8 n c v 0 0 (by lia);simp only[GC,CK]at this;rw[this,y3 _ _ _ _ _ (by lia)];simp
  have a1:=r8 n c v 0 1 (by lia);simp only[GC,CK]at a1;rw[a0,a1];by_cases e:c=0
  . subst e;have:gq n 0 v 0 1=ad (v 0) (v 1):=by have:=J2 n 0 v 0;simpa using this
    rw[this,Ay,N4,F.ini];rfl
  . rw[y3 _ _ _ _ _ (by lia)];simp[F.ini]
 rc1:=fun k=>by rw[Sf F c hc hn k];rfl
 rc2:=fun k=>by rw[Sf F c hc hn k];rfl
 pos:=qm F c hc hn
def v3(k:Nat):Vc:=if k % 6=0 then(1,0) else if k % 6=1 then(0,1) else if k % 6=2 then(-1,1)
 else if k % 6=3 then(-1,0) else if k % 6=4 then(0,-1) else(1,-1)
def jC(k:Nat):k % 6=0\/k % 6=1\/k % 6=2\/k % 6=3\/k % 6=4\/k % 6=5:=by
 have h:k % 6<6:=Nat.mod_lt _ (by decide)
 revert h
 generalize k % 6=m;intro h;rcases m with _ |_ |_ |_ |_ |_ |m
 . exact .inl rfl
 . exact .inr (.inl rfl)
 . exact .inr (.inr (.inl rfl))
 . exact .inr (.inr (.inr (.inl rfl)))
 . exact .inr (.inr (.inr (.inr (.inl rfl))))
 . exact .inr (.inr (.inr (.inr (.inr rfl))))
 . exact absurd h (Nat.not_lt_of_le (Nat.le_add_left 6 m))
def fr3:Fr 3 (fun _=>1) v3:=by
 have key:∀k,v3 k=v3 (k % 6):=fun k=>by simp only[v3,Nat.mod_mod]
 have ks:∀k a,v3 (k+a)=v3 ((k % 6+a) % 6):=fun k a=>by rw[key (k+a)];congr 1;lia
 have eY:=jC;refine⟨fun k=>?_,rfl,fun k=>?_,fun k=>?_,fun i j h h2=>?_⟩
 . rw[ks k 3,key k];rcases eY k with e |e |e |e |e |e<;>rw[e]<;>rfl
 . rw[ks k 2,ks k 1,key k];rcases eY k with e |e |e |e |e |e<;>rw[e]<;>rfl
 . rw[ks k 2,ks k 1,key k];rcases eY k with e |e |e |e |e |e<;>rw[e]<;>rfl
 . obtain rfl |rfl:j=i+1\/j=i+2:=by lia
   . rw[ks i 1,key i];rcases eY i with e |e |e |e |e |e<;>rw[e]<;>decide
   . rw[ks i 2,key i];rcases eY i with e |e |e |e |e |e<;>rw[e]<;>decide
def Fr.congr(F:Fr n R v)(hn:1<=n)(h:∀k,k<n->R' k=R k):Fr n R' v where
 per:=F.per
 ini:=F.ini
 rc1:=fun k=>by rw[h _ (Nat.mod_lt _ (by lia))];exact F.rc1 k
 rc2:=fun k=>by rw[h _ (Nat.mod_lt _ (by lia))];exact F.rc2 k
 pos:=F.pos
def y33(F:Fr n R v)(c:Nat)(hc:c<n)(hn:3<=n)(hB:∀i j,i<=j->j<=i+n->dt (v i) (v j)<=B)(i j:Nat)(h:i<j)(h2:j<i+(n+1)) :
  dt (gV n c v i) (gV n c v j)<=2 * B:=by
 obtain⟨q,r,rfl,hr⟩:=V7 n i
 obtain⟨q',s,rfl,hs⟩:=V7 n j
 have B0:0<=B:=by have:=hB 0 0 (by lia) (by lia);rw[N4]at this;exact this
 have hq:q'=q\/q'=q+1:=by
  by_cases a:q'<q
  . have:(q'+1) * (n+1)<=q * (n+1):=EA _ a;rw[sm]at this;lia
  by_cases b:q+1<q'
  . have:(q+1+1) * (n+1)<=q' * (n+1):=EA _ b;rw[sm,sm]at this;lia
  lia
 rw[r8 _ _ _ _ _ hr,r8 _ _ _ _ _ hs]
 rcases hq with rfl |rfl
 . rcases Q2 n c hc v q' r hr with⟨e,g⟩ |⟨e,g⟩<;>rcases Q2 n c hc v q' s hs with⟨e',g'⟩ |⟨e',g'⟩<;>rw[g,g']
   . have:=hB (q' * n+(if r<=c then r else r - 1)) (q' * n+(if s<=c then s else s - 1)) (by split<;>split<;>lia) (by split<;>split<;>lia);lia
   . rw[Ay];have a:=hB (q' * n+(if r<=c then r else r - 1)) (q' * n+c) (by split<;>lia) (by split<;>lia);have b:=hB (q' * n+(if r<=c then r else r - 1)) (q' * n+c+1) (by split<;>lia) (by split<;>lia);lia
   . rw[Dl];have a:=hB (q' * n+c) (q' * n+(if s<=c then s else s - 1)) (by split<;>lia) (by split<;>lia);have b:=hB (q' * n+c+1) (q' * n+(if s<=c then s else s - 1)) (by split<;>lia) (by split<;>lia);lia
   . lia
 . rw[sm q (n+1)]at h h2;rcases Q2 n c hc v q r hr with⟨e,g⟩ |⟨e,g⟩<;>rcases Q2 n c hc v (q+1) s hs with⟨e',g'⟩ |⟨e',g'⟩<;>rw[g,g',sm q n]
   . have:=hB (q * n+(if r<=c then r else r - 1)) (q * n+n+(if s<=c then s else s - 1)) (by split<;>split<;>lia) (by split<;>split<;>lia);lia
   . rw[Ay];have a:=hB (q * n+(if r<=c then r else r - 1)) (q * n+n+c) (by split<;>lia) (by split<;>lia);have b:=hB (q * n+(if r<=c then r else r - 1)) (q * n+n+c+1) (by split<;>lia) (by split<;>lia);lia
   . rw[Dl];have a:=hB (q * n+c) (q * n+n+(if s<=c then s else s - 1)) (by split<;>lia) (by split<;>lia);have b:=hB (q * n+c+1) (q * n+n+(if s<=c then s else s - 1)) (by split<;>lia) (by split<;>lia);lia
   . lia
def B9(row:List Int)(c:Nat):List Int:=
 let m1:=row.set c (row.getD c 0+1)
 let m2:=m1.set ((c+1) % row.length) (m1.getD ((c+1) % row.length) 0+1)
 m2.take (c+1)++1::m2.drop (c+1)
def Y4(row:List Int)(c:Nat)(hc:c<row.length):(B9 row c).length=row.length+1:=by simp only[B9,θ,BA,BX,io,BN];lia
def Ma(l:List Int)(i j:Nat)(x:Int)(hi:i<l.length):(l.set i x).getD j 0=if j=i then x else l.getD j 0:=by
 rw[gc,List.getElem?_set,gc];by_cases e:i=j
 . subst e;simp[hi]
 . rw[ψ e,ψ (DR e)]
def Ea(row:List Int)(c k:Nat)(hc:c<row.length)(hn:2<=row.length)(hk:k<row.length+1) :
  (B9 row c).getD k 0=gR row.length c (fun k=>row.getD k 0) k:=by
 have hm:(c+1) % row.length<row.length:=Nat.mod_lt _ (by lia)
 have bL:(c+1) % row.length≠c:=by
  by_cases z:c+1=row.length
  . rw[z,FD];lia
  . rw[BJ (by lia)];lia
 have e2:∀j,((row.set c (row.getD c 0+1)).set ((c+1) % row.length) ((row.set c (row.getD c 0+1)).getD ((c+1) % row.length) 0+1)).getD j 0
   = row.getD j 0+(if j=c then 1 else 0)+(if j=(c+1) % row.length then 1 else 0):=fun j=>by
  rw[Ma _ _ _ _ (by rw[BX];exact hm),Ma _ _ _ _ hc,Ma _ _ _ _ hc,ψ bL]
  by_cases a:j=(c+1) % row.length
  . rw[ξ a,ξ a,ψ (by lia),a];lia
  . rw[ψ a,ψ a];by_cases b:j=c
    . rw[ξ b,ξ b,b];lia
    . rw[ψ b,ψ b];lia
 simp only[B9]
 generalize gO:(row.set c (row.getD c 0+1)).set ((c+1) % row.length) ((row.set c (row.getD c 0+1)).getD ((c+1) % row.length) 0+1)=m2 at e2⊢
 have hl:m2.length=row.length:=by rw[<-gO,BX,BX]
 have ht:(m2.take (c+1)).length=c+1:=by rw[BA,hl];lia
 unfold gR
 by_cases a:k=c+1
 . rw[ξ a,gc,BY (by lia),ht,a];simp
 . rw[ψ a];by_cases b:k<=c
   . rw[ξ b];show _=row.getD k 0+(if k=c then 1 else 0)+(if k=(c+1) % row.length then 1 else 0);rw[<-e2,gc,CM (by lia),List.getElem?_take,ξ (by lia),gc]
   . rw[ψ b];show _=row.getD (k-1) 0+(if k-1=c then 1 else 0)+(if k-1=(c+1) % row.length then 1 else 0);obtain⟨t,rfl⟩:∃t,k=c+1+(t+1):=⟨k - (c+2),by lia⟩;rw[<-e2,gc,BY (by lia),ht,gc,
      show c+1+(t+1) - (c+1)=t+1 by lia,List.getElem?_cons_succ,List.getElem?_drop,show c+1+(t+1) - 1=c+1+t by lia]
structure Good(row:List Int)(v:Nat->Vc):Prop where
 len:3<=row.length
 fr:Fr row.length (fun k=>row.getD k 0) v
 bd:∀i j,i<=j->j<=i+row.length->dt (v i) (v j)<=2 ^ (row.length - 3)
 rb:∀k,0<=row.getD k 0/\row.getD k 0<=row.length
def y34:Good [1,1,1] v3:=by
 refine⟨by decide,fr3.congr (by decide) fun k hk=>?_,fun i j h h2=>?_,fun k=>?_⟩
 . have:k=0\/k=1\/k=2:=by have lB:k<3:=hk;lia
   rcases this with rfl |rfl |rfl<;>rfl
 . have key:∀k,v3 k=v3 (k % 6):=fun k=>by simp only[v3,Nat.mod_mod]
   have ks:∀k a,v3 (k+a)=v3 ((k % 6+a) % 6):=fun k a=>by rw[key (k+a)];congr 1;lia
   have eY:=jC;simp only[io,DL]at h2;have hj:j=i+0\/j=i+1\/j=i+2\/j=i+3:=by lia
   rcases hj with z |z |z |z<;>rw[z,ks i,key i]<;>rcases eY i with e |e |e |e |e |e<;>rw[e]<;>decide
 . match k with
   | 0=>decide
   | 1=>decide
   | 2=>decide
   |k+3=>simp
def Good.grow(G:Good row v)(c:Nat)(hc:c<row.length):Good (B9 row c) (gV row.length c v):=by
 have hl:=Y4 row c hc;have h3:=G.len;have F:=G.fr.grow c hc h3;refine⟨by lia,?_,?_,fun k=>?_⟩
 . rw[hl];exact F.congr (by lia) fun k hk=>Ea row c k hc (by lia) hk
 . rw[hl];intro i j h h2;have e:(2:Int) ^ (row.length+1 - 3)=2 * 2 ^ (row.length - 3):=by rw[show row.length+1 - 3=(row.length - 3)+1 by lia,Int.pow_succ];lia
   have p:(0:Int)<2 ^ (row.length - 3):=Int.pow_pos (by decide);rw[e];by_cases z:i=j
   . subst z;rw[N4];lia
   by_cases z2:j=i+(row.length+1)
   . subst z2;rw[F.turn,N4];lia
   exact y33 G.fr c hc h3 G.bd i j (by lia) (by lia)
 . rw[hl];by_cases hk:k<row.length+1
   . rw[Ea row c k hc (by lia) hk];unfold gR;by_cases a:k=c+1
     . rw[ξ a];lia
     . rw[ψ a];have:=G.rb (if k<=c then k else k - 1);generalize (if k<=c then k else k - 1)=o at this;have bL:o=c->¬o=(c+1) % row.length:=by
        intro z z';by_cases y:c+1=row.length
        . rw[y,FD]at z';lia
        . rw[BJ (by lia)]at z';lia
       show 0<=row.getD o 0+(if o=c then 1 else 0)+(if o=(c+1) % row.length then 1 else 0)/\row.getD o 0+(if o=c then 1 else 0)+(if o=(c+1) % row.length then 1 else 0)<=_;by_cases z:o=c
       . rw[ξ z,ψ (bL z)];lia
       . rw[ψ z];split<;>lia
   . rw[gc,DG (by lia)];simp only[Option.getD_none];lia
end Bd
namespace Cu
abbrev P2:=Int×Int
abbrev P3:=Int×Int×Int
def sh(ip x:Int):Int:=if x > ip then x+1 else x
def sh2(c:Int)(p:P2):P2:=(sh c p.1,sh c p.2)
def sh3(c:Int)(p:P3):P3:=(sh c p.1,sh c p.2.1,sh c p.2.2)
def outer(p:P3):P2:=(p.1,p.2.2)
def i6(n c:Int):P2:=if c=n - 1 then(0,c) else(c,c+2)
def e9(n c:Int):P3:=if c=n - 1 then(0,c,n) else(c,c+1,c+2)
structure CInv(n:Int)(ls:List P2)(T:List P3):Prop where
 n3:3<=n
 tri:∀a c b,(a,c,b)∈T->0<=a/\a<c/\c<b/\b<=n - 1/\((a,c)∈ls\/c=a+1)/\((c,b)∈ls\/b=c+1)
 lin:∀a b,(a,b)∈ls->0<=a/\a+2<=b/\b<=n - 1/\¬(a=0/\b=n - 1)
 nc:∀a b c d,(a,b)∈ls->(c,d)∈ls->¬(a<c/\c<b/\b<d)
 nd:ls.Nodup
 prm:(T.map outer).Perm ((0,n - 1)::ls)
def y5n:CInv 3 [] [(0,1,2)] where
 n3:=by omega
 tri:=fun a c b h=>by simp only[ee,Prod.mk.injEq,AZ,DM]at h;omega
 lin:=fun a b h=>by simp at h
 nc:=fun a b c d h=>by simp at h
 nd:=List.nodup_nil
 prm:=.refl _
def S4{c:Int}{ls:List P2}{x y:Int}(h:(x,y)∈ls.map (sh2 c)):∃a b,(a,b)∈ls/\x=sh c a/\y=sh c b:=by obtain⟨⟨a,b⟩,hm,e⟩:=AS.mp h;simp only[sh2,Prod.mk.injEq]at e;exact⟨a,b,hm,e.1.symm,e.2.symm⟩
def Ur{c:Int}{ls:List P2}{a b:Int}(h:(a,b)∈ls):(sh c a,sh c b)∈ls.map (sh2 c):=AS.mpr ⟨(a,b),h,rfl⟩
def Ap(h:sh c x=sh c y):x=y:=by unfold sh at h;split at h<;>split at h<;>lia
def CInv.grow(I:CInv n ls T)(c:Int)(h0:0<=c)(h1:c<n):CInv (n+1) (ls.map (sh2 c)++[i6 n c]) (T.map (sh3 c)++[e9 n c]) where
 n3:=by have:=I.n3;lia
 tri:=fun x y z h=>by
  have h3:=I.n3;rcases AQ.mp h with h |h
  . obtain⟨⟨a,m,b⟩,hm,e⟩:=AS.mp h;simp only[sh3,Prod.mk.injEq]at e;obtain⟨rfl,rfl,rfl⟩:=e;obtain⟨g1,g2,g3,g4,g5,g6⟩:=I.tri a m b hm;have k1:0<=sh c a:=by unfold sh;split<;>lia
    have k2:sh c a<sh c m:=by unfold sh;split<;>split<;>lia
    have k3:sh c m<sh c b:=by unfold sh;split<;>split<;>lia
    have k4:sh c b<=n+1 - 1:=by unfold sh;split<;>lia
    have lf:∀u w,u+1=w->w<=n - 1->(sh c u,sh c w)∈ls.map (sh2 c)++[i6 n c]\/sh c w=sh c u+1:=fun u w e hw=>by
     by_cases q:u=c
     . left;refine AQ.mpr (.inr ?_);have e1:sh c u=c:=by unfold sh;split<;>lia
       have e2:sh c w=c+2:=by unfold sh;split<;>lia
       rw[e1,e2];unfold i6;rw[ψ (by lia)];simp
     . right;unfold sh;split<;>split<;>lia
    refine⟨k1,k2,k3,k4,?_,?_⟩
    . rcases g5 with g5 |g5
      . exact .inl (AQ.mpr (.inl (Ur g5)))
      . exact lf a m (by lia) (by lia)
    . rcases g6 with g6 |g6
      . exact .inl (AQ.mpr (.inl (Ur g6)))
      . exact lf m b (by lia) (by lia)
  . simp only[AV]at h;unfold e9 at h;by_cases q:c=n - 1
    . rw[ξ q]at h;simp only[Prod.mk.injEq]at h;obtain⟨rfl,rfl,rfl⟩:=h;refine⟨by lia,by lia,by lia,by lia,.inl (AQ.mpr (.inr ?_)),.inr (by lia)⟩;unfold i6;rw[ξ q];simp
    . rw[ψ q]at h;simp only[Prod.mk.injEq]at h;obtain⟨rfl,rfl,rfl⟩:=h;exact⟨by lia,by lia,by lia,by lia,.inr rfl,.inr (by lia)⟩
 lin:=fun x y h=>by
  have h3:=I.n3;rcases AQ.mp h with h |h
  . obtain⟨a,b,hm,rfl,rfl⟩:=S4 h;obtain⟨g1,g2,g3,g4⟩:=I.lin a b hm;unfold sh;split<;>split<;>lia
  . simp only[AV]at h;unfold i6 at h;by_cases q:c=n - 1
    . rw[ξ q]at h;simp only[Prod.mk.injEq]at h;lia
    . rw[ψ q]at h;simp only[Prod.mk.injEq]at h;lia
 nc:=fun x y z w h h'=>by
  have h3:=I.n3;rcases AQ.mp h with h |h<;>rcases AQ.mp h' with h' |h'
  . obtain⟨a,b,hm,rfl,rfl⟩:=S4 h;obtain⟨a',b',eV,rfl,rfl⟩:=S4 h';have:=I.nc a b a' b' hm eV;unfold sh;split<;>split<;>split<;>split<;>lia
  . obtain⟨a,b,hm,rfl,rfl⟩:=S4 h;simp only[AV]at h';have:=I.lin a b hm;unfold i6 at h';by_cases q:c=n - 1
    . rw[ξ q]at h';simp only[Prod.mk.injEq]at h';unfold sh;split<;>split<;>lia
    . rw[ψ q]at h';simp only[Prod.mk.injEq]at h';unfold sh;split<;>split<;>lia
  . obtain⟨a,b,hm,rfl,rfl⟩:=S4 h';simp only[AV]at h;have:=I.lin a b hm;unfold i6 at h;by_cases q:c=n - 1
    . rw[ξ q]at h;simp only[Prod.mk.injEq]at h;unfold sh;split<;>split<;>lia
    . rw[ψ q]at h;simp only[Prod.mk.injEq]at h;unfold sh;split<;>split<;>lia
  . simp only[AV]at h h';rw[<-h']at h;simp only[Prod.mk.injEq]at h;lia
 nd:=by
  have h3:=I.n3;rw[List.nodup_append];refine⟨?_,by simp,fun p hp q hq=>?_⟩
  . refine(CG.mpr (I.nd.imp fun {p q} bL e=>bL ?_));simp only[sh2,Prod.mk.injEq]at e;exact Prod.ext (Ap e.1) (Ap e.2)
  . simp only[AV]at hq;subst hq;obtain⟨x,y⟩:=p;obtain⟨a,b,hm,rfl,rfl⟩:=S4 hp;have:=I.lin a b hm;intro e;unfold i6 at e;by_cases q:c=n - 1
    . rw[ξ q]at e;simp only[Prod.mk.injEq]at e;unfold sh at e;split at e<;>split at e<;>lia
    . rw[ψ q]at e;simp only[Prod.mk.injEq]at e;unfold sh at e;split at e<;>split at e<;>lia
 prm:=by
  have h3:=I.n3;have e1:(T.map (sh3 c)++[e9 n c]).map outer=(T.map outer).map (sh2 c)++[outer (e9 n c)]:=by simp only[BG,BI,dg,CB];rfl
  have p1:((T.map outer).map (sh2 c)++[outer (e9 n c)]).Perm (((0,n - 1)::ls).map (sh2 c)++[outer (e9 n c)]):=(I.prm.map (sh2 c)).append_right _;rw[e1];refine p1.trans ?_;have e0:sh c 0=0:=by unfold sh;split<;>lia
  rw[dg];by_cases q:c=n - 1
  . have e2:sh2 c (0,n - 1)=i6 n c:=by
     unfold i6 sh2;rw[ξ q];simp only[Prod.mk.injEq];exact⟨e0,by unfold sh;split<;>lia⟩
    have e3:outer (e9 n c)=(0,n+1 - 1):=by unfold e9 outer;rw[ξ q];simp
    rw[e2,e3]
    refine(BV (l₁:=_::_) (l₂:=[_])).trans ?_
    refine List.Perm.cons _ ?_
    exact(BV (l₁:=[i6 n c]) (l₂:=ls.map (sh2 c)))
  . have e2:sh2 c (0,n - 1)=(0,n+1 - 1):=by
     unfold sh2;simp only[Prod.mk.injEq];exact⟨e0,by unfold sh;split<;>lia⟩
    have e3:outer (e9 n c)=i6 n c:=by unfold e9 i6 outer;rw[ψ q,ψ q]
    rw[e2,e3];exact .refl _
end Cu
namespace Cu
open L2 (mxD Ht T2 T3 so3 Ld C5)
def pk(x:Int)(p l:P2):Bool:=decide (l.1=x)&&(decide (l.2<=p.2)&&!(decide (l.1=p.1)&&decide (l.2=p.2)))
def ql:pk x p l=true↔l.1=x/\l.2<=p.2/\¬(l.1=p.1/\l.2=p.2):=by
 simp only[pk,pr,AR,CO,Bool.and_eq_false_iff,AT];constructor
 . rintro⟨h1,h2,h3⟩;exact⟨h1,h2,fun h=>by rcases h3 with z |z<;>lia⟩
 . rintro⟨h1,h2,h3⟩;refine⟨h1,h2,?_⟩;by_cases z:l.1=p.1
   . exact .inr fun w=>h3 ⟨z,w⟩
   . exact .inl z
def ends(x:Int)(p:P2)(ls:List P2):List Int:=(ls.filter (pk x p)).map (·.2)
def mem_ends:y∈ends x p ls↔(x,y)∈ls/\y<=p.2/\¬(x=p.1/\y=p.2):=by
 simp only[ends,AS,DY,ql];constructor
 . rintro⟨⟨a,b⟩,⟨h1,h2,h3,h4⟩,rfl⟩;simp only at h2 h3 h4⊢;subst h2;exact⟨h1,h3,h4⟩
 . rintro⟨h1,h2,h3⟩;exact⟨(x,y),⟨h1,rfl,h2,h3⟩,rfl⟩
section
variable {n:Int}{ls aw:List P2}{T:List P3}{a b c:Int}
def CInv.beh1(I:CInv n ls T)(p:aw.Perm ls)(h:(a,c,b)∈T):mxD (a+1) (ends a (a,b) aw)=c:=by
 obtain⟨g1,g2,g3,g4,g5,g6⟩:=I.tri a c b h;have key:∀y∈ends a (a,b) aw,y<=c:=fun y hy=>by
  obtain⟨m1,m2,m3⟩:=mem_ends.mp hy;have m1:=p.mem_iff.mp m1;simp only at m2 m3;have:¬y=b:=fun z=>m3 (by simpa using z)
  rcases g6 with g6 |g6
  . have:=I.nc a y c b m1 g6;lia
  . lia
 refine Ht key ?_;rcases g5 with g5 |g5
 . left;exact mem_ends.mpr ⟨p.mem_iff.mpr g5,by simp only;lia,by simp only;lia⟩
 . by_cases z:ends a (a,b) aw=[]
   . exact .inr ⟨z,by lia⟩
   . obtain⟨y,hy⟩:=List.exists_mem_of_ne_nil _ z;have:=key y hy;obtain⟨m1,m2,m3⟩:=mem_ends.mp hy;have:=I.lin a y (p.mem_iff.mp m1);lia
def CInv.beh2(I:CInv n ls T)(p:aw.Perm ls)(h:(a,c,b)∈T):mxD (c+1) (ends c (a,b) aw)=b:=by
 obtain⟨g1,g2,g3,g4,g5,g6⟩:=I.tri a c b h;refine Ht (fun y hy=>(mem_ends.mp hy).2.1) ?_;rcases g6 with g6 |g6
 . left;exact mem_ends.mpr ⟨p.mem_iff.mpr g6,by simp only;lia,by simp only;lia⟩
 . by_cases z:ends c (a,b) aw=[]
   . exact .inr ⟨z,by lia⟩
   . obtain⟨y,hy⟩:=List.exists_mem_of_ne_nil _ z;obtain⟨m1,m2,m3⟩:=mem_ends.mp hy;have:=I.lin c y (p.mem_iff.mp m1);simp only at m2;lia
def thr(T:List P3)(p:P2):P3:=(T.find? fun t=>decide (outer t=p)).getD (0,0,0)
def Se(h:p∈T.map outer):thr T p∈T/\outer (thr T p)=p:=by
 obtain⟨t,ht,e⟩:=AS.mp h;unfold thr;cases hf:T.find? fun t=>decide (outer t=p) with
 |none=>
  have:=List.find?_eq_none.mp hf t ht
  simp[e]at this
 |some u=>
  have h1:=List.mem_of_find?_eq_some hf
  have h2:=List.find?_some hf
  exact⟨h1,by simpa using h2⟩
def CInv.thr_outer(I:CInv n ls T)(h:t∈T):thr T (outer t)=t:=by obtain⟨h1,h2⟩:=Se (T:=T) (AS.mpr ⟨t,h,rfl⟩);obtain⟨a,c,b⟩:=t;generalize thr T (outer (a,c,b))=u at h1 h2;obtain⟨a',c',b'⟩:=u;simp only[outer,Prod.mk.injEq]at h2;obtain⟨rfl,rfl⟩:=h2;have e1:=I.beh1 (.refl _) h1;have e2:=I.beh1 (.refl _) h;rw[e1]at e2;rw[e2]
def CInv.tops(I:CInv n ls T)(p:aw.Perm ls):(((0,n - 1)::aw).map (thr T)).Perm T:=by
 have q:((0,n - 1)::aw).Perm (T.map outer):=(p.cons _).trans I.prm.symm;refine(q.map (thr T)).trans ?_;rw[BI];have:T.map (thr T∘outer)=T:=by
  conv=>rhs;rw[<-List.map_id T]
  exact EE fun t ht=>I.thr_outer ht
 rw[this]
def CInv.top_in(I:CInv n ls T)(p:aw.Perm ls)(h:q∈(0,n - 1)::aw):thr T q∈T/\outer (thr T q)=q:=
 Se ((((p.cons _).trans I.prm.symm).mem_iff).mp h)
end
def sh_eq:(sh c x=sh c y)↔x=y:=⟨Ap,fun h=>by rw[h]⟩
end Cu
namespace Cu
open Bd (gR B9 Ea Y4)
def ind(k:Int)(t:P3):Int:=(if k=t.1 then 1 else 0)+(if k=t.2.1 then 1 else 0)+(if k=t.2.2 then 1 else 0)
def c1(k:Int):List P3->Int
 | []=>0
 |t::r=>ind k t+c1 k r
theorem Sb(k:Int):∀(a b:List P3),c1 k (a++b)=c1 k a+c1 k b
 | [],b=>by simp[c1]
 |t::a,b=>by simp only[CC,c1,Sb k a b];lia
def qk(c o:Int)(t:P3):ind (sh c o) (sh3 c t)=ind o t:=by simp only[ind,sh3,sh_eq]
theorem Pj(c o:Int):∀T:List P3,c1 (sh c o) (T.map (sh3 c))=c1 o T
 | []=>rfl
 |t::T=>by simp only[dg,c1,qk,Pj c o T]
theorem Sa(c:Int):∀T:List P3,c1 (c+1) (T.map (sh3 c))=0
 | []=>rfl
 |t::T=>by
  have h:∀x,¬(c+1=sh c x):=fun x=>by unfold sh;split<;>lia
  simp only[dg,c1,ind,sh3,h,CT,Sa c T];rfl
def Rw(row:List Int)(T:List P3):Prop:=∀k,k<row.length->row.getD k 0=c1 (k:Int) T
def rw3:Rw [1,1,1] [(0,1,2)]:=by
 intro k hk
 match k,hk with
 | 0,_=>decide
 | 1,_=>decide
 | 2,_=>decide
def Rw.grow(h:Rw row T)(c:Nat)(hc:c<row.length)(hn:3<=row.length):Rw (B9 row c) (T.map (sh3 (c:Int))++[e9 (row.length:Int) (c:Int)]):=by
 intro k hk;rw[Y4 row c hc]at hk;rw[Ea row c k hc (by lia) hk,Sb];unfold gR;by_cases a:k=c+1
 . subst a;rw[ξ rfl,show((c+1:Nat):Int)=(c:Int)+1 by lia,Sa];simp only[c1];by_cases q:(c:Int)=(row.length:Int) - 1
   . rw[show e9 (row.length:Int) (c:Int)=(0,(c:Int),(row.length:Int)) by unfold e9;rw[ξ q]];simp only[ind];rw[ψ (by lia),ψ (by lia),ξ (by lia)];rfl
   . rw[show e9 (row.length:Int) (c:Int)=((c:Int),(c:Int)+1,(c:Int)+2) by unfold e9;rw[ψ q]];simp only[ind];rw[ψ (by lia),ξ (by first |trivial |rfl),ψ (by lia)];rfl
 . rw[ψ a];obtain⟨o,ho,e⟩:∃o:Nat,(if k<=c then k else k - 1)=o/\((k:Int)=sh (c:Int) (o:Int)/\o<row.length):=by
    by_cases z:k<=c
    . exact⟨k,by rw[ξ z],by unfold sh;rw[ψ (by lia)],by lia⟩
    . exact⟨k - 1,by rw[ψ z],by unfold sh;rw[ξ (by lia)];lia,by lia⟩
   rw[ho];show row.getD o 0+(if o=c then 1 else 0)+(if o=(c+1) % row.length then 1 else 0)=_;rw[h o e.2,e.1,Pj];simp only[c1];have e1:=e.1;have e2:=e.2;by_cases q:(c:Int)=(row.length:Int) - 1
   . have m0:(c+1) % row.length=0:=by rw[show c+1=row.length by lia,FD]
     rw[show e9 (row.length:Int) (c:Int)=(0,(c:Int),(row.length:Int)) by unfold e9;rw[ξ q],m0];simp only[ind];by_cases z1:o=c
     . rw[ξ z1,ψ (by lia),ψ (by unfold sh;split<;>lia),ξ (by unfold sh;split<;>lia),ψ (by unfold sh;split<;>lia)];lia
     . by_cases z2:o=0
       . rw[ψ z1,ξ z2,ξ (by unfold sh;split<;>lia),ψ (by unfold sh;split<;>lia),ψ (by unfold sh;split<;>lia)];lia
       . rw[ψ z1,ψ z2,ψ (by unfold sh;split<;>lia),ψ (by unfold sh;split<;>lia),ψ (by unfold sh;split<;>lia)];lia
   . have m0:(c+1) % row.length=c+1:=BJ (by lia);rw[show e9 (row.length:Int) (c:Int)=((c:Int),(c:Int)+1,(c:Int)+2) by unfold e9;rw[ψ q],m0];simp only[ind];by_cases z1:o=c
     . rw[ξ z1,ψ (by lia),ξ (by unfold sh;split<;>lia),ψ (by unfold sh;split<;>lia),ψ (by unfold sh;split<;>lia)];lia
     . by_cases z2:o=c+1
       . rw[ψ z1,ξ z2,ψ (by unfold sh;split<;>lia),ψ (by unfold sh;split<;>lia),ξ (by unfold sh;split<;>lia)];lia
       . rw[ψ z1,ψ z2,ψ (by unfold sh;split<;>lia),ψ (by unfold sh;split<;>lia),ψ (by unfold sh;split<;>lia)];lia
end Cu
namespace Bd
def sc(s:Int)(u:Vc):Vc:=(s * u.1,s * u.2)
end Bd
namespace Cu
def e2(x y a b:Int):Nat:=if x=a/\y=b then 1 else 0
open L2 (so3 C5 soI yC ltT L Md G0 jI wV S8)
end Cu
namespace Cu
open L2 (so2 C6 Dp ltT T2 Srt X9 Q3 G0 Gf S8 Sv D)
def le2(a b:P2):Prop:=a.1<b.1\/(a.1=b.1/\a.2<=b.2)
end Cu
namespace Cu
end Cu
namespace Cu
open L2 (so2 C6 Ws)
open Bd
open PySem (intBits_mul_le intBits_sub_le)
open PySem.Builtin.Int (intBits)
def bn(row:List Int)(i:Nat):Nat->Int
 | 0=>0
 | 1=>1
 |d+2=>row.getD ((i+(d+1)) % row.length) 0 * bn row i (d+1) - bn row i d
def st2(a b:P2):Prop:=a.1<b.1\/(a.1=b.1/\a.2<b.2)
def shN(c p:Nat):Nat:=if p > c then p+1 else p
def Ga(n c:Nat)(v:Nat->Vc)(k:Nat)(h:k<=n):gV n c v k=gq n c v 0 k:=by have:=r8 n c v 0 k h;rwa [GC,CK]at this
def N0(n c:Nat)(v:Nat->Vc)(p:Nat)(hp:p<n):gV n c v (shN c p)=v p:=by
 unfold shN;by_cases h:p > c
 . rw[ξ h,Ga _ _ _ _ (by lia),D7 _ _ _ _ _ (by lia),GC,CK]
 . rw[ψ h,Ga _ _ _ _ (by lia),y3 _ _ _ _ _ (by lia),GC,CK]
def Rz(n c:Nat)(v:Nat->Vc)(hc:c<n):gV n c v (c+1)=ad (v c) (v (c+1)):=by rw[Ga _ _ _ _ (by lia),J2,GC,CK]
end Cu
namespace Cu
open L2 (so2 C6 Ws so3 C5 Ld Ba ltT T3 Srt X9 Q3 G0 Ad S8 Hu D)
open Bd
theorem Ju{α:Type}{r:α->α->Prop}(as:∀a b,r a b->¬r b a):∀{xs ys:List α},xs.Pairwise r->ys.Pairwise r->(∀x,x∈xs↔x∈ys)->xs=ys
 | [],[],_,_,_=>rfl
 | [],y::_,_,_,h=>by have:=(h y).mpr (by simp);cases this
 |x::_,[],_,_,h=>by have:=(h x).mp (by simp);cases this
 |x::xs,y::ys,hx,hy,h=>by
  rw[DV]at hx hy;have e:x=y:=by
   rcases ee.mp ((h x).mp (by simp)) with e |e
   . exact e
   . rcases ee.mp ((h y).mpr (by simp)) with e' |e'
     . exact e'.symm
     . exact absurd (hy.1 x e) (as _ _ (hx.1 y e'))
  subst e;congr 1;refine Ju as hx.2 hy.2 fun z=>⟨fun m=>?_,fun m=>?_⟩
  . rcases ee.mp ((h z).mp (tB _ m)) with e |e
    . subst e;exact absurd (hx.1 z m) (as _ _ (hx.1 z m))
    . exact e
  . rcases ee.mp ((h z).mpr (tB _ m)) with e |e
    . subst e;exact absurd (hy.1 z m) (as _ _ (hy.1 z m))
    . exact e
def le3(a b:P3):Prop:=a.1<b.1\/(a.1=b.1/\(a.2.1<b.2.1\/(a.2.1=b.2.1/\a.2.2<=b.2.2)))
def Ry(p q:P3):ltT (T3 p) (T3 q)=decide (p.1<q.1\/(p.1=q.1/\(p.2.1<q.2.1\/(p.2.1=q.2.1/\p.2.2<q.2.2)))):=by
 obtain⟨a,b,c⟩:=p;obtain⟨d,e,f⟩:=q;simp only[T3,L2.ltT,L2.ltTs,L2.eqD];by_cases h1:a=d
 . subst h1;by_cases h2:b=e
   . subst h2;by_cases h3:c=f
     . simp[h3]
     . simp[h3]
   . simp[h2]
 . simp[h1]
def Jt(xs:List P3):Srt (xs.map T3)↔xs.Pairwise le3:=by
 unfold Srt;rw[CG];constructor
 . exact fun h=>h.imp fun {a b} h=>by rw[Ry,AT]at h;unfold le3;omega
 . exact fun h=>h.imp fun {a b} h=>by rw[Ry,AT];unfold le3 at h;omega
def Hm(ls:List P3):(so3 ls).Pairwise le3:=by rw[<-Jt,<-Ba];exact Q3 (G0 ls T3 Ad)
def Rx{xs ls:List P3}(h:xs.Pairwise le3)(p:xs.Perm ls):xs=so3 ls:=by have:=X9 (G0 xs T3 Ad) ((p.trans (C5 ls).symm).map T3) ((Jt xs).mpr h) ((Jt _).mpr (Hm ls));exact S8 (fun _ _=>Hu) this
def sh_lt{c x y:Int}:sh c x<sh c y↔x<y:=by unfold sh;split<;>split<;>lia
def qi(c:Int)(T:List P3):so3 (T.map (sh3 c))=(so3 T).map (sh3 c):=by
 refine(Rx ?_ ((C5 T).map _)).symm;rw[CG];refine(Hm T).imp fun {a b} h=>?_
 have key:∀x y:Int,(sh c x<sh c y↔x<y)/\(sh c x=sh c y↔x=y):=fun x y=>⟨sh_lt,sh_eq⟩
 have l3:sh c a.2.2<=sh c b.2.2↔a.2.2<=b.2.2:=by have:=sh_lt (c:=c) (x:=b.2.2) (y:=a.2.2);lia
 unfold le3 at h⊢;simp only[sh3,(key _ _).1,(key _ _).2,l3];exact h
def ym{c:Int}{T:List P3}{t:P3}(ht:t∉T.map (sh3 c)):∃A B,so3 T=A++B/\so3 (T.map (sh3 c)++[t])=A.map (sh3 c)++t::B.map (sh3 c):=by
 have hm:t∈so3 (T.map (sh3 c)++[t]):=(C5 _).mem_iff.mpr (by simp);obtain⟨A',B',e⟩:=List.append_of_mem hm;have p1:(A'++t::B').Perm (t::T.map (sh3 c)):=by rw[<-e];exact(C5 _).trans (BV (l₁:=T.map (sh3 c)) (l₂:=[t]))
 have p2:(A'++B').Perm (T.map (sh3 c)):=(List.perm_middle.symm.trans p1).cons_inv;have pw:(A'++B').Pairwise le3:=by have:=Hm (T.map (sh3 c)++[t]);rw[e]at this;exact this.sublist (List.Sublist.append (List.Sublist.refl _) (List.sublist_cons_self _ _))
 have e2:=Rx pw p2;rw[qi]at e2;obtain⟨A,B,h1,h2,h3⟩:=List.map_eq_append_iff.mp e2.symm;exact⟨A,B,h1,by rw[e,h2,h3]⟩
def lx:List Int->List Int->Prop
 |c::x,d::y=>c<d\/(c=d/\lx x y)
 |_,_=>False
theorem Fz:∀a b,lx a b->¬lx b a
 | [],[],h=>by simp[lx]at h
 | [],_::_,h=>by simp[lx]at h
 |_::_,[],h=>by simp[lx]at h
 |c::x,d::y,h=>by
  simp only[lx]at h⊢;rcases h with h |⟨rfl,h⟩
  . lia
  . intro q;rcases q with q |⟨_,q⟩
    . lia
    . exact Fz x y h q
theorem Rv:∀{a b:List Int}(u w:List Int),lx a b->lx (a++u) (b++w)
 | [],[],u,w,h=>by simp[lx]at h
 | [],_::_,u,w,h=>by simp[lx]at h
 |_::_,[],u,w,h=>by simp[lx]at h
 |c::x,d::y,u,w,h=>by simp only[lx,CC]at h⊢;exact h.imp id fun⟨e,q⟩=>⟨e,Rv u w q⟩
theorem Uq:∀(g:List Int){c d:Int},c<d->lx (g++[c]) (g++[d])
 | [],c,d,h=>by simp only[EM,lx];exact Or.inl h
 |a::g,c,d,h=>by simp only[CC,lx];exact Or.inr ⟨trivial,Uq g h⟩
theorem Ru{f:Int->Int}(hf:∀x y,x<y->f x<f y):∀{a b:List Int},lx a b->lx (a.map f) (b.map f)
 | [],[],h=>by simp[lx]at h
 | [],_::_,h=>by simp[lx]at h
 |_::_,[],h=>by simp[lx]at h
 |c::x,d::y,h=>by
  simp only[lx,dg]at h⊢;rcases h with h |⟨rfl,h⟩
  . exact Or.inl (hf _ _ h)
  . exact Or.inr ⟨rfl,Ru hf h⟩
def cor(t:P3):List Int:=[t.1,t.2.1,t.2.2]
def xt(E:List Int)(t:P3)(g:List Int):List (List Int):=(((cor t).filter fun c=>decide (c∉E)).filter fun c=>decide (c∉g)).map fun c=>g++[c]
def Sg(E:List Int):List P3->List (List Int)->List (List Int)
 | [],B=>B
 |t::ts,B=>Sg E ts (B.flatMap (xt E t))
def Sh(E:List Int)(ts:List P3):List (List Int):=Sg E ts [[]]
def Al:List Int->List P3->Prop
 | [],[]=>True
 |c::x,t::ts=>c∈cor t/\Al x ts
 |_,_=>False
theorem Al.len:∀{x:List Int}{ts:List P3},Al x ts->x.length=ts.length
 | [],[],_=>rfl
 | [],_::_,h=>by simp[Al]at h
 |_::_,[],h=>by simp[Al]at h
 |c::x,t::ts,h=>by simp only[Al]at h;simp only[io,h.2.len]
def Vd(E:List Int)(ts:List P3)(x:List Int):Prop:=Al x ts/\x.Nodup/\∀c∈x,c∉E
def mem_xt{E:List Int}{t:P3}{g x:List Int}:x∈xt E t g↔∃c∈cor t,c∉E/\c∉g/\x=g++[c]:=by unfold xt;simp only[AS,DY,AR];exact⟨fun⟨c,⟨⟨h1,h2⟩,h3⟩,e⟩=>⟨c,h1,h2,h3,e.symm⟩,fun⟨c,h1,h2,h3,e⟩=>⟨c,⟨⟨h1,h2⟩,h3⟩,e.symm⟩⟩
theorem Rt(E:List Int):∀(ts:List P3)(B:List (List Int))(x:List Int),x∈Sg E ts B↔∃g∈B,∃y,x=g++y/\Al y ts/\y.Nodup/\(∀c∈y,c∉g)/\∀c∈y,c∉E
 | [],B,x=>by
  simp only[Sg];constructor
  . intro h;exact⟨x,h,[],by simp,trivial,List.nodup_nil,by simp,by simp⟩
  . rintro⟨g,hg,y,rfl,ha,_⟩;cases y with
    |nil=>simpa using hg
    |cons=>simp[Al]at ha
 |t::ts,B,x=>by
  simp only[Sg];rw[Rt E ts];constructor
  . rintro⟨g',du,y,rfl,ha,hn,h1,h2⟩;obtain⟨g,hg,hx⟩:=List.mem_flatMap.mp du;obtain⟨c,hc,hE,tT,rfl⟩:=mem_xt.mp hx;refine⟨g,hg,c::y,by simp,⟨hc,ha⟩,CH.mpr ⟨fun m=>h1 c m (by simp),hn⟩,fun d hd=>?_,fun d hd=>?_⟩
    . rcases ee.mp hd with rfl |hd
      . exact tT
      . exact fun m=>h1 d hd (by simp[m])
    . rcases ee.mp hd with rfl |hd
      . exact hE
      . exact h2 d hd
  . rintro⟨g,hg,y,rfl,ha,hn,h1,h2⟩;cases y with
    |nil=>simp[Al]at ha
    |cons c y=>
     simp only[Al]at ha
     rw[CH]at hn
     refine⟨g++[c],List.mem_flatMap.mpr ⟨g,hg,mem_xt.mpr ⟨c,ha.1,h2 c (by simp),h1 c (by simp),rfl⟩⟩,y,by simp,ha.2,hn.2,fun d hd m=>?_,fun d hd=>h2 d (by simp[hd])⟩
     rcases AQ.mp m with m |m
     . exact h1 d (by simp[hd]) m
     . rw[AV]at m;subst m;exact hn.1 hd
def mem_Sh{E:List Int}{ts:List P3}{x:List Int}:x∈Sh E ts↔Vd E ts x:=by
 unfold Sh Vd;rw[Rt];constructor
 . rintro⟨g,hg,y,rfl,ha,hn,_,h2⟩;rw[AV]at hg;subst hg;exact⟨ha,hn,h2⟩
 . rintro⟨ha,hn,h2⟩;exact⟨[],by simp,x,rfl,ha,hn,by simp,h2⟩
def Asc(ts:List P3):Prop:=∀t∈ts,t.1<t.2.1/\t.2.1<t.2.2
theorem Pi(E:List Int):∀(ts:List P3)(B:List (List Int))(m:Nat),Asc ts->(∀g∈B,g.length=m)->B.Pairwise lx->(Sg E ts B).Pairwise lx
 | [],B,m,_,_,h=>h
 |t::ts,B,m,ha,hl,h=>by
  have ht:=ha t (by simp);simp only[Sg];refine Pi E ts _ (m+1) (fun u hu=>ha u (by simp[hu])) (fun g' du=>?_) ?_
  . obtain⟨g,hg,hx⟩:=List.mem_flatMap.mp du;obtain⟨c,_,_,_,rfl⟩:=mem_xt.mp hx;rw[θ,hl g hg,EQ]
  . rw[List.pairwise_flatMap];refine⟨fun g hg=>?_,h.imp_of_mem fun {g g'} hg du q x hx y hy=>?_⟩
    . unfold xt;rw[CG];have:(cor t).Pairwise (·<·):=by unfold cor;simp only[DV,ee,AZ,DM,forall_eq_or_imp,forall_eq,List.Pairwise.nil,and_true,false_imp_iff,implies_true];omega
      exact((this.sublist FZ).sublist FZ).imp fun {c d} q=>Uq g q
    . obtain⟨c,_,_,_,rfl⟩:=mem_xt.mp hx;obtain⟨d,_,_,_,rfl⟩:=mem_xt.mp hy;exact Rv _ _ q
def Cg{E:List Int}{ts:List P3}(ha:Asc ts):(Sh E ts).Pairwise lx:=Pi E ts [[]] 0 ha (by simp) (List.pairwise_singleton _ _)
def Lb{E E':List Int}(h:∀k,k∈E↔k∈E'){ts:List P3}(ha:Asc ts):Sh E ts=Sh E' ts:=
 Ju Fz (Cg ha) (Cg ha) fun x=>by rw[mem_Sh,mem_Sh];unfold Vd;simp only[h]
def o7:Nat->Int->List Int->List Int
 | 0,w,y=>w::y
 |k+1,w,c::y=>c::o7 k w y
 |_+1,w,[]=>[w]
theorem S7:∀(k:Nat)(w:Int)(y:List Int),(o7 k w y).Perm (w::y)
 | 0,w,y=>.refl _
 |k+1,w,c::y=>by simp only[o7];exact((S7 k w y).cons c).trans (List.Perm.swap w c y)
 |_+1,w,[]=>.refl _
theorem W9:∀(k:Nat)(w:Int)(y:List Int),k<=y.length->(o7 k w y).getD k 0=w
 | 0,w,y,_=>rfl
 |k+1,w,c::y,h=>by simp only[o7,List.getD_cons_succ];exact W9 k w y (by simpa using h)
 |k+1,w,[],h=>by simp at h
theorem Rs:∀(k:Nat)(w:Int){y z:List Int},lx y z->lx (o7 k w y) (o7 k w z)
 | 0,w,y,z,h=>by simp only[o7,lx];exact Or.inr ⟨trivial,h⟩
 |k+1,w,[],[],h=>by simp[lx]at h
 |k+1,w,[],_::_,h=>by simp[lx]at h
 |k+1,w,_::_,[],h=>by simp[lx]at h
 |k+1,w,c::y,d::z,h=>by simp only[lx,o7]at h⊢;exact h.imp id fun⟨e,q⟩=>⟨e,Rs k w q⟩
theorem Ao(t:P3)(w:Int)(B:List P3):∀(A:List P3)(y:List Int),y.length=A.length+B.length->(Al (o7 A.length w y) (A++t::B)↔w∈cor t/\Al y (A++B))
 | [],y,_=>by simp only[DL,o7,EM,Al]
 |a::A,[],h=>by simp at h;lia
 |a::A,c::y,h=>by simp only[io,o7,CC,Al];rw[Ao t w B A y (by simp only[io]at h;lia)];exact⟨fun⟨h1,h2,h3⟩=>⟨h2,h1,h3⟩,fun⟨h2,h1,h3⟩=>⟨h1,h2,h3⟩⟩
theorem Bh(t:P3)(B:List P3):∀(A:List P3)(x:List Int),Al x (A++t::B)->∃w y,x=o7 A.length w y/\y.length=A.length+B.length
 | [],[],h=>by simp[Al]at h
 | [],w::y,h=>⟨w,y,rfl,by simp only[EM,Al]at h;simp[h.2.len]⟩
 |a::A,[],h=>by simp[Al]at h
 |a::A,c::x,h=>by simp only[CC,Al]at h;obtain⟨w,y,e,hl⟩:=Bh t B A x h.2;exact⟨w,c::y,by simp only[io,o7,e],by simp only[io,hl];lia⟩
def qh{c k:Int}{t:P3}:sh c k∈cor (sh3 c t)↔k∈cor t:=by unfold cor sh3;simp only[ee,AZ,DM,sh_eq]
theorem Fy(c:Int):∀{y:List Int}{ts:List P3},Al (y.map (sh c)) (ts.map (sh3 c))↔Al y ts
 | [],[]=>Iff.rfl
 | [],_::_=>by simp[Al]
 |_::_,[]=>by simp[Al]
 |k::y,t::ts=>by simp only[dg,Al,qh,Fy c]
theorem Js(c:Int):∀{x:List Int}{ts:List P3},Al x (ts.map (sh3 c))->∃y:List Int,x=y.map (sh c)
 | [],[],_=>⟨[],rfl⟩
 | [],_::_,h=>by simp[Al]at h
 |_::_,[],h=>by simp[Al]at h
 |k::x,t::ts,h=>by
  simp only[dg,Al]at h;obtain⟨y,e⟩:=Js c h.2;have:∃j,k=sh c j:=by have:=h.1;unfold cor sh3 at this;simp only[ee,AZ,DM]at this;rcases this with e |e |e<;>exact⟨_,e⟩
  obtain⟨j,e2⟩:=this;exact⟨j::y,by rw[e,e2];rfl⟩
def nd_map_sh{c:Int}{y:List Int}:(y.map (sh c)).Nodup↔y.Nodup:=by
 constructor
 . intro h;exact(CG.mp h).imp fun {a b} q e=>q (by rw[e])
 . intro h;exact CG.mpr (h.imp fun {a b} q e=>q (sh_eq.mp e))
def mem_map_sh{c k:Int}{y:List Int}:sh c k∈y.map (sh c)↔k∈y:=by rw[AS];exact⟨fun⟨j,hj,e⟩=>sh_eq.mp e ▸ hj,fun h=>⟨k,h,rfl⟩⟩
def Asc.sh{ts:List P3}(h:Asc ts)(c:Int):Asc (ts.map (sh3 c)):=fun t ht=>by obtain⟨u,hu,rfl⟩:=AS.mp ht;have:=h u hu;simp only[sh3,sh_lt];exact this
section
variable {E E0:List Int}{c w:Int}{A B:List P3}{t:P3}
def Rr(ha:Asc (A++B))(tU:t.1<t.2.1/\t.2.1<t.2.2)(hw:w∈cor t)(mG:w∉E)(hE:∀k,sh c k∈w::E↔k∈E0) :
  (Sh E (A.map (sh3 c)++t::B.map (sh3 c))).filter (fun x=>decide (x.getD A.length 0=w))=(Sh E0 (A++B)).map (fun (y:List Int)=>o7 A.length w (y.map (sh c))):=by
 have hA:Asc (A.map (sh3 c)++t::B.map (sh3 c)):=fun u hu=>by
  rcases AQ.mp hu with h |h
  . exact Asc.sh (ts:=A) (fun t ht=>ha t (by simp[ht])) c u h
  . rcases ee.mp h with rfl |h
    . exact tU
    . exact Asc.sh (ts:=B) (fun t ht=>ha t (by simp[ht])) c u h
 refine Ju Fz ((Cg hA).sublist FZ) ?_ fun x=>?_
 . rw[CG];exact(Cg ha).imp fun {y z} q=>Rs _ _ (Ru (fun _ _=>sh_lt.mpr) q)
 . rw[DY,AS,mem_Sh,AR];constructor
   . rintro⟨⟨h1,h2,h3⟩,h4⟩;obtain⟨w',y',rfl,hl⟩:=Bh t _ _ x h1;rw[bI]at *;rw[bI]at hl;rw[W9 _ _ _ (by lia)]at h4;subst h4;have pm:=S7 A.length w' y';have ez:=(Ao t w' (B.map (sh3 c)) (A.map (sh3 c)) y' (by rw[bI,bI];exact hl)).mp (by rw[bI];exact h1);rw[<-BG]at ez;obtain⟨y,rfl⟩:=Js c ez.2;have nd:=pm.nodup_iff.mp h2;rw[CH]at nd;refine⟨y,mem_Sh.mpr ⟨(Fy c).mp ez.2,nd_map_sh.mp nd.2,fun k hk tV=>?_⟩,rfl⟩;have m1:sh c k∈y.map (sh c):=mem_map_sh.mpr hk;rcases ee.mp ((hE k).mpr tV) with e |e
     . exact nd.1 (e ▸ m1)
     . exact h3 _ (pm.mem_iff.mpr (by simp[m1])) e
   . rintro⟨y,hy,rfl⟩;obtain⟨h1,h2,h3⟩:=mem_Sh.mp hy;have hl:(y.map (sh c)).length=A.length+B.length:=by rw[bI,h1.len,θ]
     have pm:=S7 A.length w (y.map (sh c));refine⟨⟨?_,pm.nodup_iff.mpr (CH.mpr ⟨fun m=>?_,nd_map_sh.mpr h2⟩),fun d hd=>?_⟩,W9 _ _ _ (by lia)⟩
     . have:=(Ao t w (B.map (sh3 c)) (A.map (sh3 c)) (y.map (sh c)) (by rw[hl,bI,bI])).mpr ⟨hw,by rw[<-BG];exact(Fy c).mpr h1⟩;rw[bI]at this;exact this
     . obtain⟨k,hk,e⟩:=AS.mp m;exact h3 k hk ((hE k).mp (by rw[e];simp))
     . rcases ee.mp (pm.mem_iff.mp hd) with rfl |hd
       . exact mG
       . obtain⟨k,hk,rfl⟩:=AS.mp hd;exact fun m=>h3 k hk ((hE k).mp (by simp[m]))
def wA(mG:w∈E):(Sh E (A.map (sh3 c)++t::B.map (sh3 c))).filter (fun x=>decide (x.getD A.length 0=w))=[]:=by rw[List.filter_eq_nil_iff];intro x hx;rw[AR];obtain⟨h1,h2,h3⟩:=mem_Sh.mp hx;obtain⟨w',y',rfl,hl⟩:=Bh t _ _ x h1;rw[bI]at *;rw[bI]at hl;rw[W9 _ _ _ (by lia)];rintro rfl;exact h3 _ ((S7 A.length w' y').mem_iff.mpr (by simp)) mG
def Hl{x:List Int}(hx:x∈Sh E (A.map (sh3 c)++t::B.map (sh3 c))):x.getD A.length 0∈cor t/\x.getD A.length 0∉E/\x.length=A.length+B.length+1:=by obtain⟨h1,h2,h3⟩:=mem_Sh.mp hx;obtain⟨w',y',rfl,hl⟩:=Bh t _ _ x h1;rw[bI]at *;rw[bI]at hl;rw[W9 _ _ _ (by omega)];have ez:=(Ao t w' (B.map (sh3 c)) (A.map (sh3 c)) y' (by rw[bI,bI];exact hl)).mp (by rw[bI];exact h1);refine⟨ez.1,h3 _ ((S7 A.length w' y').mem_iff.mpr (by simp)),?_⟩;rw[(S7 A.length w' y').length_eq,io,hl]
end
theorem Rq:∀{xs ys:List Int},xs.Nodup->(∀x∈xs,x∈ys)->xs.length<=ys.length
 | [],_,_,_=>BQ _
 |x::xs,ys,h,k=>by
  rw[CH]at h;have hx:=k x (by simp);have:=Rq (ys:=ys.erase x) h.2 fun z hz=>(List.mem_erase_of_ne (fun e:z=x=>h.1 (by rw[<-e];exact hz))).mpr (k z (by simp[hz]))
  rw[List.length_erase_of_mem hx]at this;have:0<ys.length:=List.length_pos_of_mem hx;rw[io];omega
theorem Al.mem:∀{x:List Int}{ts:List P3},Al x ts->∀k∈x,∃u∈ts,k∈cor u
 | [],_,_,k,hk=>by cases hk
 |_::_,[],h,_,_=>by simp[Al]at h
 |c::x,t::ts,h,k,hk=>by
  simp only[Al]at h;rcases ee.mp hk with rfl |hk
  . exact⟨t,by simp,h.1⟩
  . obtain⟨u,hu,hm⟩:=h.2.mem k hk;exact⟨u,by simp[hu],hm⟩
def en1(n c:Int):Int:=if c=n - 1 then 0 else c
def en2(n c:Int):Int:=if c=n - 1 then c else c+1
def Dk{n c k:Int}(hn:3<=n)(h0:0<=c)(h1:c<n):k∈cor (e9 n c)↔k=sh c (en1 n c)\/k=sh c (en2 n c)\/k=c+1:=by
 unfold e9 en1 en2 cor sh;by_cases h:c=n - 1
 . simp only[ξ h,ee,AZ,DM];rw[ψ (by lia),ψ (by lia)];lia
 . simp only[ψ h,ee,AZ,DM];rw[ψ (by lia),ξ (by lia)];lia
def y35{n c:Int}(hn:3<=n)(h0:0<=c)(h1:c<n):en1 n c≠en2 n c:=by unfold en1 en2;split<;>lia
def nsh{c k:Int}:sh c k≠c+1:=by unfold sh;split<;>lia
structure Gr(n:Nat)(c:Nat)(A B:List P3):Prop where
 n3:3<=n
 hc:c<n
 asc:Asc (A++B)
 bd:∀u∈A++B,∀k∈cor u,0<=k/\k<n
 len:A.length+B.length+2=n
section
variable {n c:Nat}{A B:List P3}
def Gr.tri(G:Gr n c A B):(e9 (n:Int) c).1<(e9 (n:Int) c).2.1/\(e9 (n:Int) c).2.1<(e9 (n:Int) c).2.2:=by have:=G.n3;have:=G.hc;unfold e9;split<;>simp only<;>omega
def grw(n c:Nat)(A B:List P3):List P3:=A.map (sh3 (c:Int))++e9 (n:Int) (c:Int)::B.map (sh3 (c:Int))
def Gr.bd'(G:Gr n c A B):∀u∈grw n c A B,∀k∈cor u,0<=k/\k<=n:=by
 have hn:=G.n3;have hc:=G.hc;have pc:∀u∈A++B,∀k∈cor (sh3 (c:Int) u),0<=k/\k<=n:=fun u hu k hk=>by
  have:∃j,k=sh (c:Int) j/\j∈cor u:=by
   unfold cor sh3 at hk;simp only[ee,AZ,DM]at hk;rcases hk with e |e |e
   . exact⟨_,e,by simp[cor]⟩
   . exact⟨_,e,by simp[cor]⟩
   . exact⟨_,e,by simp[cor]⟩
  obtain⟨j,rfl,hj⟩:=this;have:=G.bd u hu j hj;unfold sh;split<;>omega
 intro u hu k hk;unfold grw at hu;rcases AQ.mp hu with h |h
 . obtain⟨w,hw,rfl⟩:=AS.mp h;exact pc w (by simp[hw]) k hk
 . rcases ee.mp h with rfl |h
   . unfold cor e9 at hk;split at hk<;>simp only[ee,AZ,DM]at hk<;>omega
   . obtain⟨w,hw,rfl⟩:=AS.mp h;exact pc w (by simp[hw]) k hk
def Gr.new(G:Gr n c A B){i j:Int}(hi:0<=i/\i<n)(hj:0<=j/\j<n)(cN:i≠j){x:List Int}(hx:x∈Sh [sh (c:Int) i,sh (c:Int) j] (grw n c A B)):x.getD A.length 0=(c:Int)+1:=by
 have hn:=G.n3;have hc:=G.hc;have ag:=G.len;obtain⟨h1,h2,h3⟩:=mem_Sh.mp hx;have hm:((c:Int)+1)∈x:=by
  refine GL fun tW=>?_
  have nd:(((c:Int)+1)::sh (c:Int) i::sh (c:Int) j::x).Nodup:=by simp only[CH,ee,not_or];exact⟨⟨fun e=>nsh e.symm,fun e=>nsh e.symm,tW⟩,⟨fun e=>cN (sh_eq.mp e),fun m=>h3 _ m (by simp)⟩,fun m=>h3 _ m (by simp),h2⟩
  have:=Rq (ys:=(List.range (n+1)).map fun (k:Nat)=>(k:Int)) nd fun z hz=>by
   rw[AS];have eX:0<=z/\z<=n:=by
    simp only[ee]at hz;rcases hz with rfl |rfl |rfl |hz
    . lia
    . unfold sh;split<;>lia
    . unfold sh;split<;>lia
    . obtain⟨u,hu,hk⟩:=h1.mem z hz;exact G.bd' u hu z hk
   exact⟨z.toNat,by rw[CW];lia,by lia⟩
  rw[bI,FP]at this;simp only[io]at this;have hl:=h1.len;unfold grw at hl;rw[θ,io,bI,bI]at hl
  lia
 unfold grw at h1;obtain⟨w,y,rfl,hl⟩:=Bh _ _ _ x h1;rw[bI]at *;rw[bI]at hl;rw[W9 _ _ _ (by lia)];have ez:=(Ao (e9 (n:Int) c) w (B.map (sh3 c)) (A.map (sh3 c)) y (by rw[bI,bI];exact hl)).mp (by rw[bI];exact h1);rw[<-BG]at ez;obtain⟨y',rfl⟩:=Js (c:Int) ez.2;rcases ee.mp ((S7 A.length w _).mem_iff.mp hm) with e |e
 . exact e.symm
 . obtain⟨k,_,e⟩:=AS.mp e;exact absurd e nsh
def Gr.old(G:Gr n c A B){i j:Int}(hi:0<=i/\i<n)(hj:0<=j/\j<n)(cN:i≠j) :
  Sh [sh (c:Int) i,sh (c:Int) j] (grw n c A B)=(Sh [i,j] (A++B)).map fun (y:List Int)=>o7 A.length ((c:Int)+1) (y.map (sh (c:Int))):=by
 have hn:=G.n3
 have hc:=G.hc
 have e:=Rr (E:=[sh (c:Int) i,sh (c:Int) j]) (E0:=[i,j]) (c:=(c:Int)) (w:=(c:Int)+1) (t:=e9 (n:Int) c) G.asc G.tri ((Dk (by lia) (by lia) (by lia)).mpr (Or.inr (Or.inr rfl)))
  (by simp only[ee,AZ,DM];rintro (h |h)<;>exact nsh h.symm)
  (fun k=>by simp only[ee,AZ,DM,sh_eq];exact⟨fun h=>h.elim (fun h=>absurd h nsh) id,Or.inr⟩)
 rw[<-e,List.filter_eq_self.mpr]
 . rfl
 . exact fun x hx=>decide_eq_true (G.new hi hj cN hx)
def Gr.at(G:Gr n c A B){e j:Int}(he:e=en1 n c\/e=en2 n c)(tX:e≠j) :
  (Sh [(c:Int)+1,sh (c:Int) j] (grw n c A B)).filter (fun x=>decide (x.getD A.length 0=sh (c:Int) e))=(Sh [e,j] (A++B)).map fun (y:List Int)=>o7 A.length (sh (c:Int) e) (y.map (sh (c:Int))):=by
 have hn:=G.n3
 have hc:=G.hc
 refine Rr (E:=[(c:Int)+1,sh (c:Int) j]) (E0:=[e,j]) (c:=(c:Int)) (w:=sh (c:Int) e) (t:=e9 (n:Int) c) G.asc G.tri ((Dk (by lia) (by lia) (by lia)).mpr ?_) ?_ fun k=>?_
 . rcases he with rfl |rfl
   . exact Or.inl rfl
   . exact Or.inr (Or.inl rfl)
 . simp only[ee,AZ,DM];rintro (h |h)
   . exact nsh h
   . exact tX (sh_eq.mp h)
 . simp only[ee,AZ,DM,sh_eq];exact⟨fun h=>h.imp id fun h=>h.elim (fun h=>absurd h nsh) id,fun h=>h.imp id Or.inr⟩
def Gr.at0(n c:Nat)(A B:List P3)(j:Int):(Sh [(c:Int)+1,sh (c:Int) j] (grw n c A B)).filter (fun x=>decide (x.getD A.length 0=sh (c:Int) j))=[]:=wA (by simp)
def Gr.two(G:Gr n c A B){j:Int}{x:List Int}(hx:x∈Sh [(c:Int)+1,sh (c:Int) j] (grw n c A B)):x.getD A.length 0=sh (c:Int) (en1 n c)\/x.getD A.length 0=sh (c:Int) (en2 n c):=by
 have hn:=G.n3;have hc:=G.hc;obtain⟨h1,h2,_⟩:=Hl hx;rcases (Dk (by lia) (by lia) (by lia)).mp h1 with h |h |h
 . exact Or.inl h
 . exact Or.inr h
 . exact absurd (by rw[h];simp) h2
theorem Up{α:Type}(p:α->Bool):∀l:List α,l.length=(l.filter p).length+(l.filter fun x=>!p x).length
 | []=>rfl
 |a::l=>by
  have:=Up p l;cases h:p a
  . rw[DJ (by simp[h]),BZ (by simp[h]),io,io];lia
  . rw[BZ h,DJ (by simp[h]),io,io];lia
def cn(i j:Int)(ts:List P3):Nat:=if i=j then 0 else(Sh [i,j] ts).length
def y36{i j:Int}{ts:List P3}(ha:Asc ts):cn i j ts=cn j i ts:=by
 unfold cn;by_cases h:i=j
 . rw[ξ h,ξ h.symm]
 . rw[ψ h,ψ (fun e=>h e.symm),Lb (E':=[j,i]) (fun k=>by simp only[ee,AZ,DM];exact Or.comm) ha]
def Gr.cold(G:Gr n c A B){i j:Int}(hi:0<=i/\i<n)(hj:0<=j/\j<n):cn (sh (c:Int) i) (sh (c:Int) j) (grw n c A B)=cn i j (A++B):=by
 unfold cn;by_cases h:i=j
 . rw[ξ h,ξ (by rw[h])]
 . rw[ψ h,ψ (fun e=>h (sh_eq.mp e)),G.old hi hj h,bI]
def Gr.cnew(G:Gr n c A B)(j:Int):cn ((c:Int)+1) (sh (c:Int) j) (grw n c A B)=cn (en1 n c) j (A++B)+cn (en2 n c) j (A++B):=by
 have hn:=G.n3;have hc:=G.hc;have one:∀e,(e=en1 n c\/e=en2 n c)->((Sh [(c:Int)+1,sh (c:Int) j] (grw n c A B)).filter (fun x=>decide (x.getD A.length 0=sh (c:Int) e))).length=cn e j (A++B):=fun e he=>by
  unfold cn;by_cases h:e=j
  . rw[ξ h,h,Gr.at0];rfl
  . rw[ψ h,G.at he h,bI]
 rw[<-one _ (Or.inl rfl),<-one _ (Or.inr rfl)];show(if _ then _ else _)=_;rw[ψ (fun e=>nsh e.symm)];have bL:=y35 (n:=(n:Int)) (c:=(c:Int)) (by lia) (by lia) (by lia);generalize hl:Sh [(c:Int)+1,sh (c:Int) j] (grw n c A B)=l;rw[Up (fun x=>decide (x.getD A.length 0=sh (c:Int) (en1 n c))) l];congr 2;refine List.filter_congr fun x hx=>?_
 rw[<-hl]at hx;rcases G.two hx with h |h
 . rw[h,decide_eq_true rfl,decide_eq_false fun e=>bL (sh_eq.mp e)];rfl
 . rw[h,decide_eq_false fun e=>bL (sh_eq.mp e).symm,decide_eq_true rfl];rfl
end
def mm(v:Nat->Vc)(p q:Nat):Int:=dt (v (min p q)) (v (max p q))
def y37(v:Nat->Vc)(p q:Nat):mm v p q=mm v q p:=by unfold mm;rw[Nat.min_comm,Nat.max_comm]
def qf(n c:Nat)(v:Nat->Vc)(p q:Nat)(hp:p<n)(hq:q<n):mm (gV n c v) (shN c p) (shN c q)=mm v p q:=by
 unfold mm;rw[show min (shN c p) (shN c q)=shN c (min p q) by unfold shN;split<;>split<;>split<;>lia,show max (shN c p) (shN c q)=shN c (max p q) by unfold shN;split<;>split<;>split<;>lia,
  N0 _ _ _ _ (by lia),N0 _ _ _ _ (by lia)]
def qe{n:Nat}{R:Nat->Int}{v:Nat->Vc}(F:Fr n R v)(hn:3<=n)(c p:Nat)(hc:c<n)(hp:p<n):mm (gV n c v) (c+1) (shN c p)=mm v c p+mm v ((c+1) % n) p:=by
 by_cases h:p<=c
 . have e:shN c p=p:=by unfold shN;rw[ψ (by lia)]
   have:=N0 n c v p hp;rw[e]at this⊢;unfold mm;rw[Nat.min_eq_right (show p<=c+1 by lia),Nat.max_eq_left (show p<=c+1 by lia),this,Rz _ _ _ hc,Ay,Nat.min_eq_right h,Nat.max_eq_left h];by_cases z:c+1=n
   . have t:=F.turn p 0;rw[CK]at t;rw[z,FD,FJ (BQ p),EH (BQ p),t,Gc (v 0)];lia
   . rw[BJ (show c+1<n by lia),Nat.min_eq_right (show p<=c+1 by lia),Nat.max_eq_left (show p<=c+1 by lia)]
 . have e:shN c p=p+1:=by unfold shN;rw[ξ (by lia)]
   have:=N0 n c v p hp;rw[e]at this⊢;unfold mm;rw[FJ (show c+1<=p+1 by lia),EH (show c+1<=p+1 by lia),this,Rz _ _ _ hc,Dl,FJ (show c<=p by lia),EH (show c<=p by lia),
    BJ (show c+1<n by lia),FJ (show c+1<=p by lia),EH (show c+1<=p by lia)]
def CInv.asc{n:Int}{ls:List P2}{T:List P3}(I:CInv n ls T):Asc (so3 T):=fun t ht=>by obtain⟨a,c,b⟩:=t;have:=I.tri a c b ((C5 T).mem_iff.mp ht);exact⟨this.2.1,this.2.2.1⟩
def CInv.tlen{n:Nat}{ls:List P2}{T:List P3}(I:CInv (n:Int) ls T)(hl:ls.length+3=n):T.length+2=n:=by
 have:=I.prm.length_eq;rw[bI,io]at this
 lia
def Gr.of{n:Nat}{ls:List P2}{T:List P3}(I:CInv (n:Int) ls T)(hl:ls.length+3=n)(c:Nat)(hc:c<n) :
  ∃A B,so3 T=A++B/\so3 (T.map (sh3 (c:Int))++[e9 (n:Int) (c:Int)])=grw n c A B/\Gr n c A B:=by
 have h3:=I.n3
 have ht:e9 (n:Int) (c:Int)∉T.map (sh3 (c:Int)):=fun h=>by
  obtain⟨u,_,e⟩:=AS.mp h;have:((c:Int)+1)∈cor (sh3 (c:Int) u):=by rw[e];exact(Dk (by omega) (by omega) (by omega)).mpr (Or.inr (Or.inr rfl))
  unfold cor sh3 at this;simp only[ee,AZ,DM]at this;rcases this with e |e |e<;>exact nsh e.symm
 obtain⟨A,B,h1,h2⟩:=ym ht
 refine⟨A,B,h1,h2,by omega,hc,by rw[<-h1];exact I.asc,fun u hu k hk=>?_,?_⟩
 . rw[<-h1]at hu;obtain⟨a,d,b⟩:=u;have:=I.tri a d b ((C5 T).mem_iff.mp hu);unfold cor at hk;simp only[ee,AZ,DM]at hk;omega
 . have:=I.tlen hl;rw[<-(C5 T).length_eq,h1,θ]at this;exact this
def Sc(n:Nat)(T:List P3)(v:Nat->Vc):Prop:=∀i j:Nat,i<n->j<n->((cn (i:Int) (j:Int) (so3 T):Nat):Int)=mm v i j
def sc3:Sc 3 [(0,1,2)] v3:=by
 intro i j hi hj;rw[show so3 [((0:Int),(1:Int),(2:Int))]=[(0,1,2)] from rfl];have h1:i=0\/i=1\/i=2:=by lia
 have h2:j=0\/j=1\/j=2:=by lia
 rcases h1 with rfl |rfl |rfl<;>rcases h2 with rfl |rfl |rfl<;>decide
def Cq(c p:Nat):((shN c p:Nat):Int)=sh (c:Int) (p:Int):=by unfold shN sh;split<;>split<;>lia
def Hk{n c x:Nat}(hc:c<n)(hx:x<n+1):x=c+1\/∃y,y<n/\x=shN c y:=by
 by_cases h:x<=c
 . exact Or.inr ⟨x,by lia,by unfold shN;rw[ψ (by lia)]⟩
 . by_cases h':x=c+1
   . exact Or.inl h'
   . exact Or.inr ⟨x - 1,by lia,by unfold shN;rw[ξ (by lia)];lia⟩
def Sc.grow{n:Nat}{R:Nat->Int}{ls:List P2}{T:List P3}{v:Nat->Vc}(C:Sc n T v)(F:Fr n R v)(I:CInv (n:Int) ls T)(hl:ls.length+3=n)(c:Nat)(hc:c<n) :
  Sc (n+1) (T.map (sh3 (c:Int))++[e9 (n:Int) (c:Int)]) (gV n c v):=by
 have h3:3<=n:=by have:=I.n3;lia
 obtain⟨A,B,h1,h2,G⟩:=Gr.of I hl c hc
 have ha:Asc (grw n c A B):=by rw[<-h2];have:=I.grow (c:Int) (by lia) (by lia);exact this.asc
 have new:∀q,q<n->((cn ((c:Int)+1) (sh (c:Int) (q:Int)) (grw n c A B):Nat):Int)=mm (gV n c v) (c+1) (shN c q):=fun q hq=>by
  rw[G.cnew,qe F h3 c q hc hq,<-h1];have e1:=C c q hc hq;have e2:=C ((c+1) % n) q (Nat.mod_lt _ (by lia)) hq;rw[<-e1,<-e2];unfold en1 en2;by_cases z:c+1=n
  . rw[ξ (by lia),ξ (by lia),z,FD];push_cast;lia
  . rw[ψ (by lia),ψ (by lia),BJ (by lia)];push_cast;rfl
 intro i j hi hj
 rw[h2]
 rcases Hk hc hi with rfl |⟨p,hp,rfl⟩
 . rcases Hk hc hj with rfl |⟨q,hq,rfl⟩
   . unfold cn mm;rw[ξ rfl,GD,Nat.max_self,N4];rfl
   . rw[Cq];exact new q hq
 . rcases Hk hc hj with rfl |⟨q,hq,rfl⟩
   . rw[Cq,y36 ha,y37];exact new p hp
   . rw[Cq,Cq,G.cold (by lia) (by lia),<-h1,qf _ _ _ _ _ hp hq];exact C p q hp hq
def pin(o:List Int)(k:Nat)(x:Int):List Int:=o.take k++x::o.drop k
end Cu
namespace Cu
def s3(c:Int)(w:P2):P3:=if c<w.1 then(c,w.1,w.2) else if c<w.2 then(w.1,c,w.2) else(w.1,w.2,c)
section
open Bd
end
end Cu
namespace Cu
open L2 Bd
def mid(p:Int)(t:P3):Int:=if p<t.1\/t.2.2<=p then t.2.1 else if p<t.2.1 then t.2.2 else t.1
def bk(c p:Int):Int:=if p<=c then p else p - 1
def rt(c:Int)(t:P3):P3:=if c<=t.1\/t.2.2<c then t else if c<=t.2.1 then(t.2.1,t.2.2,t.1) else(t.2.2,t.1,t.2.1)
end Cu
namespace Cu
open Bd
open L2 (so3 C5)
def opp(t:P3)(c:Int):P2:=if c=t.1 then(t.2.1,t.2.2) else if c=t.2.1 then(t.1,t.2.2) else(t.1,t.2.1)
def ab(ts:List P3)(x:List Int):List P2:=List.zipWith opp ts x
def qc(c:Int)(t:P3)(k:Int):opp (sh3 c t) (sh c k)=sh2 c (opp t k):=by
 unfold opp sh3 sh2;dsimp only;simp only[sh_eq]
 repeat' split
 all_goals rfl
theorem Ph(c:Int):∀(ts:List P3)(y:List Int),ab (ts.map (sh3 c)) (y.map (sh c))=(ab ts y).map (sh2 c)
 | [],y=>by simp[ab]
 |t::ts,[]=>by simp[ab]
 |t::ts,k::y=>by have:=Ph c ts y;unfold ab at this⊢;simp only[dg,DT,qc,this]
theorem Rp(t:P3)(w:Int)(B:List P3):∀(A:List P3)(y:List Int),y.length=A.length+B.length->(ab (A++t::B) (o7 A.length w y)).Perm (opp t w::ab (A++B) y)
 | [],y,_=>by cases y<;>exact .refl _
 |a::A,y,h=>by
  cases y with
  |nil=>exact absurd h (by simp;lia)
  |cons k y=>
   have ih:=Rp t w B A y (by simp at h;lia)
   show(opp a k::ab (A++t::B) (o7 A.length w y)).Perm (opp t w::opp a k::ab (A++B) y)
   exact(ih.cons _).trans (.swap _ _ _)
def Lp(n:Int)(ls:List P2)(ts:List P3):Prop:=∀i j:Int,0<=i->i<j->j<n->((i,j)∈ls\/j=i+1\/(i=0/\j=n - 1))->∀x∈Sh [i,j] ts,(ab ts x).Perm ((i,j)::ls)
def lp3:Lp 3 [] (so3 [(0,1,2)]):=by
 have e:so3 [(0,1,2)]=[(0,1,2)]:=by decide +kernel
 rw[e];intro i j h1 h2 h3 _ x hx;have:(i=0/\j=1)\/(i=0/\j=2)\/(i=1/\j=2):=by lia
 rcases this with⟨rfl,rfl⟩ |⟨rfl,rfl⟩ |⟨rfl,rfl⟩
 . rw[show Sh [0,1] [(0,1,2)]=[[2]] by decide +kernel,AV]at hx;subst hx;exact .refl _
 . rw[show Sh [0,2] [(0,1,2)]=[[1]] by decide +kernel,AV]at hx;subst hx;exact .refl _
 . rw[show Sh [1,2] [(0,1,2)]=[[0]] by decide +kernel,AV]at hx;subst hx;exact .refl _
def La(h0:0<=x)(h1:x<=n)(hc:0<=c/\c<n):x=c+1\/∃y,0<=y/\y<n/\x=sh c y:=by
 by_cases h:x=c+1
 . exact .inl h
 . refine .inr ⟨if x > c then x - 1 else x,?_,?_,?_⟩
   . split<;>lia
   . split<;>lia
   . unfold sh;split<;>(try split)<;>lia
def wz(h0:0<=c)(h1:c<n):sh2 c (en1 n c,en2 n c)=i6 n c:=by
 unfold sh2 en1 en2 i6 sh;dsimp only;by_cases h:c=n - 1
 . simp only[ξ h];rw[ψ (by lia),ψ (by lia)]
 . simp only[ψ h];rw[ψ (by lia),ξ (by lia),show c+1+1=c+2 by lia]
def Lp.grow(G:Gr n c A B)(AM:∀a b,(a,b)∈ls->0<=a/\a<b)(h:Lp (n:Int) ls (A++B)):Lp ((n:Int)+1) (ls.map (sh2 (c:Int))++[i6 (n:Int) (c:Int)]) (grw n c A B):=by
 have hn:=G.n3;have hc:=G.hc;have fT:∀(w:Int)(y:List Int)(p:P2),y∈Sh [p.1,p.2] (A++B)->(ab (A++B) y).Perm (p::ls)->(ab (grw n c A B) (o7 A.length w (y.map (sh (c:Int))))).Perm (opp (e9 (n:Int) c) w::sh2 (c:Int) p::ls.map (sh2 (c:Int))):=fun w y p hy q=>by
  have hl:y.length=A.length+B.length:=by rw[(mem_Sh.mp hy).1.len,θ]
  unfold grw;have:=Rp (e9 (n:Int) c) w (B.map (sh3 (c:Int))) (A.map (sh3 (c:Int))) (y.map (sh (c:Int))) (by simp only[bI];exact hl);rw[bI]at this;refine this.trans (.cons _ ?_);rw[<-BG,Ph];exact q.map _
 have fin:∀(u p:P2),(u::sh2 (c:Int) p::ls.map (sh2 (c:Int))).Perm (u::(ls.map (sh2 (c:Int))++[sh2 (c:Int) p])):=fun u p=>.cons _ (BV (l₁:=[sh2 (c:Int) p]))
 intro i j i0 ij jn ed x hx;rcases La (c:=(c:Int)) (n:=(n:Int)) i0 (by lia) (by lia) with hi |⟨a,a0,a1,rfl⟩
 . -- the new gZ and the one pq it
   subst hi;obtain⟨b,b0,b1,rfl⟩:∃b,0<=b/\b<(n:Int)/\j=sh (c:Int) b:=(La (c:=(c:Int)) (n:=(n:Int)) (by lia) (by lia) (by lia)).resolve_left (by lia);have hb:b=(c:Int)+1/\(c:Int)≠n - 1:=by
    have no:((c:Int)+1,sh (c:Int) b)∉ls.map (sh2 (c:Int))++[i6 (n:Int) (c:Int)]:=fun m=>by
     rcases AQ.mp m with m |m
     . obtain⟨q,_,e⟩:=AS.mp m;exact absurd (CP Prod.fst e) nsh
     . rw[AV]at m;have:=CP Prod.fst m;unfold i6 at this;split at this<;>simp only at this<;>lia
    unfold sh at ed ij jn;rcases ed with m |m |m
    . exact absurd m no
    . split at m<;>lia
    . lia
   obtain⟨rfl,iB⟩:=hb;have e1:en1 (n:Int) c=c:=ψ iB;have e2:en2 (n:Int) c=c+1:=ψ iB;have w1:x.getD A.length 0=sh (c:Int) (c:Int):=by
    rcases G.two hx with z |z
    . rw[e1]at z;exact z
    . rw[e2]at z;exact absurd (by rw[z];simp) (Hl (E:=[(c:Int)+1,sh (c:Int) ((c:Int)+1)]) hx).2.1
   have fx:x∈(Sh [(c:Int)+1,sh (c:Int) ((c:Int)+1)] (grw n c A B)).filter fun x=>decide (x.getD A.length 0=sh (c:Int) (c:Int)):=DY.mpr ⟨hx,decide_eq_true w1⟩
   rw[G.at (e:=(c:Int)) (j:=(c:Int)+1) (.inl e1.symm) (by lia)]at fx;obtain⟨y,hy,rfl⟩:=AS.mp fx;have q:=h (c:Int) ((c:Int)+1) (by lia) (by lia) (by lia) (.inr (.inl rfl)) y hy;refine(fT (sh (c:Int) (c:Int)) y ((c:Int),(c:Int)+1) hy q).trans ?_;have s1:sh (c:Int) (c:Int)=c:=ψ (Int.lt_irrefl _);have s2:sh (c:Int) ((c:Int)+1)=(c:Int)+2:=(ξ (by lia)).trans (by lia);have l1:sh2 (c:Int) ((c:Int),(c:Int)+1)=i6 (n:Int) c:=by unfold i6 sh2;rw[ψ iB];dsimp only;rw[s1,s2]
   rw[<-l1];have l2:opp (e9 (n:Int) c) (sh (c:Int) (c:Int))=((c:Int)+1,sh (c:Int) ((c:Int)+1)):=by rw[s1,s2];unfold opp e9;rw[ψ iB];dsimp only;rw[ξ rfl]
   rw[l2];exact fin _ _
 . rcases La (c:=(c:Int)) (x:=j) (n:=(n:Int)) (by lia) (by lia) (by lia) with hj |⟨b,b0,b1,rfl⟩
   . -- the one pD and the new gZ
     subst hj;have no:(sh (c:Int) a,(c:Int)+1)∉ls.map (sh2 (c:Int))++[i6 (n:Int) (c:Int)]:=fun m=>by
      rcases AQ.mp m with m |m
      . obtain⟨q,_,e⟩:=AS.mp m;exact absurd (CP Prod.snd e) nsh
      . rw[AV]at m;have:=CP Prod.snd m;unfold i6 at this;split at this<;>simp only at this<;>lia
     have ha:a=c\/(a=0/\(c:Int)=n - 1):=by
      unfold sh at ed ij;rcases ed with m |m |m
      . exact absurd m no
      . split at m<;>lia
      . split at m<;>lia
     have nF:∀k:Int,k∈[sh (c:Int) a,(c:Int)+1]↔k∈[(c:Int)+1,sh (c:Int) a]:=fun k=>by simp[or_comm]
     have nG:Asc (grw n c A B):=fun u hu=>by
      unfold grw at hu;rcases AQ.mp hu with z |z
      . exact Asc.sh (ts:=A) (fun t ht=>G.asc t (by simp[ht])) _ u z
      . rcases ee.mp z with rfl |z
        . exact G.tri
        . exact Asc.sh (ts:=B) (fun t ht=>G.asc t (by simp[ht])) _ u z
     rw[Lb nF nG]at hx;obtain⟨o,o0,o1,eA,fD,mF⟩:∃o:Int,0<=o/\o<(n:Int)/\(a=en1 n c/\o=en2 n c\/a=en2 n c/\o=en1 n c)/\(o=en1 n c\/o=en2 n c)/\o≠a:=by
      unfold en1 en2;by_cases z:(c:Int)=n - 1
      . simp only[ξ z];rcases ha with ha |ha
        . exact⟨0,by lia,by lia,.inr ⟨ha,rfl⟩,.inl rfl,by lia⟩
        . exact⟨c,by lia,by lia,.inl ⟨ha.1,rfl⟩,.inr rfl,by lia⟩
      . simp only[ψ z];have:a=c:=by lia
        exact⟨c+1,by lia,by lia,.inl ⟨this,rfl⟩,.inr rfl,by lia⟩
     have w1:x.getD A.length 0=sh (c:Int) o:=by
      have nw:=(Hl (E:=[(c:Int)+1,sh (c:Int) a]) hx).2.1;rcases G.two hx with z |z
      . rcases eA with⟨q1,q2⟩ |⟨q1,q2⟩
        . exact absurd (by rw[z,q1];simp) nw
        . rw[q2];exact z
      . rcases eA with⟨q1,q2⟩ |⟨q1,q2⟩
        . rw[q2];exact z
        . exact absurd (by rw[z,q1];simp) nw
     have fx:x∈(Sh [(c:Int)+1,sh (c:Int) a] (grw n c A B)).filter fun x=>decide (x.getD A.length 0=sh (c:Int) o):=DY.mpr ⟨hx,decide_eq_true w1⟩
     rw[G.at fD mF]at fx;obtain⟨y,hy,rfl⟩:=AS.mp fx;have fo:en1 (n:Int) c<en2 (n:Int) c/\0<=en1 (n:Int) c/\en2 (n:Int) c<n/\(en2 (n:Int) c=en1 (n:Int) c+1\/(en1 (n:Int) c=0/\en2 (n:Int) c=n - 1)):=by
      clear eA fD;by_cases z:(c:Int)=n - 1
      . rw[show en1 (n:Int) c=0 from ξ z,show en2 (n:Int) c=c from ξ z];lia
      . rw[show en1 (n:Int) c=c from ψ z,show en2 (n:Int) c=c+1 from ψ z];lia
     have pf:y∈Sh [en1 (n:Int) c,en2 (n:Int) c] (A++B):=by
      rcases eA with⟨q1,q2⟩ |⟨q1,q2⟩
      . rw[q1,q2]at hy;rw[Lb (E':=[en1 (n:Int) c,en2 (n:Int) c]) (fun k=>by simp[or_comm]) G.asc]at hy;exact hy
      . rw[q1,q2]at hy;exact hy
     have q:=h _ _ fo.2.1 fo.1 fo.2.2.1 (.inr fo.2.2.2) y pf;refine(fT (sh (c:Int) o) y (en1 n c,en2 n c) pf q).trans ?_;rw[<-wz (n:=(n:Int)) (c:=(c:Int)) (by lia) (by lia)];have l2:opp (e9 (n:Int) c) (sh (c:Int) o)=(sh (c:Int) a,(c:Int)+1):=by
      by_cases z:(c:Int)=n - 1
      . rw[show en1 (n:Int) c=0 from ξ z,show en2 (n:Int) c=c from ξ z]at eA;unfold opp e9;rw[ξ z];dsimp only;have s0:sh (c:Int) 0=0:=ψ (by lia);have s1:sh (c:Int) (c:Int)=c:=ψ (Int.lt_irrefl _);rcases eA with⟨q1,q2⟩ |⟨q1,q2⟩
        . rw[q1,q2,s0,s1,ψ (by lia),ξ rfl,show(n:Int)=c+1 by lia]
        . rw[q1,q2,s0,s1,ξ rfl,show(n:Int)=c+1 by lia]
      . rw[show en1 (n:Int) c=c from ψ z,show en2 (n:Int) c=c+1 from ψ z]at eA;have:a=c:=by lia
        rcases eA with⟨q1,q2⟩ |⟨q1,q2⟩
        . unfold opp e9;rw[ψ z];dsimp only;have s1:sh (c:Int) (c:Int)=c:=ψ (Int.lt_irrefl _);have s2:sh (c:Int) ((c:Int)+1)=(c:Int)+2:=(ξ (by lia)).trans (by lia);rw[q1,q2,s1,s2,ψ (by lia),ψ (by lia)]
        . lia
     rw[l2];exact fin _ _
   . -- two old mJ
     have tY:a<b:=sh_lt.mp ij;have tZ:(a,b)∈ls\/b=a+1\/(a=0/\b=(n:Int) - 1):=by
      rcases ed with m |m |m
      . rcases AQ.mp m with m |m
        . obtain⟨q,hq,e⟩:=AS.mp m;obtain⟨q1,q2⟩:=q;have e1:=Ap (CP Prod.fst e);have e2:=Ap (CP Prod.snd e);dsimp only at e1 e2;exact .inl (by rw[<-e1,<-e2];exact hq)
        . rw[AV]at m;unfold i6 at m;by_cases z:(c:Int)=n - 1
          . rw[ξ z]at m;have m1:=CP Prod.fst m;have m2:=CP Prod.snd m;dsimp only at m1 m2;refine .inr (.inr ?_);unfold sh at m1 m2;split at m1<;>split at m2<;>lia
          . rw[ψ z]at m;have m1:=CP Prod.fst m;have m2:=CP Prod.snd m;dsimp only at m1 m2;refine .inr (.inl ?_);unfold sh at m1 m2;split at m1<;>split at m2<;>lia
      . refine .inr (.inl ?_);unfold sh at m;split at m<;>split at m<;>lia
      . refine .inr (.inr ?_);unfold sh at m;split at m<;>split at m<;>lia
     rw[G.old ⟨a0,a1⟩ ⟨b0,b1⟩ (by lia)]at hx;obtain⟨y,hy,rfl⟩:=AS.mp hx;have q:=h a b a0 tY b1 tZ y hy;refine(fT ((c:Int)+1) y (a,b) hy q).trans ?_;have l2:opp (e9 (n:Int) c) ((c:Int)+1)=i6 (n:Int) c:=by
      unfold opp e9 i6;by_cases z:(c:Int)=n - 1
      . simp only[ξ z];rw[ψ (by lia),ψ (by lia)]
      . rw[ψ z,ψ z];dsimp only;rw[ψ (by lia),ξ rfl]
     rw[l2];refine(List.Perm.swap _ _ _).trans (.cons _ ?_);exact BV (l₁:=[i6 (n:Int) c])
end Cu
noncomputable section
namespace K65
open PySem PySem.Spec PyProof.Rows L2
def knX:String->Bool:=fun c=>c=="NoCorner"||c=="NoLine"||c=="TooMany"
def Es:String->Option Bool:=fun c=>if c="NoCorner" then some true else if c="NoLine" then some true else if c="TooMany" then some true else none
def Ej:String->Option Bool:=fun c=>if c="NoCorner" then some false else if c="NoLine" then some false else if c="TooMany" then some true else none
def Ef:String->Option Bool:=fun c=>if c="NoCorner" then some false else if c="NoLine" then some true else if c="TooMany" then some false else none
def Er:String->Option Bool:=fun c=>if c="NoCorner" then some true else if c="NoLine" then some true else if c="TooMany" then some true else none
def Yr:DS->SR:=
 (d8 [true] (F3 (eUn (n9 "int") (a6 0)) (eUn (fun d=>(l6 d).map fun b=>.bl (!b)) (eUn (n9 "bool") (a6 0)))))
def T1:List D->R D:=mOf false 1 0 Yr
def Ro:DS->SR:=
 (d8 [true,true] (eIf (b8 asB (eOp E9 (a6 0) (a6 1))) (m7 (a7 (a6 0) (a7 (a6 1) a9))) (m7 (a7 (a6 1) (a7 (a6 0) a9)))))
def An:List D->R D:=mOf false 2 0 Ro
def Xp:DS->SR:=
 (b9 (e8 false 2 [false,true] (eOp dIx (a6 1) (eC (.int 0))))
  (b9 (e8 false 3 [false,true] (eOp dIx (a6 1) (eC (.int 1))))
  (b9 (sIf (bOr (b8 asB (eOp E9 (a6 2) (eC (.int 0)))) (b8 asB (eOp dGe (a6 3) (a6 0))))
   (d8 [] (eC (.bl false)))
   sNx)
  (d8 [true,false,true,true] (eOr (eOp dEq (a6 3) (eOp o9 (a6 2) (eC (.int 1)))) (F3 (eOp dEq (a6 2) (eC (.int 0))) (eOp dEq (a6 3) (eOp v8 (a6 0) (eC (.int 1))))))))))
def Bo:List D->R D:=mOf false 2 2 Xp
def Zy:DE->R Bool:=
 (b8 asB (eOp dNe (a6 0) (a6 1)))
def Zx:DE->R D:=
 (a6 0)
def Yq:DS->SR:=
 (d8 [true,true] (eCB J4 (a7 (i4 (iL (a6 0)) b1 [1] Zy Zx) a9)))
def Y6:List D->R D:=mOf false 2 0 Yq
def jy:DE->R Bool:=
 (F4 (b8 asB (eOp dEq (eOp dIx (a6 0) (eC (.int 0))) (a6 1))) (F4 (b8 asB (eOp dLe (eOp dIx (a6 0) (eC (.int 1))) (eOp dIx (a6 2) (eC (.int 1))))) (b8 asB (eOp dNe (a6 0) (a6 2)))))
def jx:DE->R D:=
 (eOp dIx (a6 0) (eC (.int 1)))
def ju:DS->SR:=
 (b9 (e8 true 3 [true,true,true] (i4 (iL (a6 2)) b1 [0,1] jy jx))
  (d8 [true,false,false,true] (eCB W1 (a7 (a6 3) (a7 (eOp o9 (a6 0) (eC (.int 1))) a9)))))
def Cd:List D->R D:=mOf false 3 1 ju
def jj:DE->R Bool:=
 (b8 asB (eOp (dIn true) (a6 0) (a6 1)))
def ji:DE->R D:=
 (eOp W0 (a6 1) (m7 (a7 (a6 0) a9)))
def Ey:DS->SR:=
 (F1 "list" Z3 2 [false,true,false,true] (a7 (i4 (iL (a6 1)) b1 [3] jj ji) a9))
def Zw:DS->SR:=
 (b9 (e8 true 2 [] (l8 a9))
  (b9 (D6 false [true] (iL (a6 0)) (.n 3) Ey)
  (W8 2)))
def Bz:List D->R D:=mOf true 2 2 Zw
def Nm:DE->R Bool:=
 (b8 asB (eOp dNe (a6 1) (eC (.int 0))))
def Nl:DE->R D:=
 (m7 (a7 (a6 0) (a7 (a6 1) a9)))
def Mp:DS->SR:=
 (d8 [true] (eCB x3 (a7 (i4 (Q5 (a6 0)) (bT 2) [] Nm Nl) a9)))
def T0:List D->R D:=mOf true 1 0 Mp
def Zv:DS->SR:=
 (d8 [true,true] (eCB O3 (a7 (eSl dSl (a6 0) (oSo (a6 1)) (oSo (eOp o9 (a6 1) (eC (.int 1))))) a9)))
def T7:List D->R D:=mOf false 2 0 Zv
def jw:DS->SR:=
 (d8 [true] (F3 (eUn (fun d=>(l6 d).map fun b=>.bl (!b)) (eUn (n9 "bool") (a6 0))) (eUn (n9 "int") (a6 0))))
def U0:List D->R D:=mOf false 1 0 jw
def Nu:DE->R D:=
 (m7 (a7 (eOp o9 (a6 0) (eCB U7 (a7 (eOp R0 (a6 0) (a6 2)) a9))) (a7 (eOp o9 (a6 1) (eCB U7 (a7 (eOp R0 (a6 1) (a6 2)) a9))) a9)))
def Nk:DS->SR:=
 (b9 (e8 false 3 [true] (eCB t8 (a7 (a6 0) a9)))
  (b9 (e8 true 4 [false,true,true] (i4 (iL (a6 1)) (bT 2) [2] k7 Nu))
  (b9 (sIf (b8 asB (eOp dEq (a6 2) (eOp v8 (a6 3) (eC (.int 1)))))
   (F1 "list" D1 4 [false,false,true] (a7 (m7 (a7 (eC (.int 0)) (a7 (a6 2) a9))) a9))
   (F1 "list" D1 4 [false,false,true] (a7 (m7 (a7 (a6 2) (a7 (eOp o9 (a6 2) (eC (.int 2))) a9))) a9)))
  (b9 (e8 true 5 [true] (eCB L8 (a7 (a6 0) a9)))
  (b9 (R4 K4 5 [false,false,true,false,false,true] (a6 2) (eOp o9 (eOp dIx (a6 5) (a6 2)) (eC (.int 1))))
  (b9 (R4 K4 5 [false,false,true,true,false,true] (eOp x9 (eOp o9 (a6 2) (eC (.int 1))) (a6 3)) (eOp o9 (eOp dIx (a6 5) (eOp x9 (eOp o9 (a6 2) (eC (.int 1))) (a6 3))) (eC (.int 1))))
  (b9 (F1 "list" Z4 5 [false,false,true] (a7 (eOp o9 (a6 2) (eC (.int 1))) (a7 (eC (.int 1)) a9)))
  (d8 [false,false,false,false,true,true] (m7 (a7 (a6 5) (a7 (a6 4) a9)))))))))))
def Y8:List D->R D:=mOf false 3 3 Nk
def Ez:DS->SR:=
 (F1 "list" D1 3 [true,false,false,true,true] (a7 (eOp v8 (eOp Fg (eOp dIx (a6 0) (a6 4)) (eOp dIx (a6 3) (eUn V4 (eC (.int 1))))) (eOp dIx (a6 3) (eUn V4 (eC (.int 2))))) a9))
def jb:DS->SR:=
 (b9 (e8 true 3 [] (l8 (a7 (eC (.int 0)) (a7 (eC (.int 1)) a9))))
  (b9 (D6 true [false,true,true] (Z6 (a7 (eOp o9 (a6 1) (eC (.int 1))) (a7 (a6 2) a9))) (.n 4) Ez)
  (d8 [false,true,true,true] (eOp dIx (a6 3) (eOp v8 (a6 2) (a6 1))))))
def Ca:List D->R D:=mOf false 3 2 jb
def jv:DE->R D:=
 (m7 (a7 (a6 0) (a7 (eOp o9 (a6 0) (eC (.int 1))) a9)))
def jh:DS->SR:=
 (d8 [true,true] (eCB x3 (a7 (eOp B7 (eOp B7 (i4 (U6 (a7 (eOp v8 (a6 0) (eC (.int 1))) a9)) b1 [] k7 jv) (l8 (a7 (m7 (a7 (eC (.int 0)) (a7 (eOp v8 (a6 0) (eC (.int 1))) a9))) a9))) (eCB L8 (a7 (a6 1) a9))) a9)))
def Cb:List D->R D:=mOf true 2 0 jh
def Wo:DS->SR:=
 (d8 [true] (F3 (eUn (n9 "tuple") (a6 0)) (F3 (eOp dEq (eCB t8 (a7 (a6 0) a9)) (eC (.int 2))) (F3 (c6 T1 (a7 (eOp dIx (a6 0) (eC (.int 0))) a9)) (c6 T1 (a7 (eOp dIx (a6 0) (eC (.int 1))) a9))))))
def X5:List D->R D:=mOf false 1 0 Wo
def jg:DS->SR:=
 (sIf (bOr (u6 (b8 l6 (c6 T1 (a7 (a6 1) a9)))) (u6 (Ab (eC (.int 0)) (X2 dLe (a6 1) (Aw E9 (a6 0))))))
  (J3 "NoCorner" (a7 (eC (.str "no corner of the floor")) a9))
  sNx)
def T8:List D->R D:=mOf false 2 0 jg
def Mv:DE->R D:=
 (c6 An (a7 (a6 0) (a7 (eOp x9 (eOp o9 (a6 0) (eC (.int 1))) (a6 1)) a9)))
def Xo:DS->SR:=
 (b9 (e8 false 1 [true] (eOp dIx (a6 0) (eC (.int 0))))
  (b9 (e8 true 2 [false,true] (i4 (U6 (a7 (a6 1) a9)) b1 [1] k7 Mv))
  (d8 [true,false,true] (eCB x3 (a7 (eOp B7 (a6 2) (eCB L8 (a7 (eOp dIx (a6 0) (eC (.int 1))) a9))) a9)))))
def G5:List D->R D:=mOf true 1 2 Xo
def Ew:DE->R Bool:=
 (b8 asB (eOp E9 (eOp dIx (a6 2) (eUn V4 (eC (.int 1)))) (eOp dIx (a6 0) (eC (.int 1)))))
def Ev:DS->SR:=
 (F1 "list" D1 2 [true,true,true] (a7 (c6 Cd (a7 (eOp dIx (a6 2) (eUn V4 (eC (.int 1)))) (a7 (a6 0) (a7 (a6 1) a9)))) a9))
def Zu:DS->SR:=
 (b9 (e8 true 2 [true] (l8 (a7 (eOp dIx (a6 0) (eC (.int 0))) a9)))
  (b9 (At 1000 Ew Ev)
  (d8 [false,false,true] (eCB J4 (a7 (a6 2) a9)))))
def By:List D->R D:=mOf false 2 1 Zu
def Eu:DS->SR:=
 (b9 (e8 false 6 [false,false,true,false,false,true] (eOp x9 (a6 5) (eCB t8 (a7 (a6 2) a9))))
  (b9 (sIf (b8 asB (eOp dEq (eOp x9 (a6 0) (eC (.int 3))) (eC (.int 1))))
   (e8 false 6 [false,false,false,false,true] (eOp Q7 (a6 4) (eC (.int 2))))
   sNx)
  (V5 (.t [2,3]) [false,false,true,true,false,false,true] (c6 Y8 (a7 (a6 2) (a7 (a6 3) (a7 (a6 6) a9)))))))
def Zt:DS->SR:=
 (b9 (e8 true 2 [] (l8 (a7 (eC (.int 1)) (a7 (eC (.int 1)) (a7 (eC (.int 1)) a9)))))
  (b9 (e8 true 3 [] (l8 a9))
  (b9 (D6 false [false,true] (iEn (a7 (a6 1) a9)) (.t [4,5]) Eu)
  (d8 [false,false,true,true] (m7 (a7 (a6 2) (a7 (eCB x3 (a7 (a6 3) a9)) a9)))))))
def Bx:List D->R D:=mOf false 2 5 Zt
def Nt:DE->R D:=
 (eUn (fun d=>(l6 d).map fun b=>.bl (!b)) (c6 U0 (a7 (a6 0) a9)))
def Et:DS->SR:=
 (b9 (sIf (bOr (u6 (b8 l6 (eUn (n9 "tuple") (a6 3)))) (bOr (b8 asB (eOp dNe (eCB t8 (a7 (a6 3) a9)) (eC (.int 2)))) (bOr (u6 (b8 l6 (eUn (n9 "tuple") (eOp dIx (a6 3) (eC (.int 0)))))) (b8 asB (eOp dNe (eCB t8 (a7 (eOp dIx (a6 3) (eC (.int 0))) a9)) (a6 1))))))
   (d8 [] (eC (.bl false)))
   sNx)
  (b9 (sIf (bOr (b8 l6 (eCB K5 (a7 (i4 (iL (eOp dIx (a6 3) (eC (.int 0)))) b1 [] k7 Nt) a9))) (bOr (u6 (b8 l6 (c6 U0 (a7 (eOp dIx (a6 3) (eC (.int 1))) a9)))) (b8 asB (eOp E9 (eOp dIx (a6 3) (eC (.int 1))) (eC (.int 1))))))
   (d8 [] (eC (.bl false)))
   sNx)
  (sIf (F4 (b8 asB (eOp R0 (a6 2) (eC (.int 0)))) (b8 asB (eOp Z1 (eOp dIx (eOp dIx (a6 0) (eOp v8 (a6 2) (eC (.int 1)))) (eC (.int 0))) (eOp dIx (a6 3) (eC (.int 0))))))
   (d8 [] (eC (.bl false)))
   sNx)))
def Nj:DS->SR:=
 (b9 (sIf (bOr (u6 (b8 l6 (eUn (n9 "list") (a6 0)))) (b8 asB (eOp dEq (a6 0) (l8 a9))))
   (d8 [] (eC (.bl false)))
   sNx)
  (b9 (D6 false [true] (iEn (a7 (a6 0) a9)) (.t [2,3]) Et)
  (d8 [] (eC (.bl true)))))
def T6:List D->R D:=mOf false 2 2 Nj
def Yp:DS->SR:=
 (d8 [true,true] (F3 (c6 X5 (a7 (a6 1) a9)) (eOr (c6 Bo (a7 (eOp dIx (a6 0) (eC (.int 0))) (a7 (a6 1) a9))) (eOp (dIn false) (a6 1) (eOp dIx (a6 0) (eC (.int 1)))))))
def Bt:List D->R D:=mOf false 2 0 Yp
def Xn:DE->R D:=
 (c6 By (a7 (a6 0) (a7 (a6 1) a9)))
def Uo:DS->SR:=
 (b9 (e8 true 2 [true,true] (eOp B7 (l8 (a7 (m7 (a7 (eC (.int 0)) (a7 (eOp v8 (a6 0) (eC (.int 1))) a9))) a9)) (eCB L8 (a7 (a6 1) a9))))
  (d8 [false,true,true] (eCB x3 (a7 (i4 (iL (a6 2)) b1 [1] k7 Xn) a9))))
def Ax:List D->R D:=mOf true 2 1 Uo
def Oa:DS->SR:=
 (sIf (bOr (u6 (b8 l6 (c6 X5 (a7 (a6 1) a9)))) (u6 (Ab (eC (.int 0)) (X2 dLe (eOp dIx (a6 1) (eC (.int 0))) (X2 E9 (eOp dIx (a6 1) (eC (.int 1))) (Aw E9 (a6 0)))))))
  (J3 "NoLine" (a7 (eC (.str "no pair of two corners of the floor")) a9))
  sNx)
def T9:List D->R D:=mOf false 2 0 Oa
def Ni:DS->SR:=
 (sIf (u6 (b8 l6 (c6 Bt (a7 (a6 0) (a7 (a6 1) a9)))))
  (J3 "NoLine" (a7 (eC (.str "no side and no line of the cutting")) a9))
  sNx)
def T5:List D->R D:=mOf false 2 0 Ni
def Zf:DS->SR:=
 (d8 [true] (c6 Ax (a7 (eOp dIx (a6 0) (eC (.int 0))) (a7 (eOp dIx (a6 0) (eC (.int 1))) a9))))
def K0:List D->R D:=mOf true 1 0 Zf
def Yo:DE->R D:=
 (eIf (b8 asB (eOp dEq (a6 0) (a6 1))) (eC (.int 1)) (eC (.int 0)))
def Kz:DS->SR:=
 (b9 (p9 (c6 T5 (a7 (a6 0) (a7 (a6 1) a9))))
  (d8 [true,true] (l8 (a7 (m7 (a7 (eCB J4 (a7 (i4 (iL (c6 G5 (a7 (a6 0) a9))) b1 [1] k7 Yo) a9)) (a7 (eC (.int 1)) a9))) a9))))
def w4:List D->R D:=mOf true 2 0 Kz
def Zs:DE->R Bool:=
 (F4 (b8 asB (eOp dNe (a6 0) (a6 1))) (b8 asB (eOp dNe (a6 0) (a6 2))))
def Zr:DE->R D:=
 (a6 0)
def Nh:DS->SR:=
 (e8 true 3 [false,true,true,true,true] (c6 Bz (a7 (a6 3) (a7 (i4 (iL (a6 4)) b1 [1,2] Zs Zr) a9))))
def Ei:DS->SR:=
 (b9 (p9 (c6 T8 (a7 (eOp dIx (a6 0) (eC (.int 0))) (a7 (a6 1) a9))))
  (b9 (p9 (c6 T8 (a7 (eOp dIx (a6 0) (eC (.int 0))) (a7 (a6 2) a9))))
  (b9 (sIf (b8 asB (eOp R0 (eOp dIx (a6 0) (eC (.int 0))) (eC (.int 12))))
   (J3 "TooMany" (a7 (eC (.str "sharings are told of at most twelve corners")) a9))
   sNx)
  (b9 (sIf (b8 asB (eOp dEq (a6 1) (a6 2)))
   (d8 [] (l8 a9))
   sNx)
  (b9 (e8 true 3 [] (l8 (a7 (m7 a9) a9)))
  (b9 (D6 false [true] (iL (c6 K0 (a7 (a6 0) a9))) (.n 4) Nh)
  (W8 3)))))))
def J9:List D->R D:=mOf true 3 2 Ei
def Ep:DE->R D:=
 (c6 Y6 (a7 (a6 0) (a7 (a6 1) a9)))
def ja:DE->R D:=
 (eOp v8 (L0 (a6 1) (a6 0)) (K9 (eOp dIx (a6 2) (eC (.int 1))) (a6 0)))
def Mu:DS->SR:=
 (b9 (e8 true 2 [true,true] (i4 (F5 (a7 (c6 K0 (a7 (a6 0) a9)) (a7 (a6 1) a9))) (bT 2) [] k7 Ep))
  (d8 [true,false,true] (eCB J4 (a7 (i4 (iL (c6 G5 (a7 (a6 0) a9))) b1 [2,0] k7 ja) a9))))
def Bw:List D->R D:=mOf false 2 1 Mu
def Eo:DS->SR:=
 (b9 (e8 false 4 [true,false,false,true] (c6 Bw (a7 (a6 0) (a7 (a6 3) a9))))
  (R4 dSetN 2 [false,false,true,false,true] (a6 4) (eOp o9 (eGetN (a6 2) (a6 4) (eC (.int 0))) (eC (.int 1)))))
def Bs:DS->SR:=
 (b9 (p9 (c6 T9 (a7 (eOp dIx (a6 0) (eC (.int 0))) (a7 (a6 1) a9))))
  (b9 (e8 true 2 [] Cj)
  (b9 (D6 false [true,true] (iL (c6 J9 (a7 (a6 0) (a7 (eOp dIx (a6 1) (eC (.int 0))) (a7 (eOp dIx (a6 1) (eC (.int 1))) a9))))) (.n 3) Eo)
  (d8 [false,false,true] (c6 T0 (a7 (a6 2) a9))))))
def w6:List D->R D:=mOf true 2 3 Bs
def Nr:DS->SR:=
 (b9 (e8 true 3 [] (l8 a9))
  (b9 (Z2 (sIf (fun ρ=>((b8 asB (eOp dEq (a6 0) (eC (.int 0)))) ρ).noE) (p9 (B6 knX w4 (a7 (a6 1) (a7 (a6 2) a9)))) (p9 (B6 knX w6 (a7 (a6 1) (a7 (a6 2) a9)))))
   (hAs Es 4 (e8 true 3 [false,false,false,false,true] (l8 (a7 (eUn (U5 Er) (a6 4)) (a7 (eUn (U5 Ef) (a6 4)) (a7 (eUn (U5 Ej) (a6 4)) a9))))) jK))
  (W8 3)))
def C8:List D->R D:=mOf true 3 2 Nr
def Z0:DE->R D:=
 (a6 1)
def Ce:DE->R D:=
 (F3 (eOp E9 (a6 1) (eC (.int 0))) (eOp (dIn true) (a6 0) (eOp dIx (a6 2) (eC (.int 1)))))
def Fa:DS->SR:=
 (sIf (b8 l6 (eCB K5 (a7 (i4 (F5 (a7 (a6 3) (a7 (a6 5) a9))) (bT 2) [0] k7 Ce) a9)))
  (d8 [] (eC (.bl false)))
  sNx)
def Nz:DS->SR:=
 (b9 (e8 true 4 [true,true] (c6 w6 (a7 (a6 0) (a7 (a6 1) a9))))
  (b9 (sIf (u6 (b8 l6 (c6 T6 (a7 (a6 4) (a7 (eCB t8 (a7 (a6 3) a9)) a9)))))
   (d8 [] (eC (.bl false)))
   sNx)
  (b9 (sIf (b8 asB (eOp dNe (eCB O3 (a7 (i4 (iL (a6 4)) (bT 2) [] k7 Z0) a9)) (c6 Ca (a7 (a6 2) (a7 (eOp dIx (a6 1) (eC (.int 0))) (a7 (eOp dIx (a6 1) (eC (.int 1))) a9))))))
   (d8 [] (eC (.bl false)))
   sNx)
  (b9 (D6 false [false,false,false,false,true] (iL (a6 4)) (.t [5,6]) Fa)
  (d8 [] (eC (.bl true)))))))
def Y9:List D->R D:=mOf false 4 3 Nz
def Dj:DE->R D:=
 (eUn (fun d=>(l6 d).map fun b=>.bl (!b)) (c6 U0 (a7 (eOp dIx (a6 0) (eC (.int 0))) a9)))
def Di:DE->R D:=
 (eCB U7 (a7 (eOp dEq (a6 0) (a6 1)) a9))
def Fw:DS->SR:=
 (b9 (e8 false 1 [true] (c6 T7 (a7 (a6 0) (a7 (eC (.int 0)) a9))))
  (b9 (e8 false 2 [] (eC (.int 9)))
  (b9 (sIf (b8 asB (eOp dEq (eOp x9 (eOp Q7 (a6 1) (eC (.int 3))) (eC (.int 4))) (eC (.int 1))))
   (e8 false 2 [] (eC (.int 57)))
   sNx)
  (b9 (V5 (.t [3,4]) [true,true,true] (c6 Bx (a7 (a6 1) (a7 (eSl dSl (a6 0) (oSo (eC (.int 3))) (oSo (eOp o9 (eC (.int 3)) (a6 2)))) a9))))
  (b9 (e8 false 5 [false,false,false,true] (eCB t8 (a7 (a6 3) a9)))
  (b9 (e8 false 6 [false,false,false,false,true,true] (m7 (a7 (a6 5) (a7 (eCB J4 (a7 (a6 4) a9)) a9))))
  (b9 (e8 true 7 [false,false,false,false,true,true] (c6 Cb (a7 (a6 5) (a7 (a6 4) a9))))
  (b9 (e8 false 8 [true,false,false,false,false,true] (m7 (a7 (eOp v8 (eOp x9 (c6 T7 (a7 (a6 0) (a7 (eC (.int 1)) a9))) (eOp o9 (a6 5) (eC (.int 2)))) (eC (.int 1))) (a7 (eOp v8 (eOp x9 (c6 T7 (a7 (a6 0) (a7 (eC (.int 2)) a9))) (eOp o9 (a6 5) (eC (.int 2)))) (eC (.int 1))) a9))))
  (b9 (e8 true 9 [false,false,false,false,false,false,true] (c6 G5 (a7 (a6 6) a9)))
  (b9 (sIf (bOr (u6 (b8 l6 (eUn (n9 "list") (a6 9)))) (bOr (b8 asB (eOp dNe (a6 9) (a6 7))) (b8 l6 (eCB K5 (a7 (i4 (iL (a6 9)) b1 [] k7 Dj) a9)))))
   (d8 [] (eC (.bl false)))
   sNx)
  (b9 (sIf (b8 asB (eOp (dIn true) (a6 8) (a6 7)))
   (sIf (b8 asB (eOp dNe (c6 C8 (a7 (eC (.int 0)) (a7 (a6 6) (a7 (a6 8) a9)))) (l8 (a7 (eC (.bl true)) (a7 (eC (.bl true)) (a7 (eC (.bl false)) a9))))))
   (d8 [] (eC (.bl false)))
   sNx)
   sNx)
  (b9 (e8 true 10 [false,false,false,false,false,false,false,true,true] (l8 (a7 (m7 (a7 (eCB J4 (a7 (i4 (iL (a6 7)) b1 [8] k7 Di) a9)) (a7 (eC (.int 1)) a9))) a9)))
  (b9 (sIf (F4 (b8 asB (eOp (dIn false) (a6 8) (a6 7))) (bOr (u6 (b8 l6 (c6 T6 (a7 (c6 w4 (a7 (a6 6) (a7 (a6 8) a9))) (a7 (eCB t8 (a7 (a6 7) a9)) a9))))) (b8 asB (eOp dNe (c6 w4 (a7 (a6 6) (a7 (a6 8) a9))) (a6 10)))))
   (d8 [] (eC (.bl false)))
   sNx)
  (b9 (sIf (bOr (b8 asB (eOp E9 (eOp dIx (a6 8) (eC (.int 0))) (eC (.int 0)))) (bOr (b8 asB (eOp dGe (eOp dIx (a6 8) (eC (.int 0))) (eOp dIx (a6 8) (eC (.int 1))))) (b8 asB (eOp dGe (eOp dIx (a6 8) (eC (.int 1))) (a6 5)))))
   (d8 [false,false,false,false,false,false,true,false,true] (eOp dEq (c6 C8 (a7 (eC (.int 1)) (a7 (a6 6) (a7 (a6 8) a9)))) (l8 (a7 (eC (.bl true)) (a7 (eC (.bl true)) (a7 (eC (.bl false)) a9))))))
   sNx)
  (b9 (sIf (b8 asB (eOp R0 (a6 5) (eC (.int 12))))
   (d8 [false,false,false,false,false,false,true,false,true] (eOp dEq (c6 C8 (a7 (eC (.int 1)) (a7 (a6 6) (a7 (a6 8) a9)))) (l8 (a7 (eC (.bl true)) (a7 (eC (.bl false)) (a7 (eC (.bl true)) a9))))))
   sNx)
  (b9 (sIf (F4 (b8 asB (eOp (dIn false) (a6 8) (a6 7))) (b8 asB (eOp dNe (c6 w6 (a7 (a6 6) (a7 (a6 8) a9))) (a6 10))))
   (d8 [] (eC (.bl false)))
   sNx)
  (d8 [false,false,false,true,false,false,true,true,true] (c6 Y9 (a7 (a6 6) (a7 (a6 8) (a7 (a6 3) (a7 (a6 7) a9))))))))))))))))))))))
def V6:List D->R D:=mOf false 1 10 Fw
def top(i:Nat):Stmt:=PySem.Challenge.pw_friezeyard_k65_letters_and_fractions.main.body.getD i (.Pass ⟨0,0,0,0⟩)
abbrev Mo:Stmt:=top 6
abbrev Hj:Stmt:=top 7
abbrev Lz:Stmt:=top 8
abbrev Ky:Stmt:=top 10
abbrev Mn:Stmt:=top 11
abbrev Ng:Stmt:=top 12
abbrev Nq:Stmt:=top 13
abbrev Mm:Stmt:=top 14
abbrev Ly:Stmt:=top 16
abbrev Kx:Stmt:=top 17
abbrev Jr:Stmt:=top 19
abbrev Nf:Stmt:=top 20
abbrev Ny:Stmt:=top 21
abbrev Mt:Stmt:=top 22
abbrev Ml:Stmt:=top 24
abbrev Nd:Stmt:=top 25
abbrev Mk:Stmt:=top 27
abbrev Mj:Stmt:=top 29
abbrev Nx:Stmt:=top 30
abbrev Ms:Stmt:=top 31
abbrev Nc:Stmt:=top 33
abbrev Oc:Stmt:=top 34
abbrev Nb:Stmt:=top 35
abbrev Na:Stmt:=top 36
abbrev Nn:Stmt:=top 37
abbrev Np:Stmt:=top 38
abbrev Mz:Stmt:=top 39
abbrev No:Stmt:=top 40
abbrev Nw:Stmt:=top 41
abbrev Fv:Stmt:=top 42
structure Txt(mg:Str->Option Value):Prop where
 ValueError:mg "ValueError"=none
 «any»:mg "any"=none
 bool:mg "bool"=none
 enumerate:mg "enumerate"=none
 int:mg "int"=none
 isinstance:mg "isinstance"=none
 len:mg "len"=none
 list:mg "list"=none
 «max»:mg "max"=none
 range:mg "range"=none
 sorted:mg "sorted"=none
 sum:mg "sum"=none
 tuple:mg "tuple"=none
 zip:mg "zip"=none
structure Exs(K:Frag)(mg:Str->Option Value)(u0 u1 u2 u3:Addr):Prop where
 a_FloorError:mg (Str.ofString "FloorError")=some (.ref u0)
 a_NoCorner:mg (Str.ofString "NoCorner")=some (.ref u1)
 a_NoLine:mg (Str.ofString "NoLine")=some (.ref u2)
 a_TooMany:mg (Str.ofString "TooMany")=some (.ref u3)
 n_FloorError:nsIn K mainGlobals (Str.ofString "FloorError")=some (some (.ref u0))
 n_NoCorner:nsIn K mainGlobals (Str.ofString "NoCorner")=some (some (.ref u1))
 n_NoLine:nsIn K mainGlobals (Str.ofString "NoLine")=some (some (.ref u2))
 n_TooMany:nsIn K mainGlobals (Str.ofString "TooMany")=some (some (.ref u3))
 q_FloorError:PySem.W.excIn K u0 [.type "ValueError",.type "Exception",.type "BaseException",.type "object"] "ValueError.__new__"=true
 q_NoCorner:PySem.W.excIn K u1 [.type "ValueError",.type "Exception",.type "BaseException",.type "object"] "ValueError.__new__"=true
 q_NoLine:PySem.W.excIn K u2 [.type "ValueError",.type "Exception",.type "BaseException",.type "object"] "ValueError.__new__"=true
 q_TooMany:PySem.W.excIn K u3 [.type "ValueError",.type "Exception",.type "BaseException",.type "object"] "ValueError.__new__"=true
 fo_NoCorner:mroIn K u1 (.type "object")=some true
 fb_NoCorner:mroIn K u1 (.type "BaseException")=some true
 fc_NoCorner:PySem.W.findIn K (.ref u1) "__class__"=some (some (.builtin "object.__class__"))
 fg_NoCorner:PySem.W.findIn K (.ref u1) "__getattribute__"=some (some (.builtin "BaseException.__getattribute__"))
 ft_NoCorner:PySem.W.findIn K (.ref u1) "__getattr__"=some none
 m_NoCorner_FloorError:mroIn K u1 (.ref u0)=some true
 k_NoCorner_TooMany:kitOne K (.ref u1) (.ref u3)=some false
 k_NoCorner_NoLine:kitOne K (.ref u1) (.ref u2)=some false
 k_NoCorner_ValueError:kitOne K (.ref u1) (.type "ValueError")=some true
 fo_NoLine:mroIn K u2 (.type "object")=some true
 fb_NoLine:mroIn K u2 (.type "BaseException")=some true
 fc_NoLine:PySem.W.findIn K (.ref u2) "__class__"=some (some (.builtin "object.__class__"))
 fg_NoLine:PySem.W.findIn K (.ref u2) "__getattribute__"=some (some (.builtin "BaseException.__getattribute__"))
 ft_NoLine:PySem.W.findIn K (.ref u2) "__getattr__"=some none
 m_NoLine_FloorError:mroIn K u2 (.ref u0)=some true
 k_NoLine_TooMany:kitOne K (.ref u2) (.ref u3)=some false
 k_NoLine_NoLine:kitOne K (.ref u2) (.ref u2)=some true
 k_NoLine_ValueError:kitOne K (.ref u2) (.type "ValueError")=some true
 fo_TooMany:mroIn K u3 (.type "object")=some true
 fb_TooMany:mroIn K u3 (.type "BaseException")=some true
 fc_TooMany:PySem.W.findIn K (.ref u3) "__class__"=some (some (.builtin "object.__class__"))
 fg_TooMany:PySem.W.findIn K (.ref u3) "__getattribute__"=some (some (.builtin "BaseException.__getattribute__"))
 ft_TooMany:PySem.W.findIn K (.ref u3) "__getattr__"=some none
 m_TooMany_FloorError:mroIn K u3 (.ref u0)=some true
 k_TooMany_TooMany:kitOne K (.ref u3) (.ref u3)=some true
 k_TooMany_NoLine:kitOne K (.ref u3) (.ref u2)=some false
 k_TooMany_ValueError:kitOne K (.ref u3) (.type "ValueError")=some true
section
variable {K:Frag}{mg:Str->Option Value}{u0 u1 u2 u3:Addr}
def Exs.kn(Z:Exs K mg u0 u1 u2 u3):∀c,knX c=true->∃C,mg (Str.ofString c)=some (.ref C):=by
 intro c h;simp only[knX,FX,EW]at h;rcases h with (h |h) |h
 . subst h;exact⟨_,Z.a_NoCorner⟩
 . subst h;exact⟨_,Z.a_NoLine⟩
 . subst h;exact⟨_,Z.a_TooMany⟩
def Exs.t_FloorError(Z:Exs K mg u0 u1 u2 u3):Tbl K "FloorError" u0 [.type "ValueError",.type "Exception",.type "BaseException",.type "object"] "ValueError.__new__" Es:=⟨Z.n_FloorError,.inl Z.q_FloorError,by
 intro c b h;simp only[Es]at h;by_cases e:c="NoCorner"
 . rw[ξ e]at h;cases h;subst e;exact⟨_,Z.n_NoCorner,.inl Z.q_NoCorner,Z.m_NoCorner_FloorError⟩
 rw[ψ e]at h;by_cases e:c="NoLine"
 . rw[ξ e]at h;cases h;subst e;exact⟨_,Z.n_NoLine,.inl Z.q_NoLine,Z.m_NoLine_FloorError⟩
 rw[ψ e]at h;by_cases e:c="TooMany"
 . rw[ξ e]at h;cases h;subst e;exact⟨_,Z.n_TooMany,.inl Z.q_TooMany,Z.m_TooMany_FloorError⟩
 rw[ψ e]at h;cases h⟩
def Exs.b_TooMany(Z:Exs K mg u0 u1 u2 u3):Bel K (.ref u3) Ej:=⟨by
 intro c b h;simp only[Ej]at h;by_cases e:c="NoCorner"
 . rw[ξ e]at h;cases h;subst e;exact⟨_,Z.n_NoCorner,⟨Z.fo_NoCorner,Z.fb_NoCorner,Z.fc_NoCorner,Z.fg_NoCorner,Z.ft_NoCorner⟩,Z.k_NoCorner_TooMany⟩
 rw[ψ e]at h;by_cases e:c="NoLine"
 . rw[ξ e]at h;cases h;subst e;exact⟨_,Z.n_NoLine,⟨Z.fo_NoLine,Z.fb_NoLine,Z.fc_NoLine,Z.fg_NoLine,Z.ft_NoLine⟩,Z.k_NoLine_TooMany⟩
 rw[ψ e]at h;by_cases e:c="TooMany"
 . rw[ξ e]at h;cases h;subst e;exact⟨_,Z.n_TooMany,⟨Z.fo_TooMany,Z.fb_TooMany,Z.fc_TooMany,Z.fg_TooMany,Z.ft_TooMany⟩,Z.k_TooMany_TooMany⟩
 rw[ψ e]at h;cases h⟩
def Exs.b_NoLine(Z:Exs K mg u0 u1 u2 u3):Bel K (.ref u2) Ef:=⟨by
 intro c b h;simp only[Ef]at h;by_cases e:c="NoCorner"
 . rw[ξ e]at h;cases h;subst e;exact⟨_,Z.n_NoCorner,⟨Z.fo_NoCorner,Z.fb_NoCorner,Z.fc_NoCorner,Z.fg_NoCorner,Z.ft_NoCorner⟩,Z.k_NoCorner_NoLine⟩
 rw[ψ e]at h;by_cases e:c="NoLine"
 . rw[ξ e]at h;cases h;subst e;exact⟨_,Z.n_NoLine,⟨Z.fo_NoLine,Z.fb_NoLine,Z.fc_NoLine,Z.fg_NoLine,Z.ft_NoLine⟩,Z.k_NoLine_NoLine⟩
 rw[ψ e]at h;by_cases e:c="TooMany"
 . rw[ξ e]at h;cases h;subst e;exact⟨_,Z.n_TooMany,⟨Z.fo_TooMany,Z.fb_TooMany,Z.fc_TooMany,Z.fg_TooMany,Z.ft_TooMany⟩,Z.k_TooMany_NoLine⟩
 rw[ψ e]at h;cases h⟩
def Exs.b_ValueError(Z:Exs K mg u0 u1 u2 u3):Bel K (.type "ValueError") Er:=⟨by
 intro c b h;simp only[Er]at h;by_cases e:c="NoCorner"
 . rw[ξ e]at h;cases h;subst e;exact⟨_,Z.n_NoCorner,⟨Z.fo_NoCorner,Z.fb_NoCorner,Z.fc_NoCorner,Z.fg_NoCorner,Z.ft_NoCorner⟩,Z.k_NoCorner_ValueError⟩
 rw[ψ e]at h;by_cases e:c="NoLine"
 . rw[ξ e]at h;cases h;subst e;exact⟨_,Z.n_NoLine,⟨Z.fo_NoLine,Z.fb_NoLine,Z.fc_NoLine,Z.fg_NoLine,Z.ft_NoLine⟩,Z.k_NoLine_ValueError⟩
 rw[ψ e]at h;by_cases e:c="TooMany"
 . rw[ξ e]at h;cases h;subst e;exact⟨_,Z.n_TooMany,⟨Z.fo_TooMany,Z.fb_TooMany,Z.fc_TooMany,Z.fg_TooMany,Z.ft_TooMany⟩,Z.k_TooMany_ValueError⟩
 rw[ψ e]at h;cases h⟩
end
def zey:FnScope ["thing"] ["thing"] (h7 Mo):=fsc
def wy:FnScope ["a","b"] ["a","b"] (h7 Hj):=fsc
def sc_is_side:FnScope ["n","p","a","b"] ["n","p"] (h7 Lz):=fsc
def zt:FnScope ["thing"] ["thing"] (h7 Ky):=fsc
def zez:FnScope ["cut","p"] ["cut","p"] (h7 Mn):=fsc
def zbv:FnScope ["cut","p"] ["cut","p"] (h7 Ng):=fsc
def z9b:FnScope ["n","thing"] ["n","thing"] (h7 Nq):=fsc
def zf0:FnScope ["corners","corner"] ["corners","corner"] (h7 Mm):=fsc
def sc_letters:FnScope ["cut","n","sides"] ["cut"] (h7 Ly):=fsc
def zr:FnScope ["cut","p"] ["cut","p"] (h7 Kx):=fsc
def sc_rooms:FnScope ["n","lines","tops"] ["n","lines"] (h7 Jr):=fsc
def sc_room_under:FnScope ["top","lines","room"] ["top","lines"] (h7 Nf):=fsc
def sc_corner_behind:FnScope ["corner","top","lines","ends"] ["corner","top","lines"] (h7 Ny):=fsc
def zdk:FnScope ["cut"] ["cut"] (h7 Mt):=fsc
def sc_sharings:FnScope ["cut","i","j","begun","corners"] ["cut","i","j"] (h7 Ml):=fsc
def sc_carried_on:FnScope ["begun","corners","found","given"] ["begun","corners"] (h7 Nd):=fsc
def zf1:FnScope ["found"] ["found"] (h7 Mk):=fsc
def sc_fraction:FnScope ["cut","p","found","given","powers"] ["cut","p"] (h7 Mj):=fsc
def z83:FnScope ["n","p"] ["n","p"] (h7 Nx):=fsc
def sc_powers_of:FnScope ["cut","given","above"] ["cut","given"] (h7 Ms):=fsc
def zbw:FnScope ["_law_script","_law_at"] ["_law_script","_law_at"] (h7 Nc):=fsc
def z75:FnScope ["_law_found"] ["_law_found"] (h7 Oc):=fsc
def sc__law_grown:FnScope ["_law_row","_law_lines","_law_at","_law_size","_law_some","_law_made"] ["_law_row","_law_lines","_law_at"] (h7 Nb):=fsc
def sc__law_floor:FnScope ["_law_way","_law_cells","_law_row","_law_lines","_law_k","_law_cell","_law_at"] ["_law_way","_law_cells"] (h7 Na):=fsc
def sc__law_number:FnScope ["_law_row","_law_a","_law_b","_law_some","_law_at"] ["_law_row","_law_a","_law_b"] (h7 Nn):=fsc
def sc__law_refusal:FnScope ["_law_way","_law_cut","_law_p","_law_told","e"] ["_law_way","_law_cut","_law_p"] (h7 Np):=fsc
def sc__law_kinds:FnScope ["_law_found","_law_many","_law_k","_law_term"] ["_law_found","_law_many"] (h7 Mz):=fsc
def z9c:FnScope ["_law_size","_law_lines"] ["_law_size","_law_lines"] (h7 No):=fsc
def sc__law_fraction:FnScope ["_law_cut","_law_p","_law_row","_law_some","_law_found","_law_powers","_law_times"] ["_law_cut","_law_p","_law_row","_law_some"] (h7 Nw):=fsc
def sc_law:FnScope ["_law_script","_law_way","_law_room","_law_row","_law_lines","_law_size","_law_cut","_law_some","_law_p","_law_told","_law_due"] ["_law_script"] (h7 Fv):=fsc
abbrev Mi(P:Program)(w:World)(K:Frag)(mg:Str->Option Value)(base:Heap):Prop:=i9 P w K mg base "is_whole" ["thing"] 1 (spD K mg false T1 1)
abbrev Rn(P:Program)(w:World)(K:Frag)(mg:Str->Option Value)(base:Heap):Prop:=i9 P w K mg base "pair" ["a","b"] 1 (spD K mg false An 2)
abbrev Xm(P:Program)(w:World)(K:Frag)(mg:Str->Option Value)(base:Heap):Prop:=i9 P w K mg base "is_side" ["n","p"] 1 (spD K mg false Bo 2)
abbrev Yn(P:Program)(w:World)(K:Frag)(mg:Str->Option Value)(base:Heap):Prop:=i9 P w K mg base "opposite" ["corners","corner"] 1 (spD K mg false Y6 2)
abbrev jt(P:Program)(w:World)(K:Frag)(mg:Str->Option Value)(base:Heap):Prop:=i9 P w K mg base "corner_behind" ["corner","top","lines"] 1 (spD K mg false Cd 3)
abbrev Zq(P:Program)(w:World)(K:Frag)(mg:Str->Option Value)(base:Heap):Prop:=i9 P w K mg base "carried_on" ["begun","corners"] 1 (spD K mg true Bz 2)
abbrev Ym(P:Program)(w:World)(K:Frag)(mg:Str->Option Value)(base:Heap):Prop:=i9 P w K mg base "sum_from" ["found"] 1 (spD K mg true T0 1)
abbrev Zp(P:Program)(w:World)(K:Frag)(mg:Str->Option Value)(base:Heap):Prop:=i9 P w K mg base "_law_drawn" ["_law_script","_law_at"] 1 (spD K mg false T7 2)
abbrev Ob(P:Program)(w:World)(K:Frag)(mg:Str->Option Value)(base:Heap):Prop:=i9 P w K mg base "_law_is_number" ["_law_found"] 1 (spD K mg false U0 1)
abbrev Zo(P:Program)(w:World)(K:Frag)(mg:Str->Option Value)(base:Heap):Prop:=i9 P w K mg base "_law_grown" ["_law_row","_law_lines","_law_at"] 1 (spD K mg false Y8 3)
abbrev Zz(P:Program)(w:World)(K:Frag)(mg:Str->Option Value)(base:Heap):Prop:=i9 P w K mg base "_law_number" ["_law_row","_law_a","_law_b"] 1 (spD K mg false Ca 3)
abbrev jf(P:Program)(w:World)(K:Frag)(mg:Str->Option Value)(base:Heap):Prop:=i9 P w K mg base "_law_letters" ["_law_size","_law_lines"] 1 (spD K mg true Cb 2)
abbrev Kw(P:Program)(w:World)(K:Frag)(mg:Str->Option Value)(base:Heap):Prop:=i9 P w K mg base "is_two" ["thing"] 2 (spD K mg false X5 1)
abbrev je(P:Program)(w:World)(K:Frag)(mg:Str->Option Value)(base:Heap):Prop:=i9 P w K mg base "check_corner" ["n","thing"] 2 (spD K mg false T8 2)
abbrev Ee(P:Program)(w:World)(K:Frag)(mg:Str->Option Value)(base:Heap):Prop:=i9 P w K mg base "letters" ["cut"] 2 (spD K mg true G5 1)
abbrev Zn(P:Program)(w:World)(K:Frag)(mg:Str->Option Value)(base:Heap):Prop:=i9 P w K mg base "room_under" ["top","lines"] 2 (spD K mg false By 2)
abbrev Zm(P:Program)(w:World)(K:Frag)(mg:Str->Option Value)(base:Heap):Prop:=i9 P w K mg base "_law_floor" ["_law_way","_law_cells"] 2 (spD K mg false Bx 2)
abbrev My(P:Program)(w:World)(K:Frag)(mg:Str->Option Value)(base:Heap):Prop:=i9 P w K mg base "_law_kinds" ["_law_found","_law_many"] 2 (spD K mg false T6 2)
abbrev Yl(P:Program)(w:World)(K:Frag)(mg:Str->Option Value)(base:Heap):Prop:=i9 P w K mg base "has_pair" ["cut","p"] 3 (spD K mg false Bt 2)
abbrev Um(P:Program)(w:World)(K:Frag)(mg:Str->Option Value)(base:Heap):Prop:=i9 P w K mg base "rooms" ["n","lines"] 3 (spD K mg true Ax 2)
abbrev jo(P:Program)(w:World)(K:Frag)(mg:Str->Option Value)(base:Heap):Prop:=i9 P w K mg base "check_corners" ["n","p"] 3 (spD K mg false T9 2)
abbrev Zl(P:Program)(w:World)(K:Frag)(mg:Str->Option Value)(base:Heap):Prop:=i9 P w K mg base "check_pair" ["cut","p"] 4 (spD K mg false T5 2)
abbrev Mr(P:Program)(w:World)(K:Frag)(mg:Str->Option Value)(base:Heap):Prop:=i9 P w K mg base "triangles" ["cut"] 4 (spD K mg true K0 1)
abbrev Kv(P:Program)(w:World)(K:Frag)(mg:Str->Option Value)(base:Heap):Prop:=i9 P w K mg base "letter" ["cut","p"] 5 (spD K mg true w4 2)
abbrev Yk(P:Program)(w:World)(K:Frag)(mg:Str->Option Value)(base:Heap):Prop:=i9 P w K mg base "sharings" ["cut","i","j"] 5 (spD K mg true J9 3)
abbrev Ze(P:Program)(w:World)(K:Frag)(mg:Str->Option Value)(base:Heap):Prop:=i9 P w K mg base "powers_of" ["cut","given"] 5 (spD K mg false Bw 2)
abbrev Eh(P:Program)(w:World)(K:Frag)(mg:Str->Option Value)(base:Heap):Prop:=i9 P w K mg base "fraction" ["cut","p"] 6 (spD K mg true w6 2)
abbrev jd(P:Program)(w:World)(K:Frag)(mg:Str->Option Value)(base:Heap):Prop:=i9 P w K mg base "_law_refusal" ["_law_way","_law_cut","_law_p"] 7 (spD K mg true C8 3)
abbrev jm(P:Program)(w:World)(K:Frag)(mg:Str->Option Value)(base:Heap):Prop:=i9 P w K mg base "_law_fraction" ["_law_cut","_law_p","_law_row","_law_some"] 7 (spD K mg false Y9 4)
section
variable {P:Program}{w:World}{K:Frag}{mg:Str->Option Value}{base:Heap}{f:Addr}{fd:FuncData}{u0 u1 u2 u3:Addr}
def zf2(F:Fun K "is_whole" "is_whole" Mo f fd)(T:Txt mg)(Z:Exs K mg u0 u1 u2 u3)  : FnOk P w K mg base (CX1 P w) 1 f fd ["thing"] (spD K mg false T1 1):=
 fnD (k:=0) F zey rfl rfl fun cdv A outer s H E hr=>
  (c8 (i5 (O7 (L9 rfl T.isinstance CQ (qv 0) (J7 (v:=.ty "int") rfl T.int boot_int rfl)) (O6 (Cy (L9 rfl T.isinstance CQ (qv 0) (J7 (v:=.ty "bool") rfl T.bool boot_bool rfl)))))))
def wx(F:Fun K "pair" "pair" Hj f fd)(T:Txt mg)(Z:Exs K mg u0 u1 u2 u3)  : FnOk P w K mg base (CX1 P w) 1 f fd ["a","b"] (spD K mg false An 2):=
 fnD (k:=0) F wy rfl rfl fun cdv A outer s H E hr=>
  (c8 (i5 (Qc (p7 K7 N1 (qv 0) (qv 1) (h8 _)) (v4 (a8 (qv 0) (a8 (qv 1) b6))) (v4 (a8 (qv 1) (a8 (qv 0) b6))))))
def zhl(F:Fun K "is_side" "is_side" Lz f fd)(T:Txt mg)(Z:Exs K mg u0 u1 u2 u3)  : FnOk P w K mg base (CX1 P w) 1 f fd ["n","p"] (spD K mg false Bo 2):=
 fnD (k:=0) F sc_is_side rfl rfl fun cdv A outer s H E hr=>
  (c9 (sA 2 sc_is_side.nd (qI hr (qv 1) b7))
   (c9 (sA 3 sc_is_side.nd (qI hr (qv 1) b7))
   (c9 (m4 (QW.pt (x8 (p7 K7 N1 (qv 2) b7 (h8 _)) (M7 (p7 Os Gn (qv 3) (qv 0) (h8 _)))))
    (c8 (i5 m5))
    n8)
   (c8 (i5 (jP (E1 (P0 hr.units) O9 (qv 3) (g8 t0 t7 (qv 2) b7) (h8 _)) (O6 (O7 (E1 (P0 hr.units) O9 (qv 2) b7 (h8 _)) (O6 (E1 (P0 hr.units) O9 (qv 3) (g8 F9 G1 (qv 0) b7) (h8 _)))))))))))
def zf3(F:Fun K "opposite" "opposite" Mm f fd)(T:Txt mg)(Z:Exs K mg u0 u1 u2 u3)  : FnOk P w K mg base (CX1 P w) 1 f fd ["corners","corner"] (spD K mg false Y6 2):=
 fnD (k:=0) F zf0 rfl rfl fun cdv A outer s H E hr=>
  (c8 (i5 (C1 Y1 Y0 rfl T.tuple FY (a8 (QE.wk (G6 (v6 (caps:=["corner"]) (ix:=[1]) rfl rfl) (by decide +kernel) rfl (v9 (qv 0)) (.one fun _ _ _=>(tN hr (qv 0) (qv 1) (h8 _))) (fun _ _ _=>(qv 0)))) b6))))
def z84(F:Fun K "corner_behind" "corner_behind" Ny f fd)(T:Txt mg)(Z:Exs K mg u0 u1 u2 u3)  : FnOk P w K mg base (CX1 P w) 1 f fd ["corner","top","lines"] (spD K mg false Cd 3):=
 fnD (k:=0) F sc_corner_behind rfl rfl fun cdv A outer s H E hr=>
  (c9 (jL sc_corner_behind.nd (k:=3) rfl rfl (v6 (caps:=["corner","top"]) (ix:=[0,1]) rfl rfl) (by decide +kernel) rfl (v9 (qv 2)) (.one fun _ _ _=>(QW.pt (W4 (tE hr (qI hr (qv 0) b7) (qv 1) (h8 _)) (W4 (p7 Ot Go (qI hr (qv 0) b7) (qI hr (qv 2) b7) (h8 _)) (Ar (tN hr (qv 0) (qv 2) (h8 _))))))) (fun _ _ _=>(qI hr (qv 0) b7)))
   (c8 (i5 (qT rfl rfl T.«max» boot_max (qv 3) (g8 t0 t7 (qv 0) b7)))))
def zbz(F:Fun K "carried_on" "carried_on" Nd f fd)(T:Txt mg)(Z:Exs K mg u0 u1 u2 u3)  : FnOk P w K mg base (CX1 P w) 1 f fd ["begun","corners"] (spD K mg true Bz 2):=
 fnD (k:=0) F sc_carried_on rfl rfl fun cdv A outer s H E hr=>
  (c9 (sA 2 sc_carried_on.nd (u9 b6))
   (c9 (R5 DU rfl (v9 (qv 0)) (g_n (i:=3) sc_carried_on.nd rfl (Or.inr rfl))
    (c8 (W3 CU PySem.F.slot_list_extend PySem.F.type_list_extend zih qX X3 (pw 2) (a8 (QE.wk (G6 (v6 (caps:=["given"]) (ix:=[3]) rfl rfl) (by decide +kernel) rfl (v9 (qv 1)) (.one fun _ _ _=>(p7 (Lh hr.units) W5 (qv 0) (qv 1) (by with_unfolding_all rfl))) (fun _ _ _=>(g8 wS wR (qv 1) (v4 (a8 (qv 0) b6)))))) b6))))
   (c8 (Hz (i:=2)))))
def zf4(F:Fun K "sum_from" "sum_from" Mk f fd)(T:Txt mg)(Z:Exs K mg u0 u1 u2 u3)  : FnOk P w K mg base (CX1 P w) 1 f fd ["found"] (spD K mg true T0 1):=
 fnD (k:=0) F zf1 rfl rfl fun cdv A outer s H E hr=>
  (c8 (i5 (E8 (Az rfl hr.units) Bi rfl T.sorted boot_sorted (a8 (QE.wk (Fb (v6 (caps:=[]) (ix:=[]) rfl rfl) (by decide +kernel) rfl rfl (wN (qv 0)) (.one fun _ _ _=>(tN hr (qv 1) b7 (h8 _))) (fun _ _ _=>(v4 (a8 (qv 0) (a8 (qv 1) b6)))))) b6))))
def zc0(F:Fun K "_law_drawn" "_law_drawn" Nc f fd)(T:Txt mg)(Z:Exs K mg u0 u1 u2 u3)  : FnOk P w K mg base (CX1 P w) 1 f fd ["_law_script","_law_at"] (spD K mg false T7 2):=
 fnD (k:=0) F zbw rfl rfl fun cdv A outer s H E hr=>
  (c8 (i5 (E8 (Qg rfl) Tj rfl T.sum boot_sum (a8 (QE.wk (jO Wd Vn (qv 0) (Fc (qv 1)) (Fc (g8 t0 t7 (qv 1) b7)))) b6))))
def z77(F:Fun K "_law_is_number" "_law_is_number" Oc f fd)(T:Txt mg)(Z:Exs K mg u0 u1 u2 u3)  : FnOk P w K mg base (CX1 P w) 1 f fd ["_law_found"] (spD K mg false U0 1):=
 fnD (k:=0) F z75 rfl rfl fun cdv A outer s H E hr=>
  (c8 (i5 (O7 (Cy (L9 rfl T.isinstance CQ (qv 0) (J7 (v:=.ty "bool") rfl T.bool boot_bool rfl))) (O6 (L9 rfl T.isinstance CQ (qv 0) (J7 (v:=.ty "int") rfl T.int boot_int rfl))))))
def zc1(F:Fun K "_law_grown" "_law_grown" Nb f fd)(T:Txt mg)(Z:Exs K mg u0 u1 u2 u3)  : FnOk P w K mg base (CX1 P w) 1 f fd ["_law_row","_law_lines","_law_at"] (spD K mg false Y8 3):=
 fnD (k:=0) F sc__law_grown rfl rfl fun cdv A outer s H E hr=>
  (c9 (sA 3 sc__law_grown.nd (qL T.len (qv 0)))
   (c9 (y5e sc__law_grown.nd (k:=4) rfl rfl (v6 (caps:=["_law_at"]) (ix:=[2]) rfl rfl) (by decide +kernel) rfl rfl (v9 (qv 1)) .nil (fun _ _ _=>(v4 (a8 (g8 t0 t7 (qv 0) (C1 Gs Jb rfl T.int boot_int (a8 (E1 Aa As (qv 0) (qv 2) (h8 _)) b6))) (a8 (g8 t0 t7 (qv 1) (C1 Gs Jb rfl T.int boot_int (a8 (E1 Aa As (qv 1) (qv 2) (h8 _)) b6))) b6)))))
   (c9 (m4 (tE hr (qv 2) (g8 F9 G1 (qv 3) b7) (h8 _))
    (c8 (W3 CU FG FF Br Ct X3 (pw 4) (a8 (v4 (a8 b7 (a8 (qv 2) b6))) b6)))
    (c8 (W3 CU FG FF Br Ct X3 (pw 4) (a8 (v4 (a8 (qv 2) (a8 (g8 t0 t7 (qv 2) b7) b6))) b6))))
   (c9 (sA 5 sc__law_grown.nd (C1 Dv Du rfl T.list boot_list (a8 (qv 0) b6)))
   (c9 (Px hr.units (pw 5) (qv 2) (g8 t0 t7 (qI hr (qv 5) (qv 2)) b7))
   (c9 (Px hr.units (pw 5) (g8 P4 P7 (g8 t0 t7 (qv 2) b7) (qv 3)) (g8 t0 t7 (qI hr (qv 5) (g8 P4 P7 (g8 t0 t7 (qv 2) b7) (qv 3))) b7))
   (c9 (W3 CU PySem.F.slot_list_insert PySem.F.type_list_insert zJ qY X3 (pw 5) (a8 (g8 t0 t7 (qv 2) b7) (a8 b7 b6)))
   (c8 (i5 (v4 (a8 (qv 5) (a8 (qv 4) b6))))))))))))
def z9p(F:Fun K "_law_number" "_law_number" Nn f fd)(T:Txt mg)(Z:Exs K mg u0 u1 u2 u3)  : FnOk P w K mg base (CX1 P w) 1 f fd ["_law_row","_law_a","_law_b"] (spD K mg false Ca 3):=
 fnD (k:=0) F sc__law_number rfl rfl fun cdv A outer s H E hr=>
  (c9 (sA 3 sc__law_number.nd (u9 (a8 b7 (a8 b7 b6))))
   (c9 (R5 DU rfl (y5d rfl T.range (a8 (g8 t0 t7 (qv 1) b7) (a8 (qv 2) b6))) (g_n (i:=4) sc__law_number.nd rfl (Or.inl rfl))
    (c8 (W3 CU FG FF Br Ct X3 (pw 3) (a8 (g8 F9 G1 (g8 y0w vj (qI hr (qv 0) (qv 4)) (qI hr (qv 3) (Fd Co Da b7))) (qI hr (qv 3) (Fd Co Da b7))) b6))))
   (c8 (i5 (qI hr (qv 3) (g8 F9 G1 (qv 2) (qv 1)))))))
def z9e(F:Fun K "_law_letters" "_law_letters" No f fd)(T:Txt mg)(Z:Exs K mg u0 u1 u2 u3)  : FnOk P w K mg base (CX1 P w) 1 f fd ["_law_size","_law_lines"] (spD K mg true Cb 2):=
 fnD (k:=0) F z9c rfl rfl fun cdv A outer s H E hr=>
  (c8 (i5 (E8 (Az rfl hr.units) Bi rfl T.sorted boot_sorted (a8 (QE.wk (g8 Dg Cz (QE.wk (g8 Dg Cz (QE.wk (G6 (v6 (caps:=[]) (ix:=[]) rfl rfl) (by decide +kernel) rfl (jN rfl T.range (a8 (g8 F9 G1 (qv 0) b7) b6)) .nil (fun _ _ _=>(v4 (a8 (qv 0) (a8 (g8 t0 t7 (qv 0) b7) b6)))))) (QE.wk (u9 (a8 (v4 (a8 b7 (a8 (g8 F9 G1 (qv 0) b7) b6))) b6))))) (QE.wk (C1 Dv Du rfl T.list boot_list (a8 (qv 1) b6))))) b6))))
def zq(F:Fun K "is_two" "is_two" Ky f fd)(T:Txt mg)(Z:Exs K mg u0 u1 u2 u3)(aF:Mi P w K mg base):FnOk P w K mg base (CX1 P w) 2 f fd ["thing"] (spD K mg false X5 1):=
 fnD (k:=1) F zt rfl rfl fun cdv A outer s H E hr=>
  (c8 (i5 (O7 (L9 rfl T.isinstance CQ (qv 0) (J7 (v:=.ty "tuple") rfl T.tuple FY rfl)) (O7 (E1 (P0 hr.units) O9 (qL T.len (qv 0)) b7 (h8 _)) (O7 (g7 g9 aF hr rfl (a8 (qI hr (qv 0) b7) b6)) (O6 (g7 g9 aF hr rfl (a8 (qI hr (qv 0) b7) b6))))))))
def z9f(F:Fun K "check_corner" "check_corner" Nq f fd)(T:Txt mg)(Z:Exs K mg u0 u1 u2 u3)(aF:Mi P w K mg base):FnOk P w K mg base (CX1 P w) 2 f fd ["n","thing"] (spD K mg false T8 2):=
 fnD (k:=1) F z9b rfl rfl fun cdv A outer s H E hr=>
  (c8 (m4 (QW.pt (x8 (D9 (C2 (g7 g9 aF hr rfl (a8 (qv 1) b6)))) (M7 (D9 (Qb b7 (Kc Ot Go (qv 1) (Vp K7 N1 (qv 0))))))))
   (c8 (Dr (c:="NoCorner") g9 EY rfl rfl Z.a_NoCorner Z.q_NoCorner (a8 Cl b6)))
   n8))
def zhm(F:Fun K "letters" "letters" Ly f fd)(T:Txt mg)(Z:Exs K mg u0 u1 u2 u3)(dh:Rn P w K mg base):FnOk P w K mg base (CX1 P w) 2 f fd ["cut"] (spD K mg true G5 1):=
 fnD (k:=1) F sc_letters rfl rfl fun cdv A outer s H E hr=>
  (c9 (sA 1 sc_letters.nd (qI hr (qv 0) b7))
   (c9 (jL sc_letters.nd (k:=2) rfl rfl (v6 (caps:=["n"]) (ix:=[1]) rfl rfl) (by decide +kernel) rfl (jN rfl T.range (a8 (qv 1) b6)) .nil (fun _ _ _=>(g7 Z7 dh hr rfl (a8 (qv 0) (a8 (g8 P4 P7 (g8 t0 t7 (qv 0) b7) (qv 1)) b6)))))
   (c8 (i5 (E8 (Az rfl hr.units) Bi rfl T.sorted boot_sorted (a8 (QE.wk (g8 Dg Cz (qv 2) (QE.wk (C1 Dv Du rfl T.list boot_list (a8 (qI hr (qv 0) b7) b6))))) b6))))))
def zc2(F:Fun K "room_under" "room_under" Nf f fd)(T:Txt mg)(Z:Exs K mg u0 u1 u2 u3)(aO:jt P w K mg base):FnOk P w K mg base (CX1 P w) 2 f fd ["top","lines"] (spD K mg false By 2):=
 fnD (k:=1) F sc_room_under rfl rfl fun cdv A outer s H E hr=>
  (c9 (sA 2 sc_room_under.nd (u9 (a8 (qI hr (qv 0) b7) b6)))
   (c9 (xq (n:=1000) DU (p7 K7 N1 (qI hr (qv 2) (Fd Co Da b7)) (qI hr (qv 0) b7) (h8 _))
    (c8 (W3 CU FG FF Br Ct X3 (pw 2) (a8 (g7 g9 aO hr rfl (a8 (qI hr (qv 2) (Fd Co Da b7)) (a8 (qv 0) (a8 (qv 1) b6)))) b6))))
   (c8 (i5 (C1 Y1 Y0 rfl T.tuple FY (a8 (qv 2) b6))))))
def zc3(F:Fun K "_law_floor" "_law_floor" Na f fd)(T:Txt mg)(Z:Exs K mg u0 u1 u2 u3)(bj:Zo P w K mg base):FnOk P w K mg base (CX1 P w) 2 f fd ["_law_way","_law_cells"] (spD K mg false Bx 2):=
 fnD (k:=1) F sc__law_floor rfl rfl fun cdv A outer s H E hr=>
  (c9 (sA 2 sc__law_floor.nd (u9 (a8 b7 (a8 b7 (a8 b7 b6)))))
   (c9 (sA 3 sc__law_floor.nd (u9 b6))
   (c9 (R5 DU rfl (jM rfl T.enumerate (a8 (qv 1) b6)) (g_t rfl (J5 (i:=4) sc__law_floor.nd rfl (Or.inl rfl) (J5 (i:=5) sc__law_floor.nd rfl (Or.inl rfl) Aq)))
    (c9 (sA 6 sc__law_floor.nd (g8 P4 P7 (qv 5) (qL T.len (qv 2))))
   (c9 (m4 (tE hr (g8 P4 P7 (qv 0) b7) b7 (h8 _))
    (c8 (sA 6 sc__law_floor.nd (g8 Ts Tl (qv 4) b7)))
    n8)
   (c8 (Pz (g7 g9 bj hr rfl (a8 (qv 2) (a8 (qv 3) (a8 (qv 6) b6)))) (g_t rfl (J5 (i:=2) sc__law_floor.nd rfl (Or.inl rfl) (J5 (i:=3) sc__law_floor.nd rfl (Or.inl rfl) Aq))))))))
   (c8 (i5 (v4 (a8 (qv 2) (a8 (QE.wk (E8 (Az rfl hr.units) Bi rfl T.sorted boot_sorted (a8 (qv 3) b6))) b6))))))))
def zc4(F:Fun K "_law_kinds" "_law_kinds" Mz f fd)(T:Txt mg)(Z:Exs K mg u0 u1 u2 u3)(ah:Ob P w K mg base):FnOk P w K mg base (CX1 P w) 2 f fd ["_law_found","_law_many"] (spD K mg false T6 2):=
 fnD (k:=1) F sc__law_kinds rfl rfl fun cdv A outer s H E hr=>
  (c9 (m4 (QW.pt (x8 (D9 (C2 (L9 rfl T.isinstance CQ (qv 0) (J7 (v:=.ty "list") rfl T.list boot_list rfl)))) (M7 (tE hr (qv 0) (QE.wk (u9 b6)) (h8 _)))))
    (c8 (i5 m5))
    n8)
   (c9 (R5 DU rfl (jM rfl T.enumerate (a8 (qv 0) b6)) (g_t rfl (J5 (i:=2) sc__law_kinds.nd rfl (Or.inl rfl) (J5 (i:=3) sc__law_kinds.nd rfl (Or.inl rfl) Aq)))
    (c9 (m4 (QW.pt (x8 (D9 (C2 (L9 rfl T.isinstance CQ (qv 3) (J7 (v:=.ty "tuple") rfl T.tuple FY rfl)))) (x8 (tN hr (qL T.len (qv 3)) b7 (h8 _)) (x8 (D9 (C2 (L9 rfl T.isinstance CQ (qI hr (qv 3) b7) (J7 (v:=.ty "tuple") rfl T.tuple FY rfl)))) (M7 (tN hr (qL T.len (qI hr (qv 3) b7)) (qv 1) (h8 _)))))))
    (c8 (i5 m5))
    n8)
   (c9 (m4 (QW.pt (x8 (C2 (E8 (Gu rfl) Jc rfl T.«any» boot_any (a8 (QE.wk (G6 (v6 (caps:=[]) (ix:=[]) rfl rfl) (by decide +kernel) rfl (v9 (qI hr (qv 3) b7)) .nil (fun _ _ _=>(Cy (g7 Z7 ah hr rfl (a8 (qv 0) b6)))))) b6))) (x8 (D9 (C2 (g7 g9 ah hr rfl (a8 (qI hr (qv 3) b7) b6)))) (M7 (p7 K7 N1 (qI hr (qv 3) b7) b7 (h8 _))))))
    (c8 (i5 m5))
    n8)
   (c8 (m4 (QW.pt (W4 (p7 Aa As (qv 2) b7 (h8 _)) (Ar (p7 (y2w hr.units) qB (qI hr (qI hr (qv 0) (g8 F9 G1 (qv 2) b7)) b7) (qI hr (qv 3) b7) (h8 _)))))
    (c8 (i5 m5))
    n8)))))
   (c8 (i5 m5))))
def zf5(F:Fun K "has_pair" "has_pair" Mn f fd)(T:Txt mg)(Z:Exs K mg u0 u1 u2 u3)(bR:Xm P w K mg base)(bf:Kw P w K mg base):FnOk P w K mg base (CX1 P w) 3 f fd ["cut","p"] (spD K mg false Bt 2):=
 fnD (k:=2) F zez rfl rfl fun cdv A outer s H E hr=>
  (c8 (i5 (O7 (g7 g9 bf hr rfl (a8 (qv 1) b6)) (O6 (jP (g7 g9 bR hr rfl (a8 (qI hr (qv 0) b7) (a8 (qv 1) b6))) (O6 (E1 (Gm hr.units) W5 (qv 1) (qI hr (qv 0) b7) (by with_unfolding_all rfl))))))))
def yl(F:Fun K "rooms" "rooms" Jr f fd)(T:Txt mg)(Z:Exs K mg u0 u1 u2 u3)(bo:Zn P w K mg base):FnOk P w K mg base (CX1 P w) 3 f fd ["n","lines"] (spD K mg true Ax 2):=
 fnD (k:=2) F sc_rooms rfl rfl fun cdv A outer s H E hr=>
  (c9 (sA 2 sc_rooms.nd (g8 Dg Cz (QE.wk (u9 (a8 (v4 (a8 b7 (a8 (g8 F9 G1 (qv 0) b7) b6))) b6))) (QE.wk (C1 Dv Du rfl T.list boot_list (a8 (qv 1) b6)))))
   (c8 (i5 (E8 (Az rfl hr.units) Bi rfl T.sorted boot_sorted (a8 (QE.wk (G6 (v6 (caps:=["lines"]) (ix:=[1]) rfl rfl) (by decide +kernel) rfl (v9 (qv 2)) .nil (fun _ _ _=>(g7 Z7 bo hr rfl (a8 (qv 0) (a8 (qv 1) b6)))))) b6)))))
def z85(F:Fun K "check_corners" "check_corners" Nx f fd)(T:Txt mg)(Z:Exs K mg u0 u1 u2 u3)(bf:Kw P w K mg base):FnOk P w K mg base (CX1 P w) 3 f fd ["n","p"] (spD K mg false T9 2):=
 fnD (k:=2) F z83 rfl rfl fun cdv A outer s H E hr=>
  (c8 (m4 (QW.pt (x8 (D9 (C2 (g7 g9 bf hr rfl (a8 (qv 1) b6)))) (M7 (D9 (Qb b7 (Kc Ot Go (qI hr (qv 1) b7) (Kc K7 N1 (qI hr (qv 1) b7) (Vp K7 N1 (qv 0)))))))))
   (c8 (Dr (c:="NoLine") g9 EY rfl rfl Z.a_NoLine Z.q_NoLine (a8 Cl b6)))
   n8))
def zc5(F:Fun K "check_pair" "check_pair" Ng f fd)(T:Txt mg)(Z:Exs K mg u0 u1 u2 u3)(bG:Yl P w K mg base):FnOk P w K mg base (CX1 P w) 4 f fd ["cut","p"] (spD K mg false T5 2):=
 fnD (k:=3) F zbv rfl rfl fun cdv A outer s H E hr=>
  (c8 (m4 (D9 (C2 (g7 g9 bG hr rfl (a8 (qv 0) (a8 (qv 1) b6)))))
   (c8 (Dr (c:="NoLine") g9 EY rfl rfl Z.a_NoLine Z.q_NoLine (a8 Cl b6)))
   n8))
def zdm(F:Fun K "triangles" "triangles" Mt f fd)(T:Txt mg)(Z:Exs K mg u0 u1 u2 u3)(cC:Um P w K mg base):FnOk P w K mg base (CX1 P w) 4 f fd ["cut"] (spD K mg true K0 1):=
 fnD (k:=3) F zdk rfl rfl fun cdv A outer s H E hr=>
  (c8 (i5 (g7 g9 cC hr rfl (a8 (qI hr (qv 0) b7) (a8 (qI hr (qv 0) b7) b6)))))
def zp(F:Fun K "letter" "letter" Kx f fd)(T:Txt mg)(Z:Exs K mg u0 u1 u2 u3)(bp:Zl P w K mg base)(ay:Ee P w K mg base):FnOk P w K mg base (CX1 P w) 5 f fd ["cut","p"] (spD K mg true w4 2):=
 fnD (k:=4) F zr rfl rfl fun cdv A outer s H E hr=>
  (c9 (Cv (g7 g9 bp hr rfl (a8 (qv 0) (a8 (qv 1) b6))))
   (c8 (i5 (u9 (a8 (v4 (a8 (C1 Y1 Y0 rfl T.tuple FY (a8 (QE.wk (G6 (v6 (caps:=["p"]) (ix:=[1]) rfl rfl) (by decide +kernel) rfl (v9 (QE.wk (g7 g9 ay hr rfl (a8 (qv 0) b6)))) .nil (fun _ _ _=>(Qc (tE hr (qv 0) (qv 1) (h8 _)) b7 b7)))) b6)) (a8 b7 b6))) b6)))))
def zf6(F:Fun K "sharings" "sharings" Ml f fd)(T:Txt mg)(Z:Exs K mg u0 u1 u2 u3)(bq:Zq P w K mg base)(aL:je P w K mg base)(aG:Mr P w K mg base):FnOk P w K mg base (CX1 P w) 5 f fd ["cut","i","j"] (spD K mg true J9 3):=
 fnD (k:=4) F sc_sharings rfl rfl fun cdv A outer s H E hr=>
  (c9 (Cv (g7 g9 aL hr rfl (a8 (qI hr (qv 0) b7) (a8 (qv 1) b6))))
   (c9 (Cv (g7 g9 aL hr rfl (a8 (qI hr (qv 0) b7) (a8 (qv 2) b6))))
   (c9 (m4 (p7 Aa As (qI hr (qv 0) b7) b7 (h8 _))
    (c8 (Dr (c:="TooMany") g9 EY rfl rfl Z.a_TooMany Z.q_TooMany (a8 Cl b6)))
    n8)
   (c9 (m4 (tE hr (qv 1) (qv 2) (h8 _))
    (c8 (i5 (u9 b6)))
    n8)
   (c9 (sA 3 sc_sharings.nd (u9 (a8 (v4 b6) b6)))
   (c9 (R5 DU rfl (v9 (QE.wk (g7 g9 aG hr rfl (a8 (qv 0) b6)))) (g_n (i:=4) sc_sharings.nd rfl (Or.inl rfl))
    (c8 (sA 3 sc_sharings.nd (g7 g9 bq hr rfl (a8 (qv 3) (a8 (QE.wk (G6 (v6 (caps:=["i","j"]) (ix:=[1,2]) rfl rfl) (by decide +kernel) rfl (v9 (qv 4)) (.one fun _ _ _=>(QW.pt (W4 (tN hr (qv 0) (qv 1) (h8 _)) (Ar (tN hr (qv 0) (qv 2) (h8 _)))))) (fun _ _ _=>(qv 0)))) b6))))))
   (c8 (Hz (i:=3)))))))))
def zdn(F:Fun K "powers_of" "powers_of" Ms f fd)(T:Txt mg)(Z:Exs K mg u0 u1 u2 u3)(ay:Ee P w K mg base)(bH:Yn P w K mg base)(aG:Mr P w K mg base):FnOk P w K mg base (CX1 P w) 5 f fd ["cut","given"] (spD K mg false Bw 2):=
 fnD (k:=4) F sc_powers_of rfl rfl fun cdv A outer s H E hr=>
  (c9 (sA 2 sc_powers_of.nd (Fb (v6 (caps:=[]) (ix:=[]) rfl rfl) (by decide +kernel) rfl rfl (So rfl T.zip (a8 (QE.wk (g7 g9 aG hr rfl (a8 (qv 0) b6))) (a8 (qv 1) b6))) .nil (fun _ _ _=>(g7 Z7 bH hr rfl (a8 (qv 0) (a8 (qv 1) b6))))))
   (c8 (i5 (C1 Y1 Y0 rfl T.tuple FY (a8 (QE.wk (G6 (v6 (caps:=["above","cut"]) (ix:=[2,0]) rfl rfl) (by decide +kernel) rfl (v9 (QE.wk (g7 g9 ay hr rfl (a8 (qv 0) b6)))) .nil (fun _ _ _=>(g8 F9 G1 (qx hr.units (qv 1) (qv 0)) (qw hr.units (qI hr (qv 2) b7) (qv 0)))))) b6)))))
def zf7(F:Fun K "fraction" "fraction" Mj f fd)(T:Txt mg)(Z:Exs K mg u0 u1 u2 u3)(aP:jo P w K mg base)(bC:Ze P w K mg base)(bJ:Yk P w K mg base)(bK:Ym P w K mg base):FnOk P w K mg base (CX1 P w) 6 f fd ["cut","p"] (spD K mg true w6 2):=
 fnD (k:=5) F sc_fraction rfl rfl fun cdv A outer s H E hr=>
  (c9 (Cv (g7 g9 aP hr rfl (a8 (qI hr (qv 0) b7) (a8 (qv 1) b6))))
   (c9 (sA 2 sc_fraction.nd qJ)
   (c9 (R5 DU rfl (v9 (QE.wk (g7 g9 bJ hr rfl (a8 (qv 0) (a8 (qI hr (qv 1) b7) (a8 (qI hr (qv 1) b7) b6)))))) (g_n (i:=3) sc_fraction.nd rfl (Or.inl rfl))
    (c9 (sA 4 sc_fraction.nd (g7 g9 bC hr rfl (a8 (qv 0) (a8 (qv 3) b6))))
   (c8 (qK hr.units (pw 2) (qv 4) (g8 t0 t7 (qC hr.units (qv 2) (qv 4) b7) b7)))))
   (c8 (i5 (g7 g9 bK hr rfl (a8 (qv 2) b6)))))))
def z9g(F:Fun K "_law_refusal" "_law_refusal" Np f fd)(T:Txt mg)(Z:Exs K mg u0 u1 u2 u3)(au:Eh P w K mg base)(aR:Kv P w K mg base):FnOk P w K mg base (CX1 P w) 7 f fd ["_law_way","_law_cut","_law_p"] (spD K mg true C8 3):=
 fnD (k:=6) F sc__law_refusal rfl rfl fun cdv A outer s H E hr=>
  (c9 (sA 3 sc__law_refusal.nd (u9 b6))
   (c9 (y1z rfl rfl (y5f (tE hr (qv 0) b7 (h8 _)) (Sy (k:=knX) Z.kn aR hr rfl (a8 (qv 1) (a8 (qv 2) b6))) (Sy (k:=knX) Z.kn au hr rfl (a8 (qv 1) (a8 (qv 2) b6))))
    (y5g (tb:=Es) (i:=4) Z.t_FloorError (by decide) rfl sc__law_refusal.nd rfl rfl (fun _=>(c8 (sA 3 sc__law_refusal.nd (u9 (a8 (Gi (tb:=Er) rfl T.isinstance CQ (qv 4) (J7 (v:=.ty "ValueError") rfl T.ValueError PyProof.Rows.Boot.«ValueError» rfl) (.inr ⟨_,rfl,rfl⟩) Z.b_ValueError) (a8 (Gi (tb:=Ef) rfl T.isinstance CQ (qv 4) (Wg (v:=.ref u2) rfl Z.a_NoLine rfl) (.inl ⟨_,rfl,rfl⟩) Z.b_NoLine) (a8 (Gi (tb:=Ej) rfl T.isinstance CQ (qv 4) (Wg (v:=.ref u3) rfl Z.a_TooMany rfl) (.inl ⟨_,rfl,rfl⟩) Z.b_TooMany) b6))))))) y20))
   (c8 (Hz (i:=3)))))
def z86(F:Fun K "_law_fraction" "_law_fraction" Nw f fd)(T:Txt mg)(Z:Exs K mg u0 u1 u2 u3)(aD:My P w K mg base)(bg:Zz P w K mg base)(au:Eh P w K mg base):FnOk P w K mg base (CX1 P w) 7 f fd ["_law_cut","_law_p","_law_row","_law_some"] (spD K mg false Y9 4):=
 fnD (k:=6) F sc__law_fraction rfl rfl fun cdv A outer s H E hr=>
  (c9 (sA 4 sc__law_fraction.nd (g7 g9 au hr rfl (a8 (qv 0) (a8 (qv 1) b6))))
   (c9 (m4 (D9 (C2 (g7 g9 aD hr rfl (a8 (qv 4) (a8 (qL T.len (qv 3)) b6)))))
    (c8 (i5 m5))
    n8)
   (c9 (m4 (tN hr (E8 (Qg rfl) Tj rfl T.sum boot_sum (a8 (QE.wk (Fb (v6 (caps:=[]) (ix:=[]) rfl rfl) (by decide +kernel) rfl rfl (v9 (qv 4)) .nil (fun _ _ _=>(qv 1)))) b6)) (g7 g9 bg hr rfl (a8 (qv 2) (a8 (qI hr (qv 1) b7) (a8 (qI hr (qv 1) b7) b6)))) (h8 _))
    (c8 (i5 m5))
    n8)
   (c9 (R5 DU rfl (v9 (qv 4)) (g_t rfl (J5 (i:=5) sc__law_fraction.nd rfl (Or.inl rfl) (J5 (i:=6) sc__law_fraction.nd rfl (Or.inl rfl) Aq)))
    (c8 (m4 (C2 (E8 (Gu rfl) Jc rfl T.«any» boot_any (a8 (QE.wk (Fb (v6 (caps:=["_law_cut"]) (ix:=[0]) rfl rfl) (by decide +kernel) rfl rfl (So rfl T.zip (a8 (qv 3) (a8 (qv 5) b6))) .nil (fun _ _ _=>(O7 (E1 K7 N1 (qv 1) b7 (h8 _)) (O6 (E1 (Lh hr.units) W5 (qv 0) (qI hr (qv 2) b7) (by with_unfolding_all rfl))))))) b6)))
    (c8 (i5 m5))
    n8)))
   (c8 (i5 m5))))))
def qb(F:Fun K "law" "law" Fv f fd)(T:Txt mg)(Z:Exs K mg u0 u1 u2 u3)(aK:Zp P w K mg base)(br:Zm P w K mg base)(aQ:jm P w K mg base)(ah:Ob P w K mg base)(aD:My P w K mg base)(aW:jf P w K mg base)(aB:jd P w K mg base)(au:Eh P w K mg base)(aR:Kv P w K mg base)(ay:Ee P w K mg base):FnOk P w K mg base (CX1 P w) 8 f fd ["_law_script"] (spD K mg false V6 1):=
 fnD (k:=7) F sc_law rfl rfl fun cdv A outer s H E hr=>
  (c9 (sA 1 sc_law.nd (g7 g9 aK hr rfl (a8 (qv 0) (a8 b7 b6))))
   (c9 (sA 2 sc_law.nd b7)
   (c9 (m4 (tE hr (g8 P4 P7 (g8 Ts Tl (qv 1) b7) b7) b7 (h8 _))
    (c8 (sA 2 sc_law.nd b7))
    n8)
   (c9 (Pz (g7 g9 br hr rfl (a8 (qv 1) (a8 (QE.wk (jO Wd Vn (qv 0) (Fc b7) (Fc (g8 t0 t7 b7 (qv 2))))) b6))) (g_t rfl (J5 (i:=3) sc_law.nd rfl (Or.inl rfl) (J5 (i:=4) sc_law.nd rfl (Or.inl rfl) Aq))))
   (c9 (sA 5 sc_law.nd (qL T.len (qv 3)))
   (c9 (sA 6 sc_law.nd (v4 (a8 (qv 5) (a8 (C1 Y1 Y0 rfl T.tuple FY (a8 (qv 4) b6)) b6))))
   (c9 (sA 7 sc_law.nd (g7 g9 aW hr rfl (a8 (qv 5) (a8 (qv 4) b6))))
   (c9 (sA 8 sc_law.nd (v4 (a8 (g8 F9 G1 (g8 P4 P7 (g7 g9 aK hr rfl (a8 (qv 0) (a8 b7 b6))) (g8 t0 t7 (qv 5) b7)) b7) (a8 (g8 F9 G1 (g8 P4 P7 (g7 g9 aK hr rfl (a8 (qv 0) (a8 b7 b6))) (g8 t0 t7 (qv 5) b7)) b7) b6))))
   (c9 (sA 9 sc_law.nd (g7 g9 ay hr rfl (a8 (qv 6) b6)))
   (c9 (m4 (QW.pt (x8 (D9 (C2 (L9 rfl T.isinstance CQ (qv 9) (J7 (v:=.ty "list") rfl T.list boot_list rfl)))) (x8 (tN hr (qv 9) (qv 7) (h8 _)) (M7 (C2 (E8 (Gu rfl) Jc rfl T.«any» boot_any (a8 (QE.wk (G6 (v6 (caps:=[]) (ix:=[]) rfl rfl) (by decide +kernel) rfl (v9 (qv 9)) .nil (fun _ _ _=>(Cy (g7 Z7 ah hr rfl (a8 (qI hr (qv 0) b7) b6)))))) b6)))))))
    (c8 (i5 m5))
    n8)
   (c9 (m4 (p7 (Lh hr.units) W5 (qv 8) (qv 7) (by with_unfolding_all rfl))
    (c8 (m4 (tN hr (QE.wk (g7 g9 aB hr rfl (a8 b7 (a8 (qv 6) (a8 (qv 8) b6))))) (QE.wk (u9 (a8 m5 (a8 m5 (a8 m5 b6))))) (h8 _))
    (c8 (i5 m5))
    n8))
    n8)
   (c9 (sA 10 sc_law.nd (u9 (a8 (v4 (a8 (C1 Y1 Y0 rfl T.tuple FY (a8 (QE.wk (G6 (v6 (caps:=["_law_p"]) (ix:=[8]) rfl rfl) (by decide +kernel) rfl (v9 (qv 7)) .nil (fun _ _ _=>(C1 Gs Jb rfl T.int boot_int (a8 (E1 (P0 hr.units) O9 (qv 0) (qv 1) (h8 _)) b6))))) b6)) (a8 b7 b6))) b6)))
   (c9 (m4 (QW.pt (W4 (p7 (Gm hr.units) W5 (qv 8) (qv 7) (by with_unfolding_all rfl)) (Ar (QW.pt (x8 (D9 (C2 (g7 g9 aD hr rfl (a8 (QE.wk (g7 g9 aR hr rfl (a8 (qv 6) (a8 (qv 8) b6)))) (a8 (qL T.len (qv 7)) b6))))) (M7 (tN hr (QE.wk (g7 g9 aR hr rfl (a8 (qv 6) (a8 (qv 8) b6)))) (qv 10) (h8 _))))))))
    (c8 (i5 m5))
    n8)
   (c9 (m4 (QW.pt (x8 (p7 K7 N1 (qI hr (qv 8) b7) b7 (h8 _)) (x8 (p7 Os Gn (qI hr (qv 8) b7) (qI hr (qv 8) b7) (h8 _)) (M7 (p7 Os Gn (qI hr (qv 8) b7) (qv 5) (h8 _))))))
    (c8 (i5 (E1 (P0 hr.units) O9 (QE.wk (g7 g9 aB hr rfl (a8 b7 (a8 (qv 6) (a8 (qv 8) b6))))) (QE.wk (u9 (a8 m5 (a8 m5 (a8 m5 b6))))) (h8 _))))
    n8)
   (c9 (m4 (p7 Aa As (qv 5) b7 (h8 _))
    (c8 (i5 (E1 (P0 hr.units) O9 (QE.wk (g7 g9 aB hr rfl (a8 b7 (a8 (qv 6) (a8 (qv 8) b6))))) (QE.wk (u9 (a8 m5 (a8 m5 (a8 m5 b6))))) (h8 _))))
    n8)
   (c9 (m4 (QW.pt (W4 (p7 (Gm hr.units) W5 (qv 8) (qv 7) (by with_unfolding_all rfl)) (Ar (tN hr (QE.wk (g7 g9 au hr rfl (a8 (qv 6) (a8 (qv 8) b6)))) (qv 10) (h8 _)))))
    (c8 (i5 m5))
    n8)
   (c8 (i5 (g7 g9 aQ hr rfl (a8 (qv 6) (a8 (qv 8) (a8 (qv 3) (a8 (qv 7) b6)))))))))))))))))))))))
end
def all_mk{l:PySem.W.OpenLaw}{w:World}{K:Frag}{h:Heap}{mg:Str->Option Value}{fa:Addr}(X:K.In h)(G:h.Ns mainGlobals mg)(mx:mg "law"=some (.ref fa))
  {f0 f1 f2 f3 f4 f5 f6 f7 f8 f9 ua ub uc ud ue uf ug uh ui uj uk ul um uo uq ur ut uu uv uw:Addr}
  {u0 u1 u2 u3:Addr}
  (A0:FnAt K "is_whole" Mo f0)
  (A1:FnAt K "pair" Hj f1)
  (A2:FnAt K "is_side" Lz f2)
  (A3:FnAt K "opposite" Mm f3)
  (A4:FnAt K "corner_behind" Ny f4)
  (A5:FnAt K "carried_on" Nd f5)
  (A6:FnAt K "sum_from" Mk f6)
  (A7:FnAt K "_law_drawn" Nc f7)
  (A8:FnAt K "_law_is_number" Oc f8)
  (A9:FnAt K "_law_grown" Nb f9)
  (A10:FnAt K "_law_number" Nn ua)
  (A11:FnAt K "_law_letters" No ub)
  (A12:FnAt K "is_two" Ky uc)
  (A13:FnAt K "check_corner" Nq ud)
  (A14:FnAt K "letters" Ly ue)
  (A15:FnAt K "room_under" Nf uf)
  (A16:FnAt K "_law_floor" Na ug)
  (A17:FnAt K "_law_kinds" Mz uh)
  (A18:FnAt K "has_pair" Mn ui)
  (A19:FnAt K "rooms" Jr uj)
  (A20:FnAt K "check_corners" Nx uk)
  (A21:FnAt K "check_pair" Ng ul)
  (A22:FnAt K "triangles" Mt um)
  (A23:FnAt K "letter" Kx uo)
  (A24:FnAt K "sharings" Ml uq)
  (A25:FnAt K "powers_of" Ms ur)
  (A26:FnAt K "fraction" Mj ut)
  (A27:FnAt K "_law_refusal" Np uu)
  (A28:FnAt K "_law_fraction" Nw uv)
  (A29:FnAt K "law" Fv uw)
  (T:Txt mg)
  (Z:Exs K mg u0 u1 u2 u3) :
  ∃fd:FuncData,(∀(s:Shared)(v:Value),BindsTo s fd ⟨[v],[]⟩ [("_law_script",v)])/\∀base:Heap,K.In base->base.Ns mainGlobals mg->FnOk l.prog w K mg base (CX1 l.prog w) 8 fa fd ["_law_script"] (spL K false V6 1):=by
 refine qA X G mx A29 (fun _ _ _ _ _ _ _ _=>.of_eq rfl) fun base kb nb fd F=>?_
 have aF:Mi l.prog w K mg base:=got X G A0 fun F=>zf2 F T Z 
 have dh:Rn l.prog w K mg base:=got X G A1 fun F=>wx F T Z 
 have bR:Xm l.prog w K mg base:=got X G A2 fun F=>zhl F T Z 
 have bH:Yn l.prog w K mg base:=got X G A3 fun F=>zf3 F T Z 
 have aO:jt l.prog w K mg base:=got X G A4 fun F=>z84 F T Z 
 have bq:Zq l.prog w K mg base:=got X G A5 fun F=>zbz F T Z 
 have bK:Ym l.prog w K mg base:=got X G A6 fun F=>zf4 F T Z 
 have aK:Zp l.prog w K mg base:=got X G A7 fun F=>zc0 F T Z 
 have ah:Ob l.prog w K mg base:=got X G A8 fun F=>z77 F T Z 
 have bj:Zo l.prog w K mg base:=got X G A9 fun F=>zc1 F T Z 
 have bg:Zz l.prog w K mg base:=got X G A10 fun F=>z9p F T Z 
 have aW:jf l.prog w K mg base:=got X G A11 fun F=>z9e F T Z 
 have bf:Kw l.prog w K mg base:=got X G A12 fun F=>zq F T Z aF
 have aL:je l.prog w K mg base:=got X G A13 fun F=>z9f F T Z aF
 have ay:Ee l.prog w K mg base:=got X G A14 fun F=>zhm F T Z dh
 have bo:Zn l.prog w K mg base:=got X G A15 fun F=>zc2 F T Z aO
 have br:Zm l.prog w K mg base:=got X G A16 fun F=>zc3 F T Z bj
 have aD:My l.prog w K mg base:=got X G A17 fun F=>zc4 F T Z ah
 have bG:Yl l.prog w K mg base:=got X G A18 fun F=>zf5 F T Z bR bf
 have cC:Um l.prog w K mg base:=got X G A19 fun F=>yl F T Z bo
 have aP:jo l.prog w K mg base:=got X G A20 fun F=>z85 F T Z bf
 have bp:Zl l.prog w K mg base:=got X G A21 fun F=>zc5 F T Z bG
 have aG:Mr l.prog w K mg base:=got X G A22 fun F=>zdm F T Z cC
 have aR:Kv l.prog w K mg base:=got X G A23 fun F=>zp F T Z bp ay
 have bJ:Yk l.prog w K mg base:=got X G A24 fun F=>zf6 F T Z bq aL aG
 have bC:Ze l.prog w K mg base:=got X G A25 fun F=>zdn F T Z ay bH aG
 have au:Eh l.prog w K mg base:=got X G A26 fun F=>zf7 F T Z aP bC bJ bK
 have aB:jd l.prog w K mg base:=got X G A27 fun F=>z9g F T Z au aR
 have aQ:jm l.prog w K mg base:=got X G A28 fun F=>z86 F T Z aD bg au
 exact(qb F T Z aK br aQ ah aD aW aB au aR ay).imp fun _ _ _ _ z=>z.spD
abbrev kO(n:String)(t1:Nat)(q:String)(t2 t3:Nat)(a b c d e:Int)(r1:Nat)(g:Int)(r2 r3 r4 r5:Nat)(k l:Int)(t4:Nat):Obj:=⟨.type "code",none,.fields [vs n t1,vs q t2,vs "/claim/cut.py" t3,.int a 0,.int b 0,.int c 0,.int d 0,.int e 0,.ref r1,.bool true,.int g 0,.ref r2,.none,.ref r3,.ref r4,.ref r5,.int k 0,.int l 0,vs "/claim/cut.py" t4].toArray,#[]⟩
abbrev kCo(n:String)(t1:Nat)(q:String)(t2 t3:Nat)(a b c d e:Int)(r1:Nat)(g:Int)(r2 r5:Nat)(k l:Int)(t4:Nat):Obj:=⟨.type "code",none,.fields [vs n t1,vs q t2,vs "/claim/cut.py" t3,.int a 0,.int b 0,.int c 0,.int d 0,.int e 0,.ref r1,.bool true,.int g 0,.ref r2,.none,.none,.none,.ref r5,.int k 0,.int l 0,vs "/claim/cut.py" t4].toArray,#[]⟩
abbrev fO(i:Nat)(n m:String)(t r:Nat):Obj:=oF (top i) n n .none .none .none (vs m t) none (.ref r) .none
abbrev cO(n:String)(b a ns r t1 t2:Nat):Obj:=⟨.type "type",none,.cls { name:=Str.ofString n,bases:=[.ref b],mro:=[.ref a,.ref b,.type "ValueError",.type "Exception",.type "BaseException",.type "object"],ns:=ns,qualname:=Str.ofString n,hasDict:=true,slotNames:=[],subclasses:=[],abstract:=false,collection:=none,hasDel:=false },#[some (.ref r),none,some (vs n t1),some (vs n t2),some (.builtin "ValueError.__new__"),some (.bool true)]⟩
noncomputable def K:Params->Frag:=fun P=>
 (nat_lit 2,⟨.none,none,(.dict [].toArray 0),#[]⟩) ::
 (nat_lit 3,oD [en P "__name__" 165 (vs "law_friezeyard_k65_letters_and_fractions" 414),en P "__doc__" 166 .none,en P "__package__" 167 .none,en P "__loader__" 168 (.builtin "__main__.__loader__#opaque"),en P "__spec__" 169 .none,en P "__annotations__" 170 (.ref 6),en P "__builtins__" 171 (.ref 4),en P "__file__" 173 (vs "/claim/cut.py" 172),en P "__cached__" 174 .none,en P "FloorError" 206 (.ref 24),en P "NoLine" 222 (.ref 37),en P "NoCorner" 238 (.ref 49),en P "TooMany" 254 (.ref 61),en P "is_whole" 263 (.ref 70),en P "pair" 271 (.ref 77),en P "is_side" 281 (.ref 84),en P "is_two" 290 (.ref 91),en P "has_pair" 298 (.ref 98),en P "check_pair" 306 (.ref 105),en P "check_corner" 314 (.ref 112),en P "opposite" 320 (.ref 117),en P "letters" 328 (.ref 122),en P "letter" 334 (.ref 127),en P "rooms" 342 (.ref 132),en P "room_under" 351 (.ref 139),en P "corner_behind" 357 (.ref 144),en P "triangles" 364 (.ref 151),en P "sharings" 372 (.ref 156),en P "carried_on" 378 (.ref 161),en P "sum_from" 386 (.ref 166),en P "fraction" 399 (.ref 173),en P "check_corners" 407 (.ref 180),en P "powers_of" 413 (.ref 185),en P "_law_drawn" 423 (.ref 192),en P "_law_is_number" 430 (.ref 199),en P "_law_grown" 436 (.ref 204),en P "_law_floor" 449 (.ref 211),en P "_law_number" 460 (.ref 218),en P "_law_refusal" 471 (.ref 225),en P "_law_kinds" 477 (.ref 230),en P "_law_letters" 483 (.ref 235),en P "_law_fraction" 489 (.ref 240),en P "law" 495 (.ref 245)] 43) ::
 (nat_lit 15,oT [(.type "ValueError")]) ::
 (nat_lit 22,oT []) ::
 (nat_lit 23,oD [en P "__module__" 196 (vs "friezeyard.errors" 187),en P "__firstlineno__" 200 (.int 2 199),en P "__static_attributes__" 201 (.ref 22),en P "__weakref__" 203 (.ref 25),en P "__doc__" 204 .none] 3) ::
 (nat_lit 24,⟨(.type "type"),none,(.cls { name:=Str.ofString "FloorError",bases:=[(.type "ValueError")],mro:=[(.ref 24),(.type "ValueError"),(.type "Exception"),(.type "BaseException"),(.type "object")],ns:=23,qualname:=Str.ofString "FloorError",hasDict:=true,slotNames:=[],subclasses:=[(.ref 37),(.ref 49),(.ref 61)],abstract:=false,collection:=none,hasDel:=false }),#[some (.ref 15),none,some (vs "FloorError" 189),some (vs "FloorError" 197),some (.builtin "ValueError.__new__"),some (.bool true)]⟩) ::
 (nat_lit 25,⟨(.type "getset_descriptor"),none,(.fields [(vs "__weakref__" 202),(.ref 24),(.builtin "ExceptionGroup.__weakref__"),.none].toArray),#[]⟩) ::
 (nat_lit 28,oT [(.ref 24)]) ::
 (nat_lit 35,oT []) ::
 (nat_lit 36,oD [en P "__module__" 214 (vs "friezeyard.errors" 187),en P "__firstlineno__" 218 (.int 4 217),en P "__static_attributes__" 219 (.ref 35),en P "__doc__" 220 .none] 2) ::
 (nat_lit 37,(cO "NoLine" 24 37 36 28 207 215)) ::
 (nat_lit 40,oT [(.ref 24)]) ::
 (nat_lit 47,oT []) ::
 (nat_lit 48,oD [en P "__module__" 230 (vs "friezeyard.errors" 187),en P "__firstlineno__" 234 (.int 6 233),en P "__static_attributes__" 235 (.ref 47),en P "__doc__" 236 .none] 2) ::
 (nat_lit 49,(cO "NoCorner" 24 49 48 40 223 231)) ::
 (nat_lit 52,oT [(.ref 24)]) ::
 (nat_lit 59,oT []) ::
 (nat_lit 60,oD [en P "__module__" 246 (vs "friezeyard.errors" 187),en P "__firstlineno__" 250 (.int 8 249),en P "__static_attributes__" 251 (.ref 59),en P "__doc__" 252 .none] 2) ::
 (nat_lit 61,(cO "TooMany" 24 61 60 52 239 247)) ::
 (nat_lit 64,oT []) ::
 (nat_lit 66,oT [(vs "thing" 260)]) ::
 (nat_lit 67,oT []) ::
 (nat_lit 69,(kO "is_whole" 257 "is_whole" 258 259 11 1 0 0 3 64 181 65 66 67 68 261 11 262)) ::
 (nat_lit 70,(fO 6 "is_whole" "friezeyard.pairs" 255 69)) ::
 (nat_lit 71,oT []) ::
 (nat_lit 73,oT [(vs "a" 267),(vs "b" 268)]) ::
 (nat_lit 74,oT []) ::
 (nat_lit 76,(kO "pair" 264 "pair" 265 266 13 2 0 0 3 71 181 72 73 74 75 269 13 270)) ::
 (nat_lit 77,(fO 7 "pair" "friezeyard.pairs" 255 76)) ::
 (nat_lit 78,oT []) ::
 (nat_lit 80,oT [(vs "n" 275),(vs "p" 276),(vs "a" 277),(vs "b" 278)]) ::
 (nat_lit 81,oT []) ::
 (nat_lit 83,(kO "is_side" 272 "is_side" 273 274 15 2 0 0 3 78 181 79 80 81 82 279 15 280)) ::
 (nat_lit 84,(fO 8 "is_side" "friezeyard.pairs" 255 83)) ::
 (nat_lit 85,oT []) ::
 (nat_lit 87,oT [(vs "thing" 287)]) ::
 (nat_lit 88,oT []) ::
 (nat_lit 90,(kO "is_two" 284 "is_two" 285 286 22 1 0 0 3 85 181 86 87 88 89 288 22 289)) ::
 (nat_lit 91,(fO 10 "is_two" "friezeyard.common" 282 90)) ::
 (nat_lit 92,oT []) ::
 (nat_lit 94,oT [(vs "cut" 294),(vs "p" 295)]) ::
 (nat_lit 95,oT []) ::
 (nat_lit 97,(kO "has_pair" 291 "has_pair" 292 293 24 2 0 0 3 92 181 93 94 95 96 296 24 297)) ::
 (nat_lit 98,(fO 11 "has_pair" "friezeyard.common" 282 97)) ::
 (nat_lit 99,oT []) ::
 (nat_lit 101,oT [(vs "cut" 302),(vs "p" 303)]) ::
 (nat_lit 102,oT []) ::
 (nat_lit 104,(kO "check_pair" 299 "check_pair" 300 301 26 2 0 0 3 99 181 100 101 102 103 304 26 305)) ::
 (nat_lit 105,(fO 12 "check_pair" "friezeyard.common" 282 104)) ::
 (nat_lit 106,oT []) ::
 (nat_lit 108,oT [(vs "n" 310),(vs "thing" 311)]) ::
 (nat_lit 109,oT []) ::
 (nat_lit 111,(kO "check_corner" 307 "check_corner" 308 309 29 2 0 0 3 106 181 107 108 109 110 312 29 313)) ::
 (nat_lit 112,(fO 13 "check_corner" "friezeyard.common" 282 111)) ::
 (nat_lit 113,oT []) ::
 (nat_lit 116,(kCo "opposite" 315 "opposite" 316 317 32 2 0 0 3 113 181 114 115 318 32 319)) ::
 (nat_lit 117,(fO 14 "opposite" "friezeyard.common" 282 116)) ::
 (nat_lit 118,oT []) ::
 (nat_lit 121,(kCo "letters" 323 "letters" 324 325 35 1 0 0 3 118 181 119 120 326 35 327)) ::
 (nat_lit 122,(fO 16 "letters" "friezeyard.letters" 321 121)) ::
 (nat_lit 123,oT []) ::
 (nat_lit 126,(kCo "letter" 329 "letter" 330 331 39 2 0 0 3 123 181 124 125 332 39 333)) ::
 (nat_lit 127,(fO 17 "letter" "friezeyard.letters" 321 126)) ::
 (nat_lit 128,oT []) ::
 (nat_lit 131,(kCo "rooms" 337 "rooms" 338 339 43 2 0 0 3 128 181 129 130 340 43 341)) ::
 (nat_lit 132,(fO 19 "rooms" "friezeyard.rooms" 335 131)) ::
 (nat_lit 133,oT []) ::
 (nat_lit 135,oT [(vs "top" 346),(vs "lines" 347),(vs "room" 348)]) ::
 (nat_lit 136,oT []) ::
 (nat_lit 138,(kO "room_under" 343 "room_under" 344 345 46 2 0 0 3 133 181 134 135 136 137 349 46 350)) ::
 (nat_lit 139,(fO 20 "room_under" "friezeyard.rooms" 335 138)) ::
 (nat_lit 140,oT []) ::
 (nat_lit 143,(kCo "corner_behind" 352 "corner_behind" 353 354 51 3 0 0 3 140 181 141 142 355 51 356)) ::
 (nat_lit 144,(fO 21 "corner_behind" "friezeyard.rooms" 335 143)) ::
 (nat_lit 145,oT []) ::
 (nat_lit 147,oT [(vs "cut" 361)]) ::
 (nat_lit 148,oT []) ::
 (nat_lit 150,(kO "triangles" 358 "triangles" 359 360 54 1 0 0 3 145 181 146 147 148 149 362 54 363)) ::
 (nat_lit 151,(fO 22 "triangles" "friezeyard.rooms" 335 150)) ::
 (nat_lit 152,oT []) ::
 (nat_lit 155,(kCo "sharings" 367 "sharings" 368 369 57 3 0 0 3 152 181 153 154 370 57 371)) ::
 (nat_lit 156,(fO 24 "sharings" "friezeyard.sharings" 365 155)) ::
 (nat_lit 157,oT []) ::
 (nat_lit 160,(kCo "carried_on" 373 "carried_on" 374 375 68 2 0 0 3 157 181 158 159 376 68 377)) ::
 (nat_lit 161,(fO 25 "carried_on" "friezeyard.sharings" 365 160)) ::
 (nat_lit 162,oT []) ::
 (nat_lit 165,(kCo "sum_from" 381 "sum_from" 382 383 74 1 0 0 3 162 181 163 164 384 74 385)) ::
 (nat_lit 166,(fO 27 "sum_from" "friezeyard.sums" 379 165)) ::
 (nat_lit 167,oT []) ::
 (nat_lit 169,oT [(vs "cut" 392),(vs "p" 393),(vs "found" 394),(vs "given" 395),(vs "powers" 396)]) ::
 (nat_lit 170,oT []) ::
 (nat_lit 172,(kO "fraction" 389 "fraction" 390 391 77 2 0 0 3 167 181 168 169 170 171 397 77 398)) ::
 (nat_lit 173,(fO 29 "fraction" "friezeyard.fractions" 387 172)) ::
 (nat_lit 174,oT []) ::
 (nat_lit 176,oT [(vs "n" 403),(vs "p" 404)]) ::
 (nat_lit 177,oT []) ::
 (nat_lit 179,(kO "check_corners" 400 "check_corners" 401 402 84 2 0 0 3 174 181 175 176 177 178 405 84 406)) ::
 (nat_lit 180,(fO 30 "check_corners" "friezeyard.fractions" 387 179)) ::
 (nat_lit 181,oT []) ::
 (nat_lit 184,(kCo "powers_of" 408 "powers_of" 409 410 87 2 0 0 3 181 181 182 183 411 87 412)) ::
 (nat_lit 185,(fO 31 "powers_of" "friezeyard.fractions" 387 184)) ::
 (nat_lit 186,oT []) ::
 (nat_lit 188,oT [(vs "_law_script" 419),(vs "_law_at" 420)]) ::
 (nat_lit 189,oT []) ::
 (nat_lit 191,(kO "_law_drawn" 416 "_law_drawn" 417 418 91 2 0 0 3 186 181 187 188 189 190 421 91 422)) ::
 (nat_lit 192,(fO 33 "_law_drawn" "law_friezeyard_k65_letters_and_fractions" 414 191)) ::
 (nat_lit 193,oT []) ::
 (nat_lit 195,oT [(vs "_law_found" 427)]) ::
 (nat_lit 196,oT []) ::
 (nat_lit 198,(kO "_law_is_number" 424 "_law_is_number" 425 426 93 1 0 0 3 193 181 194 195 196 197 428 93 429)) ::
 (nat_lit 199,(fO 34 "_law_is_number" "law_friezeyard_k65_letters_and_fractions" 414 198)) ::
 (nat_lit 200,oT []) ::
 (nat_lit 203,(kCo "_law_grown" 431 "_law_grown" 432 433 95 3 0 0 3 200 181 201 202 434 95 435)) ::
 (nat_lit 204,(fO 35 "_law_grown" "law_friezeyard_k65_letters_and_fractions" 414 203)) ::
 (nat_lit 205,oT []) ::
 (nat_lit 207,oT [(vs "_law_way" 440),(vs "_law_cells" 441),(vs "_law_row" 442),(vs "_law_lines" 443),(vs "_law_k" 444),(vs "_law_cell" 445),(vs "_law_at" 446)]) ::
 (nat_lit 208,oT []) ::
 (nat_lit 210,(kO "_law_floor" 437 "_law_floor" 438 439 107 2 0 0 3 205 181 206 207 208 209 447 107 448)) ::
 (nat_lit 211,(fO 36 "_law_floor" "law_friezeyard_k65_letters_and_fractions" 414 210)) ::
 (nat_lit 212,oT []) ::
 (nat_lit 214,oT [(vs "_law_row" 453),(vs "_law_a" 454),(vs "_law_b" 455),(vs "_law_some" 456),(vs "_law_at" 457)]) ::
 (nat_lit 215,oT []) ::
 (nat_lit 217,(kO "_law_number" 450 "_law_number" 451 452 116 3 0 0 3 212 181 213 214 215 216 458 116 459)) ::
 (nat_lit 218,(fO 37 "_law_number" "law_friezeyard_k65_letters_and_fractions" 414 217)) ::
 (nat_lit 219,oT []) ::
 (nat_lit 221,oT [(vs "_law_way" 464),(vs "_law_cut" 465),(vs "_law_p" 466),(vs "_law_told" 467),(vs "e" 468)]) ::
 (nat_lit 222,oT []) ::
 (nat_lit 224,(kO "_law_refusal" 461 "_law_refusal" 462 463 121 3 0 0 3 219 181 220 221 222 223 469 121 470)) ::
 (nat_lit 225,(fO 38 "_law_refusal" "law_friezeyard_k65_letters_and_fractions" 414 224)) ::
 (nat_lit 226,oT []) ::
 (nat_lit 229,(kCo "_law_kinds" 472 "_law_kinds" 473 474 131 2 0 0 3 226 181 227 228 475 131 476)) ::
 (nat_lit 230,(fO 39 "_law_kinds" "law_friezeyard_k65_letters_and_fractions" 414 229)) ::
 (nat_lit 231,oT []) ::
 (nat_lit 234,(kCo "_law_letters" 478 "_law_letters" 479 480 142 2 0 0 3 231 181 232 233 481 142 482)) ::
 (nat_lit 235,(fO 40 "_law_letters" "law_friezeyard_k65_letters_and_fractions" 414 234)) ::
 (nat_lit 236,oT []) ::
 (nat_lit 239,(kCo "_law_fraction" 484 "_law_fraction" 485 486 144 4 0 0 3 236 181 237 238 487 144 488)) ::
 (nat_lit 240,(fO 41 "_law_fraction" "law_friezeyard_k65_letters_and_fractions" 414 239)) ::
 (nat_lit 241,oT []) ::
 (nat_lit 244,(kCo "law" 490 "law" 491 492 154 1 0 0 3 241 181 242 243 493 154 494)) ::
 (nat_lit 245,(fO 42 "law" "law_friezeyard_k65_letters_and_fractions" 414 244))::[]
noncomputable def places:List Addr:=[2,3,15,22,23,24,25,28,35,36,37,40,47,48,49,52,59,60,61,64,66,67,69,70,71,73,74,76,77,78,80,81,83,84,85,87,88,90,91,92,94,95,97,98,99,101,102,104,105,106,108,109,111,112,113,116,117,118,121,122,123,126,127,128,131,132,133,135,136,138,139,140,143,144,145,147,148,150,151,152,155,156,157,160,161,162,165,166,167,169,170,172,173,174,176,177,179,180,181,184,185,186,188,189,191,192,193,195,196,198,199,200,203,204,205,207,208,210,211,212,214,215,217,218,219,221,222,224,225,226,229,230,231,234,235,236,239,240,241,244,245]
def yk:∀P,places=(K P).map (·.1):=fun _=>by kernel_rfl
def hook:PySem.W.Hook:=PySem.W.kHook K places yk
noncomputable def q:Program:=PySem.W.view PySem.Challenge.pw_friezeyard_k65_letters_and_fractions [1,2,3,4,6,7,8,10,11,12,13,14,16,17,19,20,21,22,24,25,27,29,30,31,33,34,35,36,37,38,39,40,41,42]
def xtH(s:Shared):Bool:=PySem.W.xlAt q [] s&&PySem.W.recOk (PySem.W.RowW.records PySem.Challenge.rw_friezeyard_k65_letters_and_fractions.row.toRowW) s
def out(w:World)(os:OsState):=outAt PySem.Challenge.pw_friezeyard_k65_letters_and_fractions q [] xtH (fun s=>places.map s.heap.get?) 3652 w os
def good:=PySem.W.openGood q []
example:((fun (_:Params->Obj)(_:Str)=>true) PySem.W.boot_o_0 (Str.ofString "dull"))=true:=by k_qdec
lay_quick out good
def qa:∀w os,out w os=some (true,good,(K w.params).map fun p=>some p.2):=fun w os=>(congrFun (congrFun PySem.W.Fast.te9351976280483502838 w) os).trans (by rw[PySem.W.Fast.te5972148137778301670];kernel_rfl)
theorem left:PySem.W.LeftO PySem.Challenge.pw_friezeyard_k65_letters_and_fractions q [] xtH (PySem.W.Hook.obs hook) (PySem.W.Hook.val hook) 3652:=wC (by kernel_rfl) (by kernel_rfl) (fun _=>by kernel_rfl) qa
end K65
set_option maxHeartbeats 400000
namespace K65
open L2 Bd Cu
local macro_rules | `(tactic|walk_at "dz")=>do
 let a:=("M9,ya,qS,xY,Vf,W8,sNx,V5,F1,y2u,R4,D6,p9,P9,zx7,zx8,zse,xZ,zwz,zx0,zx1,zsc,zx2,zx3,zx4,zx5,zsd,zsf,Jj,y26,y27,y28,Hg,Hf,zx9,Ji,Lf,zsg,zxa,zxt,y2k,y2l,y2m,zxu,zsk,zn7,Yj,Eg,zxm,zxb,Ve,Bf,zsh,Xg,R1,Jk,Option.bind_some,Bool.and_true,Bool.true_and,y29,y2a,y2b,y2c,y5i,y5j,eC,eOp,eUn,a9,a7,c6,eCB,m7,l8,eIf,eSl,oSo,oNo,F4,bOr,u6,b8,F3,eOr,Ab,Aw,X2,i4,iL,zso,zsp,zsj,L2.R.bind_ok,L2.R.of_some,o9,v8,E9,dLe,R0,dGe,y2d,V4,y2e,zp4,zxc,zxd,xX,zxe,Jh,xW,xV,zxf,y2g,zxn,y2j,y2q,zxz,zy0,zss,zn9,zxr,qQ,y1w,y2r,y2s,znb,X1,y2f,zxg,zxh,zsi,zxi,zxj,zxk,zxl,Vb,List.map_cons,List.map_nil,List.length_cons,List.length_nil,List.cons_append,List.nil_append,List.replicate_succ,List.replicate_zero,List.getElem?_cons_zero,List.getElem?_cons_succ,List.set_cons_zero,List.set_cons_succ,Option.map_some,Option.getD_some,if_true,if_false,Bool.false_eq_true,Bool.not_true,Bool.not_false,Bool.and_false,Bool.false_and,Bool.or_true,Bool.true_or,Bool.or_false,Bool.false_or,Nat.reduceAdd,Nat.reduceLeDiff,Nat.reduceEqDiff,reduceCtorEq,decide_true,decide_false,Int.reduceEq".splitOn ",").toArray.map fun s=>Lean.mkIdent s.toName
 `(tactic|try simp (implicitDefEqProofs:=false) only [$[$a:term],*])
def Wn{α:Type}(ls:List α)(f:α->D)(n:Nat)(hn:n<=20)(h1:∀x,(f x).oi=true)(h2:∀x,(f x).dep<=n)(h3:∀x y,(d7 (f x) (f y)).isSome=true)(h4:((ls.map f).all isI||(ls.map f).all K2||(ls.map f).all O2)=true):x3 [.lst (ls.map f)]=some (.lst (u8 (ls.map f))):=by
 have ok:S5 (ls.map f)=true:=by unfold S5;rw[G0 _ _ h1,decide_eq_true (sg (G3 ls f n h2) hn),R9 ls f (fun d=>(ls.map f).all fun e=>(d7 d e).isSome) (fun x=>R9 _ _ _ fun y=>h3 x y),h4];rfl
 simp only[x3,ok,CI]
def zo(ls:List P3)(_:ls.length<64):x3 [.lst (ls.map T3)]=some (.lst ((so3 ls).map T3)):=by rw[Wn ls T3 1 (by decide) Ad qP qN (by rw[R9 ls T3 K2 fun _=>rfl,Bool.or_true,Bool.true_or]),Ba]
def drw(ns:List Int)(k:Int):Int:=(D2 ns (some k) (some (k+1))).sum
def Jq(ns:List Int)(k:Int):T7 [.scr ns,.int k]=.ok (.int (drw ns k)):=by unfold T7 Zv drw;walk_at "dz"
structure Flr(row:List Int)(ls:List P2)(T:List P3)(v:Nat->Vc):Prop where
 good:Good row v
 inv:CInv (row.length:Int) ls T
 rw':Rw row T
 len:ls.length+3=row.length
def y5o:Flr [1,1,1] [] [(0,1,2)] v3:=⟨y34,y5n,rw3,rfl⟩
def Flr.grow(F:Flr row ls T v)(c:Nat)(hc:c<row.length) :
  Flr (B9 row c) (ls.map (sh2 (c:Int))++[i6 (row.length:Int) (c:Int)]) (T.map (sh3 (c:Int))++[e9 (row.length:Int) (c:Int)]) (gV row.length c v):=by
 have hl:=Y4 row c hc
 refine⟨F.good.grow c hc,?_,F.rw'.grow c hc F.good.len,?_⟩
 . have:=F.inv.grow (c:Int) (by lia) (by lia);rw[hl];exact this
 . rw[hl,θ,bI,EQ];have:=F.len;lia
def jB(c x:Int):x+(if decide (c<x)=true then 1 else 0)=sh c x:=by
 unfold sh;by_cases h:c<x
 . rw[decide_eq_true h,ξ rfl,ξ h]
 . rw[decide_eq_false h,ψ η,ψ h];lia
def i3(h:a ρ=.nx ρ'):b9 a r ρ=r ρ':=by rw[ya,h,xZ]
def ww(row:List Int)(ls:List P2)(c:Int)(h0:0<=c)(h1:c<row.length)(h3:row.length<1000)(hl:ls.length<1000) :
  Y8 [L row,.lst (ls.map T2),.int c]=.ok (.tup [L (B9 row c.toNat),.lst ((ls.map (sh2 c)++[i6 (row.length:Int) c]).map T2)]):=by
 have ph:0<=(c+1) % (row.length:Int):=Int.emod_nonneg _ (by lia)
 have oQ:(c+1) % (row.length:Int)<row.length:=Int.emod_lt_of_pos _ (by lia)
 have gO:((c+1) % (row.length:Int)).toNat=(c.toNat+1) % row.length:=by
  have:c+1=((c.toNat+1:Nat):Int):=by lia
  rw[this];rfl
 have s2:∀(ρ:DS),ρ=[.im (L row),.im (.lst (ls.map T2)),.im (.int c),.im (.int (row.length:Int)),.em,.em] ->
   e8 true 4 [false,true,true] (i4 (iL (a6 1)) (bT 2) [2] k7 Nu) ρ=.nx [.im (L row),.im (.lst (ls.map T2)),.im (.int c),.im (.int (row.length:Int)),.ow (.lst ((ls.map (sh2 c)).map T2)),.em]:=fun ρ ux=>by
  subst ux
  walk_at "dz"
  rw[ξ (by rw[bI];lia),E7 (en:=T2) (bs:=fun q=>[D.int q.1,D.int q.2]) (g:=fun q=>T2 (sh2 c q)) ls (fun x _=>rfl) (fun q _=>by unfold Nu;walk_at "dz";rw[jB,jB];rfl)]
  simp only[R.bind_ok]
  rw[show ls.map (fun q=>T2 (sh2 c q))=(ls.map (sh2 c)).map T2 by rw[BI];rfl]
  generalize ls.map (sh2 c)=aw
  walk_at "dz"
 have s3:∀(aw:List P2),aw.length<1000->sIf (b8 asB (eOp dEq (a6 2) (eOp v8 (a6 3) (eC (.int 1)))))
   (F1 "list" D1 4 [false,false,true] (a7 (m7 (a7 (eC (.int 0)) (a7 (a6 2) a9))) a9))
   (F1 "list" D1 4 [false,false,true] (a7 (m7 (a7 (a6 2) (a7 (eOp o9 (a6 2) (eC (.int 2))) a9))) a9))
   [.im (L row),.im (.lst (ls.map T2)),.im (.int c),.im (.int (row.length:Int)),.ow (.lst (aw.map T2)),.em]=.nx [.im (L row),.im (.lst (ls.map T2)),.im (.int c),.im (.int (row.length:Int)),.ow (.lst ((aw++[i6 (row.length:Int) c]).map T2)),.em]:=fun aw cX=>by
  walk_at "dz"
  by_cases q:c=(row.length:Int) - 1
  . rw[decide_eq_true q];walk_at "dz";rw[Su (by lia)];walk_at "dz";unfold i6;rw[ξ q]
  . rw[decide_eq_false q];walk_at "dz";rw[Su (by lia)];walk_at "dz";unfold i6;rw[ψ q]
 have s1:e8 false 3 [true] (eCB t8 (a7 (a6 0) a9)) [.im (L row),.im (.lst (ls.map T2)),.im (.int c),.em,.em,.em]=.nx [.im (L row),.im (.lst (ls.map T2)),.im (.int c),.im (.int (row.length:Int)),.em,.em]:=by walk_at "dz"
 unfold Y8
 rw[M9,ξ (show [L row,D.lst (ls.map T2),D.int c].length=3 from rfl)]
 show SR.out false (Nk [.im (L row),.im (.lst (ls.map T2)),.im (.int c),.em,.em,.em])=_
 unfold Nk
 rw[i3 s1,i3 (s2 _ rfl),i3 (s3 _ (by rw[bI];exact hl))]
 generalize (ls.map (sh2 c)++[i6 (row.length:Int) c])=xs
 walk_at "dz"
 rw[Of h0 (by lia)]
 walk_at "dz"
 rw[Pu h0 h1]
 walk_at "dz"
 rw[L7 (by lia)]
 walk_at "dz"
 rw[Of ph (by rw[BX];lia)]
 walk_at "dz"
 rw[L7 (by lia)]
 walk_at "dz"
 rw[Pu ph (by rw[BX];lia)]
 walk_at "dz"
 rw[y2i (by lia) (by rw[BX,BX];lia) (by rw[BX,BX];lia)]
 walk_at "dz"
 rw[show(c+1).toNat=c.toNat+1 by lia,gO];rfl
def own(b:Bool)(d:D):Sl:=if b then .ow d else .im d
def Jp(b:Bool)(d:D):Sl.see true (own b d)=some d:=by cases b<;>rfl
def kZ(d:Int)(ns:List Int):W1 [L ns,.int d]=some (.int (mxD d ns)):=by simp only[L,W1,Ek,BL]
def yj(c:Int)(p:P2)(ls:List P2)(hl:ls.length<=1000):Cd [.int c,T2 p,.tup (ls.map T2)]=.ok (.int (mxD (c+1) (ends c p ls))):=by
 unfold Cd ju;walk_at "dz";rw[ξ (by rw[bI];lia),Bq (en:=T2) (bs:=fun l=>[T2 l]) (p:=pk c p) (g:=fun l=>D.int l.2) ls (fun x _=>rfl) (fun l _=>by
  unfold jy;simp only[T2];walk_at "dz";rfl) (fun l _ _=>by
  unfold jx;simp only[T2];walk_at "dz")]
 simp only[R.bind_ok];rw[show D.lst ((ls.filter (pk c p)).map fun l=>D.int l.2)=L (ends c p ls) by unfold L ends;rw[BI];rfl];walk_at "dz";rw[kZ];walk_at "dz"
def Ku(t:DE->R Bool)(g:DS->SR)(n:Nat)(ρ:DS):N3 t g (n+1) ρ=(t (see ρ)).toS fun b=>if b=true then(g ρ).itr (N3 t g n) else .nx ρ:=by rw[N3];congr 1
def Rm(xs:List Int)(v:Int):dIx (L (xs++[v])) (.int (-1))=some (.int v):=by
 have:(xs++[v]).map D.int=xs.map D.int++[D.int v]:=by simp
 simp only[L,dIx,dOr,D3,this,zb]
def Jo(ls:List P2)(p:P2)(xs:List Int)(v:Int):Ew [some (T2 p),some (.tup (ls.map T2)),some (L (xs++[v]))]=.ok (decide (v<p.2)):=by unfold Ew;simp only[T2];walk_at "dz";rw[Rm];walk_at "dz"
def Ul(ls:List P2)(hl:ls.length<=1000)(p:P2)(xs:List Int)(v:Int)(hx:xs.length<1000):Ev [.im (T2 p),.im (.tup (ls.map T2)),.ow (L (xs++[v]))]=.nx [.im (T2 p),.im (.tup (ls.map T2)),.ow (L (xs++[v]++[mxD (v+1) (ends v p ls)]))]:=by unfold Ev;walk_at "dz";rw[Rm];walk_at "dz";rw[yj _ _ _ hl];walk_at "dz";rw[Pv (by simp;lia)];walk_at "dz"
def wv{n:Int}{ls aw:List P2}{T:List P3}(I:CInv n ls T)(p:aw.Perm ls)(hl:aw.length<=1000)(a c b:Int)(h:(a,c,b)∈T) :
  By [T2 (a,b),.tup (aw.map T2)]=.ok (T3 (a,c,b)):=by
 obtain⟨g1,g2,g3,g4,_⟩:=I.tri a c b h
 unfold By Zu
 walk_at "dz"
 have w:At 1000 Ew Ev [.im (T2 (a,b)),.im (.tup (aw.map T2)),.ow (L [a])]=.nx [.im (T2 (a,b)),.im (.tup (aw.map T2)),.ow (L [a,c,b])]:=by have t1:=Jo aw (a,b) [] a;have t2:=Jo aw (a,b) [a] c;have t3:=Jo aw (a,b) [a,c] b;have b1:=Ul aw hl (a,b) [] a (by simp);have b2:=Ul aw hl (a,b) [a] c (by simp);rw[I.beh1 p h]at b1;rw[I.beh2 p h]at b2;simp only[EM,CC]at t1 t2 t3 b1 b2;unfold At;rw[show(1000:Nat)=997+1+1+1 from rfl,Ku];simp only[Hf,Ji,Lf,Hg];rw[t1,P9,decide_eq_true (show a<b by lia),ξ rfl,b1,Vb,Ku];simp only[Hf,Ji,Lf,Hg];rw[t2,P9,decide_eq_true (show c<b by lia),ξ rfl,b2,Vb,Ku];simp only[Hf,Ji,Lf,Hg];rw[t3,P9,decide_eq_false (show ¬b<b by lia),ψ η]
 rw[show D.lst [D.int a]=L [a] from rfl,w]
 walk_at "dz"
 rfl
def wu{n:Int}{ls aw:List P2}{T:List P3}(I:CInv n ls T)(p:aw.Perm ls)(hl:ls.length<=60) :
  Ax [.int n,.tup (aw.map T2)]=.ok (.lst ((so3 T).map T3)):=by
 have cX:aw.length<=60:=by rw[p.length_eq];exact hl
 unfold Ax Uo
 walk_at "dz"
 rw[show B7 (D.lst [D.tup [D.int 0,D.int (n - 1)]]) (D.lst (aw.map T2))=some (.lst (((0,n - 1)::aw).map T2)) by simp only[B7];rw[ξ (by simp;lia)];rfl]
 obtain⟨tops,ht⟩:∃tops:List P2,tops=(0,n - 1)::aw:=⟨_,rfl⟩
 have aJ:tops.length<=61:=by rw[ht,io];lia
 rw[<-ht]
 have kp:keeps true (D.lst (tops.map T2))=true:=by rw[Eg];exact C7 _ _ fun x _=>X1 x
 simp only[R.of_some,P9,kp]
 walk_at "dz"
 rw[ξ (by rw[bI];lia),E7 (en:=T2) (bs:=fun q=>[T2 q]) (g:=fun q=>T3 (thr T q)) tops (fun x _=>rfl) (fun q hq=>by obtain⟨m1,m2⟩:=I.top_in p (by rw[<-ht];exact hq);unfold Xn;walk_at "dz";generalize thr T q=u at m1 m2;obtain⟨a,c,b⟩:=u;rw[<-m2];exact wv I p (by lia) a c b m1)]
 walk_at "dz"
 have e1:tops.map (fun q=>T3 (thr T q))=(tops.map (thr T)).map T3:=by rw[BI];rfl
 have pm:(tops.map (thr T)).Perm T:=by rw[ht];exact I.tops p
 rw[e1,zo _ (by rw[bI];lia),Ld pm]
 walk_at "dz"
def Zd{n:Int}{ls aw:List P2}{T:List P3}(I:CInv n ls T)(p:aw.Perm ls)(hl:ls.length<=60) :
  K0 [.tup [.int n,.tup (aw.map T2)]]=.ok (.lst ((so3 T).map T3)):=by
 unfold K0 Zf
 walk_at "dz"
 rw[wu I p hl]
 walk_at "dz"
def Jn(i:Int):T1 [.int i]=.ok (.bl true):=by unfold T1 Yr;walk_at "dz"
def Kt(n c:Int)(h:0<=c/\c<n):T8 [.int n,.int c]=.ok .non:=by unfold T8 jg;walk_at "dz";rw[Jn];walk_at "dz";rw[decide_eq_true h.1,decide_eq_true h.2];walk_at "dz"
def wq(k:Int)(xs:List Int):dIn true (.int k) (TuI xs)=some (.bl (!decide (k∈xs))):=by
 have e:(xs.map D.int).any (fun e=>eqD e (.int k))=decide (k∈xs):=by
  rw[List.any_map,DA,List.any_eq_true,AR];constructor
  . rintro⟨x,hx,h⟩;simp only[Function.comp,eqD,EW]at h;rw[<-h];exact hx
  . intro h;exact⟨k,h,by simp[eqD]⟩
 have h1:i7 (xs.map D.int)<=0:=G3 xs D.int 0 fun x=>by simp[D.dep]
 have h2:pls (xs.map D.int)=true:=pls_of xs D.int fun x=>rfl
 unfold dIn dOr O4;simp only[TuI,D.pl,h2,true_and,ξ (show i7 (xs.map D.int)<=20 by lia),e,CI]
def kY(g:List Int)(c:Int)(h:g.length<=1000):W0 (TuI g) (.tup [.int c])=some (TuI (g++[c])):=by simp only[TuI,W0,bI,io,DL];rw[ξ (by lia),BG];rfl
def K1(cs:List Int)(g:List Int):List (List Int):=(cs.filter fun c=>decide (c∉g)).map fun c=>g++[c]
def Uk(cs g:List Int):(K1 cs g).length<=cs.length:=by unfold K1;rw[bI];exact ER _ _
def wo(g:List Int):(TuI g).noL=true:=by unfold TuI;simp only[D.noL];exact C7 _ _ fun x _=>Bf x
def zm(B0:Sl)(cs:List Int)(hc:cs.length<=100)(F:List (List Int))(g:List Int)(hg:g.length<=1000)(hF:F.length<=99000) :
  Ey [B0,.im (L cs),.ow (.lst (F.map TuI)),.im (TuI g)]=.nx [B0,.im (L cs),.ow (.lst ((F++K1 cs g).map TuI)),.im (TuI g)]:=by
 unfold Ey
 walk_at "dz"
 rw[ξ (by rw[bI];lia),Bq (en:=D.int) (bs:=fun x=>[D.int x]) (p:=fun c=>decide (c∉g)) (g:=fun c=>TuI (g++[c])) cs (fun x _=>rfl) (fun c _=>by
  unfold jj;walk_at "dz";rw[wq];walk_at "dz";congr 1;by_cases h:c∈g<;>simp[h]) (fun c _ _=>by
  unfold ji;walk_at "dz";rw[kY g c hg];walk_at "dz")]
 have hl:=Uk cs g
 rw[show List.map (fun c=>TuI (g++[c])) (cs.filter fun c=>decide (c∉g))=(K1 cs g).map TuI by unfold K1;rw[BI];rfl]
 generalize K1 cs g=X at hl
 walk_at "dz"
 rw[show Z3 (.lst (F.map TuI)) [.lst (X.map TuI)]=some (.lst ((F++X).map TuI)) by simp only[Z3,bI];rw[ξ (by lia),BG]]
 walk_at "dz"
 try rw[Sl.frz_false]
def zl(B:List (List Int))(cs:List Int)(hc:cs.length<=3)(hB:B.length<=20000)(hg:∀g∈B,g.length<=1000):Bz [.lst (B.map TuI),L cs]=.ok (.lst ((B.flatMap (K1 cs)).map TuI)):=by
 unfold Bz Zw;walk_at "dz";obtain⟨ρ',e,F,s3,h1,h2,hr⟩:=Ec (tg:=.n 3) (g:=Ey) (en:=TuI)
  (fun r ρ=>∃(F:List (List Int))(s3:Sl),F++r.flatMap (K1 cs)=B.flatMap (K1 cs)/\(F.length+3 * r.length<=60000/\∀g∈r,g.length<=1000)/\ρ=[.im (.lst (B.map TuI)),.im (L cs),.ow (.lst (F.map TuI)),s3])
  B [.im (.lst (B.map TuI)),.im (L cs),.ow (.lst []),.em] ⟨[],.em,rfl,⟨by simp;lia,hg⟩,rfl⟩ (by
   rintro g r ρ ⟨F,s3,h1,⟨h2,h3⟩,rfl⟩;simp only[io]at h2;have hl:=Uk cs g;refine⟨_,_,rfl,Or.inl (zm _ cs (by lia) F g (h3 g (by simp)) (by lia)),⟨_,_,?_,⟨?_,fun u hu=>h3 u (by simp[hu])⟩,rfl⟩⟩
   . rw[<-h1,List.flatMap_cons,DK]
   . rw[θ];lia)
 rw[e,hr];rw[List.flatMap_nil,DZ]at h1;walk_at "dz";rw[h1]
theorem Rl(E:List Int):∀(ts:List P3)(B:List (List Int)),(Sg E ts B).length<=B.length * 3 ^ ts.length
 | [],B=>by simp[Sg]
 |t::ts,B=>by
  have h:=Rl E ts (B.flatMap (xt E t));have h2:(B.flatMap (xt E t)).length<=3 * B.length:=by
   clear h;induction B with
   |nil=>simp
   |cons g B ih=>
    have:(xt E t g).length<=3:=by unfold xt;rw[bI];exact sg (ER _ _) (sg (ER _ _) (ζ 3))
    rw[List.flatMap_cons,θ,io];lia
  rw[io,Nat.pow_succ];show(Sg E ts (B.flatMap (xt E t))).length<=_
  calc (Sg E ts (B.flatMap (xt E t))).length<=(B.flatMap (xt E t)).length * 3 ^ ts.length:=h
   _<=(3 * B.length) * 3 ^ ts.length:=EA _ h2
   _=B.length * (3 ^ ts.length * 3):=by rw[FO 3,Nat.mul_assoc,FO 3]
def shr(i j:Int)(ts:List P3):List (List Int):=if i=j then [] else Sh [i,j] ts
def zhn(I:CInv n ls T)(hl:(ls.length:Int)+3=n)(cY:n<=12)(i j:Int)(hi:0<=i/\i<n)(hj:0<=j/\j<n) :
  J9 [.tup [.int n,.tup ((so2 ls).map T2)],.int i,.int j]=.ok (.lst ((shr i j (so3 T)).map TuI)):=by
 have et:=Zd I (C6 ls) (by lia)
 have hT:(so3 T).length<=10:=by have:=I.prm.length_eq;rw[bI,io]at this;rw[(C5 T).length_eq];lia
 generalize nH:(D.tup [.int n,.tup ((so2 ls).map T2)])=cut at et
 have c0:dIx cut (.int 0)=some (.int n):=by rw[<-nH];exact Jh _ _
 generalize so3 T=ts at et hT
 have s1:∀k (hk:0<=k/\k<n) (v:Nat) (ρ:DS),see ρ=[some cut,some (.int i),some (.int j),none,none]->a6 v [some cut,some (.int i),some (.int j),none,none]=.ok (.int k)->p9 (c6 T8 (a7 (eOp dIx (a6 0) (eC (.int 0))) (a7 (a6 v) a9))) ρ=.nx ρ:=fun k hk v ρ hs hv=>by simp only[p9,hs,c6,a7,eOp,a9,hv];walk_at "dz";rw[c0];walk_at "dz";rw[Kt n k hk];walk_at "dz"
 unfold J9
 rw[M9,ξ (show [cut,D.int i,.int j].length=3 from rfl)]
 show SR.out true (Ei [.im cut,.im (.int i),.im (.int j),.em,.em])=_
 unfold Ei
 rw[i3 (s1 i hi 1 _ rfl rfl),i3 (s1 j hj 2 _ rfl rfl)]
 rw[i3 (ρ':=[.im cut,.im (.int i),.im (.int j),.em,.em]) (by walk_at "dz";rw[c0];walk_at "dz";rw[decide_eq_false (by first |exact Int.not_lt.mpr cY |lia)];walk_at "dz")]
 by_cases cN:i=j
 . subst cN;walk_at "dz";unfold shr;rw[ξ rfl];rfl
 . rw[i3 (ρ':=[.im cut,.im (.int i),.im (.int j),.em,.em]) (by
    walk_at "dz"
    rw[decide_eq_false cN]
    walk_at "dz")]
   rw[i3 (ρ':=[.im cut,.im (.int i),.im (.int j),.ow (.lst ([[]].map TuI)),.em]) (by walk_at "dz";rfl)]
   walk_at "dz"
   rw[et]
   walk_at "dz"
   obtain⟨ρ',e,B,s4,h1,h2,hr⟩:=Ec (tg:=.n 4) (g:=Nh) (en:=T3)
    (fun r ρ=>∃(B:List (List Int))(s4:Sl),Sg [i,j] r B=Sh [i,j] ts/\(B.length * 3 ^ r.length<=59049/\∀g∈B,g.length+r.length<=10)/\ρ=[.im cut,.im (.int i),.im (.int j),.ow (.lst (B.map TuI)),s4])
    ts [.im cut,.im (.int i),.im (.int j),.ow (.lst ([[]].map TuI)),.em] ⟨[[]],.em,rfl,⟨by
     show 1 * 3 ^ ts.length<=3 ^ 10;rw[Nat.one_mul];exact Nat.pow_le_pow_right (by decide) hT,by simp;lia⟩,rfl⟩ (by
     rintro t r ρ ⟨B,s4,h1,⟨h2,h3⟩,rfl⟩;have hB:B.length<=19683:=by rw[io,Nat.pow_succ]at h2;exact Nat.le_of_mul_le_mul_right (sg (Nat.mul_le_mul_left _ (Nat.le_mul_of_pos_left 3 (Nat.pow_pos (by decide)))) h2:B.length * 3<=19683 * 3) (by decide)
     have uz:((cor t).filter fun c=>decide (c∉[i,j])).length<=3:=sg (ER _ _) (ζ 3);refine⟨_,[.im cut,.im (.int i),.im (.int j),.ow (.lst ((B.flatMap (xt [i,j] t)).map TuI)),.im (T3 t)],rfl,Or.inl ?_,⟨_,_,h1,⟨?_,fun g hg=>?_⟩,rfl⟩⟩
     . unfold Nh;walk_at "dz";rw[show [D.int t.1,D.int t.2.1,D.int t.2.2]=(cor t).map D.int from rfl,Bq (en:=D.int) (bs:=fun x=>[D.int x]) (p:=fun c=>decide (c∉[i,j])) (g:=fun c=>D.int c) (cor t) (fun x _=>rfl) (fun c _=>by
        unfold Zs;walk_at "dz";congr 1;rw[DA];simp only[pr,CO,AT,AR,ee,AZ,DM,not_or]) (fun c _ _=>by
        unfold Zr;walk_at "dz")]
       simp only[R.bind_ok];have du:∀g∈B,g.length<=1000:=fun g hg=>sg (Nat.le_add_right _ _) (sg (h3 g hg) (by decide))
       have e1:=zl B ((cor t).filter fun c=>decide (c∉[i,j])) uz (sg hB (by decide)) du;rw[show(D.lst (List.map (fun c=>D.int c) ((cor t).filter fun c=>decide (c∉[i,j]))))=L ((cor t).filter fun c=>decide (c∉[i,j])) from rfl,e1];rw[show K1 ((cor t).filter fun c=>decide (c∉[i,j]))=xt [i,j] t from rfl];rw[P9,show keeps true (D.lst ((B.flatMap (xt [i,j] t)).map TuI))=true by rw[Eg];exact C7 _ _ fun x _=>wo x];walk_at "dz"
     . have:=Rl [i,j] [t] B;have e3:(B.flatMap (xt [i,j] t)).length<=B.length * 3:=this;rw[io,Nat.pow_succ]at h2
       calc (B.flatMap (xt [i,j] t)).length * 3 ^ r.length<=(B.length * 3) * 3 ^ r.length:=EA _ e3
        _=B.length * (3 ^ r.length * 3):=by rw[Nat.mul_assoc,FO 3]
        _<=59049:=h2
     . obtain⟨g0,uA,hx⟩:=List.mem_flatMap.mp hg;obtain⟨c,_,_,_,rfl⟩:=mem_xt.mp hx;have:=h3 g0 uA;rw[io]at this;rw[θ,EQ];lia)
   simp only[dg,CB]at e
   rw[e,hr]
   have gu:B=Sh [i,j] ts:=h1
   walk_at "dz"
   unfold shr
   rw[ψ cN,<-gu]
abbrev Tm:=List Int×Int
def TM(t:Tm):D:=.tup [.tup (t.1.map D.int),.int t.2]
def e7(l:List Tm):List (List Int):=l.map (·.1)
def j8(l:List Tm)(k:List Int):Int:=((l.find? fun t=>decide (t.1=k)).map (·.2)).getD 0
def o6(l:List Tm)(k:List Int)(v:Int):List Tm:=if k∈e7 l then l.map (fun t=>if t.1=k then(k,v) else t) else l++[(k,v)]
def x0(a b:List Tm):List Tm:=b.foldl (fun d t=>o6 d t.1 (j8 d t.1+t.2)) a
def tot:List Tm->List Int->Int
 | [],_=>0
 |t::r,k=>(if t.1=k then t.2 else 0)+tot r k
def Jm(k:List Int):j8 [] k=0:=rfl
def G4(t:Tm)(l:List Tm)(k:List Int):j8 (t::l) k=if t.1=k then t.2 else j8 l k:=by
 unfold j8;by_cases h:t.1=k
 . rw[EK (by simpa using h),ξ h];rfl
 . rw[EL (by simpa using h),ψ h]
def yi(h:k∉e7 l):j8 l k=0:=by
 induction l with
 |nil=>rfl
 |cons t l ih=>
  simp only[e7,dg,ee,not_or]at h
  rw[G4,ψ (fun z=>h.1 z.symm)]
  exact ih h.2
def wn(hn:(e7 l).Nodup)(h:t∈l):j8 l t.1=t.2:=by
 induction l with
 |nil=>cases h
 |cons x l ih=>
  simp only[e7,dg,CH]at hn
  rw[G4]
  rcases ee.mp h with rfl |h
  . rw[ξ rfl]
  . rw[ψ (fun z=>hn.1 (by rw[z];exact AS.mpr ⟨t,h,rfl⟩))];exact ih hn.2 h
def wm(h:j8 l k≠0):(k,j8 l k)∈l:=by
 induction l with
 |nil=>exact absurd rfl h
 |cons x l ih=>
  rw[G4]at h⊢
  by_cases z:x.1=k
  . rw[ξ z];exact ee.mpr (.inl (by rw[<-z]))
  . rw[ψ z]at h⊢;exact ee.mpr (.inr (ih h))
theorem Xl(v:Int)(hj:j≠k):∀l:List Tm,j8 (l.map (fun t=>if t.1=k then(k,v) else t)) j=j8 l j
 | []=>rfl
 |t::l=>by
  rw[dg,G4,G4,Xl v hj l];by_cases h:t.1=k
  . rw[ξ h,ψ (fun z=>hj z.symm),ψ (fun z=>hj (by rw[<-z,h]))]
  . rw[ψ h]
theorem Xk(v:Int):∀l:List Tm,k∈e7 l->j8 (l.map (fun t=>if t.1=k then(k,v) else t)) k=v
 | [],h=>by cases h
 |t::l,h=>by
  rw[dg,G4];by_cases z:t.1=k
  . rw[ξ z,ξ rfl]
  . rw[ψ z,ψ z];refine Xk v l ?_;rcases ee.mp h with q |q
    . exact absurd q.symm z
    . exact q
def zho(l:List Tm)(k:List Int)(v:Int)(j:List Int)(h:k∉e7 l):j8 (l++[(k,v)]) j=if j=k then v else j8 l j:=by
 induction l with
 |nil=>
  rw[EM,G4,Jm]
  by_cases hj:j=k
  . rw[ξ hj.symm,ξ hj]
  . rw[ψ (fun z=>hj z.symm),ψ hj]
 |cons t l ih=>
  simp only[e7,dg,ee,not_or]at h
  rw[CC,G4,G4,ih h.2]
  by_cases hj:j=k
  . subst hj;rw[ψ (fun z=>h.1 z.symm),ξ rfl,ξ rfl]
  . rw[ψ hj,ψ hj]
def wl(l:List Tm)(k:List Int)(v:Int)(j:List Int):j8 (o6 l k v) j=if j=k then v else j8 l j:=by
 unfold o6;by_cases h:k∈e7 l
 . rw[ξ h];by_cases hj:j=k
   . rw[ξ hj,hj];exact Xk v l h
   . rw[ψ hj];exact Xl v hj l
 . rw[ψ h];exact zho l k v j h
def Ks(l:List Tm)(k:List Int)(v:Int):e7 (o6 l k v)=if k∈e7 l then e7 l else e7 l++[k]:=by
 unfold o6;by_cases h:k∈e7 l
 . rw[ξ h,ξ h];unfold e7;rw[BI];apply EE;intro t _;show(if t.1=k then(k,v) else t).1=t.1;split
   . rename_i z;exact z.symm
   . rfl
 . rw[ψ h,ψ h];simp[e7]
def Xj(k:List Int)(v:Int)(h:(e7 l).Nodup):(e7 (o6 l k v)).Nodup:=by
 rw[Ks];split
 . exact h
 . rename_i hk;exact List.nodup_append.mpr ⟨h,by simp,fun x hx y hy e=>hk (by rw[AV.mp hy]at e;rw[<-e];exact hx)⟩
def T4(a:List Tm)(t:Tm)(b:List Tm):x0 a (t::b)=x0 (o6 a t.1 (j8 a t.1+t.2)) b:=rfl
theorem Uj:∀(b a:List Tm)(j:List Int),j8 (x0 a b) j=j8 a j+tot b j
 | [],a,j=>by simp[x0,tot]
 |t::b,a,j=>by
  rw[T4,Uj b,wl,tot];by_cases h:j=t.1
  . subst h;rw[ξ rfl,ξ rfl];lia
  . rw[ψ h,ψ (fun z=>h z.symm)];lia
theorem Xi:∀(b a:List Tm),(e7 a).Nodup->(e7 (x0 a b)).Nodup
 | [],a,h=>h
 |t::b,a,h=>by rw[T4];exact Xi b _ (Xj _ _ h)
theorem Wm:∀(b a:List Tm)(k:List Int),k∈e7 (x0 a b)->k∈e7 a\/k∈e7 b
 | [],a,k,h=>.inl h
 |t::b,a,k,h=>by
  rw[T4]at h;simp only[e7,dg,ee];rcases Wm b _ k h with h |h
  . rw[Ks]at h;split at h
    . exact .inl h
    . rcases AQ.mp h with h |h
      . exact .inl h
      . exact .inr (.inl (AV.mp h))
  . exact .inr (.inr h)
def soM(ls:List Tm):List Tm:=L5 (fun a b=>ltT (TM a) (TM b)) ls
def Ui(ls:List Tm):u8 (ls.map TM)=(soM ls).map TM:=Bp _ _
def Bg(ls:List Tm):(soM ls).Perm ls:=Bu _ _
def Pg(a:Tm):(TM a).oi=true:=by simp only[TM,D.oi,ois,FH];exact G0 _ _ jI
def nz(t:Tm):Bool:=decide (t.2≠0)
def Cn(l:List Tm):List Tm:=soM (l.filter nz)
def mem_Cn:t∈Cn l↔t∈l/\t.2≠0:=by unfold Cn;rw[(Bg _).mem_iff,DY];simp[nz]
def zhp(hn:(e7 l).Nodup):t∈Cn l↔j8 l t.1=t.2/\t.2≠0:=by
 rw[mem_Cn];constructor
 . rintro⟨h,z⟩;exact⟨wn hn h,z⟩
 . rintro⟨h,z⟩;have:=wm (l:=l) (k:=t.1) (by rw[h];exact z);rw[h]at this;exact⟨this,z⟩
def yh(h:a.Sublist b):(e7 a).Sublist (e7 b):=h.map _
def yg(hn:(e7 l).Nodup):(e7 (Cn l)).Nodup:=by have p:(e7 (Cn l)).Perm (e7 (l.filter nz)):=(Bg _).map _;exact p.nodup_iff.mpr (List.Nodup.sublist (yh FZ) hn)
def kX(l:List Tm):(Cn l).length<=l.length:=by unfold Cn;rw[(Bg _).length_eq];exact ER _ _
def kN(ps:List Int):NK:=.t (ps.map NK.i)
theorem Uh:∀ps:List Int,O0 (ps.map D.int)=some (ps.map NK.i)
 | []=>by simp only[CB,O0]
 |p::ps=>by simp only[dg,O0,nkD,Uh ps]
def Rj(ps:List Int):nkD (.tup (ps.map D.int))=some (kN ps):=by simp only[nkD,Uh,BL,kN]
theorem Wl:∀ps:List Int,E5 (ps.map NK.i)=0
 | []=>by simp only[CB,E5]
 |p::ps=>by simp only[dg,E5,Wl ps,NK.dep,Nat.max_self]
def Ri(ps:List Int):(kN ps).dep<=8:=by simp only[kN,NK.dep,Wl];decide
theorem Rh:∀ps:List Int,P6 (ps.map NK.i)=ps.map D.int
 | []=>by simp only[CB,P6]
 |p::ps=>by simp only[dg,P6,y4,Rh ps]
def y5p(ps:List Int):y4 (kN ps)=.tup (ps.map D.int):=by simp only[kN,y4,Rh]
theorem Rg:∀a b:List Int,(k9 (a.map D.int) (b.map D.int)).isSome=true
 | [],[]=>by simp[k9]
 | [],_::_=>by simp[k9]
 |_::_,[]=>by simp[k9]
 |x::a,y::b=>by
  simp only[dg,k9];split
  . exact Rg a b
  . exact y2p x y
def kW(a b:List Int×Int):(d7 (TM a) (TM b)).isSome=true:=by
 simp only[TM,d7,k9];split
 . split
   . rfl
   . rfl
 . exact Rg a.1 b.1
def Rf(a:List Int×Int):(TM a).dep<=3:=by have:=G3 a.1 D.int 0 (fun x=>by simp[D.dep]);simp only[TM,D.dep,i7];lia
theorem Xh:∀{a b:List Int},a.map NK.i=b.map NK.i->a=b
 | [],[],_=>rfl
 | [],_::_,h=>by simp at h
 |_::_,[],h=>by simp at h
 |x::a,y::b,h=>by simp only[dg,List.cons.injEq,NK.i.injEq]at h;rw[h.1,Xh h.2]
def Hi(h:kN a=kN b):a=b:=Xh (NK.t.inj h)
def dnA(l:List Tm):D:=.dn (l.map fun t=>kN t.1) (l.map fun t=>.int t.2)
def kmem:kN k∈(l.map fun t=>kN t.1)↔k∈e7 l:=by
 unfold e7;rw[AS,AS];constructor
 . rintro⟨t,h,e⟩;exact⟨t,h,Hi e⟩
 . rintro⟨t,h,e⟩;exact⟨t,h,by rw[e]⟩
theorem Pf(k:List Int):∀l:List Tm,(valN (l.map fun t=>kN t.1) (l.map fun t=>D.int t.2) (kN k)).getD (.int 0)=.int (j8 l k)
 | []=>rfl
 |t::l=>by
  rw[G4,dg,dg];unfold valN;rw[AX];by_cases h:t.1=k
  . rw[EK (by simp[h]),ξ h];rfl
  . rw[EL (by simpa using fun e=>h (Hi e)),ψ h];exact Pf k l
def y38(l:List Tm)(k:List Int):dGetN (dnA l) (.tup (k.map D.int)) (.int 0)=some (.int (j8 l k)):=by simp only[dnA,dGetN,Rj];rw[ξ (Ri k),Pf]
theorem Pe(k:List Int)(v:Int):∀l:List Tm,List.zipWith (fun k' d'=>if k'=kN k then D.int v else d') (l.map fun t=>kN t.1) (l.map fun t=>D.int t.2)=(l.map fun t=>if t.1=k then(k,v) else t).map fun t=>D.int t.2
 | []=>rfl
 |t::l=>by
  rw[dg,dg,dg,dg,DT,Pe k v l];congr 1;by_cases h:t.1=k
  . rw[ξ (by rw[h]),ξ h]
  . rw[ψ (fun e=>h (Hi e)),ψ h]
def y39(hl:l.length<=1000)(k:List Int)(v:Int):dSetN (dnA l) (.tup (k.map D.int)) (.int v)=some (dnA (o6 l k v)):=by
 simp only[dnA,dSetN,Rj];rw[ξ ⟨by rw[bI];omega,Ri k⟩];have ek:F7 (l.map fun t=>kN t.1) (kN k)=(o6 l k v).map fun t=>kN t.1:=by
  have:=CP (List.map kN) (Ks l k v);have e2:∀x:List Tm,(e7 x).map kN=x.map fun t=>kN t.1:=fun x=>by unfold e7;rw[BI];rfl
  rw[e2]at this;rw[this];unfold F7;by_cases h:k∈e7 l
  . rw[ξ (kmem.mpr h),ξ h,e2]
  . rw[ψ (fun z=>h (kmem.mp z)),ψ h,BG,e2];rfl
 have ev:o8 (l.map fun t=>kN t.1) (l.map fun t=>D.int t.2) (kN k) (.int v)=(o6 l k v).map fun t=>D.int t.2:=by
  unfold o8 o6;by_cases h:k∈e7 l
  . rw[ξ (kmem.mpr h),ξ h,Pe]
  . rw[ψ (fun z=>h (kmem.mp z)),ψ h,BG];rfl
 rw[ek,ev]
theorem Pd:∀l:List Tm,(((l.map fun t=>kN t.1).zip (l.map fun t=>D.int t.2)).map fun p=>D.tup [y4 p.1,p.2])=l.map TM
 | []=>rfl
 |t::l=>by rw[dg,dg,AX,dg,dg,Pd l];show D.tup [y4 (kN t.1),.int t.2]::_=TM t::_;rw[y5p];rfl
def wj(h:f ρ=.ok (dnA l)):Q5 f ρ=.ok (l.map TM):=by unfold Q5;rw[h,R.bind_ok];show(if(l.map fun t=>kN t.1).length=(l.map fun t=>D.int t.2).length then R.ok (((l.map fun t=>kN t.1).zip (l.map fun t=>D.int t.2)).map fun p=>D.tup [y4 p.1,p.2]) else .st)=_;rw[ξ (by rw[bI,bI]),Pd]
def kU(h1:fd ρ=.ok (.dn ks ds))(h2:fk ρ=.ok (.tup es))(h3:fz ρ=.ok (.int 0))(h:dGetN (.dn ks ds) (.tup es) (.int 0)=some (.int v)):eGetN fd fk fz ρ=.ok (.int v):=by unfold eGetN;rw[h1,R.bind_ok];show((fk ρ).bind fun k=>(fz ρ).bind fun z=>R.of (dGetN (.dn ks ds) k z))=_;rw[h2,R.bind_ok,h3,R.bind_ok,h];rfl
def Ug(l:List Tm)(k:List Int)(v:Int):(o6 l k v).length<=l.length+1:=by
 unfold o6;split
 . rw[bI];lia
 . rw[θ];exact ζ _
theorem Uf:∀(b a:List Tm),(x0 a b).length<=a.length+b.length
 | [],a=>ζ _
 |t::b,a=>by rw[T4];have:=Uf b (o6 a t.1 (j8 a t.1+t.2));have:=Ug a t.1 (j8 a t.1+t.2);rw[io];lia
def kT(t:Tm):Nm [some (.tup (t.1.map D.int)),some (.int t.2)]=.ok (nz t):=by unfold Nm;walk_at "dz";simp[nz]
def kS(t:Tm):Nl [some (.tup (t.1.map D.int)),some (.int t.2)]=.ok (TM t):=by unfold Nl;walk_at "dz";rfl
def zhq(ls:List Tm):S5 (ls.map TM)=true:=by unfold S5;rw[G0 _ _ Pg,decide_eq_true (sg (G3 ls TM 3 Rf) (by decide)),R9 ls TM (fun d=>(ls.map TM).all fun e=>(d7 d e).isSome) (fun x=>R9 _ _ _ fun y=>kW x y),R9 ls TM O2 (fun x=>rfl)];simp
def wg(l:List Tm):x3 [.lst (l.map TM)]=some (.lst ((soM l).map TM)):=by simp only[x3,zhq l,CI,Ui]
def kR(h:f ρ=.ok (dnA l))(hl:l.length<=1000)(h1:∀t:Tm,t1 [some (.tup (t.1.map D.int)),some (.int t.2)]=.ok (nz t))(h2:∀t:Tm,f2 [some (.tup (t.1.map D.int)),some (.int t.2)]=.ok (TM t)) :
  eCB x3 (a7 (i4 (Q5 f) (bT 2) [] t1 f2) a9) ρ=.ok (.lst ((Cn l).map TM)):=by
 have hc:i4 (Q5 f) (bT 2) [] t1 f2 ρ=.ok (.lst ((l.filter nz).map TM)):=by unfold i4;rw[wj h,R.bind_ok,ξ (by rw[bI];lia)];show((E2 (bT 2) t1 f2 [] (l.map TM)).bind fun ys=>R.ok (D.lst ys))=_;rw[Bq (bn:=bT 2) (en:=TM) (bs:=fun t=>[.tup (t.1.map D.int),.int t.2]) (p:=nz) (g:=TM) l (fun x _=>rfl) (fun t _=>h1 t) (fun t _ _=>h2 t)];rfl
 unfold eCB a7
 rw[hc,R.bind_ok]
 show R.of (x3 [_])=_
 rw[wg];rfl
def wf(l:List Tm)(hl:l.length<=1000):T0 [dnA l]=.ok (.lst ((Cn l).map TM)):=by unfold T0;rw[M9,ξ (show [dnA l].length=1 from rfl)];show SR.out true (Mp [.im (dnA l)])=_;unfold Mp;rw[Vf,kR (l:=l) rfl hl kT kS];rfl
def Fu(i:Int):U0 [.int i]=.ok (.bl true):=by unfold U0 jw;walk_at "dz"
theorem Wk:∀a b:List Int,k8 (a.map D.int) (b.map D.int)=decide (a=b)
 | [],[]=>by simp[k8]
 | [],_::_=>by simp[k8]
 |_::_,[]=>by simp[k8]
 |x::a,y::b=>by
  simp only[dg,k8,eqD,Wk a b];by_cases h:x=y
  . by_cases h2:a=b<;>simp[h,h2]
  . simp[h]
def yf(a b:List Int):eqD (.tup (a.map D.int)) (.tup (b.map D.int))=decide (a=b):=by simp only[eqD,Wk]
theorem Wj:∀a b:List Int,ltTs (a.map D.int) (b.map D.int)=HT.lexLt a b
 | [],[]=>by simp[ltTs,HT.lexLt]
 | [],_::_=>by simp[ltTs,HT.lexLt]
 |_::_,[]=>by simp[ltTs,HT.lexLt]
 |x::a,y::b=>by
  simp only[dg,ltTs,HT.lexLt_cons,eqD,Wj a b,ltT];by_cases h:x=y
  . simp[h]
  . simp[h]
def y3a(h:u.1≠v.1):ltT (TM u) (TM v)=HT.lexLt u.1 v.1:=by simp only[TM,ltT,ltTs,yf,decide_eq_false h,Wj];simp
theorem Ue:∀{a b:List Int},a≠b->HT.lexLt b a=false->HT.lexLt a b=true
 | [],[],h,_=>absurd rfl h
 | [],_::_,_,_=>rfl
 |_::_,[],_,h=>by simp[HT.lexLt]at h
 |x::a,y::b,h,q=>by
  rw[HT.lexLt_cons]at q⊢;by_cases e:x=y
  . rw[ξ e];rw[ξ e.symm]at q;exact Ue (fun z=>h (by rw[e,z])) q
  . rw[ψ e];rw[ψ (fun z=>e z.symm)]at q;have:=of_decide_eq_false q;exact decide_eq_true (by lia)
def kQ(Z:List Tm):((Cn Z).map TM).Pairwise fun a b=>ltT b a=false:=by unfold Cn;rw[<-Ui];exact Q3 (G0 _ TM Pg)
def getD_mem{x:List Tm}{i:Nat}(h:i<x.length):x.getD i ([],0)∈x:=by rw[gc,AO h];exact List.getElem_mem h
def y3b{x:List Tm}{k:Nat}{i:Int}(hi:i=(k:Int))(h:k<x.length):dIx (.lst (x.map TM)) (.int i)=some (TM (x.getD k ([],0))):=by
 subst hi;have e:(x.map TM)[k]?=some (TM (x.getD k ([],0))):=by rw[BF,gc,AO h];rfl
 exact Sx e
def y5q(a b:List Int):Z1 (.tup (a.map D.int)) (.tup (b.map D.int))=some (.bl (u7 a b)):=by simp only[Z1,Ek]
def kP(t:Tm):(TM t).noL=true:=by simp only[TM,D.noL,j4,FH];exact C7 D.int t.1 fun x _=>Bf x
def Ud(l:List Tm):j4 (l.map TM)=true:=by exact C7 TM l fun x _=>kP x
theorem pls_of(f:α->D)(h:∀x,(f x).pl=true):∀l:List α,pls (l.map f)=true
 | []=>rfl
 |x::l=>by rw[dg];simp only[pls,h x,pls_of f h l,FH]
def y3c(t:Tm):(TM t).pl=true:=by simp only[TM,D.pl,pls,FH];exact pls_of D.int (fun _=>rfl) t.1
def Oe(l:List Tm):(D.lst (l.map TM)).pl=true:=by simp only[D.pl];exact pls_of TM y3c l
def Ft(l:List Tm):(D.lst (l.map TM)).dep<=4:=by have:=G3 l TM 3 Rf;simp only[D.dep];lia
def we(h:d.pl=true)(h2:d.dep<=5):dEq d d=some (.bl true):=by unfold dEq;rw[ξ ⟨h,h,by lia⟩,Bm d h]
def Jl(h:d.pl=true)(h2:d.dep<=5):dNe d d=some (.bl false):=by unfold dNe;rw[ξ ⟨h,h,by lia⟩,Bm d h];rfl
def Mh(ls:List P2):x3 [.lst (ls.map T2)]=some (.lst ((so2 ls).map T2)):=by rw[Wn ls T2 1 (by decide) Gf R8 qO (by rw[R9 ls T2 K2 fun _=>rfl,Bool.or_true,Bool.true_or]),Dp]
def Ln1(ls:List P2)(v:Nat->Vc):Prop:=∀a b:Int,(a,b)∈ls->dt (v a.toNat) (v b.toNat)=1
def Pc(n c:Nat)(v:Nat->Vc){a:Int}(h0:0<=a)(h1:a<n):gV n c v (sh (c:Int) a).toNat=v a.toNat:=by
 have e:(sh (c:Int) a).toNat=shN c a.toNat:=by unfold sh shN;split<;>split<;>omega
 rw[e,N0 _ _ _ _ (by omega)]
def Re{n:Nat}{R:Nat->Int}{v:Nat->Vc}(F:Fr n R v)(hn:3<=n):dt (v 0) (v (n - 1))=1:=by have h:=F.one (n - 1);have e:=F.turn (n - 1) 0;rw[show n - 1+1=0+n by omega,e,Gc]at h;omega
def Ln1.grow{n:Nat}{R:Nat->Int}{ls:List P2}{v:Nat->Vc}(F:Fr n R v)(hn:3<=n)(hl:∀a b,(a,b)∈ls->0<=a/\a<n/\0<=b/\b<(n:Int))(O:Ln1 ls v)(c:Nat)(hc:c<n):Ln1 (ls.map (sh2 (c:Int))++[i6 (n:Int) (c:Int)]) (gV n c v):=by
 intro x y h;rcases AQ.mp h with h |h
 . obtain⟨a,b,hm,rfl,rfl⟩:=S4 h;obtain⟨h1,h2,h3,h4⟩:=hl a b hm;rw[Pc n c v h1 h2,Pc n c v h3 h4];exact O a b hm
 . rw[AV]at h;unfold i6 at h;by_cases e:c+1=n
   . rw[ξ (by omega)]at h;cases h;have e1:=N0 n c v 0 (by omega);have e2:=N0 n c v c hc;unfold shN at e1 e2;rw[ψ (by omega)]at e1;rw[ψ (by omega)]at e2;show dt (gV n c v (0:Int).toNat) (gV n c v (c:Int).toNat)=1;rw[GP,e2,show(0:Int).toNat=0 from rfl,e1,show c=n - 1 by omega];exact Re F hn
   . rw[ψ (by omega)]at h;cases h;have e1:=N0 n c v c hc;have e2:=N0 n c v (c+1) (by omega);unfold shN at e1 e2;rw[ψ (by omega)]at e1;rw[ξ (by omega)]at e2;rw[GP,show((c:Int)+2).toNat=c+1+1 by omega,e1,e2];exact F.one c
structure Fx(row:List Int)(ls:List P2)(T:List P3)(v:Nat->Vc):Prop where
 f:Flr row ls T v
 on:Ln1 ls v
 sc:Sc row.length T v
 lp:Lp (row.length:Int) ls (so3 T)
def fx3:Fx [1,1,1] [] [(0,1,2)] v3:=⟨y5o,(fun _ _ h=>nomatch h),sc3,lp3⟩
def Fx.grow(F:Fx row ls T v)(c:Nat)(hc:c<row.length) :
  Fx (B9 row c) (ls.map (sh2 (c:Int))++[i6 (row.length:Int) (c:Int)]) (T.map (sh3 (c:Int))++[e9 (row.length:Int) (c:Int)]) (gV row.length c v):=by
 have hl:=Y4 row c hc
 obtain⟨A,B,h1,h2,G⟩:=Gr.of F.f.inv F.f.len c hc
 refine⟨F.f.grow c hc,?_,?_,?_⟩
 . exact Ln1.grow F.f.good.fr F.f.good.len (fun a b h=>by have:=F.f.inv.lin a b h;lia) F.on c hc
 . rw[hl];exact F.sc.grow F.f.good.fr F.f.inv F.f.len c hc
 . rw[hl,h2];have:=Lp.grow G (fun a b h=>⟨(F.f.inv.lin a b h).1,by have:=(F.f.inv.lin a b h).2.1;lia⟩) (by rw[<-h1];exact F.lp);rw[Int.natCast_add];exact this
def wc(bP:Int)(cells:List Int)(row:List Int)(ls:List P2)(b2 b3:Bool)(i cell:Int)(s6:Sl)(hi:0<=i/\i<900)(hn:(row.length:Int)=i+3)(hl:ls.length<1000) :
  ∃c:Nat,c<row.length/\∃s,Eu [.im (.int bP),.im (L cells),own b2 (L row),own b3 (.lst (ls.map T2)),.im (.int i),.im (.int cell),s6] =
   .nx [.im (.int bP),.im (L cells),.im (L (B9 row c)),.im (.lst ((ls.map (sh2 (c:Int))++[i6 (row.length:Int) (c:Int)]).map T2)),.im (.int i),.im (.int cell),s]:=by
 have m0:0<=cell % (row.length:Int):=Int.emod_nonneg _ (by lia)
 have m1:cell % (row.length:Int)<row.length:=Int.emod_lt_of_pos _ (by lia)
 have fin:∀(c:Int),0<=c->c<row.length->V5 (.t [2,3]) [false,false,true,true,false,false,true] (c6 Y8 (a7 (a6 2) (a7 (a6 3) (a7 (a6 6) a9)))) [.im (.int bP),.im (L cells),own b2 (L row),own b3 (.lst (ls.map T2)),.im (.int i),.im (.int cell),.im (.int c)] =
   .nx [.im (.int bP),.im (L cells),.im (L (B9 row c.toNat)),.im (.lst ((ls.map (sh2 c)++[i6 (row.length:Int) c]).map T2)),.im (.int i),.im (.int cell),.im (.int c)]:=fun c c0 c1=>by
  walk_at "dz"
  simp only[Jp]
  walk_at "dz"
  rw[ww row ls c c0 c1 (by lia) hl]
  simp only[P9]
  rw[show keeps false (D.tup [L (B9 row c.toNat),.lst ((ls.map (sh2 c)++[i6 (row.length:Int) c]).map T2)])=false by rw[Yj,Ve];simp only[L,Xg,Bool.false_and]]
  walk_at "dz"
 have s1:e8 false 6 [false,false,true,false,false,true] (eOp x9 (a6 5) (eCB t8 (a7 (a6 2) a9))) [.im (.int bP),.im (L cells),own b2 (L row),own b3 (.lst (ls.map T2)),.im (.int i),.im (.int cell),s6] =
   .nx [.im (.int bP),.im (L cells),own b2 (L row),own b3 (.lst (ls.map T2)),.im (.int i),.im (.int cell),.im (.int (cell % (row.length:Int)))]:=by
  walk_at "dz"
  simp only[Jp]
  walk_at "dz"
  rw[L7 (by lia)]
  walk_at "dz"
 have s2:∀c:Int,sIf (b8 asB (eOp dEq (eOp x9 (a6 0) (eC (.int 3))) (eC (.int 1)))) (e8 false 6 [false,false,false,false,true] (eOp Q7 (a6 4) (eC (.int 2)))) sNx [.im (.int bP),.im (L cells),own b2 (L row),own b3 (.lst (ls.map T2)),.im (.int i),.im (.int cell),.im (.int c)] =
   .nx [.im (.int bP),.im (L cells),own b2 (L row),own b3 (.lst (ls.map T2)),.im (.int i),.im (.int cell),.im (.int (if bP % 3=1 then i / 2 else c))]:=fun c=>by
  walk_at "dz"
  rw[L7 (by lia)]
  walk_at "dz"
  by_cases w:bP % 3=1
  . rw[decide_eq_true w,ξ w];walk_at "dz";rw[Gg (by lia)];walk_at "dz"
  . rw[decide_eq_false w,ψ w];walk_at "dz"
 unfold Eu
 rw[i3 s1,i3 (s2 _)]
 obtain⟨c,hc⟩:∃c:Int,c=(if bP % 3=1 then i / 2 else cell % (row.length:Int)):=⟨_,rfl⟩
 have c0:0<=c/\c<row.length:=by rw[hc];split<;>lia
 rw[<-hc,fin c c0.1 c0.2]
 exact⟨c.toNat,by lia,_,by rw[show((c.toNat:Nat):Int)=c by lia]⟩
def wb(bP:Int)(cs:List Int)(hl:cs.length<=57):∃(row:List Int)(ls:List P2)(T:List P3)(v:Nat->Vc),Fx row ls T v/\row.length<=60/\Bx [.int bP,L cs]=.ok (.tup [L row,.lst ((so2 ls).map T2)]):=by
 unfold Bx Zt;walk_at "dz";simp only[iEn];walk_at "dz";obtain⟨ρ',e,row,ls,T,v,b2,b3,s4,s5,s6,F,hn,hr⟩:=Le (tg:=.t [4,5]) (g:=Eu) cs.length (fun (i:Nat)=>D.tup [.int (i:Int),(D.int∘fun i=>cs.getD i 0) i])
  (fun k ρ=>∃(row:List Int)(ls:List P2)(T:List P3)(v:Nat->Vc)(b2 b3:Bool)(s4 s5 s6:Sl),Fx row ls T v/\row.length=k+3/\ρ=[.im (.int bP),.im (L cs),own b2 (L row),own b3 (.lst (ls.map T2)),s4,s5,s6])
  [.im (.int bP),.im (L cs),.ow (L [1,1,1]),.ow (.lst []),.em,.em,.em] ⟨[1,1,1],[],[(0,1,2)],v3,true,true,.em,.em,.em,fx3,rfl,rfl⟩ (by rintro i hi ρ ⟨row,ls,T,v,b2,b3,s4,s5,s6,F,hn,rfl⟩;have uB:=F.f.len;obtain⟨c,hc,s,e⟩:=wc bP cs row ls b2 b3 (i:Int) (cs.getD i 0) s6 (by lia) (by lia) (by lia);refine⟨_,_,rfl,Or.inl e,⟨_,_,_,_,false,false,_,_,_,F.grow c hc,?_,rfl⟩⟩;rw[Y4 _ _ hc,hn])
 have e2:((zD 0 (cs.map D.int).length).zip (cs.map D.int)).map (fun p=>D.tup [p.1,p.2])=(List.range cs.length).map (fun (i:Nat)=>D.tup [.int (i:Int),(D.int∘fun i=>cs.getD i 0) i]):=by
  conv=>lhs;rw[Sw cs 0,BI,Wu]
 simp only[L,dg,CB]at e⊢;walk_at "dz";rw[e2,e,hr];have uB:=F.f.len;walk_at "dz";simp only[Jp];walk_at "dz";rw[Mh];walk_at "dz";exact⟨row,ls,T,v,F,by lia,rfl⟩
def sd(n k:Nat):P2:=if k+1=n then(0,(k:Int)) else((k:Int),(k:Int)+1)
def Sd(n:Nat):List P2:=(List.range n).map (sd n)
def Ls(n:Nat)(ls:List P2):List P2:=so2 (Sd n++so2 ls)
def Rc(hn:3<=n):p∈Sd n↔0<=p.1/\p.2<n/\(p.2=p.1+1\/(p.1=0/\p.2=n - 1)):=by
 unfold Sd;rw[AS];constructor
 . rintro⟨k,hk,rfl⟩;rw[CW]at hk;unfold sd;by_cases h:k+1=n
   . rw[ξ h];exact⟨Int.le_refl 0,by dsimp only;lia,.inr ⟨rfl,by dsimp only;lia⟩⟩
   . rw[ψ h];exact⟨by dsimp only;lia,by dsimp only;lia,.inl rfl⟩
 . obtain⟨a,b⟩:=p;rintro⟨h1,h2,h3 |⟨h3,h4⟩⟩
   . simp only at h1 h2 h3;refine⟨a.toNat,CW.mpr (by lia),?_⟩;unfold sd;rw[ψ (by lia),Prod.mk.injEq];lia
   . simp only at h1 h2 h3 h4;refine⟨n - 1,CW.mpr (by lia),?_⟩;unfold sd;rw[ξ (by lia),Prod.mk.injEq];lia
def mem_Ls:p∈Ls n ls↔p∈Sd n\/p∈ls:=by unfold Ls;rw[(C6 _).mem_iff,AQ,(C6 _).mem_iff]
def Am(n:Nat)(ls:List P2):(Ls n ls).length=n+ls.length:=by unfold Ls Sd;rw[(C6 _).length_eq,θ,bI,FP,(C6 _).length_eq]
def kM(a b:Int):An [.int a,.int b]=.ok (if a<b then T2 (a,b) else T2 (b,a)):=by
 unfold An Ro;walk_at "dz";by_cases h:a<b
 . rw[decide_eq_true h,ξ h];rfl
 . rw[decide_eq_false h,ψ h];rfl
def y3e(n k:Nat)(hn:2<=n)(hk:k<n):Mv [some (.int (k:Int)),some (.int (n:Int))]=.ok (T2 (sd n k)):=by
 unfold Mv;walk_at "dz";rw[L7 (by lia)];walk_at "dz";rw[kM];unfold sd;by_cases h:k+1=n
 . rw[ξ h,show((k:Int)+1) % (n:Int)=0 by rw[show(k:Int)+1=(n:Int) by lia];exact Int.emod_self,ψ (by lia)]
 . rw[ψ h,Int.emod_eq_of_lt (by lia) (by lia),ξ (by lia)]
def jA(n:Nat):zD 0 n=(List.range n).map fun (k:Nat)=>D.int (k:Int):=by unfold zD;apply EE;intro k _;rw[Int.zero_add]
def cat_T2{a b:List P2}(h:a.length+b.length<=1000):B7 (.lst (a.map T2)) (.lst (b.map T2))=some (.lst ((a++b).map T2)):=by simp only[B7,bI];rw[ξ (by lia),BG]
def Lx(n:Nat)(hn:3<=n)(bB:n<=60)(ls:List P2)(hl:ls.length<=60):G5 [.tup [.int (n:Int),.tup ((so2 ls).map T2)]]=.ok (.lst ((Ls n ls).map T2)):=by
 have cX:(so2 ls).length<=60:=by rw[(C6 ls).length_eq];exact hl
 unfold G5 Xo;walk_at "dz";rw[Pt (n:Int) (by lia) (by walk_at "dz")];walk_at "dz";rw[GP,jA,ξ (by simp;lia),E7 (en:=fun (k:Nat)=>D.int (k:Int)) (bs:=fun k=>[D.int (k:Int)]) (g:=fun k=>T2 (sd n k)) (List.range n) (fun x _=>rfl) (fun k hk=>y3e n k (by lia) (CW.mp hk))];rw[show(List.range n).map (fun k=>T2 (sd n k))=(Sd n).map T2 by unfold Sd;rw[BI];rfl];have hs:(Sd n).length=n:=by unfold Sd;rw[bI,FP]
 unfold Ls;generalize Sd n=S at hs⊢;generalize so2 ls=l' at cX⊢;walk_at "dz";rw[cat_T2 (by lia)];walk_at "dz";rw[Mh];walk_at "dz"
def kK(n:Nat)(hn:3<=n)(bB:n<=60)(ls:List P2)(hl:ls.length<=60):Cb [.int (n:Int),.lst ((so2 ls).map T2)]=.ok (.lst ((Ls n ls).map T2)):=by
 have cX:(so2 ls).length<=60:=by rw[(C6 ls).length_eq];exact hl
 obtain⟨m,rfl⟩:∃m,n=m+1:=⟨n - 1,by lia⟩;have e:(List.range m).map (fun (k:Nat)=>((k:Int),(k:Int)+1))++[(0,(m:Int))]=Sd (m+1):=by
  unfold Sd;rw[List.range_succ,BG];congr 1
  . apply EE;intro k hk;rw[CW]at hk;unfold sd;rw[ψ (by lia)]
  . simp[sd]
 unfold Cb jh;walk_at "dz";rw[Pt (m:Int) (by lia) (by walk_at "dz";rw[show((m+1:Nat):Int) - 1=(m:Int) by lia])];walk_at "dz";rw[GP,jA,ξ (by simp;lia),E7 (en:=fun (k:Nat)=>D.int (k:Int)) (bs:=fun k=>[D.int (k:Int)]) (g:=fun k=>T2 ((k:Int),(k:Int)+1)) (List.range m) (fun x _=>rfl) (fun k hk=>by unfold jv;walk_at "dz";rfl)];rw[show(List.range m).map (fun (k:Nat)=>T2 ((k:Int),(k:Int)+1))=((List.range m).map (fun (k:Nat)=>((k:Int),(k:Int)+1))).map T2 by rw[BI];rfl,show((m+1:Nat):Int) - 1=(m:Int) by lia];have hs:((List.range m).map (fun (k:Nat)=>((k:Int),(k:Int)+1))).length=m:=by rw[bI,FP]
 unfold Ls;rw[<-e];generalize (List.range m).map (fun (k:Nat)=>((k:Int),(k:Int)+1))=S at hs⊢;generalize so2 ls=l' at cX⊢;walk_at "dz";rw[show(D.lst [.tup [.int 0,.int (m:Int)]])=.lst ([((0:Int),(m:Int))].map T2) from rfl,cat_T2 (by simp;lia)];walk_at "dz";rw[cat_T2 (by simp;lia)];walk_at "dz";rw[Mh];walk_at "dz"
def Fs(a b:Int):X5 [.tup [.int a,.int b]]=.ok (.bl true):=by unfold X5 Wo;walk_at "dz";rw[Jn];walk_at "dz";rw[Jn];walk_at "dz";rfl
def kJ(n a b:Int):Bo [.int n,.tup [.int a,.int b]]=.ok (.bl (decide (0<=a/\b<n/\(b=a+1\/(a=0/\b=n - 1))))):=by
 unfold Bo Xp;walk_at "dz";by_cases h:a<0\/n<=b
 . rw[show(decide (a<0)||decide (n<=b))=true by simpa using h];walk_at "dz";rw[decide_eq_false (by lia)]
 . rw[show(decide (a<0)||decide (n<=b))=false by
    rw[decide_eq_false (show ¬a<0 by lia),decide_eq_false (show ¬n<=b by lia)];rfl]
   walk_at "dz"
   congr 2
   rw[DA]
   simp only[FX,pr,AR]
   lia
def c7(n:Nat)(ls:List P2):D:=.tup [.int (n:Int),.tup ((so2 ls).map T2)]
def Cf(n:Nat)(ls:List P2):dIx (c7 n ls) (.int 0)=some (.int (n:Int)):=Jh _ _
def Fq(n:Nat)(ls:List P2):dIx (c7 n ls) (.int 1)=some (.tup ((so2 ls).map T2)):=xW _ _ _
def Pb(hn:3<=n)(ls:List P2)(p:P2):Bt [c7 n ls,T2 p]=.ok (.bl (decide (p∈Ls n ls))):=by
 obtain⟨a,b⟩:=p;have e0:=Cf n ls;have e1:=Fq n ls;have e2:=Hr (a,b) (so2 ls);have e3:decide ((a,b)∈Ls n ls)=(decide (0<=a/\b<(n:Int)/\(b=a+1\/(a=0/\b=(n:Int) - 1)))||decide ((a,b)∈so2 ls)):=by rw[DA];simp only[FX,AR];rw[mem_Ls,Rc hn,(C6 ls).mem_iff]
 rw[e3];generalize decide ((a,b)∈so2 ls)=B at e2⊢;generalize D.tup ((so2 ls).map T2)=X at *;generalize c7 n ls=cut at *;simp only[T2]at e2⊢;unfold Bt Yp;walk_at "dz";rw[Fs];walk_at "dz";rw[e0];walk_at "dz";rw[kJ];walk_at "dz";generalize decide (0<=a/\b<(n:Int)/\(b=a+1\/(a=0/\b=(n:Int) - 1)))=A;cases A
 . walk_at "dz";rw[e1];walk_at "dz";rw[e2];walk_at "dz"
 . walk_at "dz"
def kI(hn:3<=n)(h:p∈Ls n ls):T5 [c7 n ls,T2 p]=.ok .non:=by have e:=Pb hn ls p;rw[decide_eq_true h]at e;generalize c7 n ls=cut at *;generalize T2 p=q at *;unfold T5 Ni;walk_at "dz";rw[e];walk_at "dz"
def kH(hn:3<=n)(h:p∉Ls n ls):T5 [c7 n ls,T2 p]=.er ⟨"NoLine",[]⟩:=by have e:=Pb hn ls p;rw[decide_eq_false h]at e;generalize c7 n ls=cut at *;generalize T2 p=q at *;unfold T5 Ni;walk_at "dz";rw[e];walk_at "dz";simp only[J3];walk_at "dz"
def wt(p:P2)(l:List P2):List Int:=l.map fun q=>if q=p then 1 else 0
def Pa(p q:P2):dEq (T2 p) (T2 q)=some (.bl (decide (p=q))):=by obtain⟨a,b⟩:=p;obtain⟨c,d⟩:=q;simp only[T2,xX,Prod.mk.injEq];congr 2;rw[DA];simp
def zk(hn:3<=n)(bB:n<=60)(hl:ls.length<=60)(h:p∈Ls n ls):w4 [c7 n ls,T2 p]=.ok (.lst [TM (wt p (Ls n ls),1)]):=by
 have e1:=kI hn h;have e2:G5 [c7 n ls]=_:=Lx n hn bB ls hl;have l1:(Ls n ls).length<=120:=by rw[Am];lia
 generalize c7 n ls=cut at *;generalize Ls n ls=S at *;unfold w4 Kz;walk_at "dz";rw[e1];walk_at "dz";rw[e2];walk_at "dz";rw[ξ (by rw[bI];lia),E7 (en:=T2) (bs:=fun q=>[T2 q]) (g:=fun q=>D.int (if q=p then 1 else 0)) S (fun x _=>rfl) (fun q _=>by
  unfold Yo;show eIf (b8 asB (eOp dEq (a6 0) (a6 1))) (eC (.int 1)) (eC (.int 0)) [some (T2 q),some (T2 p)]=_;walk_at "dz";rw[Pa];walk_at "dz";by_cases z:q=p
  . rw[decide_eq_true z,ξ z];rfl
  . rw[decide_eq_false z,ψ z];rfl)]
 walk_at "dz";unfold wt TM;rw[BI];rfl
def zj(hn:3<=n)(h:p∉Ls n ls):w4 [c7 n ls,T2 p]=.er ⟨"NoLine",[]⟩:=by have e1:=kH hn h;generalize c7 n ls=cut at *;generalize T2 p=q at *;unfold w4 Kz;walk_at "dz";rw[e1];walk_at "dz"
def Rb(h:0<=a/\a<b/\b<n):T9 [.int n,.tup [.int a,.int b]]=.ok .non:=by unfold T9 Oa;walk_at "dz";rw[Fs];walk_at "dz";rw[decide_eq_true h.1,decide_eq_true h.2.1,decide_eq_true h.2.2];walk_at "dz"
def kG(h:¬(0<=a/\a<b/\b<n)):T9 [.int n,.tup [.int a,.int b]]=.er ⟨"NoLine",[]⟩:=by
 unfold T9 Oa;walk_at "dz";rw[Fs];walk_at "dz";rw[show(decide (0<=a)&&(decide (a<b)&&decide (b<n)))=false by
  cases e:(decide (0<=a)&&(decide (a<b)&&decide (b<n))) with
  |false=>rfl
  |true=>simp only[pr,AR]at e;exact absurd e h]
 walk_at "dz";simp only[J3];walk_at "dz"
def wa{n:Nat}{ls:List P2}{a b:Int}(h:¬(0<=a/\a<b/\b<(n:Int))):w6 [c7 n ls,.tup [.int a,.int b]]=.er ⟨"NoLine",[]⟩:=by have e0:=Cf n ls;generalize c7 n ls=cut at *;unfold w6 Bs;walk_at "dz";rw[e0];walk_at "dz";rw[kG h];walk_at "dz"
def vZ(n:Int)(t:D)(i j:Int)(hi:0<=i/\i<n)(hj:0<=j/\j<n)(h:12<n):J9 [.tup [.int n,t],.int i,.int j]=.er ⟨"TooMany",[]⟩:=by unfold J9 Ei;walk_at "dz";rw[Kt n i hi];walk_at "dz";rw[Kt n j hj];walk_at "dz";rw[decide_eq_true h];walk_at "dz";simp only[J3];walk_at "dz"
def vW{n:Nat}{ls:List P2}{a b:Int}(h:0<=a/\a<b/\b<(n:Int))(hn:12<(n:Int)):w6 [c7 n ls,.tup [.int a,.int b]]=.er ⟨"TooMany",[]⟩:=by have e0:=Cf n ls;have e1:J9 [c7 n ls,.int a,.int b]=_:=vZ (n:Int) (.tup ((so2 ls).map T2)) a b (by omega) (by omega) hn;generalize c7 n ls=cut at *;unfold w6 Bs;walk_at "dz";rw[e0];walk_at "dz";rw[Rb h];walk_at "dz";simp only[Cj];walk_at "dz";rw[show keeps true (D.dn [] [])=true from rfl];walk_at "dz";rw[e1];walk_at "dz"
noncomputable abbrev tryB:DS->SR:=sIf (fun ρ=>((b8 asB (eOp dEq (a6 0) (eC (.int 0)))) ρ).noE) (p9 (B6 knX w4 (a7 (a6 1) (a7 (a6 2) a9)))) (p9 (B6 knX w6 (a7 (a6 1) (a7 (a6 2) a9))))
noncomputable def tried(w:Int)(cut a:D):R D:=if w=0 then w4 [cut,a] else w6 [cut,a]
def Ra(w:Int)(hw:w=0\/w=1)(cut a:D):tryB [.im (.int w),.im cut,.im a,.ow (.lst []),.em]=((tried w cut a).kn knX).toS fun _=>.nx [.im (.int w),.im cut,.im a,.ow (.lst []),.em]:=by
 unfold tryB tried;rcases hw with rfl |rfl
 . walk_at "dz";simp only[B6];walk_at "dz"
 . walk_at "dz";simp only[B6];walk_at "dz"
def Fp(w:Int)(hw:w=0\/w=1)(cut a:D)(c:String)(hc:c="NoLine"\/c="TooMany")(h:tried w cut a=.er ⟨c,[]⟩):C8 [.int w,cut,a]=.ok (.lst [.bl true,.bl (decide (c="NoLine")),.bl (decide (c="TooMany"))]):=by
 unfold C8;rw[M9,ξ (show [D.int w,cut,a].length=3 from rfl)];show SR.out true (Nr [.im (.int w),.im cut,.im a,.em,.em])=_;unfold Nr;rw[i3 (ρ':=[.im (.int w),.im cut,.im a,.ow (.lst []),.em]) (by walk_at "dz")];rcases hc with rfl |rfl
 . rw[i3 (ρ':=[.im (.int w),.im cut,.im a,.ow (.lst [.bl true,.bl true,.bl false]),.em]) (by
    unfold Z2
    rw[show sIf (fun ρ=>((b8 asB (eOp dEq (a6 0) (eC (.int 0)))) ρ).noE) (p9 (B6 knX w4 (a7 (a6 1) (a7 (a6 2) a9)))) (p9 (B6 knX w6 (a7 (a6 1) (a7 (a6 2) a9))))=tryB from rfl,Ra w hw,h]
    rfl)]
   rfl
 . rw[i3 (ρ':=[.im (.int w),.im cut,.im a,.ow (.lst [.bl true,.bl false,.bl true]),.em]) (by
    unfold Z2
    rw[show sIf (fun ρ=>((b8 asB (eOp dEq (a6 0) (eC (.int 0)))) ρ).noE) (p9 (B6 knX w4 (a7 (a6 1) (a7 (a6 2) a9)))) (p9 (B6 knX w6 (a7 (a6 1) (a7 (a6 2) a9))))=tryB from rfl,Ra w hw,h]
    rfl)]
   rfl
def y3f(ht:t.1<t.2.1/\t.2.1<t.2.2)(hc:c∈cor t):((cor t).filter fun x=>decide (x≠c)).map D.int=[.int (opp t c).1,.int (opp t c).2]:=by
 obtain⟨a,d,b⟩:=t;simp only at ht;simp only[cor,ee,AZ,DM]at hc;unfold opp cor;dsimp only;rcases hc with rfl |rfl |rfl
 . rw[ξ rfl,DJ (by simp),BZ (by simp;lia),BZ (by simp;lia)];rfl
 . rw[ψ (by lia),ξ rfl,BZ (by simp;lia),DJ (by simp),BZ (by simp;lia)];rfl
 . rw[ψ (by lia),ψ (by lia),BZ (by simp;lia),BZ (by simp;lia),DJ (by simp)];rfl
def y3g(ht:t.1<t.2.1/\t.2.1<t.2.2)(hc:c∈cor t):Y6 [T3 t,.int c]=.ok (T2 (opp t c)):=by
 have e:=y3f ht hc;unfold Y6 Yq;walk_at "dz";rw[show [D.int t.1,D.int t.2.1,D.int t.2.2]=(cor t).map D.int from rfl,Bq (en:=D.int) (bs:=fun x=>[D.int x]) (p:=fun x=>decide (x≠c)) (g:=fun x=>D.int x) (cor t) (fun x _=>rfl) (fun x _=>by
  unfold Zy;walk_at "dz";congr 1;by_cases h:x=c<;>simp[h]) (fun x _ _=>by
  unfold Zx;walk_at "dz")]
 rw[show List.map (fun x=>D.int x) ((cor t).filter fun x=>decide (x≠c))=_ from e];walk_at "dz";rfl
def Qz(S:List P2)(q:P2):N9 (S.map T2) (T2 q)=some (.int ((S.count q:Nat):Int)):=by unfold N9;have:=G3 S T2 1 R8;rw[ξ ⟨L2.pls_of S T2 F6,F6 q,by lia⟩,List.countP_map];congr 3;apply List.countP_congr;intro x _;simp only[Function.comp,Hs,AR,EW]
def pw(L:List P2)(A l:List P2):List Int:=L.map fun q=>((A.count q:Nat):Int) - ((l.count q:Nat):Int)
theorem Qy:∀{ts:List P3}{x:List Int},Al x ts->Asc ts->(∀p∈ts.zip x,Y6 [T3 p.1,.int p.2]=.ok (T2 (opp p.1 p.2)))/\(ts.zip x).map (fun p=>T2 (opp p.1 p.2))=(ab ts x).map T2
 | [],x,_,_=>by simp[ab]
 |t::ts,[],h,_=>by simp[ab]
 |t::ts,c::x,h,ha=>by
  unfold Cu.Al at h;obtain⟨h1,h2⟩:=Qy h.2 fun u hu=>ha u (by simp[hu])
  refine⟨fun p hp=>?_,?_⟩
  . rw[AX,ee]at hp;rcases hp with rfl |hp
    . exact y3g (ha t (by simp)) h.1
    . exact h1 p hp
  . rw[AX,dg,h2];rfl
def ye{n:Nat}(hn:3<=n)(bB:n<=60){ls:List P2}(hl:ls.length<=57){T:List P3}(I:CInv (n:Int) ls T){x:List Int}(h:Al x (so3 T)) :
  Bw [c7 n ls,TuI x]=.ok (TuI (pw (Ls n ls) (ab (so3 T) x) (so2 ls))):=by
 have et:K0 [c7 n ls]=_:=Zd I (C6 ls) (by lia)
 have e1:=Fq n ls
 have e2:G5 [c7 n ls]=_:=Lx n hn bB ls (by lia)
 have l1:(Ls n ls).length<=120:=by rw[Am];lia
 have hT:(so3 T).length<=60:=by have:=I.prm.length_eq;rw[bI,io]at this;rw[(C5 T).length_eq];lia
 obtain⟨z1,z2⟩:=Qy h I.asc
 have hx:=h.len
 generalize so3 T=ts at *
 generalize Ls n ls=S at *
 generalize c7 n ls=cut at *
 have hz:F5 (a7 (c6 K0 (a7 (a6 0) a9)) (a7 (a6 1) a9)) [some cut,some (TuI x),none]=.ok ((ts.zip x).map fun p=>D.tup [T3 p.1,.int p.2]):=by unfold F5;rw[show a7 (c6 K0 (a7 (a6 0) a9)) (a7 (a6 1) a9) [some cut,some (TuI x),none]=.ok [.lst (ts.map T3),TuI x] by walk_at "dz";rw[et];walk_at "dz",R.bind_ok];show R.of (if(ts.map T3).length=(x.map D.int).length then some (((ts.map T3).zip (x.map D.int)).map fun p=>D.tup [p.1,p.2]) else none)=_;rw[ξ (by rw[bI,bI,hx]),R.of_some,List.zip_map,BI];rfl
 have hc:i4 (F5 (a7 (c6 K0 (a7 (a6 0) a9)) (a7 (a6 1) a9))) (bT 2) [] k7 Ep [some cut,some (TuI x),none]=.ok (.lst ((ab ts x).map T2)):=by unfold i4;rw[hz,R.bind_ok,ξ (by rw[bI,BW];lia)];show((E2 (bT 2) k7 Ep [] ((ts.zip x).map fun p=>D.tup [T3 p.1,.int p.2])).bind fun ys=>R.ok (D.lst ys))=_;rw[E7 (bn:=bT 2) (en:=fun p:P3×Int=>D.tup [T3 p.1,.int p.2]) (bs:=fun p=>[T3 p.1,.int p.2]) (g:=fun p=>T2 (opp p.1 p.2)) (ts.zip x) (fun x _=>rfl) (fun p hp=>by unfold Ep;walk_at "dz";exact z1 p hp),z2];rfl
 unfold Bw
 rw[M9,ξ (show [cut,TuI x].length=2 from rfl)]
 show SR.out false (Mu [.im cut,.im (TuI x),.em])=_
 unfold Mu
 rw[i3 (ρ':=[.im cut,.im (TuI x),.ow (.lst ((ab ts x).map T2))]) (by rw[xY];show(i4 _ _ _ _ _ [some cut,some (TuI x),none]).toS _=_;rw[hc,P9,show keeps true (D.lst ((ab ts x).map T2))=true by rw[Eg];exact C7 _ _ fun x _=>X1 x];rfl)]
 generalize ab ts x=A at *
 generalize TuI x=X at *
 walk_at "dz"
 rw[e2]
 walk_at "dz"
 rw[ξ (by rw[bI];lia),E7 (en:=T2) (bs:=fun q=>[T2 q]) (g:=fun q=>D.int (((A.count q:Nat):Int) - (((so2 ls).count q:Nat):Int))) S (fun x _=>rfl) (fun q _=>by
  unfold ja;show eOp v8 (L0 (a6 1) (a6 0)) (K9 (eOp dIx (a6 2) (eC (.int 1))) (a6 0)) [some (T2 q),some (.lst (A.map T2)),some cut]=_;have c1:L0 (a6 1) (a6 0) [some (T2 q),some (.lst (A.map T2)),some cut]=.ok (.int ((A.count q:Nat):Int)):=by unfold L0;show R.of (N9 (A.map T2) (T2 q))=_;rw[Qz];rfl
  have c2:K9 (eOp dIx (a6 2) (eC (.int 1))) (a6 0) [some (T2 q),some (.lst (A.map T2)),some cut]=.ok (.int (((so2 ls).count q:Nat):Int)):=by unfold K9;rw[show eOp dIx (a6 2) (eC (.int 1)) [some (T2 q),some (.lst (A.map T2)),some cut]=.ok (.tup ((so2 ls).map T2)) by walk_at "dz";rw[e1];rfl,R.bind_ok];show R.of (N9 ((so2 ls).map T2) (T2 q))=_;rw[Qz];rfl
  rw[show eOp v8 (L0 (a6 1) (a6 0)) (K9 (eOp dIx (a6 2) (eC (.int 1))) (a6 0)) [some (T2 q),some (.lst (A.map T2)),some cut]=(L0 (a6 1) (a6 0) [some (T2 q),some (.lst (A.map T2)),some cut]).bind fun x=>(K9 (eOp dIx (a6 2) (eC (.int 1))) (a6 0) [some (T2 q),some (.lst (A.map T2)),some cut]).bind fun y=>R.of (v8 x y) from rfl,c1,R.bind_ok,c2,R.bind_ok];rfl)]
 walk_at "dz"
 unfold pw TuI
 rw[BI];rfl
def fr(L:List P2)(l:List P2)(ts:List P3)(x:List Int):Tm:=(pw L (ab ts x) l,1)
def frZ(L:List P2)(l:List P2)(ts:List P3)(S:List (List Int)):List Tm:=x0 [] (S.map (fr L l ts))
def kF{n:Nat}(hn:3<=n)(bB:n<=60){ls:List P2}(hl:ls.length<=57){T:List P3}(I:CInv (n:Int) ls T)(P:D)(l:List Tm)(h1:l.length<=1000){x:List Int}(h:Al x (so3 T))(s4:Sl) :
  Eo [.im (c7 n ls),.im P,.ow (dnA l),.im (TuI x),s4]=.nx [.im (c7 n ls),.im P,.ow (dnA (o6 l (fr (Ls n ls) (so2 ls) (so3 T) x).1 (j8 l (fr (Ls n ls) (so2 ls) (so3 T) x).1+1))),.im (TuI x),.im (.tup ((fr (Ls n ls) (so2 ls) (so3 T) x).1.map D.int))]:=by
 have ep:=ye hn bB hl I h
 rw[show TuI (pw (Ls n ls) (ab (so3 T) x) (so2 ls))=.tup ((fr (Ls n ls) (so2 ls) (so3 T) x).1.map D.int) from rfl]at ep
 generalize (fr (Ls n ls) (so2 ls) (so3 T) x).1=k at *
 have e1:=y38 l k
 have e2:=y39 h1 k (j8 l k+1)
 have n1:j4 (k.map D.int)=true:=C7 D.int _ fun x _=>Bf x
 generalize hw:j8 l k=w at *
 generalize o6 l k (w+1)=l' at e2⊢
 unfold dnA at *
 generalize (l.map fun t=>kN t.1)=ks at *
 generalize (l.map fun t=>D.int t.2)=ds at *
 generalize (l'.map fun t=>kN t.1)=sR at *
 generalize (l'.map fun t=>D.int t.2)=AN at *
 generalize k.map D.int=es at *
 generalize c7 n ls=cut at *
 generalize TuI x=X at *
 unfold Eo
 walk_at "dz"
 rw[ep]
 walk_at "dz"
 rw[n1]
 walk_at "dz"
 rw[kU rfl rfl rfl e1]
 walk_at "dz"
 rw[n1]
 walk_at "dz"
 rw[e2]
 walk_at "dz"
def Uc{n:Nat}(hn:3<=n){ls:List P2}{T:List P3}(I:CInv (n:Int) ls T)(hl:ls.length+3=n)(cY:n<=12){a b:Int}(h:0<=a/\a<b/\b<(n:Int))(hS:(Sh [a,b] (so3 T)).length<=1000) :
  w6 [c7 n ls,.tup [.int a,.int b]]=.ok (.lst ((Cn (frZ (Ls n ls) (so2 ls) (so3 T) (Sh [a,b] (so3 T)))).map TM)):=by
 have e0:=Cf n ls
 have es:J9 [c7 n ls,.int a,.int b]=_:=zhn I (by lia) (by lia) a b (by lia) (by lia)
 rw[show shr a b (so3 T)=Sh [a,b] (so3 T) by unfold shr;rw[ψ (by lia)]]at es
 have hA:∀x∈Sh [a,b] (so3 T),Al x (so3 T):=fun x hx=>(mem_Sh.mp hx).1
 have fb:=fun (l:List Tm)(h1:l.length<=1000)(x:List Int)(hx:Al x (so3 T))(s4:Sl)=>kF hn (by lia) (by lia) I (.tup [.int a,.int b]) l h1 hx s4
 unfold frZ
 have hf:∀x,(fr (Ls n ls) (so2 ls) (so3 T) x).2=1:=fun _=>rfl
 generalize Sh [a,b] (so3 T)=S at *
 generalize fr (Ls n ls) (so2 ls) (so3 T)=f at *
 generalize c7 n ls=cut at *
 unfold w6
 rw[M9,ξ (show [cut,D.tup [.int a,.int b]].length=2 from rfl)]
 show SR.out true (Bs [.im cut,.im (.tup [.int a,.int b]),.em,.em,.em])=_
 unfold Bs
 rw[i3 (ρ':=[.im cut,.im (.tup [.int a,.int b]),.em,.em,.em]) (by walk_at "dz";rw[e0];walk_at "dz";rw[Rb h];walk_at "dz")]
 rw[i3 (ρ':=[.im cut,.im (.tup [.int a,.int b]),.ow (dnA []),.em,.em]) (by walk_at "dz";simp only[Cj];walk_at "dz";rw[show keeps true (D.dn [] [])=true from rfl];walk_at "dz";rfl)]
 obtain⟨ρ',q,l',s3,s4,⟨h1,h2,_⟩,hr⟩:=Ec (tg:=.n 3) (g:=Eo) (en:=TuI)
  (fun r ρ=>∃(l':List Tm)(s3 s4:Sl),(x0 l' (r.map f)=x0 [] (S.map f)/\l'.length+r.length<=1000/\∀x∈r,Al x (so3 T))/\ρ=[.im cut,.im (.tup [.int a,.int b]),.ow (dnA l'),s3,s4])
  S [.im cut,.im (.tup [.int a,.int b]),.ow (dnA []),.em,.em] ⟨[],.em,.em,⟨rfl,by simpa using hS,hA⟩,rfl⟩ (by
   rintro x r ρ ⟨l',s3,s4,⟨h1,h2,h3⟩,rfl⟩;rw[io]at h2;refine⟨_,_,rfl,Or.inl (fb l' (by lia) x (h3 x BK) s4),⟨_,_,_,⟨?_,?_,fun u hu=>h3 u (tB _ hu)⟩,rfl⟩⟩
   . rw[<-h1,dg,T4];rw[show(f x).2=1 from hf x]
   . have:=Ug l' (f x).1 (j8 l' (f x).1+1)
     lia)
 rw[i3 (ρ':=ρ') (by rw[<-q];unfold D6;rw[show iL (c6 J9 (a7 (a6 0) (a7 (eOp dIx (a6 1) (eC (.int 0))) (a7 (eOp dIx (a6 1) (eC (.int 1))) a9)))) (vis [true,true] [.im cut,.im (.tup [.int a,.int b]),.ow (dnA []),.em,.em])=.ok (S.map TuI) by walk_at "dz";rw[es];walk_at "dz"];rfl)]
 have e':l'=x0 [] (S.map f):=h1
 have ll:l'.length<=1000:=by rw[DL]at h2;lia
 rw[hr,Vf]
 rw[show c6 T0 (a7 (a6 2) a9) (vis [false,false,true] [.im cut,.im (.tup [.int a,.int b]),.ow (dnA l'),s3,s4])=T0 [dnA l'] from rfl,wf _ ll,e']
 rfl
theorem Wi:∀(xs ys:List Int),u7 xs ys=!HT.lexLt xs ys
 | [],[]=>rfl
 | [],_::_=>rfl
 |_::_,[]=>rfl
 |x::xs,y::ys=>by
  rw[zhe,HT.lexLt_cons];split
  . exact Wi xs ys
  . by_cases h:x<y
    . rw[decide_eq_true h,decide_eq_false (by lia)];rfl
    . rw[decide_eq_false h,decide_eq_true (by lia)];rfl
structure Gk(m:Nat)(x:List Tm):Prop where
 ne:x≠[]
 few:x.length<=1000
 len:∀t∈x,t.1.length=m
 pos:∀t∈x,1<=t.2
 inc:∀i,i+1<x.length->u7 (x.getD i ([],0)).1 (x.getD (i+1) ([],0)).1=false
def y5r(p:Int):Nt [some (.int p)]=.ok (.bl false):=by unfold Nt;walk_at "dz";rw[Fu];walk_at "dz"
def y5s(hm:m<=200)(g:Gk m x)(hi:i<x.length) :
  Et [.im (.lst (x.map TM)),.im (.int (m:Int)),.im (.int (i:Int)),.im (TM (x.getD i ([],0)))]=.nx [.im (.lst (x.map TM)),.im (.int (m:Int)),.im (.int (i:Int)),.im (TM (x.getD i ([],0)))]:=by
 have gl:=g.len _ (getD_mem hi)
 have gz:=g.pos _ (getD_mem hi)
 have gi:∀k,i=k+1->u7 (x.getD k ([],0)).1 (x.getD i ([],0)).1=false:=fun k e=>by rw[e];exact g.inc k (by lia)
 have gx:∀k,i=k+1->dIx (.lst (x.map TM)) (.int ((i:Int) - 1))=some (TM (x.getD k ([],0))):=fun k e=>y3b (by lia) (by lia)
 generalize x.getD i ([],0)=t at *
 obtain⟨ps,v⟩:=t
 unfold Et
 rw[i3 (ρ':=[.im (.lst (x.map TM)),.im (.int (m:Int)),.im (.int (i:Int)),.im (TM (ps,v))]) (by generalize x.map TM=X;unfold TM;walk_at "dz";rw[ψ (by simp[show ps.length=m from gl])])]
 rw[i3 (ρ':=[.im (.lst (x.map TM)),.im (.int (m:Int)),.im (.int (i:Int)),.im (TM (ps,v))]) (by generalize x.map TM=X;unfold TM;walk_at "dz";rw[ξ (by rw[bI,show ps.length=m from gl];lia),E7 (en:=D.int) (bs:=fun p=>[.int p]) (g:=fun _=>.bl false) ps (fun _ _=>rfl) (fun p _=>y5r p)];walk_at "dz";rw[any_map ps (fun _=>false),show(ps.any fun _=>false)=false by simp];walk_at "dz";rw[Fu];walk_at "dz";rw[decide_eq_false (show ¬v<1 by simp only at gz;lia)];walk_at "dz")]
 cases i with
 |zero=>
  generalize x.map TM=X
  generalize TM (ps,v)=T
  walk_at "dz"
  rw[ψ (by simp)]
 |succ k=>
  have g1:=gi k rfl
  have g2:=gx k rfl
  generalize x.getD k ([],0)=u at *
  generalize x.map TM=X at *
  unfold TM at *
  walk_at "dz"
  rw[g2]
  walk_at "dz"
  rw[y5q,g1]
  walk_at "dz"
  rw[ite_self]
def Ub(hm:m<=200)(g:Gk m x):T6 [.lst (x.map TM),.int (m:Int)]=.ok (.bl true):=by
 have en:dEq (.lst (x.map TM)) (.lst [])=some (.bl false):=by
  have h1:=Oe x;have h2:=Ft x;have e:eqD (.lst (x.map TM)) (.lst [])=false:=by
   cases x with
   |nil=>exact absurd rfl g.ne
   |cons t x=>simp[eqD,k8]
  unfold dEq;rw[ξ ⟨h1,rfl,by lia⟩,e]
 unfold T6;rw[M9,ξ (show [D.lst (x.map TM),D.int (m:Int)].length=2 from rfl)];show SR.out false (Nj [.im (.lst (x.map TM)),.im (.int (m:Int)),.em,.em])=_;unfold Nj;rw[i3 (ρ':=[.im (.lst (x.map TM)),.im (.int (m:Int)),.em,.em]) (by generalize x.map TM=X at *;walk_at "dz";rw[en];walk_at "dz")];obtain⟨ρ',q,s2,s3,hr⟩:=Le (tg:=.t [2,3]) (g:=Et) x.length (fun (i:Nat)=>D.tup [.int (i:Int),TM (x.getD i ([],0))])
  (fun k ρ=>∃(s2 s3:Sl),ρ=[.im (.lst (x.map TM)),.im (.int (m:Int)),s2,s3])
  [.im (.lst (x.map TM)),.im (.int (m:Int)),.em,.em] ⟨.em,.em,rfl⟩ (by rintro i hi ρ ⟨s2,s3,rfl⟩;exact⟨_,_,rfl,Or.inl (y5s hm g hi),⟨_,_,rfl⟩⟩)
 rw[i3 (ρ':=ρ') (by
  rw[<-q];unfold D6;rw[show iEn (a7 (a6 0) a9) (vis [true] [.im (.lst (x.map TM)),.im (.int (m:Int)),.em,.em])=.ok ((List.range x.length).map fun (i:Nat)=>D.tup [.int (i:Int),TM (x.getD i ([],0))]) by
   unfold iEn;show R.of (some (((zD 0 (x.map TM).length).zip (x.map TM)).map fun p=>D.tup [p.1,p.2]))=_;rw[R.of_some,show x.map TM=(List.range x.length).map fun i=>TM (x.getD i ([],0)) by
    conv=>lhs;rw[Sw x ([],0)]
    rw[BI];rfl,Wu]]
  rfl)]
 rw[hr];generalize x.map TM=X;walk_at "dz"
def sv(l:List Tm):Int:=(l.map (·.2)).sum
def C4(t:Tm)(l:List Tm):sv (t::l)=t.2+sv l:=by simp[sv]
def kE:∀(l:List Tm)(k:List Int)(v:Int),(e7 l).Nodup->sv (o6 l k (j8 l k+v))=sv l+v:=by
 intro l k v hn;unfold o6;by_cases h:k∈e7 l
 . rw[ξ h];induction l with
   |nil=>cases h
   |cons t l ih=>
    simp only[e7,dg,CH]at hn
    rw[dg,C4,C4,G4]
    by_cases z:t.1=k
    . rw[ξ z,ξ z];have:l.map (fun u=>if u.1=k then(k,t.2+v) else u)=l:=by
       conv=>rhs;rw[<-List.map_id l]
       apply EE;intro u hu;rw[ψ (fun e=>hn.1 (by rw[z,<-e];exact AS.mpr ⟨u,hu,rfl⟩))];rfl
      rw[this];dsimp only;lia
    . rw[ψ z,ψ z];have hk:k∈e7 l:=by
       rcases ee.mp h with e |e
       . exact absurd e.symm z
       . exact e
      have:=ih hn.2 hk
      lia
 . rw[ψ h,yi h];simp[sv]
theorem Qx:∀(b a:List Tm),(e7 a).Nodup->sv (x0 a b)=sv a+sv b
 | [],a,_=>by simp[x0,sv]
 |t::b,a,h=>by rw[T4,Qx b _ (Xj _ _ h),kE a t.1 t.2 h,C4];lia
def vV(p:a.Perm b):sv a=sv b:=by
 induction p with
 |nil=>rfl
 |cons x _ ih=>rw[C4,C4,ih]
 |swap x y l=>rw[C4,C4,C4,C4];lia
 |trans _ _ h1 h2=>exact h1.trans h2
theorem Fo:∀l:List Tm,sv (l.filter nz)=sv l
 | []=>rfl
 |t::l=>by
  by_cases h:nz t=true
  . rw[BZ h,C4,C4,Fo l]
  . rw[DJ h,C4,Fo l];have:t.2=0:=by simpa [nz] using h
    lia
def Oz(l:List Tm):sv (Cn l)=sv l:=by unfold Cn;rw[vV (Bg _),Fo]
theorem Qw:∀(b:List Tm)(j:List Int),(∀t∈b,0<=t.2)->0<=tot b j
 | [],j,_=>Int.le_refl 0
 |t::b,j,h=>by
  have:=Qw b j fun u hu=>h u (tB _ hu)
  have h1:=h t BK;rw[tot];split<;>lia
section
variable {L l:List P2}{ts:List P3}{S:List (List Int)}
def Qv:(e7 (frZ L l ts S)).Nodup:=Xi _ _ (by simp[e7])
def Ua(h:t∈frZ L l ts S):∃x∈S,t.1=pw L (ab ts x) l:=by
 rcases Wm _ _ _ (AS.mpr ⟨t,h,rfl⟩) with z |z
 . simp[e7]at z
 . unfold e7 at z;rw[BI]at z;obtain⟨x,hx,e⟩:=AS.mp z;exact⟨x,hx,e.symm⟩
def Qu:sv (frZ L l ts S)=S.length:=by
 unfold frZ;rw[Qx _ _ (by simp[e7])];induction S with
 |nil=>rfl
 |cons x S ih=>
  rw[dg,C4]
  have:sv []=0:=rfl
  rw[this]at ih⊢
  rw[io]
  show 0+(1+_)=_
  lia
def Qt(hS:S≠[])(h1:S.length<=1000):Gk L.length (Cn (frZ L l ts S)) where
 ne:=fun e=>by
  have:=Oz (frZ L l ts S);rw[e,Qu]at this;cases S with
  |nil=>exact hS rfl
  |cons x S=>simp[sv]at this;lia
 few:=by have a:=kX (frZ L l ts S);have b:=Uf (S.map (fr L l ts)) [];rw[bI,DL]at b;unfold frZ at *;lia
 len:=fun t ht=>by obtain⟨x,_,e⟩:=Ua (mem_Cn.mp ht).1;rw[e];unfold pw;rw[bI]
 pos:=fun t ht=>by
  obtain⟨g1,g2⟩:=(zhp Qv).mp ht;have:=Qw (S.map (fr L l ts)) t.1 fun u hu=>by obtain⟨x,_,rfl⟩:=AS.mp hu;show(0:Int)<=1;decide
  have e:=Uj (S.map (fr L l ts)) [] t.1;rw[Jm]at e;unfold frZ at g1
  lia
 inc:=fun i hi=>by have s:=kQ (frZ L l ts S);rw[CG,DX]at s;have h1:=s i (i+1) (by lia) hi (by lia);have nd:=yg (l:=frZ L l ts S) Qv;unfold e7 List.Nodup at nd;rw[CG,DX]at nd;have h2:=nd i (i+1) (by lia) hi (by lia);rw[gc,gc,AO (by lia),AO hi];show u7 (Cn (frZ L l ts S))[i].1 (Cn (frZ L l ts S))[i+1].1=false;rw[Wi,Ue h2 (by rw[<-y3a (fun z=>h2 z.symm)];exact h1)];rfl
end
def bnd(v:Nat->Vc)(n i:Nat):List Int:=(List.range n).map fun d=>dt (v i) (v (i+d))
def Tz(v:Nat->Vc)(n i:Nat):(bnd v n i).length=n:=by simp[bnd]
def Hh(v:Nat->Vc)(n i d:Nat)(h:d<n):(bnd v n i).getD d 0=dt (v i) (v (i+d)):=by unfold bnd;rw[gc,BF,List.getElem?_range h];rfl
def vU(v:Nat->Vc)(n i:Nat):bnd v n i++[dt (v i) (v (i+n))]=bnd v (n+1) i:=by unfold bnd;rw[List.range_succ,BG];rfl
def jz{xs:List Int}{k:Nat}{i:Int}(h:i=(k:Int) - xs.length)(hk:k<xs.length)(hl:xs.length<1000):dIx (L xs) (.int i)=some (.int (xs.getD k 0)):=by
 have e:atI (xs.map D.int) i=some (.int (xs.getD k 0)):=by
  rw[Vq];have:atI xs i=some (xs.getD k 0):=by unfold atI;rw[show ixN xs.length i=some k by unfold ixN;rw[ψ (by lia),ξ (by lia)];congr 1;lia];rw[gc,AO hk];simp[AO hk]
  rw[this];rfl
 simp only[L,dIx,dOr,D3,e]
def y3h(G:Good row v)(bB:row.length<=60)(a b d:Nat)(hd:a+d+1<row.length) :
  Ez [.im (L row),.im (.int (a:Int)),.im (.int (b:Int)),.ow (L (bnd v (d+2) a)),.im (.int (((a:Int)+1)+(d:Int)))]=.nx [.im (L row),.im (.int (a:Int)),.im (.int (b:Int)),.ow (L (bnd v (d+1+2) a)),.im (.int (((a:Int)+1)+(d:Int)))]:=by
 have rb:=G.rb (a+d+1)
 have bl:=Tz v (d+2) a
 unfold Ez
 walk_at "dz"
 rw[show((a:Int)+1)+(d:Int)=((a+d+1:Nat):Int) by lia,jJ hd]
 walk_at "dz"
 rw[jz (k:=d+1) (by rw[bl];lia) (by lia) (by lia),Hh _ _ _ _ (by lia)]
 walk_at "dz"
 rw[y2n (by lia),jz (k:=d) (by rw[bl];lia) (by lia) (by lia),Hh _ _ _ _ (by lia)]
 walk_at "dz"
 rw[Pv (by lia)]
 walk_at "dz"
 have F:=G.fr.rc (v a) (a+d)
 rw[BJ hd,show a+d+1=a+(d+1) by lia,show a+d+2=a+(d+2) by lia]at F
 rw[show a+d+1=a+(d+1) by lia,<-F,vU,show d+2+1=d+1+2 by lia]
def yd(G:Good row v)(bB:row.length<=60)(a b:Nat)(bh:a<b)(hb:b<row.length) :
  Ca [L row,.int (a:Int),.int (b:Int)]=.ok (.int (dt (v a) (v b))):=by
 unfold Ca jb
 walk_at "dz"
 rw[y2o ((a:Int)+1) (b:Int) (by lia) (by lia) (by walk_at "dz")]
 walk_at "dz"
 simp only[zD]
 obtain⟨ρ',e,x,hr⟩:=Le (tg:=.n 4) (g:=Ez) (b - a - 1) (fun (d:Nat)=>D.int (((a:Int)+1)+(d:Int)))
  (fun d ρ=>∃x:Sl,ρ=[.im (L row),.im (.int (a:Int)),.im (.int (b:Int)),.ow (L (bnd v (d+2) a)),x])
  [.im (L row),.im (.int (a:Int)),.im (.int (b:Int)),.ow (L [0,1]),.em] ⟨.em,by
   have:bnd v 2 a=[0,1]:=by show [dt (v a) (v (a+0)),dt (v a) (v (a+1))]=[0,1];rw[G.fr.one a,Nat.add_zero,N4]
   rw[this]⟩ (by
   rintro d hd ρ ⟨x,rfl⟩;exact⟨_,_,rfl,Or.inl (y3h G bB a b d (by lia)),⟨_,rfl⟩⟩)
 rw[show((b:Int) - ((a:Int)+1)).toNat=b - a - 1 by lia]
 simp only[L,dg,CB]at e
 simp only[L]
 rw[e,hr]
 walk_at "dz"
 rw[show(b:Int) - (a:Int)=((b - a:Nat):Int) by lia,jJ (by rw[Tz];lia),Hh _ _ _ _ (by lia),show a+(b - a)=b by lia]
 rfl
def y3i(p:P2)(ls:List P2):dIn true (T2 p) (.tup (ls.map T2))=some (.bl (!decide (p∈ls))):=by have h:=Hr p ls;have h1:=G3 ls T2 1 R8;unfold dIn dOr O4 at h⊢;simp only[F6,L2.pls_of ls T2 F6,true_and,ξ (show i7 (ls.map T2)<=20 by lia),BC,CT,CI,Option.some.injEq,D.bl.injEq]at h⊢;rw[h]
def Od(p:P2)(ls:List P2):dIn false (T2 p) (.lst (ls.map T2))=some (.bl (decide (p∈ls))):=by have h:=Hr p ls;have h1:=G3 ls T2 1 R8;unfold dIn dOr O4 at h⊢;simp only[F6,L2.pls_of ls T2 F6,true_and,ξ (show i7 (ls.map T2)<=20 by lia),BC,CT,Option.some.injEq,D.bl.injEq]at h⊢;rw[h]
def y3k(p:P2)(ls:List P2):dIn true (T2 p) (.lst (ls.map T2))=some (.bl (!decide (p∈ls))):=by have h:=Od p ls;have h1:=G3 ls T2 1 R8;unfold dIn dOr O4 at h⊢;simp only[F6,L2.pls_of ls T2 F6,true_and,ξ (show i7 (ls.map T2)<=20 by lia),BC,CT,CI,Option.some.injEq,D.bl.injEq]at h⊢;rw[h]
def kD(k:List Int):Cn (x0 [] [(k,1)])=[(k,1)]:=by
 have e:x0 [] [(k,1)]=[(k,1)]:=by rw[T4];show o6 [] k (j8 [] k+1)=_;unfold o6;rw[ψ (by simp[e7]),Jm];rfl
 rw[e];unfold Cn;rw[show [(k,(1:Int))].filter nz=[(k,1)] by simp[nz]];exact List.perm_singleton.mp (Bg _)
def y3l{L A ls:List P2}{p:P2}(h:A.Perm (p::ls)):pw L A (so2 ls)=wt p L:=by
 unfold pw wt;apply EE;intro q _;rw[h.count_eq,(C6 ls).count_eq,List.count_cons];by_cases z:q=p
 . subst z;rw[ξ (by simp),ξ rfl];lia
 . rw[ψ (by simpa using fun e=>z e.symm),ψ z];lia
section
variable {row:List Int}{ls:List P2}{T:List P3}{v:Nat->Vc}
def Fx.cnt(F:Fx row ls T v)(bh:a<b)(hb:b<row.length):((Sh [(a:Int),(b:Int)] (so3 T)).length:Int)=dt (v a) (v b):=by have:=F.sc a b (by lia) hb;unfold cn mm at this;rw[ψ (by lia),FJ (by lia),EH (by lia)]at this;exact this
def Fx.few(F:Fx row ls T v)(cY:row.length<=12)(bh:a<b)(hb:b<row.length):(Sh [(a:Int),(b:Int)] (so3 T)).length<=1000/\Sh [(a:Int),(b:Int)] (so3 T)≠[]:=by
 have h1:=F.cnt bh hb;have h2:=F.f.good.bd a b (by lia) (by lia);have h3:(2:Int) ^ (row.length - 3)<=2 ^ 9:=by
  have:2 ^ (row.length - 3)<=2 ^ 9:=Nat.pow_le_pow_right (by decide) (by lia)
  exact_mod_cast this
 have h4:(2:Int) ^ 9=512:=by decide
 have h5:=F.f.good.fr.pos a b bh (by lia);refine⟨by lia,fun e=>?_⟩;rw[e]at h1;simp at h1
 lia
def Fx.edge(F:Fx row ls T v)(h:p∈Ls row.length ls):∃a b:Nat,a<b/\b<row.length/\p=((a:Int),(b:Int))/\(p∈ls\/p.2=p.1+1\/(p.1=0/\p.2=(row.length:Int) - 1)):=by
 have h3:=F.f.good.len;obtain⟨a,b⟩:=p;rcases mem_Ls.mp h with h |h
 . obtain⟨h1,h2,h4⟩:=(Rc h3).mp h;simp only at h1 h2 h4;exact⟨a.toNat,b.toNat,by lia,by lia,by rw[GA h1,GA (by lia)],.inr h4⟩
 . obtain⟨h1,h2,h4,_⟩:=F.f.inv.lin a b h;exact⟨a.toNat,b.toNat,by lia,by lia,by rw[GA h1,GA (by lia)],.inl h⟩
def Fx.one(F:Fx row ls T v)(h:p∈Ls row.length ls):Cn (frZ (Ls row.length ls) (so2 ls) (so3 T) (Sh [p.1,p.2] (so3 T)))=[(wt p (Ls row.length ls),1)]:=by
 obtain⟨a,b,bh,hb,rfl,ed⟩:=F.edge h;have h1:=F.cnt bh hb;have o1:dt (v a) (v b)=1:=by
  rcases ed with e |e |⟨e1,e2⟩
  . exact F.on _ _ e
  . simp only at e;rw[show b=a+1 by lia];exact F.f.good.fr.one a
  . simp only at e1 e2;rw[show a=0 by lia,show b=row.length - 1 by lia];exact Re F.f.good.fr F.f.good.len
 rw[o1]at h1;have h2:(Sh [(a:Int),(b:Int)] (so3 T)).length=1:=by lia
 obtain⟨x,hx⟩:=List.length_eq_one_iff.mp h2;have hp:=F.lp (a:Int) (b:Int) (by lia) (by lia) (by lia) ed x (by rw[hx];simp);show Cn (frZ _ _ _ (Sh [(a:Int),(b:Int)] (so3 T)))=_;rw[hx];unfold frZ;rw[dg,CB];unfold fr;rw[y3l hp];exact kD _
def y3m(p:P2){L:List P2}:Gk L.length [(wt p L,1)] where
 ne:=by simp
 few:=by simp
 len:=fun t ht=>by rw[AV.mp ht];unfold wt;rw[bI]
 pos:=fun t ht=>by rw[AV.mp ht];exact Int.le_refl 1
 inc:=fun i hi=>by simp at hi
def y5t(L l:List P2)(A:List P2)(n:Nat)(q:P2)(ls:List P2):Ce [some (T2 q),some (.int (((A.count q:Nat):Int) - (((so2 ls).count q:Nat):Int))),some (c7 n ls)]=.ok (.bl false):=by
 have e1:=Fq n ls;have e2:=y3i q (so2 ls);unfold Ce;generalize c7 n ls=cut at *;by_cases h:((A.count q:Nat):Int) - (((so2 ls).count q:Nat):Int)<0
 . have hq:q∈so2 ls:=List.count_pos_iff.mp (by lia);rw[decide_eq_true hq]at e2;generalize ((A.count q:Nat):Int) - (((so2 ls).count q:Nat):Int)=z at *;generalize T2 q=Q at *;walk_at "dz";rw[decide_eq_true h];walk_at "dz";rw[e1];walk_at "dz";rw[e2];walk_at "dz"
 . generalize ((A.count q:Nat):Int) - (((so2 ls).count q:Nat):Int)=z at *;generalize T2 q=Q at *;walk_at "dz";rw[decide_eq_false h];walk_at "dz"
theorem Zk(f:α->β):∀l:List α,l.zip (l.map f)=l.map fun x=>(x,f x)
 | []=>rfl
 |x::l=>by rw[dg,AX,Zk f l];rfl
def cb1{g:List D->Option D}{f:DE->R D}{ρ:DE}{d:D}(h:f ρ=.ok d):eCB g (a7 f a9) ρ=R.of (g [d]):=by unfold eCB a7;rw[h];rfl
def y5u{n:Nat}{ls L:List P2}(hL:L.length<=200)(A:List P2)(P R':D)(fd:Sl)(c:Int) :
  Fa [.im (c7 n ls),.im P,.im R',.im (.lst (L.map T2)),fd,.im (.tup ((pw L A (so2 ls)).map D.int)),.im (.int c)]=.nx [.im (c7 n ls),.im P,.im R',.im (.lst (L.map T2)),fd,.im (.tup ((pw L A (so2 ls)).map D.int)),.im (.int c)]:=by
 have hc:∀ρ:DE,a7 (a6 3) (a7 (a6 5) a9) ρ=.ok [.lst (L.map T2),.tup ((pw L A (so2 ls)).map D.int)]->sel [0] ρ=[some (c7 n ls)]->eCB K5 (a7 (i4 (F5 (a7 (a6 3) (a7 (a6 5) a9))) (bT 2) [0] k7 Ce) a9) ρ=.ok (.bl false):=fun ρ h1 h2=>by
  have hz:F5 (a7 (a6 3) (a7 (a6 5) a9)) ρ=.ok (L.map fun q=>D.tup [T2 q,.int (((A.count q:Nat):Int) - (((so2 ls).count q:Nat):Int))]):=by unfold F5;rw[h1,R.bind_ok];show R.of (if(L.map T2).length=((pw L A (so2 ls)).map D.int).length then some (((L.map T2).zip ((pw L A (so2 ls)).map D.int)).map fun p=>D.tup [p.1,p.2]) else none)=_;unfold pw;rw[ξ (by rw[bI,bI,bI]),R.of_some,List.zip_map,Zk,BI,BI];rfl
  rw[cb1 (show i4 (F5 (a7 (a6 3) (a7 (a6 5) a9))) (bT 2) [0] k7 Ce ρ=.ok (.lst (L.map fun _=>.bl false)) by unfold i4;rw[hz,R.bind_ok,ξ (by rw[bI];lia),h2];rw[E7 (bn:=bT 2) (en:=fun q=>D.tup [T2 q,.int (((A.count q:Nat):Int) - (((so2 ls).count q:Nat):Int))]) (bs:=fun q=>[T2 q,.int (((A.count q:Nat):Int) - (((so2 ls).count q:Nat):Int))]) (g:=fun _=>.bl false) L (fun x _=>rfl) (fun q _=>y5t L L A n q ls)];rfl)];rw[any_map L (fun _=>false),show(L.any fun _=>false)=false by simp];rfl
 unfold Fa
 rw[qS]
 unfold b8
 rw[hc _ rfl rfl]
 rfl
def kC(x:List Tm)(hx:x.length<=1000):∀ρ:DE,a6 4 ρ=.ok (.lst (x.map TM))->eCB O3 (a7 (i4 (iL (a6 4)) (bT 2) [] k7 Z0) a9) ρ=.ok (.int (sv x)):=fun ρ h=>by rw[cb1 (show i4 (iL (a6 4)) (bT 2) [] k7 Z0 ρ=.ok (L (x.map (·.2))) by unfold i4;rw[show iL (a6 4) ρ=.ok (x.map TM) by unfold iL;rw[h];rfl,R.bind_ok,ξ (by rw[bI];lia)];show((E2 (bT 2) k7 Z0 [] (x.map TM)).bind fun ys=>R.ok (D.lst ys))=_;rw[E7 (bn:=bT 2) (en:=TM) (bs:=fun t=>[.tup (t.1.map D.int),.int t.2]) (g:=fun t=>.int t.2) x (fun x _=>rfl) (fun t _=>by unfold Z0;walk_at "dz")];unfold L;rw[BI];rfl)];rw[qQ];rfl
def vT(F:Fx row ls T v)(cY:row.length<=12)(bh:a<b)(hb:b<row.length) :
  Y9 [c7 row.length ls,.tup [.int (a:Int),.int (b:Int)],L row,.lst ((Ls row.length ls).map T2)]=.ok (.bl true):=by
 obtain⟨f1,f2⟩:=F.few cY bh hb
 have h3:=F.f.good.len
 have hl:=F.f.len
 have ef:=Uc h3 F.f.inv hl cY (a:=(a:Int)) (b:=(b:Int)) (by lia) f1
 have l1:(Ls row.length ls).length<=120:=by rw[Am];lia
 have ek:=Ub (by lia) (Qt (L:=Ls row.length ls) (l:=so2 ls) (ts:=so3 T) f2 f1)
 have en:=yd F.f.good (by lia) a b bh hb
 have gm:∀t∈Cn (frZ (Ls row.length ls) (so2 ls) (so3 T) (Sh [(a:Int),(b:Int)] (so3 T))),∃A,t.1=pw (Ls row.length ls) A (so2 ls):=fun t ht=>by obtain⟨x,_,e⟩:=Ua (mem_Cn.mp ht).1;exact⟨_,e⟩
 have gf:=(Qt (L:=Ls row.length ls) (l:=so2 ls) (ts:=so3 T) f2 f1).few
 have gs:sv (Cn (frZ (Ls row.length ls) (so2 ls) (so3 T) (Sh [(a:Int),(b:Int)] (so3 T))))=dt (v a) (v b):=by rw[Oz,Qu,F.cnt bh hb]
 have lb:=fun (A:List P2)(P R':D)(fd:Sl)(c:Int)=>y5u (n:=row.length) (ls:=ls) (L:=Ls row.length ls) (by lia) A P R' fd c
 have kp:=Ud (Cn (frZ (Ls row.length ls) (so2 ls) (so3 T) (Sh [(a:Int),(b:Int)] (so3 T))))
 generalize Cn (frZ (Ls row.length ls) (so2 ls) (so3 T) (Sh [(a:Int),(b:Int)] (so3 T)))=X at *
 generalize Ls row.length ls=S at *
 generalize c7 row.length ls=cut at *
 generalize dt (v a) (v b)=N at *
 unfold Y9
 rw[M9,ξ (show [cut,D.tup [.int (a:Int),.int (b:Int)],L row,.lst (S.map T2)].length=4 from rfl)]
 show SR.out false (Nz [.im cut,.im (.tup [.int (a:Int),.int (b:Int)]),.im (L row),.im (.lst (S.map T2)),.em,.em,.em])=_
 unfold Nz
 rw[i3 (ρ':=[.im cut,.im (.tup [.int (a:Int),.int (b:Int)]),.im (L row),.im (.lst (S.map T2)),.ow (.lst (X.map TM)),.em,.em]) (by walk_at "dz";rw[ef];walk_at "dz";rw[kp];walk_at "dz")]
 rw[i3 (ρ':=[.im cut,.im (.tup [.int (a:Int),.int (b:Int)]),.im (L row),.im (.lst (S.map T2)),.ow (.lst (X.map TM)),.em,.em]) (by walk_at "dz";rw[bI,ek];walk_at "dz")]
 rw[i3 (ρ':=[.im cut,.im (.tup [.int (a:Int),.int (b:Int)]),.im (L row),.im (.lst (S.map T2)),.ow (.lst (X.map TM)),.em,.em]) (by have e:=kC X gf;generalize eCB O3 (a7 (i4 (iL (a6 4)) (bT 2) [] k7 Z0) a9)=E at e⊢;walk_at "dz";rw[e _ rfl];walk_at "dz";rw[en];walk_at "dz";rw[gs];walk_at "dz")]
 obtain⟨ρ',q,s5,s6,hr⟩:=Ec (tg:=.t [5,6]) (g:=Fa) (en:=TM)
  (fun r ρ=>∃(s5 s6:Sl),(∀t∈r,∃A,t.1=pw S A (so2 ls))/\ρ=[.im cut,.im (.tup [.int (a:Int),.int (b:Int)]),.im (L row),.im (.lst (S.map T2)),.im (.lst (X.map TM)),s5,s6])
  X [.im cut,.im (.tup [.int (a:Int),.int (b:Int)]),.im (L row),.im (.lst (S.map T2)),.im (.lst (X.map TM)),.em,.em] ⟨.em,.em,gm,rfl⟩ (by rintro t r ρ ⟨s5,s6,h1,rfl⟩;obtain⟨A,e⟩:=h1 t BK;have e2:=lb A (.tup [.int (a:Int),.int (b:Int)]) (L row) (.im (.lst (X.map TM))) t.2;rw[<-e]at e2;exact⟨_,_,rfl,Or.inl e2,⟨_,_,fun u hu=>h1 u (tB _ hu),rfl⟩⟩)
 rw[i3 (ρ':=ρ') (by rw[<-q];rfl)]
 rw[hr.2]
 rfl
end
def y00(q:P2):Dj [some (T2 q)]=.ok (.bl false):=by unfold Dj;simp only[T2];walk_at "dz";rw[Fu];walk_at "dz"
def y01(p q:P2):Di [some (T2 q),some (T2 p)]=.ok (.int (if q=p then 1 else 0)):=by
 unfold Di;walk_at "dz";rw[Pa];walk_at "dz";by_cases z:q=p
 . rw[decide_eq_true z,ξ z];rfl
 . rw[decide_eq_false z,ψ z];rfl
def E4(c:String):D:=.lst [.bl true,.bl (decide (c="NoLine")),.bl (decide (c="TooMany"))]
def Wh(c:String):dEq (E4 c) (E4 c)=some (.bl true):=we rfl (by simp[E4,D.dep,i7])
def yc(c:String):dNe (E4 c) (E4 c)=some (.bl false):=Jl rfl (by simp[E4,D.dep,i7])
noncomputable abbrev gB(k:DS->SR):DS->SR:=
 (b9 (e8 true 9 [false,false,false,false,false,false,true] (c6 G5 (a7 (a6 6) a9)))
 (b9 (sIf (bOr (u6 (b8 l6 (eUn (n9 "list") (a6 9)))) (bOr (b8 asB (eOp dNe (a6 9) (a6 7))) (b8 l6 (eCB K5 (a7 (i4 (iL (a6 9)) b1 [] k7 Dj) a9)))))
  (d8 [] (eC (.bl false)))
  sNx) k))
def y5v(hn:3<=n)(bB:n<=60)(hl:ls.length<=57)(A B C E F N P:Sl)(k:DS->SR) :
  gB k [A,B,C,E,F,N,.im (c7 n ls),.ow (.lst ((Ls n ls).map T2)),P,.em,.em]=k [A,B,C,E,F,N,.im (c7 n ls),.ow (.lst ((Ls n ls).map T2)),P,.ow (.lst ((Ls n ls).map T2)),.em]:=by
 have e2:G5 [c7 n ls]=_:=Lx n hn bB ls (by lia)
 have l1:(Ls n ls).length<=120:=by rw[Am];lia
 generalize c7 n ls=cut at *
 generalize Ls n ls=S at *
 have en:=yB (Ss S).1 (Ss S).2
 have kp:j4 (S.map T2)=true:=C7 _ _ fun x _=>X1 x
 unfold gB
 rw[i3 (ρ':=[A,B,C,E,F,N,.im cut,.ow (.lst (S.map T2)),P,.ow (.lst (S.map T2)),.em]) (by
  walk_at "dz";rw[e2];walk_at "dz";try rw[kp]
  try walk_at "dz")]
 rw[i3 (ρ':=[A,B,C,E,F,N,.im cut,.ow (.lst (S.map T2)),P,.ow (.lst (S.map T2)),.em]) (by walk_at "dz";rw[en];walk_at "dz";rw[ξ (by rw[bI];lia),E7 (en:=T2) (bs:=fun q=>[T2 q]) (g:=fun _=>.bl false) S (fun x _=>rfl) (fun q _=>y00 q)];walk_at "dz";rw[any_map S (fun _=>false),show(S.any fun _=>false)=false by simp];walk_at "dz")]
noncomputable abbrev gC(k:DS->SR):DS->SR:=
 (b9 (sIf (b8 asB (eOp (dIn true) (a6 8) (a6 7)))
  (sIf (b8 asB (eOp dNe (c6 C8 (a7 (eC (.int 0)) (a7 (a6 6) (a7 (a6 8) a9)))) (l8 (a7 (eC (.bl true)) (a7 (eC (.bl true)) (a7 (eC (.bl false)) a9))))))
  (d8 [] (eC (.bl false)))
  sNx)
  sNx)
 (b9 (e8 true 10 [false,false,false,false,false,false,false,true,true] (l8 (a7 (m7 (a7 (eCB J4 (a7 (i4 (iL (a6 7)) b1 [8] k7 Di) a9)) (a7 (eC (.int 1)) a9))) a9)))
 (b9 (sIf (F4 (b8 asB (eOp (dIn false) (a6 8) (a6 7))) (bOr (u6 (b8 l6 (c6 T6 (a7 (c6 w4 (a7 (a6 6) (a7 (a6 8) a9))) (a7 (eCB t8 (a7 (a6 7) a9)) a9))))) (b8 asB (eOp dNe (c6 w4 (a7 (a6 6) (a7 (a6 8) a9))) (a6 10)))))
  (d8 [] (eC (.bl false)))
  sNx) k)))
def y5w(hn:3<=n)(bB:n<=60)(hl:ls.length<=57)(p:P2)(A B C E F N M:Sl)(k:DS->SR) :
  gC k [A,B,C,E,F,N,.im (c7 n ls),.ow (.lst ((Ls n ls).map T2)),.im (T2 p),M,.em]=k [A,B,C,E,F,N,.im (c7 n ls),.ow (.lst ((Ls n ls).map T2)),.im (T2 p),M,.ow (.lst ([(wt p (Ls n ls),1)].map TM))]:=by
 have l1:(Ls n ls).length<=120:=by rw[Am];lia
 have i1:=y3k p (Ls n ls)
 have i2:=Od p (Ls n ls)
 have r0:p∉Ls n ls->C8 [.int 0,c7 n ls,T2 p]=.ok (E4 "NoLine"):=fun h=>Fp 0 (.inl rfl) _ _ "NoLine" (.inl rfl) (zj hn h)
 have r1:p∈Ls n ls->w4 [c7 n ls,T2 p]=.ok (.lst ([(wt p (Ls n ls),1)].map TM)):=fun h=>zk hn bB (by lia) h
 have ek:=Ub (m:=(Ls n ls).length) (by lia) (y3m p)
 have ew:=Jl (Oe [(wt p (Ls n ls),1)]) (sg (Ft [(wt p (Ls n ls),1)]) (by decide))
 have kp:=Ud [(wt p (Ls n ls),1)]
 have wd:(Ls n ls).map (fun q=>D.int (if q=p then 1 else 0))=(wt p (Ls n ls)).map D.int:=by unfold wt;rw[BI];rfl
 have wD:D.lst ([(wt p (Ls n ls),1)].map TM)=.lst [.tup [.tup ((wt p (Ls n ls)).map D.int),.int 1]]:=rfl
 generalize c7 n ls=cut at *
 unfold gC
 rw[i3 (ρ':=[A,B,C,E,F,N,.im cut,.ow (.lst ((Ls n ls).map T2)),.im (T2 p),M,.em]) (by
  by_cases h:p∈Ls n ls
  . rw[decide_eq_true h]at i1;generalize T2 p=P at *;generalize (Ls n ls).map T2=S at *;walk_at "dz";rw[i1];walk_at "dz"
  . rw[decide_eq_false h]at i1;have e:=r0 h;have e3:=yc "NoLine";generalize T2 p=P at *;generalize (Ls n ls).map T2=S at *;rw[show E4 "NoLine"=D.lst [.bl true,.bl true,.bl false] from rfl]at e e3;walk_at "dz";rw[i1];walk_at "dz";rw[e];walk_at "dz";rw[e3];walk_at "dz")]
 rw[i3 (ρ':=[A,B,C,E,F,N,.im cut,.ow (.lst ((Ls n ls).map T2)),.im (T2 p),M,.ow (.lst ([(wt p (Ls n ls),1)].map TM))]) (by rw[wD];walk_at "dz";rw[ξ (by rw[bI];lia),E7 (en:=T2) (bs:=fun q=>[T2 q]) (g:=fun q=>D.int (if q=p then 1 else 0)) (Ls n ls) (fun x _=>rfl) (fun q _=>y01 p q),wd];walk_at "dz";rw[show j4 ((wt p (Ls n ls)).map D.int)=true from C7 D.int _ fun x _=>Bf x];walk_at "dz")]
 rw[i3 (ρ':=[A,B,C,E,F,N,.im cut,.ow (.lst ((Ls n ls).map T2)),.im (T2 p),M,.ow (.lst ([(wt p (Ls n ls),1)].map TM))]) (by
  generalize [(wt p (Ls n ls),1)].map TM=W at *;have aw:((Ls n ls).map T2).length=(Ls n ls).length:=bI _;by_cases h:p∈Ls n ls
  . rw[decide_eq_true h]at i2;have e:=r1 h;generalize T2 p=P at *;generalize (Ls n ls).map T2=S at *;walk_at "dz";rw[i2];walk_at "dz";rw[e];walk_at "dz";rw[aw,ek];walk_at "dz";try rw[e]
    try walk_at "dz"
    rw[ew];walk_at "dz"
  . rw[decide_eq_false h]at i2;generalize T2 p=P at *;generalize (Ls n ls).map T2=S at *;walk_at "dz";rw[i2];walk_at "dz")]
noncomputable abbrev gD:DS->SR:=
 (b9 (sIf (bOr (b8 asB (eOp E9 (eOp dIx (a6 8) (eC (.int 0))) (eC (.int 0)))) (bOr (b8 asB (eOp dGe (eOp dIx (a6 8) (eC (.int 0))) (eOp dIx (a6 8) (eC (.int 1))))) (b8 asB (eOp dGe (eOp dIx (a6 8) (eC (.int 1))) (a6 5)))))
  (d8 [false,false,false,false,false,false,true,false,true] (eOp dEq (c6 C8 (a7 (eC (.int 1)) (a7 (a6 6) (a7 (a6 8) a9)))) (l8 (a7 (eC (.bl true)) (a7 (eC (.bl true)) (a7 (eC (.bl false)) a9))))))
  sNx)
 (b9 (sIf (b8 asB (eOp R0 (a6 5) (eC (.int 12))))
  (d8 [false,false,false,false,false,false,true,false,true] (eOp dEq (c6 C8 (a7 (eC (.int 1)) (a7 (a6 6) (a7 (a6 8) a9)))) (l8 (a7 (eC (.bl true)) (a7 (eC (.bl false)) (a7 (eC (.bl true)) a9))))))
  sNx)
 (b9 (sIf (F4 (b8 asB (eOp (dIn false) (a6 8) (a6 7))) (b8 asB (eOp dNe (c6 w6 (a7 (a6 6) (a7 (a6 8) a9))) (a6 10))))
  (d8 [] (eC (.bl false)))
  sNx)
 (d8 [false,false,false,true,false,false,true,true,true] (c6 Y9 (a7 (a6 6) (a7 (a6 8) (a7 (a6 3) (a7 (a6 7) a9)))))))))
section
variable {row:List Int}{ls:List P2}{T:List P3}{v:Nat->Vc}
def y5x(X:Fx row ls T v)(bB:row.length<=60)(a b:Int)(A B C F M:Sl) :
  SR.out false (gD [A,B,C,.im (L row),F,.im (.int (row.length:Int)),.im (c7 row.length ls),.ow (.lst ((Ls row.length ls).map T2)),.im (.tup [.int a,.int b]),M,.ow (.lst ([(wt (a,b) (Ls row.length ls),1)].map TM))])=.ok (.bl true):=by
 have h3:=X.f.good.len
 unfold gD
 by_cases h:0<=a/\a<b/\b<(row.length:Int)
 . rw[i3 (ρ':=[A,B,C,.im (L row),F,.im (.int (row.length:Int)),.im (c7 row.length ls),.ow (.lst ((Ls row.length ls).map T2)),.im (.tup [.int a,.int b]),M,.ow (.lst ([(wt (a,b) (Ls row.length ls),1)].map TM))]) (by
    generalize c7 row.length ls=cut
    generalize [(wt (a,b) (Ls row.length ls),1)].map TM=W
    generalize (Ls row.length ls).map T2=S
    walk_at "dz"
    rw[decide_eq_false (show ¬a<0 by lia),decide_eq_false (show ¬b<=a by lia),decide_eq_false (show ¬(row.length:Int)<=b by lia)]
    walk_at "dz")]
   by_cases cY:12<(row.length:Int)
   . have e:C8 [.int 1,c7 row.length ls,.tup [.int a,.int b]]=.ok (E4 "TooMany"):=Fp 1 (.inr rfl) _ _ "TooMany" (.inr rfl) (vW h cY);have e3:=Wh "TooMany";rw[show E4 "TooMany"=D.lst [.bl true,.bl false,.bl true] from rfl]at e e3;generalize c7 row.length ls=cut at *;generalize [(wt (a,b) (Ls row.length ls),1)].map TM=W;generalize (Ls row.length ls).map T2=S;walk_at "dz";rw[decide_eq_true cY];walk_at "dz";rw[e];walk_at "dz";rw[e3];walk_at "dz"
   . rw[i3 (ρ':=[A,B,C,.im (L row),F,.im (.int (row.length:Int)),.im (c7 row.length ls),.ow (.lst ((Ls row.length ls).map T2)),.im (.tup [.int a,.int b]),M,.ow (.lst ([(wt (a,b) (Ls row.length ls),1)].map TM))]) (by
      generalize c7 row.length ls=cut
      generalize [(wt (a,b) (Ls row.length ls),1)].map TM=W
      generalize (Ls row.length ls).map T2=S
      walk_at "dz"
      rw[decide_eq_false cY]
      walk_at "dz")]
     obtain⟨a,rfl⟩:∃n:Nat,a=n:=⟨a.toNat,by lia⟩
     obtain⟨b,rfl⟩:∃n:Nat,b=n:=⟨b.toNat,by lia⟩
     have f1:=(X.few (a:=a) (b:=b) (by lia) (by lia) (by lia)).1
     have ef:=Uc h3 X.f.inv X.f.len (by lia) h f1
     have el:=vT X (by lia) (a:=a) (b:=b) (by lia) (by lia)
     have ex:=fun hp=>X.one (p:=((a:Int),(b:Int))) hp
     have i2:dIn false (.tup [.int (a:Int),.int (b:Int)]) _=_:=Od ((a:Int),(b:Int)) (Ls row.length ls)
     have ew:=Jl (Oe [(wt ((a:Int),(b:Int)) (Ls row.length ls),1)]) (sg (Ft [(wt ((a:Int),(b:Int)) (Ls row.length ls),1)]) (by decide))
     rw[i3 (ρ':=[A,B,C,.im (L row),F,.im (.int (row.length:Int)),.im (c7 row.length ls),.ow (.lst ((Ls row.length ls).map T2)),.im (.tup [.int (a:Int),.int (b:Int)]),M,.ow (.lst ([(wt ((a:Int),(b:Int)) (Ls row.length ls),1)].map TM))]) (by
      by_cases hp:((a:Int),(b:Int))∈Ls row.length ls
      . rw[ex hp]at ef;rw[decide_eq_true hp]at i2;generalize c7 row.length ls=cut at *;generalize [(wt ((a:Int),(b:Int)) (Ls row.length ls),1)].map TM=W at *;generalize (Ls row.length ls).map T2=S at *;walk_at "dz";rw[i2];walk_at "dz";rw[ef];walk_at "dz";rw[ew];walk_at "dz"
      . rw[decide_eq_false hp]at i2;generalize c7 row.length ls=cut at *;generalize [(wt ((a:Int),(b:Int)) (Ls row.length ls),1)].map TM=W at *;generalize (Ls row.length ls).map T2=S at *;walk_at "dz";rw[i2];walk_at "dz")]
     generalize c7 row.length ls=cut at *
     generalize [(wt ((a:Int),(b:Int)) (Ls row.length ls),1)].map TM=W at *
     generalize (Ls row.length ls).map T2=S at *
     walk_at "dz"
     rw[el]
     walk_at "dz"
 . have e:C8 [.int 1,c7 row.length ls,.tup [.int a,.int b]]=.ok (E4 "NoLine"):=Fp 1 (.inr rfl) _ _ "NoLine" (.inl rfl) (wa h);have e3:=Wh "NoLine";rw[show E4 "NoLine"=D.lst [.bl true,.bl true,.bl false] from rfl]at e e3;generalize c7 row.length ls=cut at *;generalize [(wt (a,b) (Ls row.length ls),1)].map TM=W;generalize (Ls row.length ls).map T2=S;walk_at "dz";rw[show(decide (a<0)||(decide (b<=a)||decide ((row.length:Int)<=b)))=true by
    cases z:(decide (a<0)||(decide (b<=a)||decide ((row.length:Int)<=b))) with
    |true=>rfl
    |false=>simp only[Bool.or_eq_false_iff,AT]at z;lia]
   walk_at "dz";rw[e];walk_at "dz";rw[e3];walk_at "dz"
end
def yb(ns:List Int)(lz:ns.length<=63):V6 [.scr ns]=.ok (.bl true):=by
 obtain⟨cap,uI,ec⟩:∃cap:Nat,cap<=57/\∀k:DS->SR,b9 (sIf (b8 asB (eOp dEq (eOp x9 (eOp Q7 (a6 1) (eC (.int 3))) (eC (.int 4))) (eC (.int 1)))) (e8 false 2 [] (eC (.int 57))) sNx) k [.im (.scr ns),.im (.int (drw ns 0)),.im (.int 9),.em,.em,.em,.em,.em,.em,.em,.em]=k [.im (.scr ns),.im (.int (drw ns 0)),.im (.int (cap:Int)),.em,.em,.em,.em,.em,.em,.em,.em]:=by
  by_cases h:drw ns 0 / 3 % 4=1
  . refine⟨57,by decide,fun k=>i3 ?_⟩;walk_at "dz";rw[Gg (by decide)];walk_at "dz";rw[L7 (by decide)];walk_at "dz";rw[decide_eq_true h];walk_at "dz";rfl
  . refine⟨9,by decide,fun k=>i3 ?_⟩;walk_at "dz";rw[Gg (by decide)];walk_at "dz";rw[L7 (by decide)];walk_at "dz";rw[decide_eq_false h];walk_at "dz";rfl
 have dy:(D2 ns (some 3) (some (3+(cap:Int)))).length<=57:=by unfold D2;rw[show HT.sIx ns.length ns.length (some (3+(cap:Int)))=min (3+cap) ns.length by unfold HT.sIx;simp only;rw[ψ (by lia)];lia,show HT.sIx ns.length 0 (some 3)=min 3 ns.length by unfold HT.sIx;simp only;rw[ψ (by lia)];lia];rw[BA];lia
 obtain⟨row,ls,T,v,X,bB,ef⟩:=wb (drw ns 0) (D2 ns (some 3) (some (3+(cap:Int)))) dy;have h3:=X.f.good.len;have hl:=X.f.len;have el:=kK row.length h3 bB ls (by lia);unfold V6;rw[M9,ξ (show [D.scr ns].length=1 from rfl)];show SR.out false (Fw [.im (.scr ns),.em,.em,.em,.em,.em,.em,.em,.em,.em,.em])=_;unfold Fw;rw[i3 (ρ':=[.im (.scr ns),.im (.int (drw ns 0)),.em,.em,.em,.em,.em,.em,.em,.em,.em]) (by walk_at "dz";rw[Jq];walk_at "dz")];rw[i3 (ρ':=[.im (.scr ns),.im (.int (drw ns 0)),.im (.int 9),.em,.em,.em,.em,.em,.em,.em,.em]) (by walk_at "dz")];rw[ec];have kf:j4 ((so2 ls).map T2)=true:=C7 _ _ fun x _=>X1 x
 rw[i3 (ρ':=[.im (.scr ns),.im (.int (drw ns 0)),.im (.int (cap:Int)),.im (L row),.im (.lst ((so2 ls).map T2)),.em,.em,.em,.em,.em,.em]) (by walk_at "dz";rw[ef];simp only[P9];rw[show keeps false (D.tup [L row,.lst ((so2 ls).map T2)])=false by rw[Yj,Ve];simp only[L,Xg,Bool.false_and]];walk_at "dz")];rw[i3 (ρ':=[.im (.scr ns),.im (.int (drw ns 0)),.im (.int (cap:Int)),.im (L row),.im (.lst ((so2 ls).map T2)),.im (.int (row.length:Int)),.em,.em,.em,.em,.em]) (by generalize (so2 ls).map T2=l';walk_at "dz")];rw[i3 (ρ':=[.im (.scr ns),.im (.int (drw ns 0)),.im (.int (cap:Int)),.im (L row),.im (.lst ((so2 ls).map T2)),.im (.int (row.length:Int)),.im (c7 row.length ls),.em,.em,.em,.em]) (by unfold c7;generalize (so2 ls).map T2=l' at *;walk_at "dz";rw[kf];walk_at "dz")];have kL:j4 ((Ls row.length ls).map T2)=true:=C7 _ _ fun x _=>X1 x
 rw[i3 (ρ':=[.im (.scr ns),.im (.int (drw ns 0)),.im (.int (cap:Int)),.im (L row),.im (.lst ((so2 ls).map T2)),.im (.int (row.length:Int)),.im (c7 row.length ls),.ow (.lst ((Ls row.length ls).map T2)),.em,.em,.em]) (by generalize c7 row.length ls=cut;generalize (so2 ls).map T2=l' at *;generalize (Ls row.length ls).map T2=S at *;walk_at "dz";rw[el];walk_at "dz";rw[kL];walk_at "dz")];obtain⟨a,ha⟩:∃a,a=drw ns 1 % ((row.length:Int)+2) - 1:=⟨_,rfl⟩;obtain⟨b,hb⟩:∃b,b=drw ns 2 % ((row.length:Int)+2) - 1:=⟨_,rfl⟩;rw[i3 (ρ':=[.im (.scr ns),.im (.int (drw ns 0)),.im (.int (cap:Int)),.im (L row),.im (.lst ((so2 ls).map T2)),.im (.int (row.length:Int)),.im (c7 row.length ls),.ow (.lst ((Ls row.length ls).map T2)),.im (T2 (a,b)),.em,.em]) (by unfold T2;generalize c7 row.length ls=cut;generalize (so2 ls).map _=l' at *;generalize (Ls row.length ls).map _=S at *;walk_at "dz";rw[Jq];walk_at "dz";rw[L7 (by lia)];walk_at "dz";rw[Jq];walk_at "dz";rw[L7 (by lia)];walk_at "dz";rw[<-ha,<-hb])];rw[show ∀ρ:DS,b9 (e8 true 9 _ _) _ ρ=gB (gC gD) ρ from fun _=>rfl,y5v h3 bB (by lia),y5w h3 bB (by lia) (a,b)];exact y5x X bB a b _ _ _ _ _
end K65
namespace K65
open PySem PySem.Spec PyProof.Rows L2
def walk{l:PySem.W.OpenLaw}{q:Program}{loose:List Str}{XP:(Str->Option Value)->Heap->Prop}{YP:World->Heap->Prop}{d:DefRec}{K:Params->Frag}(hn:l.most=some 63)(fZ:d.params.defaults=[])
  (hY:∀(w:World)(h:Heap),YP w h->(K w.params).In h)
  (F:∀(w:World)(mg:Str->Option Value)(fa:Addr)(h:Heap),(K w.params).In h->h.Ns mainGlobals mg->mg d.name=some (.ref fa) ->
   ∃fd:FuncData,(∀(s:Shared)(u:Value),BindsTo s fd ⟨[u],[]⟩ [("_law_script",u)])/\∀base:Heap,(K w.params).In base->base.Ns mainGlobals mg->FnOk l.prog w (K w.params) mg base (CX1 l.prog w) 8 fa fd ["_law_script"] (spL (K w.params) false V6 1)) :
  PySem.W.WalkO q loose XP YP l.row.toRowW d [] (fun f vs=>PySem.call f vs):=
 L2.walk_of (n:=63) (k:=8) (x:="_law_script") (CX:=fun w=>CX1 l.prog w) (sp:=fun w=>(spL (K w.params) false V6 1)) hn (by decide) fZ ⟨rfl,by decide,by decide⟩ hY F (fun _ _ a ns hl hO hS=>vd hO hS (yb ns hl)) fun _ _ _ _ _ ⟨_,_,_,_,_,_,z⟩=>z
end K65
open PySem PySem.W PyProof.Rows
set_option maxRecDepth 100000 in
set_option maxHeartbeats 0 in
theorem PySem.Challenge.cw_friezeyard_k65_letters_and_fractions_holds : PySem.Challenge.rw_friezeyard_k65_letters_and_fractions.Holds := by
 w_on;o_law
 refine holds_open (q:=K65.q) (loose:=[]) (Xt:=K65.xtH) (XP:=XL K65.q []) (Yf:=K65.hook.obs) (Ya:=K65.hook.val)
  (YP:=K65.hook.says) (N:=3652) K65.left K65.hook.of K65.hook.keeps
  (fun s e=>xl_of s (Bool.and_eq_true_iff.mp e).1) XL.keeps (by rfl) (by rfl) (by rfl)
  (fun s e=>recFacts_of (Bool.and_eq_true_iff.mp e).2) (by rfl) (by assumption) (by decide +kernel)
  ⟨rfl,rfl,rfl,rfl,rfl,by decide +kernel⟩ ?hw ?hc
 (case hw=>w_witness2)
 refine K65.walk (l:=PySem.Challenge.rw_friezeyard_k65_letters_and_fractions) (K:=K65.K) rfl rfl (fun w h Y=>Y) ?F
 case F=>
  intro w mg fa h KX G hmg
  k_fill
  refine' K65.all_mk KX G hmg ?A0 ?A1 ?A2 ?A3 ?A4 ?A5 ?A6 ?A7 ?A8 ?A9 ?A10 ?A11 ?A12 ?A13 ?A14 ?A15 ?A16 ?A17 ?A18 ?A19 ?A20 ?A21 ?A22 ?A23 ?A24 ?A25 ?A26 ?A27 ?A28 ?A29 ?T ?Z
  (case A0=>apply L2.fat;k_is;k_is;k_is;k_is)
  (case A1=>apply L2.fat;k_is;k_is;k_is;k_is)
  (case A2=>apply L2.fat;k_is;k_is;k_is;k_is)
  (case A3=>apply L2.fat;k_is;k_is;k_is;k_is)
  (case A4=>apply L2.fat;k_is;k_is;k_is;k_is)
  (case A5=>apply L2.fat;k_is;k_is;k_is;k_is)
  (case A6=>apply L2.fat;k_is;k_is;k_is;k_is)
  (case A7=>apply L2.fat;k_is;k_is;k_is;k_is)
  (case A8=>apply L2.fat;k_is;k_is;k_is;k_is)
  (case A9=>apply L2.fat;k_is;k_is;k_is;k_is)
  (case A10=>apply L2.fat;k_is;k_is;k_is;k_is)
  (case A11=>apply L2.fat;k_is;k_is;k_is;k_is)
  (case A12=>apply L2.fat;k_is;k_is;k_is;k_is)
  (case A13=>apply L2.fat;k_is;k_is;k_is;k_is)
  (case A14=>apply L2.fat;k_is;k_is;k_is;k_is)
  (case A15=>apply L2.fat;k_is;k_is;k_is;k_is)
  (case A16=>apply L2.fat;k_is;k_is;k_is;k_is)
  (case A17=>apply L2.fat;k_is;k_is;k_is;k_is)
  (case A18=>apply L2.fat;k_is;k_is;k_is;k_is)
  (case A19=>apply L2.fat;k_is;k_is;k_is;k_is)
  (case A20=>apply L2.fat;k_is;k_is;k_is;k_is)
  (case A21=>apply L2.fat;k_is;k_is;k_is;k_is)
  (case A22=>apply L2.fat;k_is;k_is;k_is;k_is)
  (case A23=>apply L2.fat;k_is;k_is;k_is;k_is)
  (case A24=>apply L2.fat;k_is;k_is;k_is;k_is)
  (case A25=>apply L2.fat;k_is;k_is;k_is;k_is)
  (case A26=>apply L2.fat;k_is;k_is;k_is;k_is)
  (case A27=>apply L2.fat;k_is;k_is;k_is;k_is)
  (case A28=>apply L2.fat;k_is;k_is;k_is;k_is)
  (case A29=>apply L2.fat;k_is;k_is;k_is;k_is)
  (case T=>constructor<;>exact mg_none_of KX G (by k_is))
  (case Z=>constructor;exact mg_of KX G (by k_is);exact mg_of KX G (by k_is);exact mg_of KX G (by k_is);exact mg_of KX G (by k_is);k_is;k_is;k_is;k_is;k_exc;k_exc;k_exc;k_exc;k_is;k_is;k_is;k_is;k_is;k_is;kit_is;kit_is;kit_is;k_is;k_is;k_is;k_is;k_is;k_is;kit_is;kit_is;kit_is;k_is;k_is;k_is;k_is;k_is;k_is;kit_is;kit_is;kit_is)
