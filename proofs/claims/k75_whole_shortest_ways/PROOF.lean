import PyProof.Rows.All
import Wide.All
import OpenK.AllK
import Wide.FinOn
import Lean
import PyProof.EqAt
import PyProof.EqKinds
import PyProof.TupleCall
import KE.KIsAll
import KE.RegKIsAll
import PyProof.ExcArgsOwn
import PyProof.InstStoreFacts
import PyProof.Rows.MinMaxN
import PyProof.Rows.CallKwBuiltin
import KE.KMinKey
import KE.KDictOf
import PyProof.AttrMissSeq
import PyProof.Draws
import KE.KSortAsk
import PyProof.Rows.TupDisplay
import PySem.Challenge.RW_friezeyard_k75_whole_shortest_ways
set_option compiler.extract_closed false
noncomputable section
open PySem.W (Frag codeIn hideAll hideAll_get hideAll_none keepIn kia_one)
def bI:=@List.length_map
def dg:=@List.mem_cons_of_mem
def gq:=@List.map_cons
def gD:=@List.mem_cons
def gV:=@List.mem_singleton
def io:=@List.mem_cons_self
def mV:=@decide_eq_true_eq
def ng:=@Bool.and_eq_true
def pp:=@List.length_cons
def tB:=@Classical.byContradiction
def CH:=@List.getElem?_eq_getElem
def CI:=@List.getD_eq_getElem?_getD
def CJ:=@List.size_toArray
def CK:=@List.mem_append
def CL:=@Nat.le_trans
def CM:=@Bool.false_eq_true
def CN:=@Array.length_toList
def CO:=@List.nodup_cons
def CP:=@List.mem_map
def CQ:=@List.mem_append_right
def CS:=@decide_eq_false_iff_not
def CT:=@List.mem_filter
def CU:=@List.length_take
def CV:=@Nat.lt_of_lt_of_le
def CW:=@List.zip_cons_cons
def CY:=@Nat.ne_of_lt
def CZ:=@Option.map_some
def DA:=@List.map_append
def DB:=@List.getElem?_map
def DC:=@List.mem_append_left
def DD:=@List.length_drop
def DF:=@List.mem_iff_getElem
def DG:=@Nat.zero_le
def DH:=@List.map_nil
def DI:=@List.map_map
def DJ:=@Int.emod_eq_of_lt
def DK:=@PySem.PassesOwn.leaving
def DL:=@List.perm_ext_iff_of_nodup
def DM:=@List.getElem?_eq_some_iff
def DO:=@Int.lt_of_lt_of_le
def DP:=@List.getElem?_append_right
def DQ:=@List.all_eq_true
def DR:=@if_false
def DT:=@List.pairwise_iff_getElem
def DU:=@List.take_of_length_le
def DV:=@PySem.Heap.get?_update_other
def DW:=@Array.toList_append
def DX:=@PySem.wpAny_loadPart'
def DY:=@PySem.F.plainAttrs_list
def DZ:=@List.filter_cons_of_pos
def EA:=@PySem.Heap.get?_update_self
def EB:=@List.mem_of_getElem?
def EC:=@Int.lt_or_eq_of_le
def ED:=@List.append_nil
def EE:=@if_true
def EF:=@PySem.F.plain_max_loop
def EG:=@Int.lt_trans
def EH:=@congrArg
def EI:=@List.getElem?_append_left
def EJ:=@PySem.wpAny_holding
def EK:=@List.length_filter_le
def EL:=@List.getElem?_eq_none
def EM:=@Bool.and_self
def EN:=@List.length_zip
def EO:=@PySem.F.slot_dict_itemiterator_next
def EQ:=@List.length_eq_zero_iff
def ER:=@List.nodup_append
def ES:=@List.append_assoc
def ET:=@Bool.not_eq_true'
def EU:=@PyProof.Rows.wpS_forRange
def EV:=@List.extract_eq_take_drop
def EW:=@List.exists_mem_of_ne_nil
def EY:=@List.drop_eq_getElem_cons
def EZ:=@PySem.wpAny_mono
def FA:=@Prod.ext
def FB:=@List.perm_append_comm
def FC:=@List.length_singleton
def FD:=@List.not_mem_nil
def FE:=@Int.lt_of_le_of_lt
def FF:=@PySem.F.type_list_append
def FG:=@PySem.F.slot_list_append
def FH:=@Nat.lt_irrefl
def FI:=@List.sum_cons
def FJ:=@List.getElem?_set_ne
def FK:=@PySem.mem_of_lookup
def FL:=@List.filterMap_cons
def FM:=@List.getElem?_set_self
def FN:=@Int.le_of_lt
def FO:=@PySem.wpAny_truthy_bool
def FP:=@List.pairwise_cons
def FQ:=@List.mem_range
def FR:=@List.take_append_drop
def FS:=@Array.getElem?_toList
def FT:=@List.getElem?_zip_eq_some
def FU:=@PyProof.Rows.boot_isinstance
def FV:=@List.length_nil
def FW:=@Int.le_antisymm
def FX:=@Bool.eq_iff_iff
def FY:=@Nat.le_of_lt
def FZ:=@List.mem_of_mem_take
def GA:=@Array.toList_extract
def GB:=@Int.not_lt
def GC:=@List.filter_cons
def GD:=@List.cons_append
def GF:=@Ne.symm
def GG:=@Nat.zero_add
def GH:=@List.mem_filterMap
def GI:=@List.find?_cons_of_neg
def GJ:=@Int.emod_lt_of_pos
def GK:=@List.find?_cons
def GL:=@PySem.Heap.size_update
def GN:=@of_decide_eq_true
def GO:=@PyProof.Rows.boot_tuple
def GP:=@PyProof.Rows.callWith_type1
def GQ:=@List.pairwise_map
def GR:=@List.idxOf_lt_length_of_mem
def GU:=@List.getElem_take
def GV:=@List.getElem_drop
def GW:=@PySem.wpAny_passesOwn
def GX:=@List.perm_cons_erase
def GY:=@List.pairwise_append
def GZ:=@List.nodup_nil
def HA:=@Array.perm_iff_toList_perm
def HB:=@Array.getElem?_eq_some_iff
def HC:=@List.lookup_cons
def HE:=@and_true
def HG:=@List.any_cons
def HH:=@Array.mem_def
def HI:=@List.nil_append
def HJ:=@List.length_set
def HK:=@Int.emod_nonneg
def HL:=@Bool.or_eq_true
def HM:=@Int.add_emod_right
def HN:=@decide_true
def HP:=@List.filter_cons_of_neg
def HQ:=@decide_false
def HR:=@PySem.F.entry_max_loop
def HS:=@Option.map_eq_some_iff
def HU:=@Nat.zero_max
def HV:=@List.zipWith_cons_cons
def HW:=@List.length_range
def HX:=@List.find?_cons_of_pos
def HY:=@Int.lt_trichotomy
def HZ:=@Int.le_trans
def Ia:=@PySem.wpAny_Call_Name_kw
def Ib:=@PySem.sizeLine_eq
def Ie:=@List.mem_of_mem_drop
def Ig:=@Array.toList_reverse
def Ih:=@List.forIn_cons
def Ii:=@beq_eq_false_iff_ne
def Ij:=@List.map_congr_left
def Ik:=@PyProof.Rows.boot_sorted
def Il:=@Nat.min_self
def Im:=@beq_iff_eq
def Io:=@List.perm_append_singleton
def Ip:=@PySem.Around.under_plainId
def Iq:=@PyProof.Rows.wpS_mono
def Ir:=@Option.isSome_map
def Is:=@List.zip_nil_left
def Iv:=@List.flatMap_cons
def Iw:=@Int.toNat_natCast
def Ix:=@PySem.Heap.get?_update_ne
def Iy:=@Int.lt_irrefl
def Iz:=@Int.emod_self
def IA:=@Array.getElem?_replicate
set_option Elab.async false
set_option linter.all false
set_option maxRecDepth 100000
def ξ:=@if_neg
def ζ:=@if_pos
def η:=@Nat.le_refl
def θ:=@Bool.false_ne_true
def χ:=@List.length_append
namespace L2
open PySem PySem.Spec PyProof.Rows
def δ:=@wpAny_bind
def ω:=@wpS_bind
def π:=@wpAny_pure
def Ψ:=@wpS_pure
def Φ:=@Heap.get?_push_of_some
def Ξ:=@Heap.lt_size
def Ω:=@Heap.get?_push_size
abbrev Key:=Sum Int Str
noncomputable def U4:Key->Value->Bool
 | .inl k,v=>Value.isInt k v
 | .inr x,v=>Value.isStrOf x v
noncomputable def y30(w:World):Key->Int
 | .inl k=>hashInt k
 | .inr x=>hashStr w x
theorem K5:∀{k:Key}{v:Value},U4 k v=true->(∃i t,k=Sum.inl i/\v=Value.int i t)\/(∃x t,k=Sum.inr x/\v=Value.str x t)
 | .inl i,v,h=>by obtain⟨t,e⟩:=Value.isInt_shape (k:=i) (v:=v) h;exact .inl ⟨i,t,rfl,e⟩
 | .inr x,v,h=>by obtain⟨t,e⟩:=Value.isStrOf_shape (x:=x) (v:=v) h;exact .inr ⟨x,t,rfl,e⟩
theorem zM(i:Int)(t:Tok):U4 (.inl i) (.int i t)=true:=by simp[U4,Value.isInt]
theorem zL(x:Str)(t:Tok):U4 (.inr x) (.str x t)=true:=by simp[U4,Value.isStrOf]
theorem wl(a b:Int):decide ((Sum.inl a:Key)=Sum.inl b)=(a==b):=by
 by_cases e:a=b
 . subst e;simp
 . have h:¬(Sum.inl a:Key)=Sum.inl b:=fun q=>e (Sum.inl.inj q)
   rw[decide_eq_false h];exact(Ii.mpr e).symm
theorem wj(a b:Str):decide ((Sum.inr a:Key)=Sum.inr b)=decide (a=b):=by
 by_cases e:a=b
 . subst e;simp
 . have h:¬(Sum.inr a:Key)=Sum.inr b:=fun q=>e (Sum.inr.inj q)
   rw[decide_eq_false h,decide_eq_false e]
theorem wg(a:Int)(b:Str):decide ((Sum.inl a:Key)=Sum.inr b)=false:=decide_eq_false (fun q=>nomatch q)
theorem wf(a:Str)(b:Int):decide ((Sum.inr a:Key)=Sum.inl b)=false:=decide_eq_false (fun q=>nomatch q)
def y0(prog:Program)(w:World):PySem.KeyKind prog w Key where
 is:=U4
 hash:=y30 w
 inj:=fun v a b ha hb=>by
  rcases K5 ha with⟨i,t,rfl,rfl⟩ |⟨x,t,rfl,rfl⟩
  . rcases K5 hb with⟨j,u,rfl,e⟩ |⟨y,u,rfl,e⟩
    . injection e with e1 _;rw[e1]
    . exact nomatch e
  . rcases K5 hb with⟨j,u,rfl,e⟩ |⟨y,u,rfl,e⟩
    . exact nomatch e
    . injection e with e1 _;rw[e1]
 byValue:=fun k v h=>by rcases K5 h with⟨i,t,rfl,rfl⟩ |⟨x,t,rfl,rfl⟩<;>rfl
 pyHash:=fun hv h=>by
  rcases K5 hv with⟨i,t,rfl,rfl⟩ |⟨x,t,rfl,rfl⟩
  . exact wpAny_pyHash_int h
  . exact wpAny_pyHash_str h
 eqBool:=fun hu hv h=>by
  rcases K5 hu with⟨i,t,rfl,rfl⟩ |⟨x,t,rfl,rfl⟩
  . rcases K5 hv with⟨j,u,rfl,rfl⟩ |⟨y,u,rfl,rfl⟩
    . rw[wl]at h;exact wpAny_eqBool_int h
    . rw[wg]at h;exact SeqAt.EqAt.int_str i t y u _ _ _ _ h
  . rcases K5 hv with⟨j,u,rfl,rfl⟩ |⟨y,u,rfl,rfl⟩
    . rw[wf]at h;exact SeqAt.EqAt.str_int x t j u _ _ _ _ h
    . rw[wj]at h;exact wpAny_eqBool_str h
 «strs»:=fun k x t v h=>by
  rcases K5 h with⟨i,u,rfl,e⟩ |⟨y,u,rfl,e⟩
  . exact nomatch e
  . injection e with e1 _;subst e1;cases v<;>rfl
theorem zdk(prog:Program)(w:World)(i:Int)(t:Tok):(y0 prog w).is (.inl i) (.int i t)=true:=zM i t
theorem zdl(prog:Program)(w:World)(x:Str)(t:Tok):(y0 prog w).is (.inr x) (.str x t)=true:=zL x t
inductive V where
 |non |bl (b:Bool) |int (i:Int) |str (x:Str) |byt (b:Array UInt8) |flt (b:UInt64) |ref (a:Addr) |ty (n:String)
 deriving DecidableEq
def RelV:V->Value->Prop
 | .non,u=>u=Value.none
 | .bl b,u=>u=Value.bool b
 | .int i,u=>∃t,u=Value.int i t
 | .str x,u=>∃t,u=Value.str x t
 | .byt b,u=>∃t,u=Value.bytes b t
 | .flt b,u=>∃t,u=Value.float b t
 | .ref a,u=>u=Value.ref a
 | .ty n,u=>u=Value.type n
abbrev Vals:List V->List Value->Prop:=Paired RelV
theorem Vals.length(r:Vals xs us):xs.length=us.length:=Paired.length r
theorem Vals.get:∀{xs:List V}{us:List Value}{i:Nat}{x:V},Vals xs us->xs[i]?=some x->∃u,us[i]?=some u/\RelV x u
 |_,_,_,_,.nil,e=>by simp at e
 |_,_,0,_,.cons r _,e=>by simp at e;subst e;exact⟨_,rfl,r⟩
 |_,_,i+1,x,.cons _ t,e=>by obtain⟨u,h1,h2⟩:=Vals.get (i:=i) (x:=x) t (by simpa using e);exact⟨u,by simpa using h1,h2⟩
theorem Vals.set(r:RelV x u):∀{xs:List V}{us:List Value}(i:Nat),Vals xs us->Vals (xs.set i x) (us.set i u)
 |_,_,_,.nil=>.nil
 |_,_,0,.cons _ t=>.cons r t
 |_,_,i+1,.cons q t=>.cons q (Vals.set r i t)
theorem Vals.append:∀{xs ys:List V}{us ws:List Value},Vals xs us->Vals ys ws->Vals (xs++ys) (us++ws)
 |_,_,_,_,.nil,s=>s
 |_,_,_,_,.cons r t,s=>.cons r (Vals.append t s)
theorem Vals.take:∀{xs:List V}{us:List Value}(n:Nat),Vals xs us->Vals (xs.take n) (us.take n)
 |_,_,0,_=>.nil
 |_,_,_+1,.nil=>.nil
 |_,_,n+1,.cons r t=>.cons r (Vals.take n t)
theorem Vals.drop:∀{xs:List V}{us:List Value}(n:Nat),Vals xs us->Vals (xs.drop n) (us.drop n)
 |_,_,0,r=>r
 |_,_,_+1,.nil=>.nil
 |_,_,n+1,.cons _ t=>Vals.drop n t
def RelO:Option V->Option Value->Prop
 |some v,some u=>RelV v u
 |none,none=>True
 |_,_=>False
def KV{κ:Type}:List (κ×V)->List (κ×Value)->Prop:=Paired fun (p:κ×V)(q:κ×Value)=>p.1=q.1/\RelV p.2 q.2
noncomputable def kV:Key->V
 | .inl i=>.int i
 | .inr x=>.str x
def IsTp(h:Heap)(a:Addr)(its:Array Value):Prop:=∃o,h.get? a=some o/\o.cls=.type "tuple"/\(∃n,o.data=.seq its n)/\o.dict=none
theorem IsTp.tup(p:IsTp h a its):IsTup h a its:=by obtain⟨o,e,c,d,_⟩:=p;exact⟨o,e,c,d⟩
theorem IsTp.lt(p:IsTp h a its):a<h.objs.size:=by obtain⟨o,e,_⟩:=p;exact Ξ e
theorem IsTp.mk'(e:h.get? a=some { cls:=.type "tuple",data:=.seq its n,slots:=sl }):IsTp h a its:=⟨_,e,rfl,⟨n,rfl⟩,rfl⟩
inductive HO where
 /-- a list -/
 |lst (xs:List V)
 /-- a tuple (never changes) -/
 |tup (xs:List V)
 /-- a dict whose keys are ints and texts;one whose keys are tuples of ints and texts (the empty one is both) -/
 |dK (kvs:List (Key×V)) |dT (kvs:List (List Key×V))
 /-- a set of ints: its members,its size -/
 |set (S:Int->Bool) (n:Nat)
 /-- an instance of the class at C,its dict at dx,its attributes -/
 |ins (C dx:Addr) (fs:List (Str×V))
 /-- the dict of the instance at x -/
 |own (x:Addr)
 /-- the dict of an exception -/
 |xd (fs:List (Str×V))
 /-- a bound method,f of x -/
 |met (f x:Addr)
 /-- a range object lo,lo+1,.. below hi -/
 |rng (lo hi:Int)
 /-- a thing that is known to the object (the script;a dict while a loop walks it): read,never written while it is so -/
 |frz (o:Obj) (u:HO)
 /-- a code object's table -/
 |tbl (ps:Array Value)
 /-- the table of a def that makes lambdas,all of the qualname q -/
 |ctb (q:Str)
 /-- any other thing,by what is true of its one object (a def of one's own: SetO a S n:=HO.ext fun h=>..) -/
 |ext (φ:Heap->Prop)
abbrev Hp:=Addr->Option HO
noncomputable def upd(H:Hp)(a:Addr)(o:HO):Hp:=fun b=>if b=a then some o else H b
theorem k9:upd H a o a=some o:=by unfold upd;rw[ζ rfl]
theorem e9(h:b≠a):upd H a o b=H b:=by unfold upd;rw[ξ h]
theorem qc{H:Hp}{a b:Addr}{o u:HO}(h:H a=some o)(h':H b=some u)(d:o≠u):a≠b:=by intro e;subst e;rw[h]at h';exact d (Option.some.inj h')
theorem r8{H:Hp}{a b:Addr}{o:HO}(h:H a=some o)(h':H b=none):a≠b:=by intro e;subst e;rw[h]at h';cases h'
section
variable (P:Program)(w:World)
def ObjOk(H:Hp)(h:Heap)(a:Addr):HO->Prop
 | .lst xs=>xs.length<=sizeLine/\∃(its:List Value)(n:Nat),Vals xs its/\h.get? a=some { cls:=.type "list",data:=.seq its.toArray n }
 | .tup xs=>xs.length<=sizeLine/\∃its:List Value,Vals xs its/\IsTp h a its.toArray
 | .dK kvs=>kvs.length<=sizeLine/\(a==sysModules)=false/\∃vs,KV kvs vs/\h.DictOf (y0 P w) a vs
 | .dT kvs=>kvs.length<=sizeLine/\(a==sysModules)=false/\∃xs:List (List Key×Addr×Value),
  Paired (fun (p:List Key×V)(q:List Key×Addr×Value)=>p.1=q.1/\H q.2.1=some (.tup (p.1.map kV))/\RelV p.2 q.2.2) kvs xs /\
  ∃o es ep,h.get? a=some o/\o.ExactDict/\o.data=.dict es ep/\es.toList=xs.map (entryOfKey (tupleKind (y0 P w)))/\(xs.map (·.1)).Nodup
 | .set S n=>h.SetOf (intKind P w) a S n
 | .ins C dx fs=>H dx=some (.own a)/\fs.length<=1000/\dx≠a/\h.get? a=some (PySem.W.instObj C dx) /\
  ∃mA,h.Ns1 dx mA/\(∀f,RelO (fs.lookup f) (mA f))/\PySem.Within mA (fs.map (·.1))
 | .own _=>∃o,h.get? a=some o
 | .xd fs=>∃mA,h.Ns1 a mA/\∀f,RelO (fs.lookup f) (mA f)
 | .rng lo hi=>∃t u v,h.get? a=some { cls:=.type "range",data:=.fields #[.int lo t,.int hi u,.int 1 v] }
 | .frz o u=>h.get? a=some o/\ObjOk H h a u
 | .tbl ps=>h.get? a=some { cls:=.none,data:=.fields ps }
 | .ctb q=>∃ps:Array Value,h.get? a=some { cls:=.none,data:=.fields ps }/\TriplesOk ps.toList/\∀(pos:Pos)(v:Value),codeAmong pos ps.toList=some v->∃c,v=.ref c/\H c=some (.own a)/\h.CodeRec (.ref c) q
 | .met f x=>h.get? a=some (PySem.W.methodObj (.ref f) (.ref x))
 | .ext φ=>φ h/\(∃o,h.get? a=some o)/\∀h1 h2:Heap,φ h1->(∀o,h1.get? a=some o->h2.get? a=some o)->φ h2
def HOk(H:Hp)(h:Heap):Prop:=∀a o,H a=some o->ObjOk P w H h a o
end
section
variable {P:Program}{w:World}{H H':Hp}{h h':Heap}{a:Addr}{o:HO}
theorem ObjOk.lt(x:ObjOk P w H h a o):a<h.objs.size:=by
 cases o with
 |lst xs=>obtain⟨_,_,_,_,e⟩:=x;exact Ξ e
 |tup xs=>obtain⟨_,_,_,p⟩:=x;exact p.lt
 |dK kvs=>obtain⟨_,_,_,_,o,_,_,e,_⟩:=x;exact Ξ e
 |dT kvs=>obtain⟨_,_,_,_,o,_,_,e,_⟩:=x;exact Ξ e
 |set S n=>obtain⟨o,_,_,_,e,_⟩:=x;exact Ξ e
 |ins C dx fs=>obtain⟨_,_,_,e,_⟩:=x;exact Ξ e
 |own y=>obtain⟨_,e⟩:=x;exact Ξ e
 |xd fs=>obtain⟨_,⟨_,_,_,e,_⟩,_⟩:=x;exact Ξ e
 |rng lo hi=>obtain⟨_,_,_,e⟩:=x;exact Ξ e
 |frz ob u=>obtain⟨e,_⟩:=x;exact Ξ e
 |tbl ps=>exact Ξ (show h.get? a=some _ from x)
 |ctb q=>obtain⟨_,e,_⟩:=x;exact Ξ e
 |met f y=>exact Ξ (show h.get? a=some _ from x)
 |ext φ=>obtain⟨_,⟨_,e⟩,_⟩:=x;exact Ξ e
theorem Paired.mapP:∀{l₁:List α}{l₂:List β},Paired F l₁ l₂->(∀a b,F a b->G a b)->Paired G l₁ l₂
 |_,_,.nil,_=>.nil
 |_,_,.cons r t,f=>.cons (f _ _ r) (Paired.mapP t f)
theorem ObjOk.stay(x:ObjOk P w H h a o)(k:∀b u,(b=a\/H b=some (.own a))->h.get? b=some u->h'.get? b=some u)
  (ho:∀b,H b=some (.own a)->H' b=some (.own a)) (ht:∀b xs,H b=some (.tup xs)->H' b=some (.tup xs)):ObjOk P w H' h' a o:=by
 induction o with
 |lst xs=>obtain⟨z,its,n,r,e⟩:=x;exact⟨z,its,n,r,k _ _ (.inl rfl) e⟩
 |tup xs=>obtain⟨z,its,r,ob,e,c⟩:=x;exact⟨z,its,r,ob,k _ _ (.inl rfl) e,c⟩
 |dK kvs=>obtain⟨z,y,vs,r,ob,es,ep,e,c⟩:=x;exact⟨z,y,vs,r,ob,es,ep,k _ _ (.inl rfl) e,c⟩
 |dT kvs=>
  obtain⟨z,y,xs,r,ob,es,ep,e,c⟩:=x
  exact⟨z,y,xs,Paired.mapP r fun p q z=>⟨z.1,ht _ _ z.2.1,z.2.2⟩,ob,es,ep,k _ _ (.inl rfl) e,c⟩
 |set S n=>obtain⟨ob,es,ep,t,e,c⟩:=x;exact⟨ob,es,ep,t,k _ _ (.inl rfl) e,c⟩
 |ins C dx fs=>
  obtain⟨d,z,ne,e,mA,⟨od,es,ep,e2,c⟩,r⟩:=x
  exact⟨ho _ d,z,ne,k _ _ (.inl rfl) e,mA,⟨od,es,ep,k _ _ (.inr d) e2,c⟩,r⟩
 |own y=>obtain⟨ob,e⟩:=x;exact⟨ob,k _ _ (.inl rfl) e⟩
 |xd fs=>obtain⟨mA,⟨od,es,ep,e,c⟩,r⟩:=x;exact⟨mA,⟨od,es,ep,k _ _ (.inl rfl) e,c⟩,r⟩
 |rng lo hi=>obtain⟨t,u,v,e⟩:=x;exact⟨t,u,v,k _ _ (.inl rfl) e⟩
 |frz ob u ih=>obtain⟨e,q⟩:=x;exact⟨k _ _ (.inl rfl) e,ih q⟩
 |tbl ps=>
  have e:h.get? a=some { cls:=.none,data:=.fields ps }:=x
  show h'.get? a=some { cls:=.none,data:=.fields ps }
  exact k a _ (.inl rfl) e
 |ctb q=>
  obtain⟨ps,e,t,c⟩:=x
  refine⟨ps,k _ _ (.inl rfl) e,t,fun pos v hb=>?_⟩
  obtain⟨b,rfl,z,c2,oc,vs,tq,e1,e2,e3⟩:=c pos v hb
  cases e1
  exact⟨b,rfl,ho _ z,b,oc,vs,tq,rfl,k _ _ (.inr z) e2,e3⟩
 |met f y=>
  have e:h.get? a=some (PySem.W.methodObj (.ref f) (.ref y)):=x
  show h'.get? a=some (PySem.W.methodObj (.ref f) (.ref y))
  exact k a _ (.inl rfl) e
 |ext φ=>obtain⟨p,⟨o,e⟩,st⟩:=x;exact⟨st _ _ p fun o q=>k _ _ (.inl rfl) q,⟨o,k _ _ (.inl rfl) e⟩,st⟩
theorem HOk.lt(x:HOk P w H h)(e:H a=some o):a<h.objs.size:=(x a o e).lt
theorem HOk.fresh(x:HOk P w H h)(e:h.objs.size<=a):H a=none:=by
 cases q:H a with
 |none=>rfl
 |some u=>exact absurd (CV (x.lt q) e) (FH _)
theorem HOk.kept(x:HOk P w H h)(k:∀b u,h.get? b=some u->h'.get? b=some u):HOk P w H h':=fun a o e=>
 (x a o e).stay (fun b u _ q=>k b u q) (fun _ q=>q) fun _ _ q=>q
theorem HOk.laid(x:HOk P w H h)(k:∀b u,h.get? b=some u->h'.get? b=some u)(hp:h.objs.size<=a)(new:ObjOk P w (upd H a o) h' a o):HOk P w (upd H a o) h':=fun b u e=>by
 have hn:=x.fresh hp;by_cases hb:b=a
 . subst hb;rw[k9]at e;cases e;exact new
 . rw[e9 hb]at e;exact(x b u e).stay (fun c v _ q=>k c v q) (fun c q=>by rw[e9 (r8 q hn)];exact q) fun c xs q=>by rw[e9 (r8 q hn)];exact q
end
def Rd(H:Hp)(a:Addr)(u:HO):Prop:=H a=some u\/∃o,H a=some (.frz o u)
theorem Rd.ok(r:Rd H a u)(x:HOk P w H h):ObjOk P w H h a u:=by
 rcases r with r |⟨o,r⟩
 . exact x a u r
 . obtain⟨_,q⟩:=x a _ r;exact q
def Mut:Option HO->Prop
 |some (.lst _)=>True
 |some (.dK _)=>True
 |some (.dT _)=>True
 |some (.set _ _)=>True
 |some (.ins _ _ _)=>True
 |some (.ext _)=>True
 |_=>False
section
variable {P:Program}{w:World}{H:Hp}{h h':Heap}{x e:Addr}{o':HO}
theorem HOk.write(ok:HOk P w H h)(mu:Mut (H x))(he:e=x\/H e=some (.own x))(k:∀b u,b≠e->h.get? b=some u->h'.get? b=some u)(fx:∃u,h'.get? e=some u)
  (new:ObjOk P w (upd H x o') h' x o'):HOk P w (upd H x o') h':=fun b u q=>by
 have iP:∀c y,H c=some (.own y)->c≠x:=fun c y r z=>by subst z;rw[r]at mu;exact mu
 have mX:∀c xs,H c=some (.tup xs)->c≠x:=fun c xs r z=>by subst z;rw[r]at mu;exact mu
 by_cases hb:b=x
 . subst hb;rw[k9]at q;cases q;exact new
 . rw[e9 hb]at q;by_cases eO:b=e
   . have q':H b=some (.own x):=by
      rcases he with z |z
      . exact absurd (eO.trans z) hb
      . rw[eO];exact z
     rw[q]at q';cases q'
     obtain⟨v,hv⟩:=fx
     exact⟨v,by rw[eO];exact hv⟩
   . refine(ok b u q).stay (fun c v hc r=>k c v ?_ r) (fun c r=>by rw[e9 (iP c b r)];exact r) fun c xs r=>by rw[e9 (mX c xs r)];exact r
     rcases hc with rfl |hc
     . exact eO
     . rintro rfl;rcases he with z |z
       . exact iP c b hc z
       . rw[hc]at z;cases z;exact hb rfl
end
structure Un(fs ex:List Addr)(H H':Hp)(h h':Heap):Prop where
 keep:∀b o,h.get? b=some o->H b=none->b∉fs->b∉ex->h'.get? b=some o
 slot:∀b o,h.get? b=some o->H b=none->b∈fs->b∉ex->∃sl,h'.get? b=some { o with slots:=sl }
 free:∀b o,h.get? b=some o->H b=none->b∉ex->H' b=none
 there:∀b o,h.get? b=some o->b∉ex->∃o',h'.get? b=some o'
 tups:∀b xs,H b=some (.tup xs)->H' b=some (.tup xs)
 frzs:∀b o u,H b=some (.frz o u)->H' b=some (.frz o u)
 tbls:∀b ps,H b=some (.tbl ps)->∃more,H' b=some (.tbl (ps++more))
section
variable {fs ex:List Addr}{H H1:Hp}{h h1 h':Heap}{a x e:Addr}{o:HO}
theorem Un.any(u:Un fs ex H H1 h h1)(q:h.get? b=some ob)(n:H b=none)(hx:b∉ex):∃sl,h1.get? b=some { ob with slots:=sl }:=by
 by_cases hb:b∈fs
 . exact u.slot b ob q n hb hx
 . exact⟨ob.slots,u.keep b ob q n hb hx⟩
theorem Un.kept(k:∀b u,h.get? b=some u->h'.get? b=some u):Un fs ex H H h h':=
 ⟨fun b ob q _ _ _=>k b ob q,fun b ob q _ _ _=>⟨ob.slots,k b ob q⟩,fun _ _ _ n _=>n,fun b ob q _=>⟨ob,k b ob q⟩,fun _ _ q=>q,fun _ _ _ q=>q,fun _ ps q=>⟨#[],by rw[q];simp⟩⟩
theorem Un.refl:Un fs ex H H h h:=Un.kept fun _ _ q=>q
theorem Un.laid(k:∀b u,h.get? b=some u->h'.get? b=some u)(hp:h.objs.size<=a)(hn:H a=none):Un fs ex H (upd H a o) h h' where
 keep:=fun b u q _ _ _=>k b u q
 slot:=fun b u q _ _ _=>⟨u.slots,k b u q⟩
 free:=fun b u q n _=>by rw[e9 (CY (CV (Ξ q) hp))];exact n
 there:=fun b u q _=>⟨u,k b u q⟩
 tups:=fun b xs q=>by rw[e9 (r8 q hn)];exact q
 frzs:=fun b u xs q=>by rw[e9 (r8 q hn)];exact q
 tbls:=fun b ps q=>⟨#[],by rw[e9 (r8 q hn),q];simp⟩
theorem Un.write(mu:Mut (H x))(he:e=x\/H e=some (.own x))(k:∀b u,b≠e->h.get? b=some u->h'.get? b=some u)(fx:∃u,h'.get? e=some u):Un fs ex H (upd H x o) h h':=by
 have hx:∀b,H b=none->b≠x:=fun b n z=>by subst z;rw[n]at mu;exact mu
 have hb:∀b,H b=none->b≠e:=fun b n z=>by
  subst z;rcases he with r |r
  . exact hx b n r
  . rw[n]at r;cases r
 have hm:∀b u,H b=some u->¬Mut (some u)->b≠x:=fun b u q nm z=>by subst z;rw[q]at mu;exact nm mu
 refine⟨fun b u q n _ _=>k b u (hb b n) q,fun b u q n _ _=>⟨u.slots,k b u (hb b n) q⟩,fun b u q n _=>by rw[e9 (hx b n)];exact n,fun b u q _=>?_,
  fun b xs q=>by rw[e9 (hm b _ q fun z=>z)];exact q,fun b u xs q=>by rw[e9 (hm b _ q fun z=>z)];exact q,fun b ps q=>⟨#[],by rw[e9 (hm b _ q fun z=>z),q];simp⟩⟩
 by_cases eO:b=e
 . subst eO;exact fx
 . exact⟨u,k b u eO q⟩
end
noncomputable def trk(h:Heap)(H:Hp):List Addr:=(List.range h.objs.size).filter fun a=>(H a).isSome
def G5(h:Heap)(H:Hp):Heap:=hideAll h (trk h H)
theorem zK(h:Heap)(H:Hp):(G5 h H).objs.size=h.objs.size:=PySem.W.hideAll_size _ _
theorem za(e:h.get? b=some o)(n:H b=none):(G5 h H).get? b=some o:=
 hideAll_get _ e fun hm=>by have q:(H b).isSome=true:=(CT.mp hm).2;rw[n]at q;simp at q
theorem xY(e:(G5 h H).get? b=some o):h.get? b=some o/\H b=none:=by
 have e':h.get? b=some o:=PySem.W.of_hideAll (trk h H) e;refine⟨e',?_⟩;cases q:H b with
 |none=>rfl
 |some x=>
  have hm:b∈trk h H:=CT.mpr ⟨FQ.mpr (Ξ e'),by simp[q]⟩
  have z:(G5 h H).get? b=none:=hideAll_none (trk h H) hm
  rw[z]at e;cases e
noncomputable def Fn(g h:Heap)(L:Addr):List (Addr×Obj):=(List.range h.objs.size).filterMap fun a=>if a=L\/(g.get? a).isSome=true then none else(h.get? a).map fun o=>(a,o)
theorem zdm(h1:a≠L)(h2:g.get? a=none)(h3:h.get? a=some o):(a,o)∈Fn g h L:=
 GH.mpr ⟨a,FQ.mpr (Ξ h3),by simp[h1,h2,h3]⟩
theorem z8k(hp:p∈Fn g h L):p.1≠L/\g.get? p.1=none/\h.get? p.1=some p.2:=by
 obtain⟨b,_,e⟩:=GH.mp hp;split at e
 . cases e
 . rename_i hn;cases q:h.get? b with
   |none=>rw[q]at e;simp at e
   |some u=>
    rw[q]at e
    simp only[CZ,Option.some.injEq]at e
    subst e
    refine⟨fun z=>hn (.inl z),?_,q⟩
    show g.get? b=none
    cases r:g.get? b with
    |none=>rfl
    |some v=>exact(hn (.inr (by simp[r]))).elim
theorem Wl:News g L h (Fn g h L):=fun p hp=>let ⟨a,b,c⟩:=z8k hp;⟨c,a,b⟩
structure Mod(K:Frag)(mg:Str->Option Value)(base:Heap):Prop where
 kin:K.In base
 glob:base.Ns mainGlobals mg
 blt:∃mb,base.Ns builtinsNs mb/\∀x:Str,x≠"__name__"->mb x=bootBuiltins x
 nolimit:base.NoLimit
structure Cx where
 prog:Program
 w:World
 K:Frag
 mg:Str->Option Value
 base:Heap
 A:Around
 N:List Str
 s₀:Shared
 H₀:Hp
 env:Env
 outer:List Env
 stack:List Env
 ex:List Addr
 fn:Str->Bool
 calm:Bool
 pn:List (Addr×Obj)
 xe:Value->Shared->Prop
noncomputable def frs(l:List Env):List Addr:=l.filterMap (·.frame)
abbrev Cx.fs(X:Cx):List Addr:=frs X.outer
def Vis(sc:Scope)(x:Str):Prop:=sc.names.lookup x=some .local\/sc.names.lookup x=some .cell\/sc.names.lookup x=some .free
def Loc(sc:Scope)(x:Str):Prop:=sc.names.lookup x=some .local\/sc.names.lookup x=some .cell
def y31(env:Env)(h:Heap)(m:Str->Option Value)(x:Str)(u:Value):Prop:=
 (env.kindOf x=some .local/\m x=some u)\/((env.kindOf x=some .cell\/env.kindOf x=some .free)/\∃c,env.cells.lookup x=some c/\h.IsCell c (some u))
structure Cx.Ok(X:Cx):Prop where
 mod:Mod X.K X.mg X.base
 kind:X.env.scope.kind=.function
 glob:X.env.globals=mainGlobals
 blt:X.env.builtins=builtinsNs
 above:X.s₀.heap.objs.size<=X.env.locals
 inj:∀x y c,X.env.cells.lookup x=some c->X.env.cells.lookup y=some c->x=y
 has:∀x,(X.env.kindOf x=some .cell\/X.env.kindOf x=some .free)->∃c,X.env.cells.lookup x=some c
 cab:∀x c,X.fn x=true->X.env.cells.lookup x=some c->X.s₀.heap.objs.size<=c
 hd:X.calm=true->X.A.handled=none
 frames:X.A.frames=some X.stack
 stk:X.stack=X.outer\/(X.stack=X.env::X.outer/\X.env.frame=some X.env.locals)
 exf:∀b∈X.ex,b≠X.env.locals/\∀x c,X.env.cells.lookup x=some c->c≠b
 bs:∀b o,X.base.get? b=some o->X.s₀.heap.get? b=some o/\X.H₀ b=none
 bsz:X.base.objs.size<=X.s₀.heap.objs.size
 noex:∀b o,X.base.get? b=some o->b∉X.ex
 exfs:∀b∈X.ex,b∉X.fs
 funs:X.s₀.heap.FunFrames X.base X.outer
 frf:∀b∈X.fs,X.H₀ b=none
structure Inv(X:Cx)(pins:List (Addr×Obj))(σ:List (Option V))(H:Hp)(s:Shared):Prop where
 ok:X.Ok
 os:s.os=X.s₀.os
 bare:AllBare s.gens
 base:Un X.fs X.ex X.H₀ H X.s₀.heap s.heap
 loc:∃m,s.heap.Ns X.env.locals m/\∀(i:Nat)(x:Str)(v:V),X.N[i]?=some x->σ[i]?=some (some v)->Vis X.env.scope x->∃u,RelV v u/\y31 X.env s.heap m x u
 cell:∀x c,X.env.cells.lookup x=some c->∃v,s.heap.IsCell c v
 free:H X.env.locals=none
 freeC:∀x c,X.env.cells.lookup x=some c->H c=none
 pin:∀p∈X.pn++pins,s.heap.get? p.1=some p.2/\H p.1=none/\p.1≠X.env.locals/\p.1∉X.fs/\∀v,p.2.data≠.cell v
 hok:HOk X.prog X.w H s.heap
 len:σ.length=X.N.length
section
variable {X:Cx}{pins:List (Addr×Obj)}{σ:List (Option V)}{H H':Hp}{s:Shared}{h':Heap}
theorem Cx.Ok.nofr(ok:X.Ok)(e:X.base.get? b=some o):b∉X.fs:=fun hb=>by have:=(ok.funs.mem hb).1;rw[e]at this;cases this
theorem Inv.bs(I:Inv X pins σ H s):∀b o,X.base.get? b=some o->s.heap.get? b=some o/\H b=none:=fun b o e=>
 ⟨I.base.keep b o (I.ok.bs b o e).1 (I.ok.bs b o e).2 (I.ok.nofr e) (I.ok.noex b o e),I.base.free b o (I.ok.bs b o e).1 (I.ok.bs b o e).2 (I.ok.noex b o e)⟩
theorem Inv.bk(I:Inv X pins σ H s):∀b o,X.base.get? b=some o->s.heap.get? b=some o:=fun b o e=>(I.bs b o e).1
theorem Inv.mod(I:Inv X pins σ H s):Mod X.K X.mg X.base:=I.ok.mod
theorem Inv.kIn(I:Inv X pins σ H s):X.K.In s.heap:=I.ok.mod.kin.keeps I.bk
theorem Inv.lt(I:Inv X pins σ H s):X.env.locals<s.heap.objs.size:=let ⟨_,hn,_⟩:=I.loc;hn.lt
theorem Inv.sz(I:Inv X pins σ H s):X.s₀.heap.objs.size<=s.heap.objs.size:=CL I.ok.above (FY I.lt)
theorem Inv.nofs(I:Inv X pins σ H s)(h:s.heap.objs.size<=a):a∉X.fs:=fun hb=>by obtain⟨_,o,ho,_⟩:=I.ok.funs.mem hb;exact absurd (CV (Ξ ho) (CL I.sz h)) (FH _)
theorem Inv.cne(I:Inv X pins σ H s):∀x c,X.env.cells.lookup x=some c->c≠X.env.locals:=fun x c e z=>by obtain⟨v,o,ho,hd⟩:=I.cell x c e;obtain⟨m,⟨o',es,ep,bi,cZ,_⟩,_⟩:=I.loc;rw[z,bi]at ho;cases ho;rw[cZ]at hd;cases hd
theorem Inv.funs(I:Inv X pins σ H s):s.heap.FunFrames X.base X.outer:=by
 have all:∀(l:List Env),(∀b∈frs l,b∈X.fs)->X.s₀.heap.FunFrames X.base l->s.heap.FunFrames X.base l:=by
  intro l;induction l with
  |nil=>intro _ _;trivial
  |cons env r ih=>
   intro hs hl
   obtain⟨hk,⟨L,o,hf,hn,ho,hd⟩,hr⟩:=hl
   have hL:L∈X.fs:=hs L (by unfold frs;rw[FL,hf];exact io)
   obtain⟨sl,e⟩:=I.base.slot L o ho (I.ok.frf L hL) hL fun z=>I.ok.exfs L z hL
   exact⟨hk,⟨L,_,hf,hn,e,hd⟩,ih (fun b hb=>hs b (by unfold frs;rw[FL,hf];exact dg _ hb)) hr⟩
 exact all X.outer (fun _ hb=>hb) I.ok.funs
theorem Inv.stack(I:Inv X pins σ H s):s.heap.FunFrames X.base X.stack:=by
 rcases I.ok.stk with e |⟨e,hf⟩
 . rw[e];exact I.funs
 . rw[e];obtain⟨m,hn,_⟩:=I.loc;refine .cons (by rw[I.ok.kind];decide) hf hn ?_ I.funs;exact Heap.get?_none_of_le (CL I.ok.bsz I.ok.above)
theorem Inv.stkSub(I:Inv X pins σ H s):∀b∈frs X.stack,b∈X.env.locals::X.fs:=fun b hb=>by
 rcases I.ok.stk with e |⟨e,hf⟩
 . rw[e]at hb;exact dg _ hb
 . rw[e]at hb;unfold frs at hb;rw[FL,hf]at hb;exact hb
theorem Inv.stkFree(I:Inv X pins σ H s):∀b∈frs X.stack,H b=none:=fun b hb=>by
 rcases gD.mp (I.stkSub b hb) with e |hb
 . rw[e];exact I.free
 . obtain⟨_,o,ho,_⟩:=I.ok.funs.mem hb;exact I.base.free b o ho (I.ok.frf b hb) fun z=>I.ok.exfs b z hb
theorem Inv.step{g':Array GenState}{t':Nat}{d':Drawn}{ch:List Addr}(I:Inv X pins σ H s)
  (cS:∀b∈ch,(b∈X.ex\/X.s₀.heap.objs.size<=b)/\b≠X.env.locals/\(∀x c,X.env.cells.lookup x=some c->c≠b)/\∀p∈X.pn++pins,p.1≠b)
  (keep:∀b o,b≠X.env.locals->b∉X.fs->b∉ch->s.heap.get? b=some o->H b=none->h'.get? b=some o)
  (slot:∀b o,b≠X.env.locals->b∈X.fs->b∉ch->s.heap.get? b=some o->H b=none->∃sl,h'.get? b=some { o with slots:=sl }) (free:∀b o,b∉ch->s.heap.get? b=some o->H b=none->H' b=none)
  (there:∀b o,b∉ch->s.heap.get? b=some o->∃o',h'.get? b=some o')
  (tups:∀b xs,H b=some (.tup xs)->H' b=some (.tup xs)) (frzs:∀b o u,H b=some (.frz o u)->H' b=some (.frz o u)) (tbls:∀b ps,H b=some (.tbl ps)->∃more,H' b=some (.tbl (ps++more)))
  (ns:∀m,s.heap.Ns X.env.locals m->h'.Ns X.env.locals m) (hok:HOk X.prog X.w H' h') (hg:AllBare g') :
  Inv X pins σ H' { s with heap:=h',gens:=g',drawn:=d',toks:=t' }:=by
 have ig:∀b o,X.s₀.heap.get? b=some o->b≠X.env.locals:=fun b o e=>CY (CV (Ξ e) I.ok.above)
 have ii:∀b o,X.s₀.heap.get? b=some o->b∉X.ex->b∉ch:=fun b o e hx hb=>by
  rcases (cS b hb).1 with z |z
  . exact hx z
  . exact absurd (CV (Ξ e) z) (FH _)
 have fL:∀x c,X.env.cells.lookup x=some c->∀v,s.heap.IsCell c v->h'.IsCell c v:=fun x c e v ⟨o,ho,hd⟩=>by
  have gf:c∉ch:=fun z=>(cS c z).2.2.1 x c e rfl
  by_cases hc:c∈X.fs
  . obtain⟨sl,q⟩:=slot c o (I.cne x c e) hc gf ho (I.freeC x c e);exact⟨_,q,hd⟩
  . exact⟨o,keep c o (I.cne x c e) hc gf ho (I.freeC x c e),hd⟩
 refine⟨I.ok,I.os,hg,⟨fun b o e n hb hx=>?_,fun b o e n hb hx=>?_,fun b o e n hx=>?_,fun b o e hx=>?_,fun b xs e=>tups b xs (I.base.tups b xs e),fun b o xs e=>frzs b o xs (I.base.frzs b o xs e),fun b ps e=>?_⟩,?_,fun x c e=>?_,?_,fun x c e=>?_,fun p hp=>?_,hok,I.len⟩
 . exact keep b o (ig b o e) hb (ii b o e hx) (I.base.keep b o e n hb hx) (I.base.free b o e n hx)
 . obtain⟨sl,e1⟩:=I.base.slot b o e n hb hx;obtain⟨pU,e2⟩:=slot b _ (ig b o e) hb (ii b o e hx) e1 (I.base.free b o e n hx);exact⟨pU,e2⟩
 . obtain⟨o',e1⟩:=I.base.there b o e hx;exact free b o' (ii b o e hx) e1 (I.base.free b o e n hx)
 . obtain⟨o',e1⟩:=I.base.there b o e hx;exact there b o' (ii b o e hx) e1
 . obtain⟨m1,e1⟩:=I.base.tbls b ps e;obtain⟨m2,e2⟩:=tbls b _ e1;exact⟨m1++m2,by rw[e2,Array.append_assoc]⟩
 . obtain⟨m,hn,hl⟩:=I.loc;refine⟨m,ns m hn,fun i x v e1 e2 e3=>?_⟩;obtain⟨u,r,l⟩:=hl i x v e1 e2 e3;refine⟨u,r,?_⟩;rcases l with l |⟨k,c,e,z⟩
   . exact .inl l
   . exact .inr ⟨k,c,e,fL x c e _ z⟩
 . obtain⟨v,z⟩:=I.cell x c e;exact⟨v,fL x c e v z⟩
 . obtain⟨m,⟨o,_,_,ho,_⟩,_⟩:=I.loc;exact free _ o (fun z=>(cS _ z).2.1 rfl) ho I.free
 . obtain⟨v,o,ho,hd⟩:=I.cell x c e;exact free c o (fun z=>(cS c z).2.2.1 x c e rfl) ho (I.freeC x c e)
 . obtain⟨e,n,ne,nf,d⟩:=I.pin p hp;have gf:p.1∉ch:=fun z=>(cS p.1 z).2.2.2 p hp rfl
   exact⟨keep p.1 p.2 ne nf gf e n,free p.1 p.2 gf e n,ne,nf,d⟩
theorem Inv.un(I:Inv X pins σ H s)(u:Un X.fs [] H H' s.heap h')(hok:HOk X.prog X.w H' h'):Inv X pins σ H' { s with heap:=h',toks:=t' }:=by obtain⟨m,⟨o,es,ep,ho,r⟩,_⟩:=id I.loc;obtain⟨sl,hL⟩:=u.any ho I.free (by simp);exact I.step (g':=s.gens) (d':=s.drawn) (ch:=[]) (fun _ z=>nomatch z) (fun b o _ hb _ e n=>u.keep b o e n hb (by simp)) (fun b o _ hb _ e n=>u.slot b o e n hb (by simp)) (fun b o _ e n=>u.free b o e n (by simp)) (fun b o _ e=>u.there b o e (by simp)) u.tups u.frzs u.tbls (fun m' hm=>by obtain⟨o',eP,eQ,bi,r'⟩:=hm;rw[ho]at bi;cases bi;exact⟨_,eP,eQ,hL,r'⟩) hok I.bare
theorem Inv.call(I:Inv X pins σ H s)(u:Un (frs X.stack) ch H H' s.heap h')(hok:HOk X.prog X.w H' h')(hg:AllBare g')
  (cS:∀b∈ch,(b∈X.ex\/X.s₀.heap.objs.size<=b)/\b≠X.env.locals/\(∀x c,X.env.cells.lookup x=some c->c≠b)/\∀p∈X.pn++pins,p.1≠b) :
  Inv X pins σ H' { s with heap:=h',gens:=g',drawn:=d',toks:=t' }:=by
 obtain⟨m,⟨o,es,ep,ho,r⟩,_⟩:=id I.loc
 obtain⟨sl,hL⟩:=u.any ho I.free fun z=>(cS _ z).2.1 rfl
 exact I.step (ch:=ch) cS (fun b o hL hb hc e n=>u.keep b o e n (fun z=>(gD.mp (I.stkSub b z)).elim hL hb) hc) (fun b o _ _ hc e n=>u.any e n hc) (fun b o hc e n=>u.free b o e n hc) (fun b o hc e=>u.there b o e hc) u.tups u.frzs u.tbls (fun m' hm=>by obtain⟨o',eP,eQ,bi,r'⟩:=hm;rw[ho]at bi;cases bi;exact⟨_,eP,eQ,hL,r'⟩) hok hg
theorem Inv.turned(I:Inv X pins σ H s)(k:∀b o,b≠it->s.heap.get? b=some o->h'.get? b=some o)(hn:H it=none)(hL:it≠X.env.locals)
  (h1:it∈X.ex\/X.s₀.heap.objs.size<=it) (h2:∀x c,X.env.cells.lookup x=some c->c≠it) (h3:∀p∈X.pn++pins,p.1≠it):Inv X pins σ H { s with heap:=h',toks:=t' }:=by
 have nO:∀b u,H b=some u->b≠it:=fun b u e z=>by rw[z,hn]at e;cases e
 refine I.step (g':=s.gens) (d':=s.drawn) (ch:=[it]) (fun b hb=>?_) (fun b o _ _ hc e _=>k b o (fun z=>hc (by simp[z])) e) (fun b o _ _ hc e _=>⟨o.slots,k b o (fun z=>hc (by simp[z])) e⟩) (fun _ _ _ _ n=>n)
  (fun b o hc e=>⟨o,k b o (fun z=>hc (by simp[z])) e⟩) (fun _ _ e=>e) (fun _ _ _ e=>e) (fun b ps e=>⟨#[],by rw[e];simp⟩) (fun m hm=>?_) (fun b u e=>?_) I.bare
 . have e:b=it:=by simpa using hb
   subst e;exact⟨h1,hL,h2,h3⟩
 . obtain⟨o,es,ep,ho,r⟩:=hm;exact⟨o,es,ep,k _ o (GF hL) ho,r⟩
 . refine(I.hok b u e).stay (fun c v hc q=>k c v ?_ q) (fun _ q=>q) fun _ _ q=>q
   rcases hc with z |z
   . rw[z];exact nO b u e
   . exact nO c _ z
theorem Inv.tok(I:Inv X pins σ H s)(t:Nat):Inv X pins σ H { s with toks:=t }:=I.un (h':=s.heap) (t':=t) Un.refl I.hok
theorem Inv.kept(I:Inv X pins σ H s)(k:∀b u,s.heap.get? b=some u->h'.get? b=some u):Inv X pins σ H { s with heap:=h',toks:=t' }:=I.un (Un.kept k) (I.hok.kept k)
theorem Inv.laid(I:Inv X pins σ H s)(k:∀b u,s.heap.get? b=some u->h'.get? b=some u)(hp:s.heap.objs.size<=a)(new:ObjOk X.prog X.w (upd H a o) h' a o) :
 Inv X pins σ (upd H a o) { s with heap:=h',toks:=t' }:=I.un (Un.laid k hp (I.hok.fresh hp)) (I.hok.laid k hp new)
theorem Inv.write(I:Inv X pins σ H s)(mu:Mut (H x))(he:e=x\/H e=some (.own x))(k:∀b u,b≠e->s.heap.get? b=some u->h'.get? b=some u)(fx:∃u,h'.get? e=some u)
 (new:ObjOk X.prog X.w (upd H x o) h' x o):Inv X pins σ (upd H x o) { s with heap:=h',toks:=t' }:=I.un (Un.write mu he k fx) (I.hok.write mu he k fx new)
theorem Inv.pins_of(I:Inv X pins σ H s)(h:∀p∈lE,s.heap.get? p.1=some p.2/\H p.1=none/\p.1≠X.env.locals/\p.1∉X.fs/\∀v,p.2.data≠.cell v):Inv X lE σ H s:=
 ⟨I.ok,I.os,I.bare,I.base,I.loc,I.cell,I.free,I.freeC,fun p hp=>(CK.mp hp).elim (fun z=>I.pin p (DC _ z)) (h p),I.hok,I.len⟩
theorem Wk{N:List Str}(hN:N.Nodup){i j:Nat}{x:Str}(a:N[i]?=some x)(b:N[j]?=some x):i=j:=by obtain⟨h1,e1⟩:=DM.mp a;obtain⟨h2,e2⟩:=DM.mp b;exact(List.getElem_inj hN).mp (e1.trans e2.symm)
theorem Xm(I:Inv X pins σ H s)(hN:X.N.Nodup)(hi:X.N[i]?=some x)(hx:Loc X.env.scope x)(r:RelV v u)
  (h:∀s',Inv X pins (σ.set i (some v)) H s'->(∃a,Heap.SameBut a s.heap s'.heap/\(a=X.env.locals\/X.env.cells.lookup x=some a))->Q () s') (hf:X.fn x=true\/X.env.scope.names.lookup x=some .local):wpAny M A (storeName X.env x u) Q E s:=by
 obtain⟨m,hn,hl⟩:=id I.loc
 have mY:(X.env.scope.kind==.class||(X.env.scope.kind==.module&&X.env.locals != X.env.globals))=false:=by rw[I.ok.kind];rfl
 have iQ:i<σ.length:=by rw[I.len];exact(DM.mp hi).1
 have cne:=I.cne
 have dU:∀{a:Addr}{h':Heap},(∃o,s.heap.get? a=some o/\H a=none)->Heap.SameBut a s.heap h'->HOk X.prog X.w H h':=fun {a h'} ha hs b ob e=>by
  obtain⟨_,_,fM⟩:=ha;refine(I.hok b ob e).stay (fun c w' hc q=>(hs.2 c ?_).trans q) (fun _ q=>q) fun _ _ q=>q
  rintro rfl;rcases hc with rfl |hc
  . rw[fM]at e;cases e
  . rw[fM]at hc;cases hc
 rcases hx with hk |hk
 . refine wpAny_storeName_local hk hn (fun h' pV hs=>?_) mY;obtain⟨oL,_,_,ij,_⟩:=id hn;refine h _ ⟨I.ok,I.os,I.bare,⟨fun b o e n hb hx=>?_,fun b o e n hb hx=>?_,I.base.free,fun b o e hx=>?_,I.base.tups,I.base.frzs,I.base.tbls⟩,⟨_,pV,fun j y v' e1 e2 e3=>?_⟩,fun y c e=>?_,I.free,I.freeC,fun p hp=>?_,dU ⟨oL,ij,I.free⟩ hs,by simpa using I.len⟩ ⟨_,hs,.inl rfl⟩
   . exact(hs.2 b (CY (CV (Ξ e) I.ok.above))).trans (I.base.keep b o e n hb hx)
   . obtain⟨sl,e1⟩:=I.base.slot b o e n hb hx;exact⟨sl,(hs.2 b (CY (CV (Ξ e) I.ok.above))).trans e1⟩
   . obtain⟨o',e1⟩:=I.base.there b o e hx;exact⟨o',(hs.2 b (CY (CV (Ξ e) I.ok.above))).trans e1⟩
   . by_cases hj:j=i
     . subst hj;rw[hi]at e1;cases e1;rw[FM iQ]at e2;cases e2;exact⟨u,r,.inl ⟨hk,by simp⟩⟩
     . rw[FJ (GF hj)]at e2;obtain⟨u',r',q⟩:=hl j y v' e1 e2 e3;refine⟨u',r',?_⟩;rcases q with⟨k,e⟩ |⟨k,c,e,z⟩
       . refine .inl ⟨k,?_⟩;have:y≠x:=fun e=>hj (Wk hN e1 (e ▸ hi))
         simp[this,e]
       . exact .inr ⟨k,c,e,z.sameBut hs (cne y c e)⟩
   . obtain⟨w',z⟩:=I.cell y c e;exact⟨w',z.sameBut hs (cne y c e)⟩
   . obtain⟨e,n,ne,nf,d⟩:=I.pin p hp;exact⟨(hs.2 p.1 ne).trans e,n,ne,nf,d⟩
 . have gh:X.fn x=true:=by
    rcases hf with z |z
    . exact z
    . rw[z]at hk;cases hk
   obtain⟨c,hc⟩:=I.ok.has x (.inl hk)
   obtain⟨w',z⟩:=I.cell x c hc
   refine wpAny_storeName_cell I.ok.kind hk hc z (fun h' aN hs=>?_)
   obtain⟨oc,ik,mZ⟩:=id z
   refine h { s with heap:=h' } ⟨I.ok,I.os,I.bare,⟨fun b o e n hb hx=>?_,fun b o e n hb hx=>?_,I.base.free,fun b o e hx=>?_,I.base.tups,I.base.frzs,I.base.tbls⟩,⟨m,hn.sameBut hs (GF (cne x c hc)),fun j y v' e1 e2 e3=>?_⟩,fun y c' e=>?_,I.free,I.freeC,fun p hp=>?_,dU ⟨oc,ik,I.freeC x c hc⟩ hs,by simpa using I.len⟩ ⟨c,hs,.inr hc⟩
   . exact(hs.2 b (CY (CV (Ξ e) (I.ok.cab x c gh hc)))).trans (I.base.keep b o e n hb hx)
   . obtain⟨sl,e1⟩:=I.base.slot b o e n hb hx;exact⟨sl,(hs.2 b (CY (CV (Ξ e) (I.ok.cab x c gh hc)))).trans e1⟩
   . obtain⟨o',e1⟩:=I.base.there b o e hx;exact⟨o',(hs.2 b (CY (CV (Ξ e) (I.ok.cab x c gh hc)))).trans e1⟩
   . by_cases hj:j=i
     . subst hj;rw[hi]at e1;cases e1;rw[FM iQ]at e2;cases e2;exact⟨u,r,.inr ⟨.inl hk,c,hc,aN⟩⟩
     . rw[FJ (GF hj)]at e2;obtain⟨u',r',q⟩:=hl j y v' e1 e2 e3;refine⟨u',r',?_⟩;rcases q with q |⟨k,c',e,z'⟩
       . exact .inl q
       . refine .inr ⟨k,c',e,z'.sameBut hs ?_⟩;rintro rfl;exact hj (Wk hN e1 (I.ok.inj _ _ _ e hc ▸ hi))
   . by_cases ef:c'=c
     . subst ef;exact⟨_,aN⟩
     . obtain⟨w2,z2⟩:=I.cell y c' e;exact⟨w2,z2.sameBut hs ef⟩
   . obtain⟨e,n,ne,nf,d⟩:=I.pin p hp;refine⟨(hs.2 p.1 ?_).trans e,n,ne,nf,d⟩;intro q;rw[q,ik]at e;have q':oc=p.2:=Option.some.inj e;exact d w' (by rw[<-q'];exact mZ)
theorem Wj(I:Inv X pins σ H s)(hN:X.N.Nodup)(hi:X.N[i]?=some x)(hx:Loc X.env.scope x)(r:RelV v u)
  (h:∀s',Inv X pins (σ.set i (some v)) H s'->Q () s') (hf:X.fn x=true\/X.env.scope.names.lookup x=some .local):wpAny M A (storeName X.env x u) Q E s:=
 Xm I hN hi hx r (fun s' I' _=>h s' I') hf
theorem Inv.call'(I:Inv X pins σ H s)(ho:s'.os=s.os)(u:Un (frs X.stack) ch H H' s.heap s'.heap)(hok:HOk X.prog X.w H' s'.heap)(hg:AllBare s'.gens)
  (cS:∀b∈ch,(b∈X.ex\/X.s₀.heap.objs.size<=b)/\b≠X.env.locals/\(∀x c,X.env.cells.lookup x=some c->c≠b)/\∀p∈X.pn++pins,p.1≠b):Inv X pins σ H' s':=by
 obtain⟨h',g',d',t',o'⟩:=s'
 have e:o'=s.os:=ho
 subst e
 exact I.call (g':=g') (t':=t') (d':=d') u hok hg cS
end
abbrev XK:=Value->Option Addr->Hp->Prop
abbrev St:=List (Option V)
abbrev VK:=V->Hp->Prop
abbrev TE:=St->Hp->VK->Prop
abbrev TT:=St->Hp->(Bool->Hp->Prop)->Prop
abbrev TA:=St->Hp->(List V->Hp->Prop)->Prop
structure Ends where
 nx:St->Hp->Prop
 rt:VK
 bk:St->Hp->Prop:=fun _ _=>False
 ct:St->Hp->Prop:=fun _ _=>False
abbrev TS:=Ends->St->Hp->Prop
def EP(X:Cx)(pins:List (Addr×Obj))(σ:St)(Q:VK)(u:Value)(s':Shared):Prop:=∃v H',Inv X pins σ H' s'/\RelV v u/\Q v H'
def TP(X:Cx)(pins:List (Addr×Obj))(σ:St)(Q:Bool->Hp->Prop)(b:Bool)(s':Shared):Prop:=∃H',Inv X pins σ H' s'/\Q b H'
def AP(X:Cx)(pins:List (Addr×Obj))(σ:St)(Q:List V->Hp->Prop)(us:List Value)(s':Shared):Prop:=∃vs H',Inv X pins σ H' s'/\Vals vs us/\Q vs H'
def SP(X:Cx)(pins:List (Addr×Obj))(D:Ends)(f:Flow)(s':Shared):Prop:=
 match f with
 | .next=>∃ae H',Inv X pins ae H' s'/\D.nx ae H'
 | .brk=>∃ae H',Inv X pins ae H' s'/\D.bk ae H'
 | .cont=>∃ae H',Inv X pins ae H' s'/\D.ct ae H'
 | .ret u=>∃v ae H',Inv X pins ae H' s'/\RelV v u/\D.rt v H'
def PE(X:Cx)(e:Expr)(t:TE):Prop:=
 ∀(pins:List (Addr×Obj))(s:Shared)(σ:St)(H:Hp)(Q:VK),Inv X pins σ H s->t σ H Q->wpAny (model X.prog X.w) X.A (eval e X.env) (EP X pins σ Q) X.xe s
def PT(X:Cx)(e:Expr)(t:TT):Prop:=
 ∀(pins:List (Addr×Obj))(s:Shared)(σ:St)(H:Hp)(Q:Bool->Hp->Prop),Inv X pins σ H s->t σ H Q->wpAny (model X.prog X.w) X.A (isTrue e X.env (eval e X.env)) (TP X pins σ Q) X.xe s
def PW(X:Cx)(e:Expr)(t:TT):Prop:=
 ∀(whole:Sem Value)(pins:List (Addr×Obj))(s:Shared)(σ:St)(H:Hp)(Q:Bool->Hp->Prop),Inv X pins σ H s->t σ H Q->wpAny (model X.prog X.w) X.A (isTrue e X.env whole) (TP X pins σ Q) X.xe s
theorem PW.pt(h:PW X e t):PT X e t:=h _
def PA(X:Cx)(es:List Expr)(t:TA):Prop:=
 ∀(pos:Pos)(pins:List (Addr×Obj))(s:Shared)(σ:St)(H:Hp)(Q:List V->Hp->Prop),Inv X pins σ H s->t σ H Q->wpAny (model X.prog X.w) X.A (spliced (backTo pos (starEach es X.env))) (AP X pins σ Q) X.xe s
def PS(X:Cx)(st:Stmt)(t:TS):Prop:=
 ∀(pins:List (Addr×Obj))(s:Shared)(σ:St)(H:Hp)(D:Ends),Inv X pins σ H s->t D σ H->wpAny (model X.prog X.w) X.A (exec st X.env) (SP X pins D) X.xe s
def PSs(X:Cx)(st:List Stmt)(t:TS):Prop:=
 ∀(pins:List (Addr×Obj))(s:Shared)(σ:St)(H:Hp)(D:Ends),Inv X pins σ H s->t D σ H->wpAny (model X.prog X.w) X.A (execs st X.env) (SP X pins D) X.xe s
theorem thn(h:wpAny M A t Q E s)(hQ:∀a s,Q a s->Q' a s):wpAny M A t Q' E s:=EZ h hQ fun _ _ x=>x
section
variable {X:Cx}
theorem bin{a b:Expr}{ta tb:TE}(ha:PE X a ta)(hb:PE X b tb){pins:List (Addr×Obj)}{s:Shared}{σ:St}{H:Hp}{R:V->V->Hp->Prop}(I:Inv X pins σ H s)(h:ta σ H fun x H1=>tb σ H1 fun y H2=>R x y H2)
  {α:Type} {Q:α->Shared->Prop} {f:Value->Value->Sem α}
  (hf:∀v u s2 x y H2,Inv X pins σ H2 s2->RelV x v->RelV y u->R x y H2->wpAny (model X.prog X.w) X.A (f v u) Q X.xe s2) :
  wpAny (model X.prog X.w) X.A (eval a X.env) (fun v af=>wpAny (model X.prog X.w) X.A (eval b X.env) (fun u aT=>wpAny (model X.prog X.w) X.A (f v u) Q X.xe aT) X.xe af) X.xe s:=by
 refine thn (ha pins s σ H _ I h) fun v s1 ⟨x,H1,I1,r1,q1⟩=>?_
 refine thn (hb pins s1 σ H1 _ I1 q1) fun u s2 ⟨y,H2,I2,r2,q2⟩=>?_
 exact hf v u s2 x y H2 I2 r1 r2 q2
noncomputable def kj(i:Nat):TE:=fun σ H Q=>∃v,σ[i]?=some (some v)/\Q v H
noncomputable def tC(v:V):TE:=fun _ H Q=>Q v H
theorem Ss(hN:X.N[i]?=some x)(hv:Vis X.env.scope x)(hd:(x==("__debug__":Str))=false:=by decide)(bU:(x==("__classdict__":Str))=false:=by decide):PE X (.Name x pos) (kj i):=by
 intro pins s σ H Q I h;obtain⟨v,e,h⟩:=h;obtain⟨m,hn,hl⟩:=I.loc;obtain⟨u,r,l⟩:=hl i x v hN e hv;have fin:EP X pins σ Q u s:=⟨v,H,I,r,h⟩;rcases l with⟨hk,hm⟩ |⟨hk,c,hc,fN⟩
 . exact wpAny_Name (wpAny_loadName_local I.ok.kind hk hn hm fin) hd
 . rcases hk with hk |hk
   . exact wpAny_Name (wpAny_loadName_cell I.ok.kind hk hc fN fin) hd
   . exact wpAny_Name (wpAny_loadName_free I.ok.kind hk hc fN fin bU) hd
theorem pe_int:PE X (.Constant (.int i) j pos) (tC (.int i)):=fun _ _ _ H _ I h=>wpAny_Constant_int ⟨.int i,H,I.tok _,⟨_,rfl⟩,h⟩
theorem pe_bl:PE X (.Constant (.bool b) j pos) (tC (.bl b)):=fun _ _ _ H _ I h=>Constant_bool ⟨.bl b,H,I,rfl,h⟩
theorem pe_non:PE X (.Constant .none j pos) (tC .non):=fun _ _ _ H _ I h=>Constant_none ⟨.non,H,I,rfl,h⟩
def Gl(X:Cx)(x:Str):Prop:=X.env.kindOf x=some .globalImplicit
theorem xX(I:Inv X pins σ H s)(hg:Gl X x)(hm:X.mg x=some u)(h:Q u s)
  (hd:(x==("__debug__":Str))=false:=by decide):wpAny (model X.prog X.w) X.A (eval (.Name x pos) X.env) Q E s:=
 Calls.Name_function_global I.ok.kind hg (Calls.loadGlobal_global (by rw[I.ok.glob];exact I.mod.glob.keeps I.bk) hm h) hd
theorem P9(I:Inv X pins σ H s)(hg:Gl X x)(hm:X.mg x=none)(hv:bootBuiltins x=some u)(h:Q u s)
  (hn:x≠"__name__":=by decide) (hd:(x==("__debug__":Str))=false:=by decide):wpAny (model X.prog X.w) X.A (eval (.Name x pos) X.env) Q E s:=by
 obtain⟨mb,h1,h2⟩:=I.mod.blt
 exact Calls.Name_function_global I.ok.kind hg (Calls.loadGlobal_builtin (by rw[I.ok.glob];exact I.mod.glob.keeps I.bk) hm (by rw[I.ok.blt];exact h1.keeps I.bk) ((h2 x hn).trans hv) h) hd
theorem J9(hg:Gl X x)(hm:X.mg x=none)(hv:bootBuiltins x=some u)(r:RelV v u)(hn:x≠"__name__":=by decide)(hd:(x==("__debug__":Str))=false:=by decide):PE X (.Name x pos) (tC v):=
 fun _ _ _ H _ I h=>P9 I hg hm hv ⟨v,H,I,r,h⟩ hn hd
variable {a b:Expr}{ta tb:TE}{pos:Pos}
variable {tA ip:TT}{rest:List Expr}
noncomputable def ki(t u:TT):TT:=fun σ H Q=>t σ H fun c H1=>if c=true then u σ H1 Q else Q false H1
noncomputable def tOr(t u:TT):TT:=fun σ H Q=>t σ H fun c H1=>if c=true then Q true H1 else u σ H1 Q
noncomputable def kh(t:TT):TT:=fun σ H Q=>t σ H fun c H1=>Q (!c) H1
theorem xW(ha:PT X a tA):PW X (.BoolOp .And [a] pos) tA:=by
 intro wh pins s σ H Q I h;refine isTrue_and (thn (ha pins s σ H Q I h) fun c s1 e=>?_);cases c with
 |true=>exact isTrue_and_nil e
 |false=>exact e
theorem we(ha:PT X a tA):PW X (.BoolOp .Or [a] pos) tA:=by
 intro wh pins s σ H Q I h;refine isTrue_or (thn (ha pins s σ H Q I h) fun c s1 e=>?_);cases c with
 |false=>exact isTrue_or_nil e
 |true=>exact e
theorem wd(ha:PT X a tA)(hb:PW X (.BoolOp .And (b::rest) pos) ip):PW X (.BoolOp .And (a::b::rest) pos) (ki tA ip):=by
 intro wh pins s σ H Q I h;refine isTrue_and (thn (ha pins s σ H _ I h) fun c s1 ⟨H1,I1,q1⟩=>?_);cases c with
 |true=>exact hb wh pins s1 σ H1 Q I1 q1
 |false=>exact⟨H1,I1,q1⟩
theorem qb(ha:PT X a tA)(hb:PW X (.BoolOp .Or (b::rest) pos) ip):PW X (.BoolOp .Or (a::b::rest) pos) (tOr tA ip):=by
 intro wh pins s σ H Q I h;refine isTrue_or (thn (ha pins s σ H _ I h) fun c s1 ⟨H1,I1,q1⟩=>?_);cases c with
 |true=>exact⟨H1,I1,q1⟩
 |false=>exact hb wh pins s1 σ H1 Q I1 q1
theorem wc(ha:PT X a tA):PT X (.UnaryOp .Not a pos) (kh tA):=by intro pins s σ H Q I h;exact isTrue_not (ha pins s σ H (fun c H1=>Q (!c) H1) I h)
theorem wb(h:PE X a t):PE X (.BoolOp op [a] pos) t:=fun pins s σ H Q I hw=>BoolOp_one (h pins s σ H Q I hw)
noncomputable def tIf(t:TT)(ta tb:TE):TE:=fun σ H Q=>t σ H fun c H1=>if c=true then ta σ H1 Q else tb σ H1 Q
theorem yZ(hc:PT X c tA)(ha:PE X a ta)(hb:PE X b tb):PE X (.IfExp c a b pos) (tIf tA ta tb):=by
 intro pins s σ H Q I h;refine wpAny_IfExp (thn (hc pins s σ H _ I h) fun d s1 ⟨H1,I1,q1⟩=>?_);cases d with
 |true=>exact ha pins s1 σ H1 Q I1 q1
 |false=>exact hb pins s1 σ H1 Q I1 q1
end
def SqL(K:Frag)(H:Hp)(a:Addr)(xs:List V):Prop:=
 Rd H a (.lst xs) \/
  ∃(o:Obj)(its:Array Value)(n:Nat),K.lookup a=some o/\o.cls=.type "list"/\o.dict=none/\o.data=.seq its n/\its.size<=sizeLine/\Vals xs its.toList
def SqT(K:Frag)(H:Hp)(a:Addr)(xs:List V):Prop:=
 Rd H a (.tup xs) \/
  ∃(o:Obj)(its:Array Value)(n:Nat),K.lookup a=some o/\o.cls=.type "tuple"/\o.data=.seq its n/\its.size<=sizeLine/\Vals xs its.toList
noncomputable def kg:Value->Option V
 | .none=>some .non
 | .bool b=>some (.bl b)
 | .int i _=>some (.int i)
 | .str x _=>some (.str x)
 | .bytes b _=>some (.byt b)
 | .float b _=>some (.flt b)
 | .ref a=>some (.ref a)
 | .type n=>some (.ty n)
 |_=>none
theorem RelV.abs(r:RelV x u):kg u=some x:=by
 cases x with
 |non=>cases r;rfl
 |bl _=>cases r;rfl
 |int _=>obtain⟨t,rfl⟩:=r;rfl
 |str _=>obtain⟨t,rfl⟩:=r;rfl
 |byt _=>obtain⟨t,rfl⟩:=r;rfl
 |flt _=>obtain⟨t,rfl⟩:=r;rfl
 |ref _=>cases r;rfl
 |ty _=>cases r;rfl
theorem RelV.inj(r:RelV x u)(q:RelV y u):x=y:=Option.some.inj (r.abs.symm.trans q.abs)
theorem Vals.inj:∀{xs ys:List V}{us:List Value},Vals xs us->Vals ys us->xs=ys
 |_,_,_,.nil,.nil=>rfl
 |_,_,_,.cons r t,.cons r' t'=>by rw[r.inj r',Vals.inj t t']
section
variable {X:Cx}{pins:List (Addr×Obj)}{σ:St}{H:Hp}{s:Shared}{a:Addr}{xs ys:List V}
theorem SqL.of{K:Frag}(h:H a=some (.lst xs)):SqL K H a xs:=.inl (.inl h)
theorem SqT.of{K:Frag}(h:H a=some (.tup xs)):SqT K H a xs:=.inl (.inl h)
theorem Inv.list(I:Inv X pins σ H s)(h:SqL X.K H a xs):∃its:List Value,Vals xs its/\PlainL s.heap a its.toArray/\xs.length<=sizeLine:=by
 rcases h with h |⟨o,its,n,hk,hc,hd,hs,hz,r⟩
 . obtain⟨z,its,n,r,e⟩:=h.ok I.hok;exact⟨its,r,⟨_,n,e,rfl,rfl,rfl⟩,z⟩
 . refine⟨its.toList,r,⟨o,n,I.kIn a o hk,hc,hd,by simpa using hs⟩,?_⟩;have e:=r.length;simp only[CN]at e
   lia
theorem Inv.tuple(I:Inv X pins σ H s)(h:SqT X.K H a xs):∃its:List Value,Vals xs its/\IsTup s.heap a its.toArray/\xs.length<=sizeLine:=by
 rcases h with h |⟨o,its,n,hk,hc,hs,hz,r⟩
 . obtain⟨z,its,r,p⟩:=h.ok I.hok;exact⟨its,r,p.tup,z⟩
 . refine⟨its.toList,r,⟨o,I.kIn a o hk,hc,n,by simpa using hs⟩,?_⟩;have e:=r.length;simp only[CN]at e
   lia
theorem Inv.list_inj(I:Inv X pins σ H s)(h:SqL X.K H a xs)(h':SqL X.K H a ys):xs=ys:=by
 obtain⟨its,r,⟨o,n,e,_,_,d⟩,_⟩:=I.list h;obtain⟨its',r',⟨o',n',e',_,_,d'⟩,_⟩:=I.list h';rw[e]at e';cases e';rw[d]at d';injection d' with d1 _;have:its=its':=by simpa using EH Array.toList d1
 subst this;exact r.inj r'
theorem Inv.tuple_inj(I:Inv X pins σ H s)(h:SqT X.K H a xs)(h':SqT X.K H a ys):xs=ys:=by
 obtain⟨its,r,⟨o,e,_,n,d⟩,_⟩:=I.tuple h;obtain⟨its',r',⟨o',e',_,n',d'⟩,_⟩:=I.tuple h';rw[e]at e';cases e';rw[d]at d';injection d' with d1 _;have:its=its':=by simpa using EH Array.toList d1
 subst this;exact r.inj r'
end
section
variable {X:Cx}{st:Stmt}{rest:List Stmt}{t u:TS}{e:Expr}{te:TE}{pos:Pos}
noncomputable def Qh:TS:=fun D σ H=>D.nx σ H
noncomputable def Da(t u:TS):TS:=fun D σ H=>t { D with nx:=u D } σ H
theorem pss_nil:PSs X [] Qh:=fun _ _ σ H _ I h=>wpAny_execs_nil ⟨σ,H,I,h⟩
theorem Lr(h1:PS X st t)(h2:PSs X rest u):PSs X (st::rest) (Da t u):=by
 intro pins s σ H D I h;refine wpAny_execs_cons (thn (h1 pins s σ H { D with nx:=u D } I h) fun f s1 q=>?_);cases f with
 |next=>
  obtain⟨ae,H',I',q⟩:=q
  exact h2 pins s1 ae H' D I' q
 |ret v=>exact q
 |brk=>exact q
 |cont=>exact q
theorem Kw(h1:PS X st t):PSs X [st] t:=by
 intro pins s σ H D I h;refine wpAny_execs_cons (thn (h1 pins s σ H D I h) fun f s1 q=>?_);cases f with
 |next=>exact wpAny_execs_nil q
 |ret v=>exact q
 |brk=>exact q
 |cont=>exact q
theorem Inv.quiet(I:Inv X pins σ H s):interactive X.env=false:=by simp[interactive,I.ok.kind]
noncomputable def U3(te:TE):TS:=fun D σ H=>te σ H fun _ H1=>D.nx σ H1
theorem Kv(he:PE X e te)(hs:swapsWith e none pos.line X.env=pure false:=by rfl):PS X (.Expr e pos) (U3 te):=by intro pins s σ H D I h;exact wpAny_Expr_any (thn (he pins s σ H _ I h) fun v s1 ⟨x,H1,I1,r1,q1⟩=>⟨σ,H1,I1,q1⟩) I.quiet hs
noncomputable def He(te:TE):TS:=fun D σ H=>te σ H D.rt
theorem Jq(he:PE X e te):PS X (.Return (some e) pos) (He te):=by intro pins s σ H D I h;exact wpAny_Return_some (thn (he pins s σ H _ I h) fun v s1 ⟨x,H1,I1,r1,q1⟩=>⟨x,σ,H1,I1,r1,q1⟩)
noncomputable def ke(c:TT)(t u:TS):TS:=fun D σ H=>c σ H fun b H1=>if b=true then t D σ H1 else u D σ H1
theorem Qg(hc:PT X c tc)(ha:PSs X a t)(hb:PSs X b u):PS X (.If c a b pos) (ke tc t u):=by
 intro pins s σ H D I h;refine wpAny_If (thn (hc pins s σ H _ I h) fun d s1 ⟨H1,I1,q1⟩=>?_);cases d with
 |true=>exact ha pins s1 σ H1 D I1 q1
 |false=>exact hb pins s1 σ H1 D I1 q1
noncomputable def Sr:TS:=fun _ _ _=>False
theorem ps_never:PS X st Sr:=fun _ _ _ _ _ _ h=>h.elim
end
abbrev TG:=V->St->Hp->(St->Hp->Prop)->Prop
abbrev TGs:=List V->St->Hp->(St->Hp->Prop)->Prop
def PG(X:Cx)(target:Expr)(t:TG):Prop:=
 ∀(pins:List (Addr×Obj))(s:Shared)(σ:St)(H:Hp)(v:V)(u:Value)(Q:St->Hp->Prop),Inv X pins σ H s->RelV v u->t v σ H Q ->
  wpAny (model X.prog X.w) X.A (assign target X.env u) (fun _ s'=>∃ae H',Inv X pins ae H' s'/\Q ae H') X.xe s
def PGs(X:Cx)(ts:List Expr)(t:TGs):Prop:=
 ∀(pins:List (Addr×Obj))(s:Shared)(σ:St)(H:Hp)(vs:List V)(us:List Value)(Q:St->Hp->Prop),Inv X pins σ H s->Vals vs us->t vs σ H Q ->
  wpAny (model X.prog X.w) X.A (assignInOrder ((assignEach ts X.env).map (·.2)) us) (fun _ s'=>∃ae H',Inv X pins ae H' s'/\Q ae H') X.xe s
abbrev S5:=V->V->V->Hp->(Hp->Prop)->Prop
def Cz(X:Cx)(t:S5):Prop:=
 ∀(pins:List (Addr×Obj))(s:Shared)(σ:St)(H:Hp)(o i v:V)(ov iv u:Value)(Q:Hp->Prop),Inv X pins σ H s->RelV o ov->RelV i iv->RelV v u->t o i v H Q ->
  wpAny (model X.prog X.w) X.A (setItem ov iv u) (fun _ s'=>∃H',Inv X pins σ H' s'/\Q H') X.xe s
section
variable {X:Cx}{pos:Pos}
noncomputable def u9(i:Nat):TG:=fun v σ H Q=>Q (σ.set i (some v)) H
theorem Fm(hN:X.N.Nodup)(hi:X.N[i]?=some x)(hx:Loc X.env.scope x)(hf:X.fn x=true\/X.env.scope.names.lookup x=some .local):PG X (.Name x pos) (u9 i):=by intro pins s σ H v u Q I r h;exact wpAny_assign_Name (Wj I hN hi hx r (fun s' I'=>⟨_,H,I',h⟩) hf)
noncomputable def Hd:TGs:=fun vs σ H Q=>vs=[]/\Q σ H
noncomputable def Ae(t:TG)(u:TGs):TGs:=fun vs σ H Q=>∃v r,vs=v::r/\t v σ H fun ae H'=>u r ae H' Q
theorem pgs_nil:PGs X [] Hd:=by intro pins s σ H vs us Q I r h;obtain⟨e,h⟩:=h;subst e;cases r;exact assignInOrder_nil ⟨σ,H,I,h⟩
theorem Lq(h1:PG X e t)(h2:PGs X es u)
  (hs:(assignEach (e::es) X.env).map (·.2)=assign e X.env::(assignEach es X.env).map (·.2):=by rfl):PGs X (e::es) (Ae t u):=by
 intro pins s σ H vs us Q I r h
 obtain⟨v,vr,e1,h⟩:=h
 subst e1
 cases r with
 |cons r rr=>
  rw[hs]
  refine assignInOrder_cons (thn (h1 pins s σ H _ _ _ I r h) fun _ s1 ⟨cJ,H1,I1,q1⟩=>?_)
  exact h2 pins s1 cJ H1 _ _ Q I1 rr q1
noncomputable def Ha(K:Frag)(n:Nat)(t:TGs):TG:=fun v σ H Q=>∃a xs,v=.ref a/\SqT K H a xs/\xs.length=n/\t xs σ H Q
theorem Sq(hc:X.calm=true)(h:PGs X es t)
  (hn:(assignEach es X.env).length=n:=by rfl) (bG:(assignEach es X.env).findIdx? (·.1)=none:=by rfl):PG X (.Tuple es k pos) (Ha X.K n t):=by
 intro pins s σ H v u Q I r hw
 obtain⟨a,xs,e1,hq,hl,hw⟩:=hw
 subst e1
 cases r
 obtain⟨its,rv,ht,hz⟩:=I.tuple hq
 refine assign_Tuple_tuple (I.ok.hd hc) ht (by simp[hn,<-hl,rv.length]) bG fun h' hx=>?_
 have I1:Inv X pins σ H { s with heap:=h' }:=I.kept (t':=s.toks) fun b o e=>hx b o (CY (Ξ e)) e
 exact h pins _ σ H xs _ Q I1 (by simpa using rv) hw
noncomputable def Cy(to ti:TE)(t:S5):TG:=fun v σ H Q=>to σ H fun o H1=>ti σ H1 fun i H2=>t o i v H2 fun H3=>Q σ H3
theorem Jp(ho:PE X o to)(hi:PE X i ti)(hs:Cz X t)
  (ha:∀v,assign (.Subscript o i pos) X.env v=(do
   let ov <-holding [v] (eval o X.env)
   let iv <-holding [v,ov] (eval i X.env)
   standAt pos
   holding [v,ov,iv] (setItem ov iv v)
   release [v,ov,iv] []):=by intro _;rfl):PG X (.Subscript o i pos) (Cy to ti t):=by
 intro pins s σ H v u Q I r h
 rw[ha]
 refine δ (EJ (thn (ho pins s σ H _ I h) fun ov s1 ⟨x,H1,I1,r1,q1⟩=>?_))
 refine δ (EJ (thn (hi pins s1 σ H1 _ I1 q1) fun iv s2 ⟨y,H2,I2,r2,q2⟩=>?_))
 refine δ (wpAny_standAt (δ (EJ (thn (hs pins s2 σ H2 x y v ov iv u _ I2 r1 r2 r q2) fun _ s3 ⟨H3,I3,q3⟩=>?_))))
 exact wpAny_release ⟨σ,H3,I3,q3⟩
noncomputable def B6(te:TE)(g:TG):TS:=fun D σ H=>te σ H fun x H1=>g x σ H1 D.nx
theorem Jo(he:PE X e te)(hg:PG X tg g)(hs:swapsWithSole [tg] e pos.line X.env=pure false:=by rfl)(hw:swappedStores [tg] e X.env=pure none:=by rfl)
  (h1:(assignEach [tg] X.env).map (·.2)=[assign tg X.env]:=by rfl):PS X (.Assign [tg] e pos) (B6 te g):=by
 intro pins s σ H D I h
 refine wpAny_Assign_stores (thn (he pins s σ H _ I h) fun v s1 ⟨x,H1,I1,r1,q1⟩=>?_) hs hw
 rw[h1]
 exact thn (hg pins s1 σ H1 x v _ I1 r1 q1) fun _ s2 q=>q
theorem Jn(hN:X.N.Nodup)(hi:X.N[i]?=some x)(hx:Loc X.env.scope x)(he:PE X e te)(hs:swapsWith e (some (.Name x aP)) pos.line X.env=pure false:=by rfl)(hf:X.fn x=true\/X.env.scope.names.lookup x=some .local) :
  PS X (.Assign [.Name x aP] e pos) (B6 te (u9 i)):=by
 intro pins s σ H D I h
 refine wpAny_Assign_Name (thn (he pins s σ H _ I h) fun v s1 ⟨y,H1,I1,r1,q1⟩=>?_) hs
 exact Wj I1 hN hi hx r1 (fun s2 I2=>⟨_,H1,I2,q1⟩) hf
end
section
variable {X:Cx}{pos:Pos}
noncomputable def So(c:TT)(tb:TS):TS:=fun D σ H=>∃W:Nat->St->Hp->Prop,(∃m,W m σ H)/\∀m σ H,W m σ H ->
 c σ H fun b H1=>if b=true then ∃N:St->Hp->Prop,(∀ae H',N ae H'->∃m',m'<m/\W m' ae H')/\tb { D with nx:=N,ct:=N,bk:=D.nx } σ H1 else D.nx σ H1
theorem yY(hp:PassesOwn (model X.prog X.w) X.A X.env X.xe)(hc:PT X c tc)(hb:PSs X body tb):PS X (.While c body [] pos) (So tc tb):=by
 intro pins s σ H D I h;obtain⟨W,⟨m0,w0⟩,turn⟩:=h;refine wpAny_While (codeAny_whileLoop (fun n s'=>∃ae H',Inv X pins ae H' s'/\W n ae H') ?_ m0 ⟨σ,H,I,w0⟩);rintro n s1 ⟨cJ,H1,I1,w1⟩;refine GW hp (thn (hc pins s1 cJ H1 _ I1 (turn n cJ H1 w1)) fun b s2 ⟨H2,I2,q2⟩=>?_);cases b with
 |true=>
  obtain⟨N,hN,q2⟩:=q2
  rw[ζ rfl]
  refine GW hp (thn (hb pins s2 cJ H2 _ I2 q2) fun f s3 q3=>?_)
  cases f with
  |next=>
   obtain⟨dc,H3,I3,n3⟩:=q3
   obtain⟨m',hm,w3⟩:=hN dc H3 n3
   exact⟨m',hm,dc,H3,I3,w3⟩
  |cont=>
   obtain⟨dc,H3,I3,n3⟩:=q3
   obtain⟨m',hm,w3⟩:=hN dc H3 n3
   exact⟨m',hm,dc,H3,I3,w3⟩
  |brk=>exact q3
  |ret v=>exact q3
 |false=>
  rw[ξ θ]
  exact wpAny_execs_nil ⟨cJ,H2,I2,q2⟩
end
structure It where
 go:Nat->Hp->Prop
 yld:Nat->Hp->V->Hp->Prop
 stop:Nat->Hp->Prop
def v9(X:Cx)(pins:List (Addr×Obj))(H:Hp)(b:Addr):Prop:=
 H b=none/\b≠X.env.locals/\b∉X.fs/\(b∈X.ex\/X.s₀.heap.objs.size<=b)/\(∀x c,X.env.cells.lookup x=some c->c≠b)/\∀p∈X.pn++pins,p.1≠b
theorem Inv.fpOk(I:Inv X pins σ H s)(hb:s.heap.objs.size<=b)(hn:H' b=none):v9 X pins H' b:=by
 refine⟨hn,Nat.ne_of_gt (CV I.lt hb),I.nofs hb,.inr (CL I.sz hb),fun x c e z=>?_,fun p hp z=>?_⟩
 . obtain⟨v,q⟩:=I.cell x c e;exact absurd (CV q.lt (by rw[z];exact hb)) (FH _)
 . exact absurd (CV (Ξ (I.pin p hp).1) (by rw[z];exact hb)) (FH _)
structure Turn(P:Program)(w:World)(K:Frag)(tg:Expr)(J:It)(fp:List Addr)(it:Addr)(tn:Nat->Heap->Prop):Prop where
 mem:it∈fp
 obj:∀i h,tn i h->∀b∈fp,∃o,h.get? b=some o/\∀v,o.data≠.cell v
 keep:∀i h h',tn i h->(∀b∈fp,∀o,h.get? b=some o->h'.get? b=some o)->tn i h'
 item:∀(X:Cx),X.prog=P->X.w=w->X.K=K->X.calm=true->∀(i:Nat)(pins:List (Addr×Obj))(s:Shared)(σ:St)(H:Hp)(E:Value->Shared->Prop),Inv X pins σ H s->(∀b∈fp,v9 X pins H b)->tn i s.heap->J.go i H ->
  wpAny (model P w) X.A (pyNext (.ref it)) (fun r s1=>∃u,r=some u /\
   wpAny (model P w) X.A (letOwnedTupleGo tg (.ref it) u) (fun _ s2=>∃x H',Inv X pins σ H' s2/\RelV x u/\J.yld i H x H'/\tn (i+1) s2.heap/\∀b∈fp,H' b=none) E s1) E s
 done:∀(X:Cx),X.prog=P->X.w=w->X.K=K->X.calm=true->∀(i:Nat)(pins:List (Addr×Obj))(s:Shared)(σ:St)(H:Hp)(E:Value->Shared->Prop),Inv X pins σ H s->(∀b∈fp,v9 X pins H b)->tn i s.heap->J.stop i H ->
  wpAny (model P w) X.A (pyNext (.ref it)) (fun r s1=>r=none/\Inv X pins σ H s1) E s
 self:∀(A:Around)(i:Nat)(s:Shared)(Q:Value->Shared->Prop)(E:Value->Shared->Prop),tn i s.heap->Q (.ref it) s->wpAny (model P w) A (pyIter (.ref it)) Q E s
abbrev TI:=St->Hp->(It->Hp->Prop)->Prop
def PIE(X:Cx)(pins:List (Addr×Obj))(σ:St)(tg:Expr)(R:It->Hp->Prop)(iq:Value)(s2:Shared):Prop:=
 ∃(it:Addr)(fp:List Addr)(tn:Nat->Heap->Prop)(J:It)(H':Hp),iq=.ref it/\Inv X pins σ H' s2/\Turn X.prog X.w X.K tg J fp it tn/\tn 0 s2.heap/\(∀b∈fp,v9 X pins H' b)/\R J H'
def PI(X:Cx)(tg iter:Expr)(wi:TI):Prop:=
 ∀(pins:List (Addr×Obj))(s:Shared)(σ:St)(H:Hp)(R:It->Hp->Prop),Inv X pins σ H s->wi σ H R ->
  wpAny (model X.prog X.w) X.A (eval iter X.env) (fun v s1=>wpAny (model X.prog X.w) X.A (pyIter v) (PIE X pins σ tg R) X.xe s1) X.xe s
theorem Qf(ho:s.heap.get? it=some o)(hc:o.cls=.type n)(hd:o.data=.fields vs)
  (hn:["enumerate","zip","dict_itemiterator","dict_reverseitemiterator","odict_iterator","itertools.zip_longest","itertools.pairwise"].contains n=false) (hQ:Q () s):wpAny M A (letOwnedTupleGo tg (.ref it) u) Q E s:=by
 unfold letOwnedTupleGo
 cases tg<;>first
  |exact π hQ
  | (cases u<;>first
   |exact π hQ
   | (refine δ (wpAny_load ho ?_)
      rw[hc,hd]
      show wpAny M A (if(["enumerate","zip","dict_itemiterator","dict_reverseitemiterator","odict_iterator","itertools.zip_longest","itertools.pairwise"].contains n&&vs[0]?==some (rawInt _))=true then _ else _) Q E s
      rw[ξ (by intro h;rw[hn,Bool.false_and]at h;cases h)]
      exact π hQ))
noncomputable def Itl(K:Frag)(a:Addr):It:=
 ⟨fun i H=>∃xs x,SqL K H a xs/\xs[i]?=some x,fun i H x H'=>H'=H/\∀xs,SqL K H a xs->xs[i]?=some x,fun i H=>∃xs,SqL K H a xs/\xs.length<=i⟩
noncomputable def Itt(K:Frag)(a:Addr):It:=
 ⟨fun i H=>∃xs x,SqT K H a xs/\xs[i]?=some x,fun i H x H'=>H'=H/\∀xs,SqT K H a xs->xs[i]?=some x,fun i H=>∃xs,SqT K H a xs/\xs.length<=i⟩
theorem zJ{P:Program}{w:World}{K:Frag}{tg:Expr}(a it:Addr):Turn P w K tg (Itl K a) [it] it (fun i h=>h.IsListIter it a i) where
 mem:=by simp
 obj:=fun i h st b hb=>by
  have e:b=it:=by simpa using hb
  subst e;obtain⟨o,e,c,d⟩:=st;exact⟨o,e,fun v z=>by rw[d]at z;cases z⟩
 keep:=fun i h h' st k=>st.at fun o e=>k it (by simp) o e
 item:=by
  intro X hP hw hK hc i pins s σ H E I hf st hg;subst hP hw hK;obtain⟨xs,x,hq,hx⟩:=hg;obtain⟨its,rv,p,hz⟩:=I.list hq;obtain⟨u,hu,ru⟩:=rv.get hx;obtain⟨f0,f1,f2,f3,f4,f5⟩:=hf it (by simp);refine wpAny_pyNext_list_item st p.isList (x:=u) (by simpa using hu) fun h' st' sb=>?_
  have I1:Inv X pins σ H { s with heap:=h' }:=I.turned (t':=s.toks) (fun b o hb e=>(sb.2 b hb).trans e) f0 f1 f3 f4 f5;obtain⟨o,e,c,d⟩:=id st';exact⟨u,rfl,Qf (s:={ s with heap:=h' }) e c d (by decide) ⟨x,H,I1,ru,⟨rfl,fun ys hy=>by rw[I.list_inj hy hq];exact hx⟩,st',fun b hb=>(hf b hb).1⟩⟩
 done:=by intro X hP hw hK hc i pins s σ H E I hf st hg;subst hP hw hK;obtain⟨xs,hq,hx⟩:=hg;obtain⟨its,rv,p,hz⟩:=I.list hq;obtain⟨f0,f1,f2,f3,f4,f5⟩:=hf it (by simp);have hl:=rv.length;exact wpAny_pyNext_list_end (I.ok.hd hc) st p.isList (by simp;lia) fun h' eb=>⟨rfl,I.turned (t':=s.toks) (fun b o hb e=>eb b o hb e) f0 f1 f3 f4 f5⟩
 self:=fun _ _ _ _ _ st h=>wpAny_pyIter_listiter st h
theorem zgx{P:Program}{w:World}{K:Frag}{tg:Expr}(a it:Addr):Turn P w K tg (Itt K a) [it] it (fun i h=>h.IsTupleIter it a i) where
 mem:=by simp
 obj:=fun i h st b hb=>by
  have e:b=it:=by simpa using hb
  subst e;obtain⟨o,e,c,d⟩:=st;exact⟨o,e,fun v z=>by rw[d]at z;cases z⟩
 keep:=fun i h h' st k=>st.at fun o e=>k it (by simp) o e
 item:=by
  intro X hP hw hK hc i pins s σ H E I hf st hg;subst hP hw hK;obtain⟨xs,x,hq,hx⟩:=hg;obtain⟨its,rv,p,hz⟩:=I.tuple hq;obtain⟨u,hu,ru⟩:=rv.get hx;obtain⟨f0,f1,f2,f3,f4,f5⟩:=hf it (by simp);refine wpAny_pyNext_tuple_item st (show s.heap.IsTuple a its.toArray from p) (x:=u) (by simpa using hu) fun h' st' sb=>?_
  have I1:Inv X pins σ H { s with heap:=h' }:=I.turned (t':=s.toks) (fun b o hb e=>(sb.2 b hb).trans e) f0 f1 f3 f4 f5;obtain⟨o,e,c,d⟩:=id st';exact⟨u,rfl,Qf (s:={ s with heap:=h' }) e c d (by decide) ⟨x,H,I1,ru,⟨rfl,fun ys hy=>by rw[I.tuple_inj hy hq];exact hx⟩,st',fun b hb=>(hf b hb).1⟩⟩
 done:=by intro X hP hw hK hc i pins s σ H E I hf st hg;subst hP hw hK;obtain⟨xs,hq,hx⟩:=hg;obtain⟨its,rv,p,hz⟩:=I.tuple hq;obtain⟨f0,f1,f2,f3,f4,f5⟩:=hf it (by simp);have hl:=rv.length;exact wpAny_pyNext_tuple_end (I.ok.hd hc) st (show s.heap.IsTuple a its.toArray from p) (by simp;lia) fun h' eb=>⟨rfl,I.turned (t':=s.toks) (fun b o hb e=>eb b o hb e) f0 f1 f3 f4 f5⟩
 self:=fun _ _ _ _ _ st h=>wpAny_pyIter_tupleiter st h
section
variable {X:Cx}{tg:Expr}
noncomputable def y32(wi:TI)(g:TG)(tb:TS):TS:=fun D σ H=>wi σ H fun J H1=>∃W:Nat->Nat->St->Hp->Prop,(∃m,W 0 m σ H1)/\∀i m σ H,W i m σ H ->
 (J.stop i H/\D.nx σ H)\/(J.go i H/\∃N:St->Hp->Prop,(∀ae H',N ae H'->∃m',m'<m/\W (i+1) m' ae H')/\∀x H',J.yld i H x H'->g x σ H' fun aS H2=>tb { D with nx:=N,ct:=N,bk:=D.nx } aS H2)
noncomputable def Aq(fp:List Addr)(h:Heap):List (Addr×Obj):=fp.filterMap fun b=>(h.get? b).map fun o=>(b,o)
theorem Fy(hb:b∈fp)(e:h.get? b=some o):(b,o)∈Aq fp h:=GH.mpr ⟨b,hb,by rw[e];rfl⟩
theorem zI(hp:p∈Aq fp h):p.1∈fp/\h.get? p.1=some p.2:=by
 obtain⟨b,hb,e⟩:=GH.mp hp;cases q:h.get? b with
 |none=>rw[q]at e;cases e
 |some o=>
  rw[q]at e
  have e':(b,o)=p:=Option.some.inj e
  subst e'
  exact⟨hb,q⟩
theorem Inv.pinned(I:Inv X pins σ H s)(hf:∀b∈fp,v9 X pins H b)(ho:∀b∈fp,∃o,s.heap.get? b=some o/\∀v,o.data≠.cell v):Inv X (pins++Aq fp s.heap) σ H s:=
 I.pins_of fun p hp=>(CK.mp hp).elim (fun z=>I.pin p (CQ _ z)) fun z=>by obtain⟨hb,e⟩:=zI z;obtain⟨f0,f1,f2,_⟩:=hf p.1 hb;obtain⟨o,e',d⟩:=ho p.1 hb;rw[e]at e';cases e';exact⟨e,f0,f1,f2,d⟩
theorem Inv.unpinned(I:Inv X (pins++pl) σ H s):Inv X pins σ H s:=I.pins_of fun p hp=>I.pin p (CQ _ (DC _ hp))
theorem wa(hp:PassesOwn (model X.prog X.w) X.A X.env X.xe)(hc:X.calm=true)(hi:PI X tg iter wi)(hg:PG X tg g)(hb:PSs X body tb)
  (hs:∀x,foldedSetIterable iter X.env x=pure x:=by intro _;rfl):PS X (.For tg iter body [] pos) (y32 wi g tb):=by
 intro pins s σ H D I h
 refine wpAny_For (thn (hi pins s σ H _ I h) fun v s1 h1=>thn h1 fun iq s2 h2=>?_) hs
 obtain⟨it,fp,tn,J,H2,e,I2,T,aD,f2,W,⟨m0,w0⟩,turn⟩:=h2
 subst e
 have cY:∀{H':Hp},(∀b∈fp,H' b=none)->∀b∈fp,v9 X pins H' b:=fun hn b hb=>⟨hn b hb,(f2 b hb).2⟩
 refine codeAny_forLoop_any (fun n s'=>∃i ae H',Inv X pins ae H' s'/\tn i s'.heap/\(∀b∈fp,H' b=none)/\W i n ae H') ?_ m0 ⟨0,σ,H2,I2,aD,fun b hb=>(f2 b hb).1,w0⟩
 rintro n s3 ⟨i,dc,H3,I3,du,fr3,w3⟩
 rcases turn i n dc H3 w3 with⟨stop,qn⟩ |⟨go,N,hN,step⟩
 . refine GW hp (thn (T.done X rfl rfl rfl hc i pins s3 dc H3 X.xe I3 (cY fr3) du stop) fun r s4 ⟨hr,I4⟩=>?_);subst hr;exact wpAny_execs_nil ⟨dc,H3,I4,qn⟩
 . refine GW hp (thn (T.item X rfl rfl rfl hc i pins s3 dc H3 X.xe I3 (cY fr3) du go) fun r s4 ⟨u,hr,h4⟩=>?_);subst hr;refine GW hp (thn h4 fun _ s5 ⟨x,H5,I5,r5,y5,fy,ir⟩=>?_);have pW:=I5.pinned (cY ir) (T.obj _ _ fy);refine GW hp (thn (hg _ s5 dc H5 x u _ pW r5 (step x H5 y5)) fun _ s6 ⟨pX,H6,I6,q6⟩=>?_);refine GW hp (thn (hb _ s6 pX H6 _ I6 q6) fun f s7 q7=>?_);have again:∀{de:St}{H7:Hp},Inv X (pins++Aq fp s5.heap) de H7 s7->N de H7->∃m,m<n/\∃i ae H',Inv X pins ae H' s7/\tn i s7.heap/\(∀b∈fp,H' b=none)/\W i m ae H':=fun {de H7} I7 n7=>by obtain⟨m',hm,w7⟩:=hN de H7 n7;refine⟨m',hm,i+1,de,H7,I7.unpinned,T.keep _ _ _ fy fun b hb o e=>(I7.pin (b,o) (CQ _ (CQ _ (Fy hb e)))).1,fun b hb=>?_,w7⟩;obtain⟨o,e,d⟩:=T.obj _ _ fy b hb;exact(I7.pin (b,o) (CQ _ (CQ _ (Fy hb e)))).2.1
   cases f with
   |next=>obtain⟨de,H7,I7,n7⟩:=q7;exact again I7 n7
   |cont=>obtain⟨de,H7,I7,n7⟩:=q7;exact again I7 n7
   |brk=>obtain⟨de,H7,I7,q7⟩:=q7;exact⟨de,H7,I7.unpinned,q7⟩
   |ret v=>obtain⟨x7,de,H7,I7,r7,q7⟩:=q7;exact⟨x7,de,H7,I7.unpinned,r7,q7⟩
end
abbrev R2:=V->V->Hp->VK->Prop
def OpR(X:Cx)(f:Value->Value->Sem Value)(r:R2):Prop:=
 ∀(pins:List (Addr×Obj))(s:Shared)(σ:St)(H:Hp)(x y:V)(v u:Value)(Q:VK),Inv X pins σ H s->RelV x v->RelV y u->r x y H Q ->
  wpAny (model X.prog X.w) X.A (f v u) (EP X pins σ Q) X.xe s
def UnR(X:Cx)(f:Value->Sem Value)(r:V->Hp->VK->Prop):Prop:=
 ∀(pins:List (Addr×Obj))(s:Shared)(σ:St)(H:Hp)(x:V)(v:Value)(Q:VK),Inv X pins σ H s->RelV x v->r x H Q ->
  wpAny (model X.prog X.w) X.A (f v) (EP X pins σ Q) X.xe s
def CallR(X:Cx)(f:Value)(r:List V->Hp->VK->Prop):Prop:=
 ∀(pins:List (Addr×Obj))(s:Shared)(σ:St)(H:Hp)(xs:List V)(us:List Value)(Q:VK),Inv X pins σ H s->Vals xs us->r xs H Q ->
  wpAny (model X.prog X.w) X.A (call f us) (EP X pins σ Q) X.xe s
def y33(X:Cx)(r:V->Hp->(Bool->Hp->Prop)->Prop):Prop:=
 ∀(pins:List (Addr×Obj))(s:Shared)(σ:St)(H:Hp)(x:V)(v:Value)(Q:Bool->Hp->Prop),Inv X pins σ H s->RelV x v->r x H Q ->
  wpAny (model X.prog X.w) X.A (truthy v) (TP X pins σ Q) X.xe s
noncomputable def tOp(r:R2)(ta tb:TE):TE:=fun σ H Q=>ta σ H fun x H1=>tb σ H1 fun y H2=>r x y H2 Q
noncomputable def tUn(r:V->Hp->VK->Prop)(ta:TE):TE:=fun σ H Q=>ta σ H fun x H1=>r x H1 Q
noncomputable def rI(C:Int->Int->Prop)(g:Int->Int->V):R2:=fun x y H Q=>∃i j,x=.int i/\y=.int j/\C i j/\Q (g i j) H
noncomputable def rI0(g:Int->Int->V):R2:=fun x y H Q=>∃i j,x=.int i/\y=.int j/\Q (g i j) H
def rU(g:Int->V):V->Hp->VK->Prop:=fun x H Q=>∃i,x=.int i/\Q (g i) H
section
variable {X:Cx}{a b:Expr}{ta tb:TE}{pos:Pos}
theorem Gz(ha:PE X a ta)(hb:PE X b tb){pins:List (Addr×Obj)}{s:Shared}{σ:St}{H:Hp}{R:V->V->Hp->Prop}(I:Inv X pins σ H s)
  (h:ta σ H fun x H1=>tb σ H1 fun y H2=>R x y H2) {Q:Value->Shared->Prop} {f:Value->Value->Sem Value}
  (hf:∀v u s2 x y H2,Inv X pins σ H2 s2->RelV x v->RelV y u->R x y H2->wpAny (model X.prog X.w) X.A (f v u) Q X.xe s2) :
  wpAny (model X.prog X.w) X.A (eval a X.env) (fun v af=>wpAny (model X.prog X.w) X.A (eval b X.env) (fun u aT=>wpAny (model X.prog X.w) X.A (f v u) Q X.xe aT) X.xe af) X.xe s:=by
 refine thn (ha pins s σ H _ I h) fun v s1 ⟨x,H1,I1,r1,q1⟩=>?_
 refine thn (hb pins s1 σ H1 _ I1 q1) fun u s2 ⟨y,H2,I2,r2,q2⟩=>?_
 exact hf v u s2 x y H2 I2 r1 r2 q2
theorem qa(ho:OpR X (binaryOp op) r)(ha:PE X a ta)(hb:PE X b tb):PE X (.BinOp a op b pos) (tOp r ta tb):=by intro pins s σ H Q I h;exact wpAny_BinOp (Gz ha hb I h fun v u s2 x y H2 I2 rx ry q=>ho pins s2 σ H2 x y v u Q I2 rx ry q)
theorem kZ(ho:UnR X (unaryOp op) r)(ha:PE X a ta):PE X (.UnaryOp op a pos) (tUn r ta):=by intro pins s σ H Q I h;exact UnaryOp_ (thn (ha pins s σ H _ I h) fun v s1 ⟨x,H1,I1,r1,q1⟩=>ho pins s1 σ H1 x v Q I1 r1 q1)
theorem opI{f:Value->Value->Sem Value}{C:Int->Int->Prop}{g:Int->Int->Int}
  (rule:∀(i j:Int)(t u:Tok)(s:Shared)(Q:Value->Shared->Prop)(E:Value->Shared->Prop),C i j->Q (.int (g i j) s.toks) { s with toks:=s.toks+1 }->wpAny (model X.prog X.w) X.A (f (.int i t) (.int j u)) Q E s) :
  OpR X f (rI C fun i j=>.int (g i j)):=by
 intro pins s σ H x y v u Q I rx ry h
 obtain⟨i,j,rfl,rfl,hc,q⟩:=h
 obtain⟨t,rfl⟩:=rx
 obtain⟨t',rfl⟩:=ry
 exact rule i j t t' s _ _ hc ⟨.int (g i j),H,I.tok _,⟨_,rfl⟩,q⟩
theorem kd{f:Value->Value->Sem Value}{g:Int->Int->Int}
  (rule:∀(i j:Int)(t u:Tok)(s:Shared)(Q:Value->Shared->Prop)(E:Value->Shared->Prop),Q (.int (g i j) s.toks) { s with toks:=s.toks+1 }->wpAny (model X.prog X.w) X.A (f (.int i t) (.int j u)) Q E s) :
  OpR X f (rI0 fun i j=>.int (g i j)):=by
 intro pins s σ H x y v u Q I rx ry h
 obtain⟨i,j,rfl,rfl,q⟩:=h
 obtain⟨t,rfl⟩:=rx
 obtain⟨t',rfl⟩:=ry
 exact rule i j t t' s _ _ ⟨.int (g i j),H,I.tok _,⟨_,rfl⟩,q⟩
theorem Cw{f:Value->Value->Sem Value}{g:Int->Int->Bool}
  (rule:∀(i j:Int)(t u:Tok)(s:Shared)(Q:Value->Shared->Prop)(E:Value->Shared->Prop),Q (.bool (g i j)) s->wpAny (model X.prog X.w) X.A (f (.int i t) (.int j u)) Q E s) :
  OpR X f (rI0 fun i j=>.bl (g i j)):=by
 intro pins s σ H x y v u Q I rx ry h
 obtain⟨i,j,rfl,rfl,q⟩:=h
 obtain⟨t,rfl⟩:=rx
 obtain⟨t',rfl⟩:=ry
 exact rule i j t t' s _ _ ⟨.bl (g i j),H,I,rfl,q⟩
def O6(i j:Int):Prop:=0<j/\j<1073741824
def CMul(i j:Int):Prop:=(-(2 ^ 64)<i/\i<2 ^ 64)\/(-(2 ^ 64)<j/\j<2 ^ 64)
theorem CMul.ok(h:CMul i j):IntMulOk i j:=by
 rcases h with⟨h1,h2⟩ |⟨h1,h2⟩
 . exact .of_left (intBits_le_64 h1 h2)
 . exact .of_right (intBits_le_64 h1 h2)
theorem op_add:OpR X (binaryOp .Add) (rI0 fun i j=>.int (i+j)):=kd fun _ _ _ _ _ _ _ q=>add_int q
theorem op_sub:OpR X (binaryOp .Sub) (rI0 fun i j=>.int (i - j)):=kd fun _ _ _ _ _ _ _ q=>sub_int q
theorem op_mul:OpR X (binaryOp .Mult) (rI CMul fun i j=>.int (i * j)):=opI fun _ _ _ _ _ _ _ hc q=>mul_int q hc.ok
theorem op_fdiv:OpR X (binaryOp .FloorDiv) (rI O6 fun i j=>.int (i / j)):=opI fun i j _ _ _ _ _ hc q=>by have h1:(0:Int)<j:=hc.1;have h2:j<1073741824:=hc.2;exact floordiv_int (by omega) (by rw[Int.fdiv_eq_ediv_of_nonneg i (by omega)];exact q) (.inl (PyProof.noPylong_small (by omega)))
theorem op_mod:OpR X (binaryOp .Mod) (rI (fun _ j=>0<j) fun i j=>.int (i % j)):=opI fun i j _ _ _ _ _ hc q=>by have h1:(0:Int)<j:=hc;exact mod_int' (by lia) (by rw[Int.fmod_eq_emod_of_nonneg i (by lia)];exact q)
theorem unI{f:Value->Sem Value}{g:Int->Int}
  (rule:∀(i:Int)(t:Tok)(s:Shared)(Q:Value->Shared->Prop)(E:Value->Shared->Prop),Q (.int (g i) s.toks) { s with toks:=s.toks+1 }->wpAny (model X.prog X.w) X.A (f (.int i t)) Q E s) :
  UnR X f (rU fun i=>.int (g i)):=by
 intro pins s σ H x v Q I rx h
 obtain⟨i,rfl,q⟩:=h
 obtain⟨t,rfl⟩:=rx
 exact rule i t s _ _ ⟨.int (g i),H,I.tok _,⟨_,rfl⟩,q⟩
theorem un_neg:UnR X (unaryOp .USub) (rU fun i=>.int (-i)):=unI fun _ _ _ _ _ q=>neg_int q
end
section
variable {X:Cx}{a b:Expr}{ta tb:TE}{pos:Pos}
theorem Sn(I:Inv X pins σ H s)(q:Q (.bl k) H)(e:k=k'):EP X pins σ Q (.bool k') s:=by subst e;exact⟨.bl k,H,I,rfl,q⟩
theorem op_lt:OpR X (compareOp .Lt) (rI0 fun i j=>.bl (decide (i<j))):=Cw fun _ _ _ _ _ _ _ q=>lt_int q
theorem op_le:OpR X (compareOp .LtE) (rI0 fun i j=>.bl (decide (i<=j))):=Cw fun _ _ _ _ _ _ _ q=>le_int q
theorem op_gt:OpR X (compareOp .Gt) (rI0 fun i j=>.bl (decide (j<i))):=Cw fun _ _ _ _ _ _ _ q=>gt_int q
theorem op_ge:OpR X (compareOp .GtE) (rI0 fun i j=>.bl (decide (j<=i))):=Cw fun _ _ _ _ _ _ _ q=>ge_int q
theorem OpR.or(h:OpR X f r)(h':OpR X f r'):OpR X f (fun x y H Q=>r x y H Q\/r' x y H Q):=by
 intro pins s σ H x y v u Q I rx ry q;rcases q with q |q
 . exact h pins s σ H x y v u Q I rx ry q
 . exact h' pins s σ H x y v u Q I rx ry q
theorem i8(b:Expr)(h:op≠.In:=by decide)(h2:op≠.NotIn:=by decide):behindInMarks op b=false:=by
 have e1:(op==CmpOp.In)=false:=by cases op<;>first |rfl |exact absurd rfl h
 have e2:(op==CmpOp.NotIn)=false:=by cases op<;>first |rfl |exact absurd rfl h2
 cases b<;>simp[behindInMarks,e1,e2]
theorem xV(ho:OpR X (compareOp op) r)(ha:PE X a ta)(hb:PE X b tb)(hm:behindInMarks op b=false):PE X (.Compare a [op] [b] pos) (tOp r ta tb):=by intro pins s σ H Q I h;exact wpAny_Compare1 (Gz ha hb I h fun v u s2 x y H2 I2 rx ry q=>ho pins s2 σ H2 x y v u Q I2 rx ry q) hm
def kc(K:Frag)(x:V)(H:Hp)(k:Bool):Prop:=
 match x with
 | .non=>k=false
 | .bl b=>k=b
 | .int i=>k=(i != 0)
 | .str y=>y.length<=sizeLine/\k=((y.length:Int) != 0)
 | .byt y=>y.size<=sizeLine/\k=((y.size:Int) != 0)
 | .ref p=>(∃xs,SqL K H p xs/\k=!xs.isEmpty)\/(∃xs,SqT K H p xs/\k=!xs.isEmpty)\/∃kvs,H p=some (.dK kvs)/\k=!kvs.isEmpty
 |_=>False
theorem zgy(r:KV kvs vs):(!vs.isEmpty)=!kvs.isEmpty:=by cases r<;>rfl
theorem Yq(r:Vals xs its):(!its.toArray.isEmpty)=!xs.isEmpty:=by cases r<;>simp
theorem P8:(sizeLine:Nat)<2 ^ 63:=by rw[Ib];decide
theorem Sm:y33 X (fun x H Q=>∃k,kc X.K x H k/\Q k H):=by
 intro pins s σ H x v Q I rx h;obtain⟨k,e,q⟩:=h;have hl:=P8;have hs:sizeLine=16777216:=Ib;cases x with
 |non=>
  cases rx
  have e':k=false:=e
  subst e'
  exact truthy_none ⟨H,I,q⟩
 |bl b=>
  cases rx
  have e':k=b:=e
  subst e'
  exact FO ⟨H,I,q⟩
 |int i=>
  obtain⟨t,rfl⟩:=rx
  have e':k=(i != 0):=e
  subst e'
  exact PySem.P.truthy_int ⟨H,I,q⟩
 |str y=>
  obtain⟨t,rfl⟩:=rx
  obtain⟨hy,e'⟩:y.length<=sizeLine/\k=((y.length:Int) != 0):=e
  subst e'
  exact PySem.P.truthy_str (by lia) ⟨H,I.tok _,q⟩
 |byt y=>
  obtain⟨t,rfl⟩:=rx
  obtain⟨hy,e'⟩:y.size<=sizeLine/\k=((y.size:Int) != 0):=e
  subst e'
  exact PySem.W.truthy_bytes (by lia) ⟨H,I.tok _,q⟩
 |ref p=>
  cases rx
  have e':(∃xs,SqL X.K H p xs/\k=!xs.isEmpty)\/(∃xs,SqT X.K H p xs/\k=!xs.isEmpty)\/∃kvs,H p=some (.dK kvs)/\k=!kvs.isEmpty:=e
  rcases e' with⟨xs,hx,e'⟩ |⟨xs,hx,e'⟩ |⟨kvs,hx,e'⟩
  . subst e';obtain⟨its,r,pl,hz⟩:=I.list hx;have ao:=r.length;exact wpAny_truthy_list pl.isList (by simp only[CJ];lia) ⟨H,I.tok _,by rw[Yq r];exact q⟩
  . subst e';obtain⟨its,r,pl,hz⟩:=I.tuple hx;have ao:=r.length;exact truthy_tuple pl (by simp only[CJ];lia) ⟨H,I.tok _,by rw[Yq r];exact q⟩
  . subst e';obtain⟨hz,hS,vs,r,m⟩:kvs.length<=sizeLine/\(p==sysModules)=false/\∃vs,KV kvs vs/\s.heap.DictOf (y0 X.prog X.w) p vs:=I.hok p _ hx;have ao:kvs.length=vs.length:=Paired.length r;exact wpAny_truthy_dict hS m (by lia) ⟨H,I.tok _,by rw[zgy r];exact q⟩
 |_=>exact(show False from e).elim
theorem J5(r:Vals [x] us):∃u,us=[u]/\RelV x u:=by
 cases r with
 |cons r1 r2=>cases r2;exact⟨_,rfl,r1⟩
theorem kY(r:Vals [x,y] us):∃u w',us=[u,w']/\RelV x u/\RelV y w':=by
 cases r with
 |cons r1 r2=>
  cases r2 with
  |cons r3 r4=>cases r4;exact⟨_,_,rfl,r1,r3⟩
end
structure ObjM(h:Heap)(x dx C:Addr)(mA:Str->Option Value):Prop where
 obj:h.get? x=some (PySem.W.instObj C dx)
 ns:h.Ns1 dx mA
 ne:dx≠x
theorem zH{h:Heap}{dx:Addr}{mA:Str->Option Value}(n:h.Ns1 dx mA):∃od,h.get? dx=some od/\∀name,PySem.W.lookIn name od=some (mA name):=by
 obtain⟨o,es,ep,ho,hd,hk,_,hm⟩:=n;refine⟨o,ho,fun name=>?_⟩;have e:=hm name;unfold nsFind findBy at e;rw[<-Array.find?_toList]at e;unfold PySem.W.lookIn;rw[hd];dsimp only;split
 . rename_i y q;rw[q]at e;exact EH some e
 . rename_i q;rw[q]at e;have a:es.toList.any (·.refKey)=false:=by rw[List.any_eq_false];intro y hy;obtain⟨z,t,nh⟩:=hk y (Array.mem_toList_iff.mp hy);simp[DictEntry.refKey,nh]
   have a':¬es.toList.any (·.refKey)=true:=by rw[a];exact θ
   rw[ξ a'];exact EH some e
theorem ObjM.look(I:ObjM h x dx C mA):∃od,PySem.W.InstAt h x (PySem.W.instObj C dx) C (some od)/\∀name,PySem.W.lookIn name od=some (mA name):=
 let ⟨od,ho,hl⟩:=zH I.ns
 ⟨od,⟨I.obj,rfl,rfl,ho⟩,hl⟩
theorem RelO.some_of(r:RelO (some v) o):∃u,o=some u/\RelV v u:=by
 cases o with
 |none=>exact(show False from r).elim
 |some u=>exact⟨u,rfl,r⟩
section
variable {P:Program}{w:World}{H:Hp}{h:Heap}{a C dx:Addr}{fs:List (Str×V)}
theorem xU(hok:HOk P w H h)(e:H a=some (.ins C dx fs)):∃mA,ObjM h a dx C mA/\(∀f,RelO (fs.lookup f) (mA f))/\PySem.Within mA (fs.map (·.1))/\fs.length<=1000/\H dx=some (.own a):=by obtain⟨d,z,ne,ob,mA,n,r,q⟩:=(show ObjOk P w H h a (.ins C dx fs) from hok a _ e);exact⟨mA,⟨ob,n,ne⟩,r,q,z,d⟩
end
structure Cls(K:Frag)(C:Addr):Prop where
 pg:PySem.W.plainGet K C Str.empty=true
 hd:PySem.W.hasDictIn K C=true
 po:PySem.W.plainOver K C=true
 sa:PySem.W.findIn K (.ref C) "__setattr__"=some (some (.builtin "object.__setattr__"))
theorem Cls.get{K:Frag}{C:Addr}(c:Cls K C)(f:Str):PySem.W.plainGet K C f=true:=c.pg
section
variable {X:Cx}{pins:List (Addr×Obj)}{σ:St}{H:Hp}{s:Shared}{A:Around}{E:Value->Shared->Prop}{Q:Value->Shared->Prop}{c:Value}{b:Bool}
inductive TyOf (K:Frag) (H:Hp):V->Value->Prop where
 |non:TyOf K H .non (.type "NoneType")
 |bl (x:Bool):TyOf K H (.bl x) (.type "bool")
 |int (i:Int):TyOf K H (.int i) (.type "int")
 |str (x:Str):TyOf K H (.str x) (.type "str")
 |flt (x:UInt64):TyOf K H (.flt x) (.type "float")
 |lst {a:Addr} {xs:List V} (e:H a=some (.lst xs)):TyOf K H (.ref a) (.type "list")
 |frz {a:Addr} {o:Obj} {xs:List V} (e:H a=some (.frz o (.lst xs))):TyOf K H (.ref a) (.type "list")
 |tup {a:Addr} {xs:List V} (e:H a=some (.tup xs)):TyOf K H (.ref a) (.type "tuple")
 |dK {a:Addr} {kvs:List (Key×V)} (e:H a=some (.dK kvs)):TyOf K H (.ref a) (.type "dict")
 |dT {a:Addr} {kvs:List (List Key×V)} (e:H a=some (.dT kvs)):TyOf K H (.ref a) (.type "dict")
 |ins {a C dx:Addr} {fs:List (Str×V)} (e:H a=some (.ins C dx fs)) (cl:Cls K C) (ha:PySem.W.findIn K (.ref C) "__class__"=some (some (.builtin "object.__class__")))
  (hn:PySem.W.specialIn K (.builtin "object.__class__") "__get__"=some (some (.builtin "getset_descriptor.__get__"))) (htk:PySem.W.takesIn K (.builtin "object.__class__")=some true)
  (hm:PySem.W.mroIn K C (.type "object")=some true):TyOf K H (.ref a) (.ref C)
theorem K4(I:Inv X pins σ H s)(rx:RelV x u)(ty:TyOf X.K H x t)(e:PySem.W.kitOne X.K t c=some b)(h:∀tk,Q (.bool b) { s with toks:=tk }) :
  wpAny (model X.prog X.w) A (call (.builtin "isinstance") [u,c]) Q E s:=by
 cases ty with
 |non=>cases (show u=Value.none from rx);exact kia_one PySem.W.kitx_none I.kIn True.intro e (fun z=>nomatch z) h
 |bl y=>cases (show u=Value.bool y from rx);exact kia_one PySem.W.kitx_bool I.kIn True.intro e (fun z=>nomatch z) h
 |int i=>obtain⟨t,q⟩:=(show ∃t,u=Value.int i t from rx);cases q;exact kia_one PySem.W.kitx_int I.kIn True.intro e (fun z=>nomatch z) h
 |str y=>obtain⟨t,q⟩:=(show ∃t,u=Value.str y t from rx);cases q;exact kia_one PySem.W.kitx_str I.kIn True.intro e (fun z=>nomatch z) h
 |flt y=>obtain⟨t,q⟩:=(show ∃t,u=Value.float y t from rx);cases q;exact kia_one PySem.W.kitx_float I.kIn True.intro e (fun z=>nomatch z) h
 | @lst a xs ea=>
  cases (show u=Value.ref a from rx)
  obtain⟨_,_,n,_,h1⟩:=(show ObjOk X.prog X.w H s.heap a (.lst xs) from I.hok a _ ea)
  exact kia_one PySem.W.kitx_list I.kIn ⟨_,h1,rfl⟩ e (fun z=>nomatch z) h
 | @frz a ob xs ea=>
  cases (show u=Value.ref a from rx)
  obtain⟨_,_,_,n,_,h1⟩:=(show ObjOk X.prog X.w H s.heap a (.frz ob (.lst xs)) from I.hok a _ ea)
  exact kia_one PySem.W.kitx_list I.kIn ⟨_,h1,rfl⟩ e (fun z=>nomatch z) h
 | @tup a xs ea=>
  cases (show u=Value.ref a from rx)
  obtain⟨_,_,_,p⟩:=(show ObjOk X.prog X.w H s.heap a (.tup xs) from I.hok a _ ea)
  obtain⟨o,h1,h2,_⟩:=p
  exact kia_one PySem.W.kitx_tuple I.kIn ⟨o,h1,h2⟩ e (fun z=>nomatch z) h
 | @dK a kvs ea=>
  cases (show u=Value.ref a from rx)
  obtain⟨_,_,vs,_,p⟩:=(show ObjOk X.prog X.w H s.heap a (.dK kvs) from I.hok a _ ea)
  obtain⟨o,es,ep,h1,h2,_⟩:=p
  exact kia_one PySem.W.kitx_dict I.kIn ⟨o,h1,h2.1⟩ e (fun z=>nomatch z) h
 | @dT a kvs ea=>
  cases (show u=Value.ref a from rx)
  obtain⟨_,_,xs,_,o,es,ep,h1,h2,_⟩:=(show ObjOk X.prog X.w H s.heap a (.dT kvs) from I.hok a _ ea)
  exact kia_one PySem.W.kitx_dict I.kIn ⟨o,h1,h2.1⟩ e (fun z=>nomatch z) h
 | @ins a C dx fs ea cl ha hn htk hm=>
  cases (show u=Value.ref a from rx)
  obtain⟨mA,O,_⟩:=xU I.hok ea
  obtain⟨od,J,_⟩:=O.look
  exact kia_one (PySem.W.kitx_own (cl.get _) cl.hd ha hn htk hm) I.kIn J e (fun z=>nomatch z) h
end
structure Room(k:Nat)(A:Around):Prop where
 hd:A.handled=none
 dp:A.depth+3 * k+5<recursionLimit
 un:A.units+16 * k+200<cLine
theorem Room.mono(r:Room k A)(h:j<=k):Room j A:=⟨r.hd,by have:=r.dp;lia,by have:=r.un;lia⟩
theorem Room.deeper(r:Room (k+1) A)(env:Env):Room k (A.deeper env):=
 ⟨r.hd,by have:=r.dp;show A.depth+1+3 * k+5<_;lia,by have:=r.un;show A.units+3+16 * k+200<_;lia⟩
theorem Room.depth(r:Room k A):A.depth<recursionLimit:=by have:=r.dp;omega
theorem Room.units(r:Room k A):A.units+64<cLine:=by have:=r.un;lia
noncomputable def S4:TA:=fun _ H Q=>Q [] H
noncomputable def F1(ta:TE)(tr:TA):TA:=fun σ H Q=>ta σ H fun x H1=>tr σ H1 fun xs H2=>Q (x::xs) H2
section
variable {X:Cx}{e:Expr}{es:List Expr}{te:TE}{t:TA}{pos:Pos}
theorem pa_nil:PA X [] S4:=fun _ _ _ _ H Q I h=>Calls.spliced_nil ⟨[],H,I,.nil,h⟩
theorem Q0(ha:PE X e te)(hr:PA X es t)(hs:starEach (e::es) X.env=(false,eval e X.env)::starEach es X.env:=by rfl):PA X (e::es) (F1 te t):=by intro pos pins s σ H Q I h;rw[hs];show wpAny _ _ (spliced ((false,eval e X.env)::backTo pos (starEach es X.env))) _ _ s;refine Calls.spliced_cons (thn (ha pins s σ H _ I h) fun u s1 ⟨x,H1,I1,r1,q1⟩=>?_);exact thn (hr pos pins s1 σ H1 _ I1 q1) fun us s2 ⟨xs,H2,I2,r2,q2⟩=>⟨x::xs,H2,I2,.cons r1 r2,q2⟩
def jZ(t:TA):TE:=fun σ H Q=>t σ H fun xs H1=>xs.length<=sizeLine/\∀p,H1 p=none->Q (.ref p) (upd H1 p (.tup xs))
def jY(t:TA):TE:=fun σ H Q=>t σ H fun xs H1=>xs.length<=sizeLine/\∀p,H1 p=none->Q (.ref p) (upd H1 p (.lst xs))
theorem vZ(h:PA X es t):PE X (.Tuple es x1 pos) (jZ t):=by intro pins s σ H Q I hq;refine wpAny_Tuple_spliced (thn (h pos pins s σ H _ I hq) fun us s1 ⟨xs,H1,I1,r,z,q⟩=>⟨by rw[<-r.length];exact z,?_⟩);have hf:H1 s1.heap.objs.size=none:=I1.hok.fresh (η _);refine⟨.ref s1.heap.objs.size,upd H1 s1.heap.objs.size (.tup xs),I1.laid (t':=s1.toks) (fun b u e=>Φ _ e) (η _) ?_,rfl,q _ hf⟩;exact⟨z,us,r,.mk' (Ω _ rfl)⟩
theorem vW(h:PA X es t):PE X (.List es pos) (jY t):=by intro pins s σ H Q I hq;refine wpAny_List_spliced (thn (h pos pins s σ H _ I hq) fun us s1 ⟨xs,H1,I1,r,z,q⟩=>⟨by rw[<-r.length];exact z,?_⟩);have hf:H1 s1.heap.objs.size=none:=I1.hok.fresh (η _);refine⟨.ref s1.heap.objs.size,upd H1 s1.heap.objs.size (.lst xs),I1.laid (t':=s1.toks) (fun b u e=>Φ _ e) (η _) ?_,rfl,q _ hf⟩;exact⟨z,us,0,r,Ω _ rfl⟩
end
abbrev Sp:=List V->Hp->VK->XK->Prop
abbrev CXT:=List Env->Hp->Shared->XK->Value->Shared->Prop
structure Env0(P:Program)(w:World)(K:Frag)(mg:Str->Option Value)(base:Heap)(A:Around)(outer:List Env)(s:Shared)(H:Hp):Prop where
 frames:A.frames=some outer
 mod:Mod K mg base
 bs:∀b o,base.get? b=some o->s.heap.get? b=some o/\H b=none
 bsz:base.objs.size<=s.heap.objs.size
 funs:s.heap.FunFrames base outer
 frf:∀b∈frs outer,H b=none
 hok:HOk P w H s.heap
 bare:AllBare s.gens
def CE(outer:List Env)(P:Program)(w:World)(H:Hp)(s:Shared)(Q:VK)(u:Value)(s':Shared):Prop:=
 ∃v H',s'.os=s.os/\AllBare s'.gens/\Un (frs outer) [] H H' s.heap s'.heap/\HOk P w H' s'.heap/\RelV v u/\Q v H'
def CR(CX:CXT)(outer:List Env)(P:Program)(w:World)(H:Hp)(s:Shared)(Q:VK)(E:XK)(r:Result)(s':Shared):Prop:=
 match r with
 | .ok (.ret u)=>CE outer P w H s Q u s'
 | .ok _=>False
 | .error e=>CX outer H s E e s'
structure FnOk(P:Program)(w:World)(K:Frag)(mg:Str->Option Value)(base:Heap)(CX:CXT)(k:Nat)(f:Addr)(fd:FuncData)(ps:List Str)(sp:Sp):Prop where
 len:∀vs H Q E,sp vs H Q E->vs.length=ps.length
 run:∀(A:Around)(outer:List Env)(s:Shared)(H:Hp)(args:Args)(us:List Value)(vs:List V)(Q:VK)(E:XK),Room k A->Env0 P w K mg base A outer s H->BindsTo s fd args (ps.zip us)->Vals vs us->sp vs H Q E ->
  codeAny (model P w) A (.call (.ref f) args) (CR CX outer P w H s Q E) s
theorem FnOk.imp{P:Program}{w:World}{K:Frag}{mg:Str->Option Value}{base:Heap}{CX:CXT}{k:Nat}{f:Addr}{fd:FuncData}{ps:List Str}{sp nP:Sp}(F:FnOk P w K mg base CX k f fd ps sp)
  (h:∀vs H Q E,nP vs H Q E->sp vs H Q E):FnOk P w K mg base CX k f fd ps nP:=
 ⟨fun vs H Q E q=>F.len vs H Q E (h _ _ _ _ q),fun A outer s H args us vs Q E hr he hb hv hs=>F.run A outer s H args us vs Q E hr he hb hv (h _ _ _ _ hs)⟩
section
variable {X:Cx}{pins:List (Addr×Obj)}{σ:St}{H:Hp}{s s':Shared}
theorem Inv.env0(I:Inv X pins σ H s):Env0 X.prog X.w X.K X.mg X.base X.A X.stack s H:=
 ⟨I.ok.frames,I.ok.mod,I.bs,CL I.ok.bsz I.sz,I.stack,I.stkFree,I.hok,I.bare⟩
theorem Inv.after(I:Inv X pins σ H s)(h:CE X.stack X.prog X.w H s Q u s'):EP X pins σ Q u s':=by obtain⟨v,H',os,bare,un,hok,r,q⟩:=h;obtain⟨hh,g,d,t,pY⟩:=s';obtain rfl:pY=s.os:=os;exact⟨v,H',I.call (h':=hh) (g':=g) (d':=d) (t':=t) (ch:=[]) un hok bare (fun b z=>absurd z (by simp)),r,q⟩
end
noncomputable def Qe(sp:Sp)(eg:List V)(E:XK)(t:TA):TE:=fun σ H Q=>t σ H fun vs H1=>sp (vs++eg) H1 Q E
def Binds(K:Frag)(fd:FuncData)(ps:List Str)(ds:List Value):Prop:=
 ∀(s:Shared)(us:List Value),K.In s.heap->(us++ds).length=ps.length->BindsTo s fd ⟨us,[]⟩ (ps.zip (us++ds))
theorem Binds.all{K:Frag}{fd:FuncData}{ps:List Str}(h:∀us:List Value,us.length=ps.length->bindArgs fd ⟨us,[]⟩=pure (ps.zip us)):Binds K fd ps []:=fun s us _ hl=>by rw[ED]at hl⊢;exact .of_eq (h us hl)
def Es(CX:CXT)(X:Cx)(E:XK):Prop:=∀(pins:List (Addr×Obj))(σ:St)(H:Hp)(s:Shared)(e:Value)(s':Shared),Inv X pins σ H s->CX X.stack H s E e s'->X.xe e s'
section
variable {X:Cx}{CX:CXT}{k:Nat}{f:Addr}{fd:FuncData}{ps:List Str}{sp:Sp}{eg:List V}{ds:List Value}{E:XK}{x:Str}{p pos:Pos}{e:Expr}{es:List Expr}{t:TA}
theorem vV(F:FnOk X.prog X.w X.K X.mg X.base CX k f fd ps sp)(hr:Room k X.A)(hb:Binds X.K fd ps ds)(hd:Vals eg ds)(hx:Es CX X E)
  (I:Inv X pins σ H s) (r:Vals vs us) (h:sp (vs++eg) H Q E):wpAny (model X.prog X.w) X.A (call (.ref f) us) (EP X pins σ Q) X.xe s:=by
 have r2:Vals (vs++eg) (us++ds):=r.append hd
 have hl:(us++ds).length=ps.length:=by rw[<-r2.length];exact F.len _ _ _ _ h
 refine wpAny_call (codeAny_mono (F.run X.A X.stack s H ⟨us,[]⟩ (us++ds) (vs++eg) Q E hr I.env0 (hb s us I.kIn hl) r2 h) fun r s' hq=>?_)
 cases r with
 |error e=>exact hx pins σ H s e s' I hq
 |ok fl=>
  cases fl with
  |ret u=>exact I.after hq
  |next=>exact False.elim hq
  |brk=>exact False.elim hq
  |cont=>exact False.elim hq
theorem xT(F:FnOk X.prog X.w X.K X.mg X.base CX k f fd ps sp)(hr:Room k X.A)(hg:Gl X x)(hm:X.mg x=some (.ref f))(hk:keepIn X.K (.ref f)=true)(hb:Binds X.K fd ps ds)(hd:Vals eg ds)(hx:Es CX X E)
  (ha:PA X (e::es) t) (bH:(x==("__debug__":Str))=false:=by decide) (he:starEach (e::es) X.env=(false,eval e X.env)::starEach es X.env:=by rfl) (hpl:(backTo pos (starEach es X.env)).any (·.1)=false:=by rfl) :
  PE X (.Call (.Name x p) (e::es) [] pos) (Qe sp eg E t):=by
 intro pins s σ H Q I h
 refine Ia (xX I hg hm ?_ bH)
 refine PySem.W.callWith_K (h₀:=X.base) I.ok.mod.kin hk (thn (ha pos pins s σ H _ I h) fun us s1 ⟨vs,H1,I1,r,q⟩=>⟨I1.kIn,?_⟩) he hpl
 exact vV F hr hb hd hx I1 r q
end
structure FnScope(N P:List Str)(sc:Scope):Prop where
 kind:sc.kind=.function
 co:sc.isCoroutine=false
 gen:sc.isGenerator=false
 nd:N.Nodup
 pre:N.take P.length=P
 par:∀x∈P,sc.names.lookup x=some .local\/sc.names.lookup x=some .cell
 nofree:∀y∈sc.names,y.2≠.free
theorem Xl{kindOf:Str->Option NameKind}{x:Str}:∀{binds:List (Str×Value)}{m:Str->Option Value},(∀v,(x,v)∉binds)->bindL kindOf binds m x=m x
 | [],_,_=>rfl
 | (n,v)::r,m,h=>by
  unfold bindL;rw[Xl fun w hw=>h w (dg _ hw)];split
  . have:x≠n:=by rintro rfl;exact h v io
    simp[this]
  . rfl
theorem Xk{kindOf:Str->Option NameKind}{x:Str}:∀{binds:List (Str×Value)}{m:Str->Option Value},(∀v,(x,v)∉binds)->bindC kindOf binds m x=m x
 | [],_,_=>rfl
 | (n,v)::r,m,h=>by
  unfold bindC;rw[Xk fun w hw=>h w (dg _ hw)];split
  . rfl
  . have:x≠n:=by rintro rfl;exact h v io
    simp[this]
theorem Xj{kindOf:Str->Option NameKind}{x:Str}{v:Value}:∀{P:List Str}{vs:List Value}{i:Nat}{m:Str->Option Value},P.Nodup->P[i]?=some x->vs[i]?=some v->kindOf x=some .local ->
  bindL kindOf (P.zip vs) m x=some v
 | [],_,_,_,_,h,_,_=>by simp at h
 |_::_,[],_,_,_,_,h,_=>by simp at h
 |p::P,w::vs,0,m,nd,h1,h2,hk=>by simp at h1 h2;subst h1;subst h2;show bindL kindOf ((p,w)::P.zip vs) m p=_;unfold bindL;rw[Xl fun v hv=>(CO.mp nd).1 (List.of_mem_zip hv).1,ζ hk];simp
 |p::P,w::vs,i+1,m,nd,h1,h2,hk=>by show bindL kindOf ((p,w)::P.zip vs) m x=_;unfold bindL;exact Xj (i:=i) (CO.mp nd).2 (by simpa using h1) (by simpa using h2) hk
theorem Xi{kindOf:Str->Option NameKind}{x:Str}{v:Value}:∀{P:List Str}{vs:List Value}{i:Nat}{m:Str->Option Value},P.Nodup->P[i]?=some x->vs[i]?=some v->kindOf x≠some .local ->
  bindC kindOf (P.zip vs) m x=some v
 | [],_,_,_,_,h,_,_=>by simp at h
 |_::_,[],_,_,_,_,h,_=>by simp at h
 |p::P,w::vs,0,m,nd,h1,h2,hk=>by simp at h1 h2;subst h1;subst h2;show bindC kindOf ((p,w)::P.zip vs) m p=_;unfold bindC;rw[Xk fun v hv=>(CO.mp nd).1 (List.of_mem_zip hv).1,ξ hk];simp
 |p::P,w::vs,i+1,m,nd,h1,h2,hk=>by show bindC kindOf ((p,w)::P.zip vs) m x=_;unfold bindC;exact Xi (i:=i) (CO.mp nd).2 (by simpa using h1) (by simpa using h2) hk
noncomputable def start(N:List Str)(vs:List V):St:=vs.map some++List.replicate (N.length - vs.length) none
noncomputable def G4(CX:CXT)(P:Program)(w:World)(K:Frag)(mg:Str->Option Value)(base:Heap)(N:List Str)(qual:Str)(scope:Scope)(f:Addr)(cd:Value)(A:Around)(outer:List Env)(s:Shared)(H:Hp)(E:XK):Cx where
 prog:=P
 w:=w
 K:=K
 mg:=mg
 base:=base
 A:=A.deeper (envOfC qual scope s.heap.objs.size f cd)
 N:=N
 s₀:=s
 H₀:=H
 env:=envOfC qual scope s.heap.objs.size f cd
 outer:=outer
 stack:=envOfC qual scope s.heap.objs.size f cd::outer
 ex:=[]
 calm:=true
 fn:=fun _=>true
 pn:=[]
 xe:=fun e s'=>wpAny (model P w) (A.deeper (envOfC qual scope s.heap.objs.size f cd)) (leaving (envOfC qual scope s.heap.objs.size f cd) e) (fun _ eR=>CX outer H s E e eR) (fun e' eR=>CX outer H s E e' eR) s'
theorem Wi{sc:Scope}{n:Nat}{x:Str}(h:sc.names.lookup x=some .cell):∃c,(cellsFrom n sc.names []).lookup x=some c:=by have q:=PySem.W.cellsFrom_some sc.names n [] (.inl h);exact Option.isSome_iff_exists.mp q
theorem zG{CX:CXT}{P:Program}{w:World}{K:Frag}{mg:Str->Option Value}{base:Heap}{N ps:List Str}{qual:Str}{scope:Scope}{f:Addr}{cd:Value}{A:Around}{outer:List Env}{s s1:Shared}{H:Hp}{E:XK}{us:List Value}{vs:List V}
  (S:FnScope N ps scope) (hd:A.handled=none) (e0:Env0 P w K mg base A outer s H) (hl:vs.length=ps.length) (r:Vals vs us)
  (x:InCallC s s.heap.objs.size (bindL (envOfC qual scope s.heap.objs.size f cd).kindOf (ps.zip us) fun _=>none) (cellsFrom (s.heap.objs.size+1) scope.names []) (bindC (envOfC qual scope s.heap.objs.size f cd).kindOf (ps.zip us) fun _=>none) s1) :
  Inv (G4 CX P w K mg base N qual scope f cd A outer s H E) [] (start N vs) H s1:=by
 have hpl:ps.length<=N.length:=by have:=EH List.length S.pre;rw[CU]at this;lia
 obtain⟨h1,tk,rfl,hk⟩:=x.done
 have gi:∀b:Addr,b∉(G4 CX P w K mg base N qual scope f cd A outer s H E).ex:=fun b z=>absurd (show b∈([]:List Addr) from z) (by simp)
 refine⟨⟨e0.mod,S.kind,rfl,rfl,η _,fun y z c h1 h2=>?_,fun y hy=>?_,fun y c _ h=>?_,fun _=>hd,Around.frames_deeper e0.frames,.inr ⟨rfl,rfl⟩,fun b z=>absurd z (gi b),e0.bs,e0.bsz,fun b _ _=>gi b,fun b z=>absurd z (gi b),e0.funs,e0.frf⟩,
  rfl,e0.bare,Un.kept hk,⟨_,x.toInCall.ns,fun i y v h1 h2 h3=>?_⟩,fun y c h=>⟨_,x.cell y c h⟩,e0.hok.fresh (η _),fun y c h=>?_,fun p hp=>absurd (show p∈([]:List (Addr×Obj)) from hp) (by simp),e0.hok.kept hk,?_⟩
 . exact name_of_addr x.apart (FK h1) (FK h2)
 . have hy:scope.names.lookup y=some .cell\/scope.names.lookup y=some .free:=hy;rcases hy with hy |hy
   . exact Wi hy
   . exact absurd rfl (S.nofree _ (FK hy))
 . exact FY (x.above y c (FK h))
 . have hi:i<vs.length:=by
    unfold start at h2
    by_cases hi:i<vs.length
    . exact hi
    . rw[DP (by simpa using hi)]at h2;rw[List.getElem?_replicate]at h2;split at h2<;>cases h2
   have ha:vs[i]?=some v:=by
    unfold start at h2;rw[EI (by simpa using hi),DB]at h2;cases e:vs[i]? with
    |none=>rw[e]at h2;cases h2
    |some a=>rw[e]at h2;cases h2;rfl
   obtain⟨u,hu,rv⟩:=r.get ha
   have hp:ps[i]?=some y:=by rw[<-S.pre,List.getElem?_take_of_lt (by lia)];exact h1
   have gj:ps.Nodup:=by rw[<-S.pre];exact S.nd.sublist (List.take_sublist _ _)
   refine⟨u,rv,?_⟩
   rcases S.par y (EB hp) with k |k
   . exact .inl ⟨k,Xj gj hp hu k⟩
   . obtain⟨c,e⟩:=Wi (n:=s.heap.objs.size+1) k;refine .inr ⟨.inl k,c,e,?_⟩;have q:=x.cell y c e;rw[Xi gj hp hu (by show scope.names.lookup y≠_;rw[k];decide)]at q;exact q
 . exact e0.hok.fresh (FY (x.above y c (FK h)))
 . unfold start;show _=N.length;rw[χ,bI,List.length_replicate]
   lia
theorem kX{CX:CXT}{P:Program}{w:World}{K:Frag}{mg:Str->Option Value}{base:Heap}{k:Nat}{f:Addr}{name qual:Str}{params:Arguments}{body:List Stmt}{scope:Scope}{dV kV doc pm cdv ct oc:Value}{an od:Option Addr}
  {osl:Array (Option Value)} {N ps:List Str} {sp:Sp} (lk:K.lookup f=some ⟨oc,od,.func (PySem.W.fnOf name qual params body scope dV kV doc pm an cdv ct),osl⟩) (bU:codeIn K cdv qual=true) (S:FnScope N ps scope)
  (len:∀vs H Q E,sp vs H Q E->vs.length=ps.length)
  (ck:∀(A:Around)(outer:List Env)(s:Shared)(H:Hp)(vs:List V)(Q:VK)(E:XK),Room k (A.deeper (envOfC qual scope s.heap.objs.size f cdv))->sp vs H Q E ->
   ∃t,PSs (G4 CX P w K mg base N qual scope f cdv A outer s H E) body t/\t { nx:=fun _ H'=>Q .non H',rt:=Q } (start N vs) H) :
  FnOk P w K mg base CX (k+1) f (PySem.W.fnOf name qual params body scope dV kV doc pm an cdv ct) ps sp:=by
 refine⟨len,fun A outer s H args us vs Q E hr e0 hb r dM=>?_⟩
 have hl:=len _ _ _ _ dM
 have KX:K.In s.heap:=e0.mod.kin.keeps fun b o e=>(e0.bs b o e).1
 have pZ:s.heap.NoLimit:=e0.mod.nolimit.keeps fun b o e=>(e0.bs b o e).1
 have cH:∀y∈ps.zip us,scope.names.lookup y.1=some .local\/(scope.names.lookup y.1=some .cell/\((cellsFrom (s.heap.objs.size+1) scope.names []).lookup y.1).isSome=true):=fun⟨n,v⟩ hy=>by
  rcases S.par n (List.of_mem_zip hy).1 with q |q
  . exact .inl q
  . exact .inr ⟨q,PySem.W.cellsFrom_some _ _ _ (.inl q)⟩
 refine codeAny_call_function hr.depth (KX _ _ lk) rfl S.co S.gen rfl (PySem.W.codeRec_of KX bU) (hb _ _ _ _ ?_)
 refine wpAny_newFunctionEnv_cells S.kind cH fun env he s1 x=>?_
 subst he
 refine⟨pZ.keeps x.toInCall.keep,codeAny_func ?_⟩
 obtain⟨t,ht,hq⟩:=ck A outer s H vs Q E (hr.deeper _) dM
 have I:Inv (G4 CX P w K mg base N qual scope f cdv A outer s H E) [] (start N vs) H s1:=zG S hr.hd e0 hl r x
 refine EZ (ht [] s1 (start N vs) H _ I hq) (fun fl s' hs=>?_) fun e s' hs=>hs
 have fin:∀{ae:St}{H':Hp}{v:V}{u:Value},Inv (G4 CX P w K mg base N qual scope f cdv A outer s H E) [] ae H' s'->RelV v u->Q v H'->CE outer P w H s Q u s':=
  fun {ae H' v u} J rv q=>⟨v,H',J.os,J.bare,J.base,J.hok,rv,q⟩
 cases fl with
 |ret u=>
  obtain⟨v,ae,H',J,rv,q⟩:=hs
  exact fin J rv q
 |next=>
  obtain⟨ae,H',J,q⟩:=hs
  exact fin (v:=V.non) (u:=Value.none) J rfl q
 |brk=>
  obtain⟨_,_,_,q⟩:=hs
  exact False.elim q
 |cont=>
  obtain⟨_,_,_,q⟩:=hs
  exact False.elim q
section
variable {X:Cx}{x:Str}{p pos:Pos}{e:Expr}{es:List Expr}{t:TA}{id T:String}{r:List V->Hp->VK->Prop}
noncomputable def tCB(r:List V->Hp->VK->Prop)(t:TA):TE:=fun σ H Q=>t σ H fun vs H1=>r vs H1 Q
theorem Wh(hc:CallR X (.builtin id) r)(hg:Gl X x)(hm:X.mg x=none)(hv:bootBuiltins x=some (.builtin id))(ha:PA X (e::es) t)(hn:x≠"__name__":=by decide)(bH:(x==("__debug__":Str))=false:=by decide)
  (he:starEach (e::es) X.env=(false,eval e X.env)::starEach es X.env:=by rfl) (hpl:(backTo pos (starEach es X.env)).any (·.1)=false:=by rfl):PE X (.Call (.Name x p) (e::es) [] pos) (tCB r t):=by
 intro pins s σ H Q I h
 refine Ia (P9 I hg hm hv ?_ hn bH)
 exact PyProof.Rows.callWith_builtin1 (thn (ha pos pins s σ H _ I h) fun us s1 ⟨vs,H1,I1,r1,q1⟩=>hc pins s1 σ H1 vs us Q I1 r1 q1) he hpl
theorem zF(hc:CallR X (.type T) r)(hg:Gl X x)(hm:X.mg x=none)(hv:bootBuiltins x=some (.type T))(ha:PA X (e::es) t)(hn:x≠"__name__":=by decide)(bH:(x==("__debug__":Str))=false:=by decide)
  (he:starEach (e::es) X.env=(false,eval e X.env)::starEach es X.env:=by rfl) (hpl:(backTo pos (starEach es X.env)).any (·.1)=false:=by rfl):PE X (.Call (.Name x p) (e::es) [] pos) (tCB r t):=by
 intro pins s σ H Q I h
 refine Ia (P9 I hg hm hv ?_ hn bH)
 exact GP (thn (ha pos pins s σ H _ I h) fun us s1 ⟨vs,H1,I1,r1,q1⟩=>hc pins s1 σ H1 vs us Q I1 r1 q1) he hpl
end
end L2
namespace HT
open PySem PyProof.Rows
theorem rcLt_int(A:Around)(s:Shared)(a:Int)(t:Tok)(c:Int)(u:Tok)(prog:Program)(w:World)(E:Value->Shared->Prop)(Q:Value->Shared->Prop)(h:Q (.bool (decide (a<c))) s) :
  wpAny (model prog w) A (richCompare .Lt (.int a t) (.int c u)) Q E s:=
 (PyProof.Rows.lt_int h:wpAny (model prog w) A (compareOp .Lt (.int a t) (.int c u)) Q E s)
section
open PySem.SeqAt
open PySem.AutoSeq1 (wpAny_loadPart')
open PySem.MeetsSeq PySem.MeetsSeq2 PySem.MeetsSeq3
end
section
def sIx(n d:Nat):Option Int->Nat
 |none=>d
 |some v=>if v<0 then(v+(n:Int)).toNat else min v.toNat n
end
end HT
namespace L2
open PySem PySem.Spec PyProof.Rows
abbrev TO:=St->Hp->(Option Int->Hp->Prop)->Prop
def PO(X:Cx)(e:Option Expr)(t:TO):Prop:=
 ∀(pins:List (Addr×Obj))(s:Shared)(σ:St)(H:Hp)(Q:Option Int->Hp->Prop),Inv X pins σ H s->t σ H Q ->
  wpAny (model X.prog X.w) X.A (evalPart e X.env) (fun u s'=>∃o H',Inv X pins σ H' s'/\IsPart u o/\Q o H') X.xe s
noncomputable def xS:TO:=fun _ H Q=>Q none H
noncomputable def kW(t:TE):TO:=fun σ H Q=>t σ H fun x H1=>∃i,x=.int i/\Q (some i) H1
theorem Yp:∀{us:List Value},Vals (ns.map V.int) us->IntsAre us ns:=by
 induction ns with
 |nil=>intro us r;rw[DH]at r;cases r;exact .nil
 |cons n ns ih=>
  intro us r
  rw[gq]at r
  cases r with
  |cons r1 r2=>
   obtain⟨t,e⟩:=r1
   subst e
   exact .cons n t (ih r2)
section
variable {X:Cx}{e:Expr}{te:TE}{lo hi:Option Expr}{tl th:TO}{pos p2:Pos}
theorem po_none:PO X none xS:=by intro pins s σ H Q I h;rw[evalPart_none];exact π ⟨none,H,I,.none,h⟩
theorem xR(h:PE X e te):PO X (some e) (kW te):=by
 intro pins s σ H Q I hw;rw[evalPart_some];refine thn (h pins s σ H _ I hw) fun u s1 ⟨x,H1,I1,r1,q1⟩=>?_
 obtain⟨i,rfl,q⟩:=q1;obtain⟨t,rfl⟩:=r1;exact⟨some i,H1,I1,.int i t,q⟩
def SlR(X:Cx)(r:V->Option Int->Option Int->Hp->VK->Prop):Prop:=
 ∀(pins:List (Addr×Obj))(s:Shared)(σ:St)(H:Hp)(x:V)(v vl vu:Value)(lo hi:Option Int)(sl:Addr)(Q:VK),Inv X pins σ H s->RelV x v->s.heap.IsSliceOf sl vl vu .none->IsPart vl lo->IsPart vu hi->r x lo hi H Q ->
  ∃T id,typeLookup (.type T) "__getitem__"=pure (some (.builtin id))/\s.TypeIs v T/\wpAny (model X.prog X.w) X.A (getItem v (.ref sl)) (EP X pins σ Q) X.xe s
noncomputable def tSl(r:V->Option Int->Option Int->Hp->VK->Prop)(te:TE)(tl th:TO):TE:=fun σ H Q=>te σ H fun x H1=>tl σ H1 fun l H2=>th σ H2 fun u H3=>r x l u H3 Q
theorem yX(hr:SlR X r)(he:PE X e te)(hl:PO X lo tl)(hu:PO X hi th):PE X (.Subscript e (.Slice lo hi none p2) pos) (tSl r te tl th):=by
 intro pins s σ H Q I h;refine Subscript_ (thn (he pins s σ H _ I h) fun v s1 ⟨x,H1,I1,r1,q1⟩=>?_);refine wpAny_Slice (thn (hl pins s1 σ H1 _ I1 q1) fun vl s2 ⟨l,H2,I2,pl,q2⟩=>thn (hu pins s2 σ H2 _ I2 q2) fun vu s3 ⟨u,H3,I3,pu,q3⟩=>?_);rw[evalPart_none];refine π ?_;have I4:Inv X pins σ H3 { s3 with heap:=s3.heap.push { cls:=.type "slice",data:=.fields #[vl,vu,.none] } }:=I3.kept (t':=s3.toks) fun b ob q=>Φ _ q
 obtain⟨T,id,hT,ht,hg⟩:=hr pins { s3 with heap:=s3.heap.push { cls:=.type "slice",data:=.fields #[vl,vu,.none] } } σ H3 x v vl vu l u s3.heap.objs.size Q I4 r1 (Heap.IsSliceOf.new ..) pl pu q3;show wpAny (model X.prog X.w) X.A (subscriptTail e (.Slice lo hi none p2) v (.ref s3.heap.objs.size)) (EP X pins σ Q) X.xe { s3 with heap:=s3.heap.push { cls:=.type "slice",data:=.fields #[vl,vu,.none] } };exact tail_any (ops:=[.ref s3.heap.objs.size,v]) ht hT hg (by with_unfolding_all rfl)
noncomputable def S3(xs:List V)(lo hi:Option Int):List V:=(xs.drop (HT.sIx xs.length 0 lo)).take (HT.sIx xs.length xs.length hi - HT.sIx xs.length 0 lo)
theorem zdq(xs:List V)(lo hi:Option Int):(S3 xs lo hi).length<=xs.length:=by unfold S3;rw[CU,DD];omega
end
noncomputable def ixN(n:Nat)(i:Int):Option Nat:=if 0<=i then(if i<n then some i.toNat else none) else if -(n:Int)<=i then some (i+n).toNat else none
def atI{α:Type}(xs:List α)(i:Int):Option α:=(ixN xs.length i).bind fun j=>xs[j]?
theorem Vc(h:ixN n i=some j):seqIndex? i n=some j/\j<n/\-(n:Int)<=i/\i<n:=by
 unfold ixN at h;by_cases h0:0<=i
 . rw[ζ h0]at h;by_cases h1:i<n
   . rw[ζ h1]at h;have e:i.toNat=j:=Option.some.inj h;exact⟨by rw[seqIndex_of h0 h1,e],by lia,by lia,h1⟩
   . rw[ξ h1]at h;cases h
 . rw[ξ h0]at h;by_cases h1:-(n:Int)<=i
   . rw[ζ h1]at h;have e:(i+n).toNat=j:=Option.some.inj h;exact⟨by rw[seqIndex_neg (by lia) h1,e],by lia,h1,by lia⟩
   . rw[ξ h1]at h;cases h
theorem Ku(h:atI xs i=some v):∃j,seqIndex? i xs.length=some j/\xs[j]?=some v/\j<xs.length/\-(xs.length:Int)<=i/\i<xs.length:=by
 unfold atI at h;cases e:ixN xs.length i with
 |none=>rw[e]at h;cases h
 |some j=>
  rw[e]at h
  obtain⟨h1,h2,h3,h4⟩:=Vc e
  exact⟨j,h1,h,h2,h3,h4⟩
theorem Kt{α:Type}{xs:List α}{j:Nat}{v:α}(h:xs[j]?=some v):atI xs (j:Int)=some v:=by
 have hj:j<xs.length:=(DM.mp h).1;have e:ixN xs.length (j:Int)=some j:=by unfold ixN;rw[ζ (by lia),ζ (by lia)];simp
 unfold atI;rw[e];exact h
theorem yW(xs:List α)(v:α):atI (xs++[v]) (-1)=some v:=by
 have hl:(xs++[v]).length=xs.length+1:=by simp
 have e:ixN (xs++[v]).length (-1)=some xs.length:=by
  unfold ixN;rw[hl,ξ (by decide),ζ (by lia)];congr 1
  lia
 unfold atI;rw[e];show(xs++[v])[xs.length]?=some v;simp
def Ks(b:Expr):Prop:=∀o i,subscripted b false o i=operate [o,i] (getItem o i)
def IxR(X:Cx)(r:R2):Prop:=
 ∀(value slice:Expr)(pins:List (Addr×Obj))(s:Shared)(σ:St)(H:Hp)(x y:V)(v u:Value)(Q:VK),Inv X pins σ H s->RelV x v->RelV y u->r x y H Q ->
  subscripted slice false v u=operate [v,u] (getItem v u)->wpAny (model X.prog X.w) X.A (subscriptTail value slice v u) (EP X pins σ Q) X.xe s
def MtR(X:Cx)(id:String)(r:V->List V->Hp->VK->Prop):Prop:=
 ∀(pins:List (Addr×Obj))(s:Shared)(σ:St)(H:Hp)(x:V)(xs:List V)(v:Value)(us:List Value)(Q:VK),Inv X pins σ H s->RelV x v->Vals xs us->r x xs H Q ->
  wpAny (model X.prog X.w) X.A (call (.builtin id) (v::us)) (EP X pins σ Q) X.xe s
section
variable {X:Cx}{a b:Expr}{ta tb:TE}{pos:Pos}
theorem IxR.or(h:IxR X r)(h':IxR X r'):IxR X (fun x y H Q=>r x y H Q\/r' x y H Q):=by
 intro value slice pins s σ H x y v u Q I rx ry q hs;rcases q with q |q
 . exact h value slice pins s σ H x y v u Q I rx ry q hs
 . exact h' value slice pins s σ H x y v u Q I rx ry q hs
theorem kU(hr:IxR X r)(ha:PE X a ta)(hb:PE X b tb)(hs:Ks b):PE X (.Subscript a b pos) (tOp r ta tb):=by intro pins s σ H Q I h;exact Subscript_ (Gz ha hb I h fun v u s2 x y H2 I2 rx ry q=>hr a b pins s2 σ H2 x y v u Q I2 rx ry q (hs _ _))
def jX(K:Frag):R2:=fun x y H Q=>∃p xs i v,x=.ref p/\y=.int i/\SqL K H p xs/\atI xs i=some v/\Q v H
def jW(K:Frag):R2:=fun x y H Q=>∃p xs i v,x=.ref p/\y=.int i/\SqT K H p xs/\atI xs i=some v/\Q v H
def jV:R2:=fun x y H Q=>∃z i c,x=.str z/\y=.int i/\z.length<=sizeLine/\atI z.cps.toList i=some c/\Q (.str ⟨#[c]⟩) H
theorem ix_list:IxR X (jX X.K):=by
 intro value slice pins s σ H x y v u Q I rx ry h hs;obtain⟨p,xs,i,z,rfl,rfl,hq,he,q⟩:=h;cases rx;obtain⟨t,rfl⟩:=ry;obtain⟨its,r,pl,hz⟩:=I.list hq;obtain⟨j,h1,h2,h3,h4,h5⟩:=Ku he;obtain⟨w,ew,ce⟩:=r.get h2;have hl:=r.length;have hn:=P8;have fin:EP X pins σ Q w s:=⟨z,H,I,ce,q⟩;by_cases h0:0<=i
 . have hj:i.toNat=j:=by
    rw[seqIndex_of h0 h5]at h1
    exact Option.some.inj h1
   exact item_listR pl.isList h0 (by lia) (by rw[hj];simpa using ew) fin hs
 . have hj:(i+(its.toArray.size:Int)).toNat=j:=by
    rw[seqIndex_neg (by lia) h4]at h1
    rw[CJ,<-hl]
    exact Option.some.inj h1
   exact subscriptTail_builtinR (x:=w) pl.isList.typeIs slot_list_getitem.lookup
    (wpAny_getItem_list_neg (Q:=fun r s'=>r=w/\EP X pins σ Q r s') pl.isList (by lia) (by rw[CJ]<;>lia) (by lia) (by rw[hj];simpa using ew) ⟨rfl,fin⟩) hs
theorem ix_tup:IxR X (jW X.K):=by
 intro value slice pins s σ H x y v u Q I rx ry h hs;obtain⟨p,xs,i,z,rfl,rfl,hq,he,q⟩:=h;cases rx;obtain⟨t,rfl⟩:=ry;obtain⟨its,r,pl,hz⟩:=I.tuple hq;obtain⟨j,h1,h2,h3,h4,h5⟩:=Ku he;obtain⟨w,ew,ce⟩:=r.get h2;have hl:=r.length;have hn:=P8;have fin:EP X pins σ Q w s:=⟨z,H,I,ce,q⟩;exact subscriptTail_builtinR (x:=w) pl.typeIs slot_tuple_getitem.lookup
  (getItem_tuple (j:=j) (Q:=fun r s'=>r=w/\EP X pins σ Q r s') pl (by lia) (by lia) (by rw[CJ,<-hl];exact h1) (by simpa using ew) ⟨rfl,fin⟩) hs
theorem vU:IxR X jV:=by
 intro value slice pins s σ H x y v u Q I rx ry h hs;obtain⟨z,i,c,rfl,rfl,hz,he,q⟩:=h;obtain⟨t,rfl⟩:=rx;obtain⟨t',rfl⟩:=ry;obtain⟨j,h1,h2,h3,h4,h5⟩:=Ku he;have hl:z.cps.toList.length=z.length:=by simp[Str.length]
 rw[hl]at h1 h4 h5;have hn:=P8;exact tail_any (typeIs_str s z t) slot_str_getitem.lookup (getItem_str (c:=c) (by have e1:decide (i < -(2 ^ 63:Int))=false:=decide_eq_false (by lia);have e2:decide (i ≥ 2 ^ 63)=false:=decide_eq_false (by lia);rw[e1,e2,Bool.or_false]) (by rw[h1];simpa using h2) ⟨.str ⟨#[c]⟩,H,I.tok _,⟨_,rfl⟩,q⟩) hs
def rIx(K:Frag):R2:=fun x y H Q=>jX K x y H Q\/jW K x y H Q\/jV x y H Q
theorem ix_seq:IxR X (rIx X.K):=ix_list.or (ix_tup.or vU)
theorem zgz(its:List Value)(n j:Nat)(u:Value):Obj.mapSeq (·.setIfInBounds j u) { cls:=.type "list",data:=.seq its.toArray n }={ cls:=.type "list",data:=.seq (its.set j u).toArray n }:=by simp[Obj.mapSeq]
theorem Inv.lst(I:Inv X pins σ H s)(h:H p=some (.lst xs)) :
  ∃(its:List Value)(n:Nat),Vals xs its/\s.heap.get? p=some { cls:=.type "list",data:=.seq its.toArray n }/\xs.length<=sizeLine:=by
 obtain⟨z,its,n,r,e⟩:=I.hok p _ h
 exact⟨its,n,r,e,z⟩
theorem Inv.lstUpd{pins:List (Addr×Obj)}{σ:St}{H:Hp}{s:Shared}{p:Addr}{xs ys:List V}{its its':List Value}{n n':Nat}{f:Obj->Obj}(I:Inv X pins σ H s)(h:H p=some (.lst xs))
  (ho:s.heap.get? p=some { cls:=.type "list",data:=.seq its.toArray n }) (hf:f { cls:=.type "list",data:=.seq its.toArray n }={ cls:=.type "list",data:=.seq its'.toArray n' }) (r:Vals ys its') (hz:ys.length<=sizeLine) (t:Nat) :
  Inv X pins σ (upd H p (.lst ys)) { s with heap:=s.heap.update p f,toks:=t }:=by
 have e:(s.heap.update p f).get? p=some { cls:=.type "list",data:=.seq its'.toArray n' }:=by rw[EA f ho (by rw[hf]<;>rfl),hf]
 refine I.write (x:=p) (e:=p) (by rw[h];trivial) (.inl rfl) (fun b u hb q=>(DV _ _ (GF hb)).trans q) ⟨_,e⟩ ?_
 exact⟨hz,its',n',r,e⟩
def Qd:V->V->V->Hp->(Hp->Prop)->Prop:=fun o i v H Q=>∃p xs k j,o=.ref p/\i=.int k/\H p=some (.lst xs)/\ixN xs.length k=some j/\Q (upd H p (.lst (xs.set j v)))
theorem yV:Cz X Qd:=by
 intro pins s σ H o i v ov iv u Q I ro ri rv h;obtain⟨p,xs,k,j,rfl,rfl,hp,hj,q⟩:=h;cases ro;obtain⟨t,rfl⟩:=ri;obtain⟨its,n,r,ho,hz⟩:=I.lst hp;obtain⟨h1,h2,h3,h4⟩:=Vc hj;have hl:=r.length;have hn:=P8;have I':Inv X pins σ (upd H p (.lst (xs.set j v))) { s with heap:=s.heap.update p (Obj.mapSeq (·.setIfInBounds j u)) }:=
  I.lstUpd hp ho (zgz its n j u) (r.set rv j) (by rw[HJ];exact hz) s.toks
 by_cases h0:0<=k
 . have hk:k.toNat=j:=by
    rw[seqIndex_of h0 h4]at h1
    exact Option.some.inj h1
   exact PySem.W.ki_setAt ho h0 (by lia) (by rw[CJ,<-hl];exact h4) (by rw[hk];exact⟨_,I',q⟩)
 . have hk:(k+(its.toArray.size:Int)).toNat=j:=by
    rw[seqIndex_neg (by lia) h3]at h1
    rw[CJ,<-hl]
    exact Option.some.inj h1
   exact PySem.W.ki_setBack ho (by lia) (by rw[CJ,<-hl];exact h3) (by lia) (by rw[hk];exact⟨_,I',q⟩)
theorem zbt(lo hi:Option Int)(n:Nat):(sliceBounds lo hi none n).1=((HT.sIx n 0 lo:Nat):Int)/\(sliceBounds lo hi none n).2.1=((HT.sIx n n hi:Nat):Int)/\(sliceBounds lo hi none n).2.2=1:=by
 refine⟨?_,?_,rfl⟩
 . cases lo with
   |none=>simp[sliceBounds,HT.sIx]
   |some i=>
    simp only[sliceBounds,HT.sIx,Option.getD_none,show(1:Int) > 0 by decide,EE]
    by_cases h:i<0
    . simp only[h,EE]<;>lia
    . simp only[h,DR]<;>lia
 . cases hi with
   |none=>simp[sliceBounds,HT.sIx]
   |some i=>
    simp only[sliceBounds,HT.sIx,Option.getD_none,show(1:Int) > 0 by decide,EE]
    by_cases h:i<0
    . simp only[h,EE]<;>lia
    . simp only[h,DR]<;>lia
theorem za4(its:List Value)(lo hi:Option Int):slicePick its.toArray lo hi none=((its.drop (HT.sIx its.length 0 lo)).take (HT.sIx its.length its.length hi - HT.sIx its.length 0 lo)).toArray:=by obtain⟨h1,h2,h3⟩:=zbt lo hi its.toArray.size;unfold slicePick;rw[h1,h2,h3];simp only[sliceRange_one,pick_run,CJ]<;>rfl
def jU(K:Frag):V->Option Int->Option Int->Hp->VK->Prop:=fun x lo hi H Q=>∃a xs,x=.ref a/\SqL K H a xs/\∀p,H p=none->Q (.ref p) (upd H p (.lst (S3 xs lo hi)))
theorem Fl:SlR X (jU X.K):=by intro pins s σ H x v vl vu lo hi sl Q I rx hs pl pu h;obtain⟨a,xs,rfl,hx,q⟩:=h;cases rx;obtain⟨its,r,ht,hz⟩:=I.list hx;have ao:=r.length;refine⟨"list",_,slot_list_getitem.lookup,ht.isList.typeIs,?_⟩;refine wpAny_getItem_list_slice ht.isList hs pl pu .none (by simp) ?_ (by rw[CJ]<;>lia);rw[za4,<-ao];refine⟨.ref s.heap.objs.size,_,I.laid (t':=s.toks) (o:=.lst (S3 xs lo hi)) (fun b ob q=>Φ _ q) (η _) ?_,rfl,q _ (I.hok.fresh (η _))⟩;exact⟨CL (zdq xs lo hi) hz,_,0,(r.drop (HT.sIx xs.length 0 lo)).take (HT.sIx xs.length xs.length hi - HT.sIx xs.length 0 lo),Ω _ rfl⟩
theorem call_len_seq:CallR X (.builtin "len") (fun xs H Q=>∃p ys,xs=[.ref p]/\(SqL X.K H p ys\/SqT X.K H p ys)/\Q (.int ys.length) H):=by
 intro pins s σ H xs us Q I r h;obtain⟨p,ys,rfl,hq,q⟩:=h;obtain⟨u,rfl,rx⟩:=J5 r;cases rx;have hn:=P8;rcases hq with hq |hq
 . obtain⟨its,r',pl,hz⟩:=I.list hq;have ao:=r'.length;exact Calls.call_len_list pl.isList (by simp only[CJ]<;>lia) ⟨.int ys.length,H,I.tok _,⟨s.toks+1,by rw[CJ,ao]⟩,q⟩
 . obtain⟨its,r',pl,hz⟩:=I.tuple hq;have ao:=r'.length;exact len_tuple pl (by simp only[CJ]<;>lia) ⟨.int ys.length,H,I.tok _,⟨s.toks+1,by rw[CJ,ao]⟩,q⟩
theorem zbu:CallR X (.builtin "len") (fun xs H Q=>∃z,xs=[.str z]/\z.length<=sizeLine/\Q (.int z.length) H):=by intro pins s σ H xs us Q I r h;obtain⟨z,rfl,hz,q⟩:=h;obtain⟨u,rfl,t,rfl⟩:=J5 r;have hn:=P8;exact len_str (by lia) ⟨.int z.length,H,I.tok _,⟨_,rfl⟩,q⟩
theorem CallR.or(h:CallR X f r)(h':CallR X f r'):CallR X f (fun xs H Q=>r xs H Q\/r' xs H Q):=by
 intro pins s σ H xs us Q I rs q;rcases q with q |q
 . exact h pins s σ H xs us Q I rs q
 . exact h' pins s σ H xs us Q I rs q
theorem zbv:CallR X (.type "list") (fun xs H Q=>∃p ys,xs=[.ref p]/\(SqL X.K H p ys\/SqT X.K H p ys)/\∀l,H l=none->Q (.ref l) (upd H l (.lst ys))):=by
 intro pins s σ H xs us Q I r h;obtain⟨p,ys,rfl,hq,q⟩:=h;obtain⟨u,rfl,rx⟩:=J5 r;cases rx;have fin:∀(its:List Value),Vals ys its->ys.length<=sizeLine->∀(h':Heap)(c':Nat),(∀b o',s.heap.get? b=some o'->h'.get? b=some o') ->
   h'.get? s.heap.objs.size=some { cls:=.type "list",dict:=none,data:=.seq its.toArray c',slots:=#[] }->EP X pins σ Q (.ref s.heap.objs.size) { s with heap:=h' }:=fun its r' hz h' c' kp e=>
  ⟨.ref s.heap.objs.size,_,I.laid (t':=s.toks) kp (η _) (show ObjOk X.prog X.w _ h' _ (.lst ys) from⟨hz,its,c',r',e⟩),rfl,q _ (I.hok.fresh (η _))⟩
 rcases hq with hq |hq
 . obtain⟨its,r',pl,hz⟩:=I.list hq;have ao:=r'.length;obtain⟨o,ho,hc,n,hd⟩:=pl.isList;exact call_list_seq p (.inl rfl) ho hc hd (fun h' c' kp e=>fin its r' hz h' c' kp e) (by simp only[CJ]<;>lia)
 . obtain⟨its,r',pl,hz⟩:=I.tuple hq;have ao:=r'.length;obtain⟨o,ho,hc,n,hd⟩:=pl;exact call_list_seq p (.inr rfl) ho hc hd (fun h' c' kp e=>fin its r' hz h' c' kp e) (by simp only[CJ]<;>lia)
theorem za6:CallR X (.type "tuple") (fun xs H Q=>∃p ys,xs=[.ref p]/\((SqL X.K H p ys/\∀l,H l=none->Q (.ref l) (upd H l (.tup ys)))\/(SqT X.K H p ys/\Q (.ref p) H))):=by
 intro pins s σ H xs us Q I r h;obtain⟨p,ys,rfl,h⟩:=h;obtain⟨u,rfl,rx⟩:=J5 r;cases rx;rcases h with⟨hq,q⟩ |⟨hq,q⟩
 . obtain⟨its,r',pl,hz⟩:=I.list hq;have ao:=r'.length;refine call_tuple_list pl.isList (fun h' kp=>?_) (by simp only[CJ]<;>lia);have I1:Inv X pins σ H { s with heap:=h' }:=I.kept (t':=s.toks) kp;have I2:Inv X pins σ (upd H h'.objs.size (.tup ys)) { s with heap:=h'.push { cls:=.type "tuple",data:=.seq its.toArray } }:=
    I1.laid (t':=s.toks) (fun b o e=>Φ _ e) (η _) (show ObjOk X.prog X.w _ _ _ (.tup ys) from⟨hz,its,r',.mk' (Ω _ rfl)⟩)
   exact⟨.ref h'.objs.size,_,I2,rfl,q _ (I1.hok.fresh (η _))⟩
 . obtain⟨its,r',pl,hz⟩:=I.tuple hq;exact call_tuple_same pl ⟨.ref p,H,I,rfl,q⟩
def tyV(K:Frag)(T:String)(x:V)(H:Hp):Prop:=match x with
 | .str _=>T="str"
 | .int _=>T="int"
 | .ref p=>(T="list"/\∃xs,SqL K H p xs)\/(T="tuple"/\∃o,K.lookup p=some o/\o.cls=.type "tuple"/\o.dict=none) \/
  (T="dict"/\((∃kvs,H p=some (.dK kvs))\/∃kvs,H p=some (.dT kvs)))\/(T="set"/\∃S n,H p=some (.set S n))
 |_=>False
theorem vT(I:Inv X pins σ H s)(r:RelV x v)(ty:tyV X.K T x H) :
  s.TypeIs v T/\∀a,v=.ref a->∃ob,s.heap.get? a=some ob/\ob.dict=none:=by
 cases x with
 |str z=>
  obtain⟨t,rfl⟩:=r
  cases (show T="str" from ty)
  exact⟨typeIs_str s z t,fun _ e=>nomatch e⟩
 |int i=>
  obtain⟨t,rfl⟩:=r
  cases (show T="int" from ty)
  exact⟨typeIs_int s i t,fun _ e=>nomatch e⟩
 |ref p=>
  cases r
  rcases ty with⟨rfl,xs,hq⟩ |⟨rfl,o,hk,hc,hd⟩ |⟨rfl,hk⟩ |⟨rfl,S,n,hk⟩
  . obtain⟨its,_,pl,_⟩:=I.list hq;refine⟨pl.isList.typeIs,fun a e=>?_⟩;cases e;obtain⟨o,n,e,c,hd,_⟩:=pl;exact⟨o,e,hd⟩
  . refine⟨⟨o,I.kIn p o hk,hc⟩,fun a e=>?_⟩;cases e;exact⟨o,I.kIn _ o hk,hd⟩
  . have z:∃o,s.heap.get? p=some o/\o.ExactDict:=by
     rcases hk with⟨kvs,hk⟩ |⟨kvs,hk⟩
     . obtain⟨_,_,_,_,o,_,_,e,ex,_⟩:=I.hok p _ hk;exact⟨o,e,ex⟩
     . obtain⟨_,_,_,_,o,_,_,e,ex,_⟩:=I.hok p _ hk;exact⟨o,e,ex⟩
    obtain⟨o,e,ex⟩:=z
    refine⟨⟨o,e,ex.1⟩,fun a e2=>?_⟩
    cases e2
    exact⟨o,e,ex.2.1⟩
  . obtain⟨o,_,_,_,e,ex,_⟩:=I.hok p _ hk;refine⟨⟨o,e,ex.1⟩,fun a e2=>?_⟩;cases e2;exact⟨o,e,ex.2.1⟩
 |_=>exact False.elim ty
noncomputable def tBM(K:Frag)(T:String)(r:V->List V->Hp->VK->Prop)(to:TE)(t:TA):TE:=fun σ H Q=>to σ H fun x H1=>tyV K T x H1/\t σ H1 fun xs H2=>r x xs H2 Q
variable {o e:Expr}{es:List Expr}{to:TE}{t:TA}{name:Str}{aF ah:Pos}{T id:String}{r:V->List V->Hp->VK->Prop}
theorem Qc(pa:PlainAttrs T)(slot:Slot T name id)(dN:typeOf (.builtin id)=pure (.type "method_descriptor"))(hm:MtR X id r)(ho:PE X o to)(ha:PA X (e::es) t)
  (aL:attributeBase o name X.env (eval o X.env)=eval o X.env:=by rfl)
  (cx:((backTo ah (starEach (e::es) X.env)).all (fun x=>!x.1)&&(backToKw ah (keywordEach [] X.env)).all (fun x=>x.1.isSome)
   && decide ((e::es).length+([]:List Keyword).length+(if([]:List Keyword).isEmpty then 0 else 1)<30))=true:=by rfl)
  (aM:(aF.endLine==ah.line)=true:=by rfl) (hs:starEach (e::es) X.env=(false,eval e X.env)::starEach es X.env:=by rfl) (bg:(backTo ah (starEach es X.env)).any (·.1)=false:=by rfl) :
  PE X (.Call (.Attribute o name aF) (e::es) [] ah) (tBM X.K T r to t):=by
 intro pins s σ H Q I h
 refine wpAny_Call_method_late aL cx aM rfl (thn (ho pins s σ H _ I h) fun v s1 ⟨x,H1,I1,r1,ty,q1⟩=>?_)
 obtain⟨h1,h2⟩:=vT I1 r1 ty
 refine⟨T,id,pa,slot,dN,h1,h2,?_⟩
 have hA:=ha ah pins s1 σ H1 _ I1 q1
 rw[hs]at hA⊢
 refine Calls.callWith_builtin (by show(false||(backTo ah (starEach es X.env)).any (·.1))=false;rw[bg]<;>rfl) (Calls.evalArgs_plain ?_)
 exact thn hA fun us s2 ⟨vs,H2,I2,r2,q2⟩=>hm pins s2 σ H2 x vs v us Q I2 r1 r2 q2
end
def MtM(X:Cx)(id:String)(r:V->List V->Hp->VK->Prop):Prop:=
 ∀(pins:List (Addr×Obj))(s:Shared)(σ:St)(H:Hp)(x:V)(xs:List V)(v:Value)(us:List Value)(Q:VK),Inv X pins σ H s->RelV x v->Vals xs us->r x xs H Q ->
  wpAny (model X.prog X.w) X.A (call (.builtin id) (v::us)) (EP X pins σ Q) X.xe s
theorem Vals.one:∀{x:V}{us:List Value},Vals [x] us->∃u,us=[u]/\RelV x u
 |_,_,.cons r .nil=>⟨_,rfl,r⟩
theorem Vals.two:∀{x y:V}{us:List Value},Vals [x,y] us->∃u v,us=[u,v]/\RelV x u/\RelV y v
 |_,_,_,.cons r (.cons q .nil)=>⟨_,_,rfl,r,q⟩
section
variable {X:Cx}{pins:List (Addr×Obj)}{σ:St}{H:Hp}{s:Shared}{l:Addr}{xs ys:List V}
theorem Inv.lset{its its':List Value}{n:Nat}{f:Array Value->Array Value}{t':Nat}(I:Inv X pins σ H s)(hH:H l=some (.lst xs))
  (e:s.heap.get? l=some { cls:=.type "list",data:=.seq its.toArray n }) (hf:f its.toArray=its'.toArray) (hv:Vals ys its') (hz:ys.length<=sizeLine) :
  Inv X pins σ (upd H l (.lst ys)) { s with heap:=s.heap.update l (Obj.mapSeq f),toks:=t' }:=by
 have q:=PySem.IsL.update e f
 rw[hf]at q
 refine I.write (x:=l) (e:=l) (by rw[hH];exact trivial) (.inl rfl) (fun b' u hb hu=>(DV s.heap (Obj.mapSeq f) (GF hb)).trans hu) ⟨_,q⟩ ?_
 exact⟨hz,its',_,hv,q⟩
theorem Inv.lnew(I:Inv X pins σ H s)(hv:Vals ys its)(hz:ys.length<=sizeLine) :
  Inv X pins σ (upd H s.heap.objs.size (.lst ys)) { s with heap:=s.heap.push { cls:=.type "list",data:=.seq its.toArray },toks:=t' }:=
 I.laid (fun _ _ q=>Φ _ q) (η _) ⟨hz,its,0,hv,Ω _ rfl⟩
theorem Inv.fresh(I:Inv X pins σ H s):H s.heap.objs.size=none:=I.hok.fresh (η _)
theorem Inv.lstM(I:Inv X pins σ H s)(hH:H l=some (.lst xs)):xs.length<=sizeLine/\∃(its:List Value)(n:Nat),Vals xs its/\xs.length=its.length/\s.heap.get? l=some { cls:=.type "list",data:=.seq its.toArray n }:=by obtain⟨z,its,n,r,e⟩:=I.hok l _ hH;exact⟨z,its,n,r,r.length,e⟩
theorem yU(h:n<=sizeLine):Builtin.List.listTooLong n=false:=by unfold Builtin.List.listTooLong;exact decide_eq_false (by lia)
end
section
variable {X:Cx}
def Vb:V->List V->Hp->VK->Prop:=fun x vs H Q=>∃l xs y,x=.ref l/\vs=[y]/\H l=some (.lst xs)/\xs.length<sizeLine/\Q .non (upd H l (.lst (xs++[y])))
theorem Q4:MtM X "list.append" Vb:=by
 intro pins s σ H x vs v us Q I rx rv h;obtain⟨l,xs,y,rfl,rfl,hH,hz,q⟩:=h;cases rx;obtain⟨u,rfl,ru⟩:=rv.one;obtain⟨z,its,n,r,hl,e⟩:=I.lstM hH;refine call_meets F.slot_list_append ⟨_,e,rfl⟩ F.entry_list_append (F.args_list_append_2 _ _) (PySem.list_append l its.toArray n u (by rw[CJ];lia)) ⟨e,?_⟩;refine⟨.non,_,I.lset (its':=its++[u]) hH e (by simp) (r.append (.cons ru .nil)) ?_,rfl,q⟩;rw[χ,FC]
 lia
def Va:V->List V->Hp->VK->Prop:=fun x vs H Q=>∃l b xs zs,x=.ref l/\vs=[.ref b]/\H l=some (.lst xs)/\H b=some (.lst zs)/\xs.length+zs.length<=sizeLine/\Q .non (upd H l (.lst (xs++zs)))
theorem zE:MtM X "list.extend" Va:=by
 intro pins s σ H x vs v us Q I rx rv h;obtain⟨l,b,xs,zs,rfl,rfl,hH,hB,hz,q⟩:=h;cases rx;obtain⟨u,rfl,ru⟩:=rv.one;cases ru;obtain⟨z,its,n,r,hl,e⟩:=I.lstM hH;obtain⟨z2,ax,n2,r2,fz,e2⟩:=I.lstM hB;have hsz:its.toArray.size+ax.toArray.size<=sizeLine:=by rw[CJ,CJ];lia
 have lF:¬(!its.toArray.isEmpty&&Builtin.List.listTooLong (its.toArray.size+ax.toArray.size))=true:=by rw[yU hsz,Bool.and_false];exact θ
 refine call_meets F.slot_list_extend ⟨_,e,rfl⟩ F.entry_list_extend (F.args_list_extend_2 _ _)
  (AutoSeq1.list_extend_list_list_0 l its.toArray n b ax.toArray n2 lF (by rw[CJ];lia) (by lia)) ⟨e,e2,?_⟩
 refine⟨.non,_,I.lset (its':=its++ax) hH e (by simp) (r.append r2) ?_,rfl,q⟩;rw[χ]
 lia
def jT:R2:=fun x y H Q=>∃l b xs zs,x=.ref l/\y=.ref b/\H l=some (.lst xs)/\H b=some (.lst zs)/\xs.length+zs.length<=sizeLine/\∀p,H p=none->Q (.ref p) (upd H p (.lst (xs++zs)))
theorem Er:OpR X (binaryOp .Add) jT:=by
 intro pins s σ H x y v u Q I rx ry h;obtain⟨l,b,xs,zs,rfl,rfl,hH,hB,hz,q⟩:=h;cases rx;cases ry;obtain⟨z,its,n,r,hl,e⟩:=I.lstM hH;obtain⟨z2,ax,n2,r2,fz,e2⟩:=I.lstM hB;refine PySem.P.add_list e e2 ?_ (by rw[CJ,CJ];omega);have ea:its.toArray++ax.toArray=(its++ax).toArray:=by simp
 rw[ea];exact⟨.ref _,_,I.lnew (t':=s.toks) (r.append r2) (by rw[χ];omega),rfl,q _ I.fresh⟩
end
section
variable {κ:Type}[DecidableEq κ]
noncomputable def v8(kvs:List (κ×V))(k:κ):Option V:=(kvs.find? fun kv=>decide (kv.1=k)).map (·.2)
noncomputable def x5(kvs:List (κ×V))(k:κ)(v:V):List (κ×V):=
 if(kvs.any fun kv=>decide (kv.1=k))=true then kvs.map (fun kv=>if kv.1=k then(kv.1,v) else kv) else kvs++[(k,v)]
theorem Lp{p:κ×V}{r:List (κ×V)}{k:κ}(e:p.1=k):v8 (p::r) k=some p.2:=by simp[v8,GK,e]
theorem Lo{p:κ×V}{r:List (κ×V)}{k:κ}(e:¬p.1=k):v8 (p::r) k=v8 r k:=by simp[v8,GK,e]
theorem Wg(k:κ):∀kvs:List (κ×V),(kvs.any fun kv=>decide (kv.1=k))=(v8 kvs k).isSome
 | []=>rfl
 |p::r=>by
  rw[HG];by_cases e:p.1=k
  . simp only[Lp e,decide_eq_true e,Bool.true_or,Option.isSome_some]
  . rw[Lo e,decide_eq_false e,Bool.false_or];exact Wg k r
theorem Zg(kvs:List (κ×V))(k:κ)(v:V):(x5 kvs k v).length<=kvs.length+1:=by
 unfold x5;split
 . rw[bI];lia
 . rw[χ,pp,FV];lia
theorem RelO.isSome_eq(r:RelO o u):o.isSome=u.isSome:=by
 cases o with
 |none=>cases u with
  |none=>rfl
  |some _=>exact(show False from r).elim
 |some _=>cases u with
  |none=>exact(show False from r).elim
  |some _=>rfl
theorem KV.val(r:KV kvs vs)(k:κ):RelO (v8 kvs k) (valueAt vs k):=by
 unfold KV at r;induction r with
 |nil=>exact True.intro
 | @cons p q ps qs h t ih=>
  obtain⟨h1,h2⟩:=h
  by_cases e:p.1=k
  . have e':q.1=k:=h1.symm.trans e;have b:valueAt (q::qs) k=some q.2:=by simp[valueAt,GK,e']
    rw[Lp e,b];exact h2
  . have e':¬q.1=k:=fun z=>e (h1.trans z)
    have b:valueAt (q::qs) k=valueAt qs k:=by simp[valueAt,GK,e']
    rw[Lo e,b];exact ih
theorem KV.any(r:KV kvs vs)(k:κ):(kvs.any fun kv=>decide (kv.1=k))=vs.any fun kv=>decide (kv.1=k):=by
 unfold KV at r;induction r with
 |nil=>rfl
 |cons h t ih=>rw[HG,HG,ih,h.1]
theorem KV.repl(r:KV kvs vs)(k:κ)(ry:RelV y u) :
  KV (kvs.map fun kv=>if kv.1=k then(kv.1,y) else kv) (vs.map fun kv=>if kv.1=k then(kv.1,u) else kv):=by
 unfold KV at r⊢
 induction r with
 |nil=>exact .nil
 | @cons p q ps qs h t ih=>
  rw[gq,gq]
  refine .cons ?_ ih
  obtain⟨h1,h2⟩:=h
  by_cases e:p.1=k
  . rw[ζ e,ζ (h1.symm.trans e)];exact⟨h1,ry⟩
  . rw[ξ e,ξ (fun z=>e (h1.trans z))];exact⟨h1,h2⟩
theorem KV.put(r:KV kvs vs)(k:κ)(ry:RelV y u):KV (x5 kvs k y) (stored vs k u):=by
 unfold x5 stored;rw[r.any k];by_cases e:(vs.any fun kv=>decide (kv.1=k))=true
 . rw[ζ e,ζ e];exact r.repl k ry
 . rw[ξ e,ξ e];exact Paired.snoc r ⟨rfl,ry⟩
theorem KV.length(r:KV kvs vs):kvs.length=vs.length:=Paired.length r
end
theorem Ad(r:RelV (kV k) u):(y0 P w).is k u=true:=by
 cases k with
 |inl i=>obtain⟨t,e⟩:=(show ∃t,u=Value.int i t from r);subst e;exact zdk P w i t
 |inr x=>obtain⟨t,e⟩:=(show ∃t,u=Value.str x t from r);subst e;exact zdl P w x t
theorem Xh:∀{ks:List Key}{us:List Value},Vals (ks.map kV) us->ItemsAre (y0 P w) ks us
 | [],_,r=>by rw[DH]at r;cases r;exact .nil
 |k::ks,_,r=>by
  rw[gq]at r;cases r with
  |cons h t=>exact .cons (Ad h) (Xh t)
abbrev KT(H:Hp):List (List Key×V)->List (List Key×Addr×Value)->Prop:=Paired fun p q=>p.1=q.1/\H q.2.1=some (.tup (p.1.map kV))/\RelV p.2 q.2.2
theorem KT.val(r:KT H kvs xs)(k:List Key):RelO (v8 kvs k) ((atKey xs k).map (·.2)):=by
 induction r with
 |nil=>exact True.intro
 | @cons p q ps qs h t ih=>
  obtain⟨h1,_,h2⟩:=h
  by_cases e:p.1=k
  . have e':q.1=k:=h1.symm.trans e;have b:atKey (q::qs) k=some q.2:=by simp[atKey,GK,e']
    rw[Lp e,b];exact h2
  . have e':¬q.1=k:=fun z=>e (h1.trans z)
    have b:atKey (q::qs) k=atKey qs k:=by simp[atKey,GK,e']
    rw[Lo e,b];exact ih
theorem KT.repl(r:KT H kvs xs)(k:List Key)(ry:RelV y u) :
  KT H (kvs.map fun kv=>if kv.1=k then(kv.1,y) else kv) (xs.map (putAt k u)):=by
 induction r with
 |nil=>exact .nil
 | @cons p q ps qs h t ih=>
  rw[gq,gq]
  refine .cons ?_ ih
  obtain⟨h1,h2,h3⟩:=h
  unfold putAt
  by_cases e:p.1=k
  . rw[ζ e,ζ (h1.symm.trans e)];exact⟨h1,h2,ry⟩
  . rw[ξ e,ξ (fun z=>e (h1.trans z))];exact⟨h1,h2,h3⟩
theorem KT.put(r:KT H kvs xs)(k:List Key)(hb:H b=some (.tup (k.map kV)))(ry:RelV y u) :
  KT H (x5 kvs k y) (storedH xs k b u):=by
 have e:(kvs.any fun kv=>decide (kv.1=k))=(atKey xs k).isSome:=by rw[Wg,(r.val k).isSome_eq,Ir]
 unfold x5 storedH
 rw[e]
 by_cases q:(atKey xs k).isSome=true
 . rw[ζ q,ζ q];exact r.repl k ry
 . rw[ξ q,ξ q];exact Paired.snoc r ⟨rfl,hb,ry⟩
theorem KT.keeps(r:KT H kvs xs)(ht:∀b ys,H b=some (.tup ys)->H' b=some (.tup ys)):KT H' kvs xs:=
 Paired.mapP r fun _ _ z=>⟨z.1,ht _ _ z.2.1,z.2.2⟩
section
variable {P:Program}{w:World}{H:Hp}{h:Heap}{a:Addr}
theorem Qb(ok:HOk P w H h)(e:Rd H a u):ObjOk P w H h a u:=e.ok ok
theorem U2(ok:HOk P w H h)(e:Rd H a (.dK kvs)):kvs.length<=sizeLine/\(a==sysModules)=false/\∃vs,KV kvs vs/\h.DictOf (y0 P w) a vs:=
 show ObjOk P w H h a (.dK kvs) from Qb ok e
theorem kT(ok:HOk P w H h)(e:H a=some (.dK kvs)):kvs.length<=sizeLine/\(a==sysModules)=false/\∃vs,KV kvs vs/\h.DictOf (y0 P w) a vs:=U2 ok (.inl e)
theorem Ap(ok:HOk P w H h)(e:H a=some (.tup (ks.map kV))):(tupleKind (y0 P w)).is h ks a:=by obtain⟨_,its,r,o,h1,h2,⟨n,h3⟩,_⟩:=(show ObjOk P w H h a (.tup (ks.map kV)) from ok a _ e);exact⟨o,its.toArray,n,h1,h2,h3,by simpa using Xh r⟩
theorem Ac(ok:HOk P w H h)(e:Rd H a (.dT kvs)):kvs.length<=sizeLine/\(a==sysModules)=false /\
  ∃xs,KT H kvs xs/\h.DictOfH (tupleKind (y0 P w)) a xs:=by
 obtain⟨z,y,xs,r,o,es,ep,h1,h2,h3,h4,h5⟩:=(show ObjOk P w H h a (.dT kvs) from Qb ok e)
 refine⟨z,y,xs,r,o,es,ep,h1,h2,h3,h4,fun x hx=>?_,h5⟩
 have all:∀{l:List (List Key×V)}{m:List (List Key×Addr×Value)},KT H l m->∀x∈m,(tupleKind (y0 P w)).is h x.1 x.2.1:=by
  intro l m q;induction q with
  |nil=>intro x hx;exact nomatch hx
  | @cons p q ps qs hq t ih=>
   intro x hx
   rcases gD.mp hx with e |hx
   . subst e;exact Ap ok (by rw[<-hq.1];exact hq.2.1)
   . exact ih x hx
 exact all r x hx
theorem kS(ok:HOk P w H h)(e:H a=some (.dT kvs)):kvs.length<=sizeLine/\(a==sysModules)=false /\
 ∃xs,KT H kvs xs/\h.DictOfH (tupleKind (y0 P w)) a xs:=Ac ok (.inl e)
end
def DGet(H:Hp)(a:Addr)(y:V)(r:Option V):Prop:=
 (∃kvs k,Rd H a (.dK kvs)/\y=kV k/\r=v8 kvs k)\/∃kvs k b,Rd H a (.dT kvs)/\y=.ref b/\H b=some (.tup (k.map kV))/\r=v8 kvs k
def DPut(H:Hp)(a:Addr)(y v:V)(H':Hp):Prop:=
 (∃kvs k,H a=some (.dK kvs)/\y=kV k/\kvs.length<sizeLine/\H'=upd H a (.dK (x5 kvs k v))) \/
 ∃kvs k b,H a=some (.dT kvs)/\y=.ref b/\H b=some (.tup (k.map kV))/\kvs.length<sizeLine/\H'=upd H a (.dT (x5 kvs k v))
theorem DGet.k{H:Hp}{a:Addr}{kvs:List (Key×V)}{k:Key}(e:H a=some (.dK kvs)):DGet H a (kV k) (v8 kvs k):=.inl ⟨kvs,k,.inl e,rfl,rfl⟩
theorem DGet.t{H:Hp}{a b:Addr}{kvs:List (List Key×V)}{k:List Key}(e:H a=some (.dT kvs))(eb:H b=some (.tup (k.map kV))):DGet H a (.ref b) (v8 kvs k):=.inr ⟨kvs,k,b,.inl e,rfl,eb,rfl⟩
theorem DPut.k{H:Hp}{a:Addr}{kvs:List (Key×V)}{k:Key}{v:V}(e:H a=some (.dK kvs))(hl:kvs.length<sizeLine):DPut H a (kV k) v (upd H a (.dK (x5 kvs k v))):=.inl ⟨kvs,k,e,rfl,hl,rfl⟩
theorem DPut.t{H:Hp}{a b:Addr}{kvs:List (List Key×V)}{k:List Key}{v:V}(e:H a=some (.dT kvs))(eb:H b=some (.tup (k.map kV)))(hl:kvs.length<sizeLine) :
 DPut H a (.ref b) v (upd H a (.dT (x5 kvs k v))):=.inr ⟨kvs,k,b,e,rfl,eb,hl,rfl⟩
section
variable {X:Cx}{pins:List (Addr×Obj)}{σ:St}{H:Hp}{s:Shared}{a:Addr}{y v:V}{u r:Value}{o:Option V}{A:Around}{E:Value->Shared->Prop}
theorem Inv.big(I:Inv X pins σ H s):sysModules<s.heap.objs.size:=by have h:mainGlobals<s.heap.objs.size:=(I.mod.glob.keeps I.bk).lt;exact Nat.lt_trans (by decide) h
theorem zC(hu:A.units+1<cLine)(I:Inv X pins σ H s)(g:DGet H a y (some v))(ry:RelV y u)(h:∀w' s',Inv X pins σ H s'->RelV v w'->Q w' s') :
  wpAny (model X.prog X.w) A (getItem (.ref a) u) Q E s:=by
 rcases g with⟨kvs,k,e,ey,l⟩ |⟨kvs,k,b,e,ey,eb,l⟩
 . subst ey;obtain⟨z,hd,vs,rel,dd⟩:=U2 I.hok e;obtain⟨w',hw,ce⟩:=RelO.some_of (v:=v) (o:=valueAt vs k) (by rw[l];exact rel.val k);exact wpAny_getItem_of (Ad ry) dd.mapOf hw (h w' _ (I.tok _) ce)
 . subst ey;cases (show u=Value.ref b from ry);obtain⟨z,hd,xs,rel,dd⟩:=Ac I.hok e;obtain⟨w',hw,ce⟩:=RelO.some_of (v:=v) (o:=(atKey xs k).map (·.2)) (by rw[l];exact rel.val k);obtain⟨p,hp,eT⟩:=HS.mp hw;refine wpAny_getItem_heap (tupleKind_room_in1 hu) (Ap I.hok eb) dd hp ?_;rw[eT];exact h w' _ (I.tok _) ce
theorem y34(hu:A.units+1<cLine)(I:Inv X pins σ H s)(g:DGet H a y o)(ry:RelV y u)(h:∀s',Inv X pins σ H s'->Q (.bool o.isSome) s') :
  wpAny (model X.prog X.w) A (compareOp .In u (.ref a)) Q E s:=by
 rcases g with⟨kvs,k,e,ey,l⟩ |⟨kvs,k,b,e,ey,eb,l⟩
 . subst ey;obtain⟨z,hd,vs,rel,dd⟩:=U2 I.hok e;refine wpAny_in_of (Ad ry) hd dd.mapOf ?_;rw[<-(rel.val k).isSome_eq,<-l];exact h _ (I.tok _)
 . subst ey;cases (show u=Value.ref b from ry);obtain⟨z,hd,xs,rel,dd⟩:=Ac I.hok e;refine wpAny_in_heap (tupleKind_room_in1 hu) (Ap I.hok eb) hd dd ?_;have q:=(rel.val k).isSome_eq;rw[Ir]at q;rw[<-q,<-l];exact h _ (I.tok _)
theorem xQ(hu:A.units+1<cLine)(I:Inv X pins σ H s)(g:DGet H a y o)(ry:RelV y u)(h:∀s',Inv X pins σ H s'->Q (.bool (!o.isSome)) s') :
  wpAny (model X.prog X.w) A (compareOp .NotIn u (.ref a)) Q E s:=by
 rcases g with⟨kvs,k,e,ey,l⟩ |⟨kvs,k,b,e,ey,eb,l⟩
 . subst ey;obtain⟨z,hd,vs,rel,dd⟩:=U2 I.hok e;refine wpAny_notIn_of (Ad ry) hd dd.mapOf ?_;rw[<-(rel.val k).isSome_eq,<-l];exact h _ (I.tok _)
 . subst ey;cases (show u=Value.ref b from ry);obtain⟨z,hd,xs,rel,dd⟩:=Ac I.hok e;refine wpAny_notIn_heap (tupleKind_room_in1 hu) (Ap I.hok eb) hd dd ?_;have q:=(rel.val k).isSome_eq;rw[Ir]at q;rw[<-q,<-l];exact h _ (I.tok _)
theorem Fk(I:Inv X pins σ H s)(mu:Mut (H a))(hs:Heap.SameBut a s.heap h')(he:∃q,h'.get? a=some q)(new:ObjOk X.prog X.w (upd H a ob) h' a ob) :
  Inv X pins σ (upd H a ob) { s with heap:=h',toks:=t' }:=
 I.write (x:=a) (e:=a) mu (.inl rfl) (fun b q hb z=>(hs.2 b hb).trans z) he new
theorem vS(z:kvs.length<=sizeLine)(hd:(a==sysModules)=false)(rel:KV kvs vs)(dd:h'.DictOf (y0 P w) a vs) :
 ObjOk P w H' h' a (.dK kvs):=⟨z,hd,vs,rel,dd⟩
theorem zB(hu:A.units+1<cLine)(I:Inv X pins σ H s)(g:DPut H a y v H')(ry:RelV y u)(rv:RelV v r)(h:∀s',Inv X pins σ H' s'->Q () s') :
  wpAny (model X.prog X.w) A (setItem (.ref a) u r) Q E s:=by
 rcases g with⟨kvs,k,e,ey,l,eH⟩ |⟨kvs,k,b,e,ey,eb,l,eH⟩
 . subst ey eH;obtain⟨z,hd,vs,rel,dd⟩:=kT I.hok e;have hz:vs.length<=sizeLine:=by rw[<-rel.length];exact z
   have hl:(x5 kvs k v).length<=sizeLine:=by have:=Zg kvs k v;lia
   refine wpAny_setItem_pairs (hsz:=hz) (Ad ry) dd fun h' dO hs=>h _ ?_
   have he:∃q,h'.get? a=some q:=let ⟨q,_,_,hq,_⟩:=dO;⟨q,hq⟩
   exact Fk I (by rw[e];exact True.intro) hs he (vS hl hd (rel.put k rv) dO)
 . subst ey eH;cases (show u=Value.ref b from ry);obtain⟨z,hd,xs,rel,dd⟩:=kS I.hok e;have hz:xs.length<=sizeLine:=by rw[<-Paired.length rel];exact z
   have hl:(x5 kvs k v).length<=sizeLine:=by have:=Zg kvs k v;lia
   refine wpAny_setItem_heap (hsz:=hz) (tupleKind_room_in1 hu) (Ap I.hok eb) dd fun h' dO hs=>h _ ?_
   obtain⟨q,es,ep,hq,h2,h3,h4,_,h5⟩:=dO;refine Fk I (by rw[e];exact True.intro) hs ⟨q,hq⟩ ⟨hl,hd,_,(rel.put k eb rv).keeps fun c ys ec=>?_,q,es,ep,hq,h2,h3,h4,h5⟩;rw[e9 (qc ec e (fun z=>nomatch z))];exact ec
end
section
variable {X:Cx}{pins:List (Addr×Obj)}{σ:St}{H:Hp}{s:Shared}{a:Addr}{kvs:List (Key×V)}{A:Around}{E:Value->Shared->Prop}
theorem kR(I:Inv X pins σ H s)(e:Rd H a (.dK kvs))(h:∀t s',Inv X pins σ H s'->Q (.int kvs.length t) s'):wpAny (model X.prog X.w) A (call (.builtin "len") [.ref a]) Q E s:=by obtain⟨z,hd,vs,rel,dd⟩:=U2 I.hok e;refine call_len_dict hd dd (by rw[<-rel.length];rw[Ib]at z;lia) ?_;rw[<-rel.length];exact h _ _ (I.tok _)
end
theorem zdv(I:Inv X pins σ H s)(g:DGet H a y o):s.TypeIs (.ref a) "dict":=by
 rcases g with⟨kvs,k,e,_,_⟩ |⟨kvs,k,b,e,_,_,_⟩
 . obtain⟨_,_,vs,_,dd⟩:=U2 I.hok e;exact dd.typeIs
 . obtain⟨_,_,xs,_,dd⟩:=Ac I.hok e;exact dd.typeIs
theorem yT(h:Heap)(hb:sysModules<h.objs.size):ObjOk P w H (h.push { cls:=.type "dict",data:=.dict #[] }) h.objs.size (.dK []):=
 ⟨DG _,Ii.mpr (GF (CY hb)),[],.nil,Heap.DictOf.new h⟩
def vR:TE:=fun _ H Q=>∀p,H p=none->Q (.ref p) (upd H p (.dK []))
section
variable {X:Cx}{pos:Pos}
theorem pe_dnewK:PE X (.Dict [] [] pos) vR:=fun pins s σ H Q I h=>
 wpAny_Dict_empty ⟨.ref s.heap.objs.size,_,I.laid (a:=s.heap.objs.size) (o:=.dK []) (t':=s.toks) (fun _ _ q=>Φ _ q) (η _) (yT s.heap I.big),rfl,h _ (I.hok.fresh (η _))⟩
end
def Sk:List (TE×TE)->St->Hp->(List (V×V)->Hp->Prop)->Prop
 | [],_,H,Q=>Q [] H
 | (tk,tv)::r,σ,H,Q=>tk σ H fun x H1=>tv σ H1 fun y H2=>Sk r σ H2 fun ps H3=>Q ((x,y)::ps) H3
abbrev VV:List (V×V)->List (Value×Value)->Prop:=Paired fun p q=>RelV p.1 q.1/\RelV p.2 q.2
def PPs(X:Cx)(pos:Pos)(keys:List (Option Expr))(fo:List Expr)(lL:List (TE×TE)):Prop:=
 ∀(pins:List (Addr×Obj))(s:Shared)(σ:St)(H:Hp)(Q:List (V×V)->Hp->Prop),Inv X pins σ H s->Sk lL σ H Q ->
  wpAny (model X.prog X.w) X.A (evalPairs (pairTrees keys fo X.env pos)) (fun vs s'=>∃ps H',Inv X pins σ H' s'/\VV ps vs/\Q ps H') X.xe s
theorem xP:PPs X pos [] [] []:=fun pins s σ H Q I h=>pairTrees_nil_walk ⟨[],H,I,.nil,h⟩
theorem yS(hk:PE X k tk)(hv:PE X v tv)(hr:PPs X pos ks vs lL) :
  PPs X pos (some k::ks) (v::vs) ((tk,tv)::lL):=fun pins s σ H Q I h=>
 pairTrees_cons_walk (thn (hk pins s σ H _ I h) fun u s1 ⟨x,H1,I1,rx,q1⟩=>thn (hv pins s1 σ H1 _ I1 q1) fun w2 s2 ⟨y,H2,I2,ry,q2⟩=>
  thn (hr pins s2 σ H2 _ I2 q2) fun ws s3 ⟨ps,H3,I3,rel,q3⟩=>⟨(x,y)::ps,H3,I3,.cons ⟨rx,ry⟩ rel,q3⟩)
end L2
namespace Att
open PySem PySem.W PySem.Calls PyProof.Rows
theorem z7a:∀(ns:List Int)(vs:List Value),WellAll P h vs (ns.map WData.int)->IntsAre vs ns:=by
 intro ns;induction ns with
 |nil=>
  intro vs w
  rw[DH]at w
  cases w
  exact .nil
 |cons n ns ih=>
  intro vs w
  rw[gq]at w
  cases w with
  |cons a b=>
   cases a
   exact .cons _ _ (ih _ b)
theorem zA{l:OpenLaw}{n:Nat}(hn:l.most=some n){P:Params}{h:Heap}{args:List WData}{aq:List Value}
  (fw:l.row.toRowW.claim.pre args=true) (lM:WellAll P h aq args) :
  ∃a vs ns,aq=[Value.ref a]/\args=[WData.list (ns.map WData.int)]/\h.get? a=some { cls:=.type "list",data:=.seq vs.toArray }/\IntsAre vs ns/\ns.length<=n:=by
 have rf:WShape.hasAll [] args [.list .int]=true:=(pre_splitW fw).1
 have hc:l.pre.holds [] { args:=args }=true:=(pre_splitW fw).2
 obtain⟨d,r,rfl,h1,h2⟩:=hasAllW_cons rf
 obtain rfl:=hasAllW_nil h2
 obtain⟨xs,rfl,h3⟩:=hasW_list h1
 obtain⟨ns,rfl⟩:=items_int h3
 have ao:ns.length<=n:=by
  unfold OpenLaw.pre at hc;have h4:(WTm.not (.lt (.lit (.int (n:Int))) (.len (.arg 0)))).holds [] { args:=[.list (ns.map .int)] }=true:=by have h4:=(holds_andW hc).1;rw[hn]at h4;exact h4
  have h5:=condW_of h4 (w_not (w_lt w_lit (w_len_list (w_arg rfl))));rw[bI]at h5;refine Nat.le_of_not_lt fun q=>?_
  have q':(n:Int)<((ns.length:Nat):Int):=by omega
  first
   | (rw[decide_eq_true q']at h5;exact absurd h5 (by decide))
   | (simp at h5;omega)
 cases lM with
 |cons w1 w2=>
  cases w2
  cases w1 with
  |list ho fV=>exact⟨_,_,ns,rfl,rfl,ho,z7a ns _ fV,ao⟩
theorem zz(l:OpenLaw)(args:List WData):l.row.toRowW.claim.post args (.bool true) args=true:=
 postW_of (r:=l.row.toRowW) (X:=(true==true))
  (show WShape.has [] (.bool true) .bool=true by first |rfl |decide |simp[WShape.has,WShape.arms,WShape.armsAll])
  (show(WTm.eq .res (.lit (.bool true))).value [] { args:=args,res:=some (.bool true),after:=args }=some (.bool (true==true)) from w_eq_bool (w_res rfl) w_lit) rfl
theorem attach_call{l:OpenLaw}{n:Nat}{q:Program}{loose:List Str}{XP:(Str->Option Value)->Heap->Prop}{YP:World->Heap->Prop}{d:DefRec}
  (hn:l.most=some n) (gl:d.params.defaults=[])
  (call:∀(w:World)(s₀ af:Shared)(mg mb:Str->Option Value)(fa:Addr)(o:Obj)(pm cd doc:Value)(a:Addr)(vs:List Value)(ns:List Int),
   Ground q loose [] XP w s₀ mg mb af.heap->YP w af.heap ->
   af.heap.get? fa=some o->o.data=.func (docDef d.name d.params d.body d.scope pm cd doc)->af.heap.CodeRec cd d.name->mg d.name=some (.ref fa) ->
   af.heap.get? a=some { cls:=.type "list",data:=.seq vs.toArray }->IntsAre vs ns->ns.length<=n->af.gens=#[] ->
   codeAny (model l.prog w) callerA (.call (.ref fa) ⟨[.ref a],[]⟩) (fun r s'=>r=.ok (.ret (.bool true))/\OldK af.heap s'.heap/\s'.os=af.os/\AllBare s'.gens) af) :
  WalkO q loose XP YP l.row.toRowW d [] (fun f vs=>PySem.call f vs):=by
 intro w s₀ af mg mb G Y fa o pm cd doc dV kV ho hd bU hD cq hg args aq as fw AL AT lM AU
 obtain rfl:dV=.none:=Dflts.none hD gl
 obtain rfl:kV=.none:=Dflts.noKw hD
 obtain⟨a,vs,ns,rfl,rfl,fW,eL,ao⟩:=zA hn fw lM
 refine enter_call (codeAny_mono (call w s₀ af mg mb fa o pm cd doc a vs ns G Y ho (fd_plain hd) bU cq fW eL ao hg) fun r s' hq=>?_)
 obtain⟨rfl,h2,h3,h4⟩:=hq
 exact⟨.inl ⟨.bool true,.bool true,[],rfl,fun _=>rfl,.bool true,zz l _,fun _=>⟨List.Pairwise.nil,fun _ hm=>(nomatch hm)⟩⟩,h2,h3,h4⟩
section
def noObjs(h:Heap):Heap:={ h with objs:=#[] }
theorem noObjs_get(h:Heap)(b:Addr):(noObjs h).get? b=none:=by
 cases e:(noObjs h).get? b with
 |none=>rfl
 |some o=>exact absurd (Heap.lt_size e) (Nat.not_lt_zero _)
theorem fr_all(n:h.Ns L m):Fr (noObjs h) L h m:=
 ⟨n,fun b o e=>(by rw[noObjs_get]at e;cases e),DG _⟩
end
end Att
namespace L2
open PySem PySem.Spec PyProof.Rows
theorem Xg:∀{vs:List Value}{ns:List Int},IntsAre vs ns->Vals (ns.map V.int) vs
 |_,_,.nil=>.nil
 |_,_,.cons n t h=>.cons ⟨t,rfl⟩ (Xg h)
def Cv(H:Hp):Prop:=∀b,H b=none\/∃o xs,H b=some (.frz o (.lst xs))
theorem yR{P:Program}{w:World}{K:Frag}{mg mb:Str->Option Value}{CX:CXT}{k:Nat}{fa a:Addr}{fd:FuncData}{x:Str}{sp:Sp}{af:Shared}{vs:List Value}{ns:List Int}
  (KX:K.In af.heap) (eh:af.heap.Ns mainGlobals mg) (hb:af.heap.Ns builtinsNs mb) (rg:∀x:Str,x≠"__name__"->mb x=bootBuiltins x) (nj:af.heap.NoLimit) (hg:af.gens=#[])
  (ha:af.heap.get? a=some { cls:=.type "list",data:=.seq vs.toArray }) (hi:IntsAre vs ns) (hl:ns.length<=sizeLine) (hr:Room k callerA)
  (F:∀base:Heap,K.In base->base.Ns mainGlobals mg->FnOk P w K mg base CX k fa fd [x] sp) (lG:∀(s:Shared)(u:Value),BindsTo s fd ⟨[u],[]⟩ [(x,u)])
  (dM:∀H:Hp,Cv H->SqL K H a (ns.map V.int)->sp [.ref a] H (fun v _=>v=.bl true) fun _ _ _=>False)
  (lN:∀H e s',CX [] H af (fun _ _ _=>False) e s'->False) :
  codeAny (model P w) callerA (.call (.ref fa) ⟨[.ref a],[]⟩) (fun r s'=>r=.ok (.ret (.bool true))/\OldK af.heap s'.heap/\s'.os=af.os/\AllBare s'.gens) af:=by
 have rv:=Xg hi
 have nl:=hi.length
 have iR:∀H:Hp,Cv H->SqL K H a (ns.map V.int)->HOk P w H af.heap->(∀b,H b≠none->b=a)->(H a≠none->K.lookup a=none) ->
   codeAny (model P w) callerA (.call (.ref fa) ⟨[.ref a],[]⟩) (fun r s'=>r=.ok (.ret (.bool true))/\OldK af.heap s'.heap/\s'.os=af.os/\AllBare s'.gens) af:=by
  intro H hO hS hok hA hK
  have dW:∀{b:Addr}{o:Obj},af.heap.get? b=some o->H b=none->(G5 af.heap H).get? b=some o:=fun e n=>za e n
  have gi:∀{b:Addr}{o:Obj}{es:Array DictEntry}{ep:Nat},af.heap.get? b=some o->o.data=.dict es ep->H b=none:=fun {b o es ep} e d=>by
   cases q:H b with
   |none=>rfl
   |some u=>
    have e':b=a:=hA b (by rw[q];simp)
    subst e'
    rw[ha]at e;cases e
    have d':Data.seq vs.toArray _=Data.dict es ep:=d
    cases d'
  have iu:∀{b:Addr}{m:Str->Option Value},af.heap.Ns b m->(G5 af.heap H).Ns b m:=fun {b m} ⟨o,es,ep,e,d,r⟩=>⟨o,es,ep,dW e (gi e d),d,r⟩
  have nQ:K.In (G5 af.heap H):=fun b o e=>dW (KX b o e) (by
   cases q:H b with
   |none=>rfl
   |some u=>
    have e':b=a:=hA b (by rw[q];simp)
    subst e'
    rw[hK (by rw[q];simp)]at e;cases e)
  have hM:Mod K mg (G5 af.heap H):=⟨nQ,iu eh,⟨mb,iu hb,rg⟩,let ⟨mc,h1,h2⟩:=nj;⟨mc,iu h1,h2⟩⟩
  have e0:Env0 P w K mg (G5 af.heap H) callerA [] af H:=⟨rfl,hM,fun b o e=>xY e,Nat.le_of_eq (zK _ _),trivial,fun b hb=>absurd (show b∈([]:List Addr) from hb) (by simp),hok,.of_eq hg⟩
  refine codeAny_mono ((F _ nQ (iu eh)).run callerA [] af H ⟨[.ref a],[]⟩ [.ref a] [.ref a] _ _ hr e0 (lG af (.ref a)) (.cons rfl .nil) (dM H hO hS)) fun r s' h=>?_
  cases r with
  |error e=>exact(lN H e s' h).elim
  |ok fl=>
   cases fl with
   |next=>exact False.elim h
   |brk=>exact False.elim h
   |cont=>exact False.elim h
   |ret u=>
    obtain⟨v,H',os,bare,un,np,r',q⟩:=h
    have q':v=.bl true:=q
    subst q'
    obtain rfl:u=Value.bool true:=r'
    refine⟨rfl,OldK.of_keep fun b o e=>?_,os,bare⟩
    cases q:H b with
    |none=>exact un.keep b o e q (by intro z;exact absurd (show b∈([]:List Addr) from z) (by simp)) (by simp)
    |some u=>
     rcases hO b with z |⟨ob,xs,z⟩
     . rw[q]at z;cases z
     . have z2:=un.frzs b ob _ z;obtain⟨e1,_⟩:=hok b _ z;obtain⟨e2,_⟩:=np b _ z2;rw[e]at e1;cases e1;exact e2
 cases hk:K.lookup a with
 |some o=>
  have e:=KX a o hk
  rw[ha]at e
  cases e
  refine iR (fun _=>none) (fun _=>.inl rfl) (.inr ⟨_,vs.toArray,_,hk,rfl,rfl,rfl,by rw[CJ,nl];exact hl,by simpa using rv⟩) (fun b u z=>by have z':(none:Option HO)=some u:=z;cases z') (fun b z=>absurd rfl z) fun z=>absurd rfl z
 |none=>
  refine iR (fun b=>if b=a then some (.frz { cls:=.type "list",data:=.seq vs.toArray } (.lst (ns.map V.int))) else none) (fun b=>?_) (.inl (.inr ⟨{ cls:=.type "list",data:=.seq vs.toArray },ζ rfl⟩)) (fun b u z=>?_) (fun b z=>?_) fun _=>hk
  . by_cases hb:b=a
    . exact .inr ⟨_,_,ζ hb⟩
    . exact .inl (ξ hb)
  . by_cases hb:b=a
    . have z':=(ζ hb).symm.trans z;cases z';subst hb;exact⟨ha,by rw[bI];exact hl,vs,_,rv,ha⟩
    . have z':=(ξ hb).symm.trans z;cases z'
  . by_cases hb:b=a
    . exact hb
    . exact absurd (ξ hb) z
theorem walk_of{l:PySem.W.OpenLaw}{n k:Nat}{q:Program}{loose:List Str}{XP:(Str->Option Value)->Heap->Prop}{YP:World->Heap->Prop}{d:DefRec}{K:Params->Frag}{CX:World->CXT}{sp:World->Sp}{x:Str}
  (hn:l.most=some n) (fA:n<=sizeLine) (gl:d.params.defaults=[]) (hr:Room k callerA)
  (hY:∀(w:World)(h:Heap),YP w h->(K w.params).In h)
  (F:∀(w:World)(mg:Str->Option Value)(fa:Addr)(h:Heap),(K w.params).In h->h.Ns mainGlobals mg->mg d.name=some (.ref fa) ->
   ∃fd:FuncData,(∀(s:Shared)(u:Value),BindsTo s fd ⟨[u],[]⟩ [(x,u)]) /\
    ∀base:Heap,(K w.params).In base->base.Ns mainGlobals mg->FnOk l.prog w (K w.params) mg base (CX w) k fa fd [x] (sp w))
  (dM:∀(w:World)(H:Hp)(a:Addr)(ns:List Int),ns.length<=n->Cv H->SqL (K w.params) H a (ns.map V.int)->sp w [.ref a] H (fun v _=>v=.bl true) fun _ _ _=>False)
  (lN:∀(w:World)(H:Hp)(s:Shared)(e:Value)(s':Shared),CX w [] H s (fun _ _ _=>False) e s'->False) :
  PySem.W.WalkO q loose XP YP l.row.toRowW d [] (fun f vs=>PySem.call f vs):=by
 refine Att.attach_call hn gl fun w s₀ af mg mb fa o pm cd doc a vs ns G Y ho hd bU cq fW eL ao hg=>?_
 have KX:=hY w _ Y
 obtain⟨fd,hb,hF⟩:=F w mg fa _ KX G.T.g cq
 exact yR KX G.T.g G.T.b G.T.builtins G.T.nolimit hg fW eL (CL ao fA) hr hF hb (fun H hO hS=>dM w H a ns ao hO hS) fun H e s'=>lN w H af e s'
noncomputable def N7(s:Stmt):Arguments:=match s with
 | .FunctionDef _ a _ _ _ _ _ _ _ _=>a
 |_=>{ posonlyargs:=[],args:=[],vararg:=none,kwonlyargs:=[],kw_defaults:=[],kwarg:=none,defaults:=[] }
noncomputable def D7(s:Stmt):List Stmt:=match s with
 | .FunctionDef _ _ b _ _ _ _ _ _ _=>b
 |_=>[]
noncomputable def d7(s:Stmt):Scope:=match s with
 | .FunctionDef _ _ _ _ _ _ sc _ _ _=>sc
 |_=>{ kind:=.function,names:=[],isGenerator:=false,isCoroutine:=false }
structure Fun(K:Frag)(x qual:Str)(st:Stmt)(f:Addr)(fd:FuncData):Prop where
 ex:∃(oc:Value)(od:Option Addr)(kV doc pm:Value)(an:Option Addr)(cdv ct:Value)(osl:Array (Option Value)),
  fd=PySem.W.fnOf x qual (N7 st) (D7 st) (d7 st) .none kV doc pm an cdv ct/\K.lookup f=some ⟨oc,od,.func fd,osl⟩/\codeIn K cdv qual=true
 kp:keepIn K (.ref f)=true
section
variable {K:Frag}
theorem Fun.binds{x qual:Str}{st:Stmt}{f:Addr}{fd:FuncData}{ps:List Str}(F:Fun K x qual st f fd)
  (h:∀(kV doc pm:Value)(an:Option Addr)(cdv ct:Value)(us:List Value),us.length=ps.length->bindArgs (PySem.W.fnOf x qual (N7 st) (D7 st) (d7 st) .none kV doc pm an cdv ct) ⟨us,[]⟩=pure (ps.zip us)):Binds K fd ps []:=by
 obtain⟨oc,od,kV,doc,pm,an,cdv,ct,osl,rfl,lk,bU⟩:=F.ex
 exact .all (h kV doc pm an cdv ct)
theorem vQ{x qual:Str}{st:Stmt}{f:Addr}{oc:Value}{od an:Option Addr}{osl:Array (Option Value)}{kV doc pm cdv ct:Value}(l:K.lookup f=some ⟨oc,od,.func (PySem.W.fnOf x qual (N7 st) (D7 st) (d7 st) .none kV doc pm an cdv ct),osl⟩)
 (c:codeIn K cdv qual=true) (k:keepIn K (.ref f)=true):Fun K x qual st f (PySem.W.fnOf x qual (N7 st) (D7 st) (d7 st) .none kV doc pm an cdv ct):=⟨⟨oc,od,kV,doc,pm,an,cdv,ct,osl,rfl,l,c⟩,k⟩
end
section
variable {X:Cx}
theorem call_lenD:CallR X (.builtin "len") (fun xs H Q=>∃a kvs,xs=[V.ref a]/\H a=some (.dK kvs)/\Q (.int kvs.length) H):=by intro pins s σ H xs us Q I r h;obtain⟨a,kvs,rfl,ha,q⟩:=h;obtain⟨u,rfl,ru⟩:=J5 r;cases ru;exact kR I (.inl ha) fun t s' I'=>⟨.int kvs.length,H,I',⟨t,rfl⟩,q⟩
end
def Same(H H':Hp):Prop:=∀b o,H b=some o->H' b=some o
theorem Same.refl(H:Hp):Same H H:=fun _ _ h=>h
theorem Same.trans(a:Same H H1)(b:Same H1 H2):Same H H2:=fun c o h=>b c o (a c o h)
end L2
set_option maxHeartbeats 4000000
namespace L2
open PySem PySem.Spec PyProof.Rows
noncomputable def r6(cells:List (Str×Addr)):List (Str×NameKind)->List (Str×Addr)->List (Str×Addr)
 | [],acc=>acc
 | (n,k)::r,acc=>r6 cells r (if k==.free then(n,(cells.lookup n).getD 0)::acc else acc)
theorem jd:∀{names:List (Str×NameKind)}{acc:List (Str×Addr)},
  (∀y∈names,y.2=.free->∃c,cells.lookup y.1=some c)->(∀y c,acc.lookup y=some c->cells.lookup y=some c)->(r6 cells names acc).lookup x=some c->cells.lookup x=some c
 | [],acc,_,ha,h=>ha x c h
 | (n,k)::r,acc,hf,ha,h=>by
  refine jd (names:=r) (fun y hy=>hf y (dg _ hy)) (fun y c'=>?_) h;by_cases hk:k=.free
  . subst hk;obtain⟨c0,e0⟩:=hf (n,.free) io rfl;intro e;have e1:(if(NameKind.free==NameKind.free)=true then(n,(cells.lookup n).getD 0)::acc else acc)=(n,(cells.lookup n).getD 0)::acc:=ζ (show(NameKind.free==NameKind.free)=true from rfl);rw[e1,HC]at e;cases lO:y==n with
    |true=>
     rw[lO]at e
     have e2:y=n:=by simpa using lO
     subst e2
     have e3:=Option.some.inj e
     have rh:cells.lookup y=some c0:=e0
     rw[rh]at e3⊢
     exact EH some e3
    |false=>rw[lO]at e;exact ha y c' e
  . have e1:(if(k==NameKind.free)=true then(n,(cells.lookup n).getD 0)::acc else acc)=acc:=ξ (by simpa using hk);rw[e1];exact ha y c'
theorem Na:∀{names:List (Str×NameKind)}{acc:List (Str×Addr)},
  ((∃c,acc.lookup x=some c)\/∃y∈names,y.2=.free/\y.1=x)->∃c,(r6 cells names acc).lookup x=some c
 | [],acc,h=>by
  rcases h with h |⟨y,hy,_⟩
  . exact h
  . cases hy
 | (n,k)::r,acc,h=>by
  refine Na (names:=r) ?_;by_cases hk:k=.free
  . subst hk;have e1:(if(NameKind.free==NameKind.free)=true then(n,(cells.lookup n).getD 0)::acc else acc)=(n,(cells.lookup n).getD 0)::acc:=ζ (show(NameKind.free==NameKind.free)=true from rfl);rw[e1,HC];cases rj:x==n with
    |true=>exact .inl ⟨_,rfl⟩
    |false=>
     rcases h with h |⟨y,hy,hf,e⟩
     . exact .inl h
     . rcases gD.mp hy with z |z
       . subst z;have e':n=x:=e;subst e';simp at rj
       . exact .inr ⟨y,z,hf,e⟩
  . have e1:(if(k==NameKind.free)=true then(n,(cells.lookup n).getD 0)::acc else acc)=acc:=ξ (by simpa using hk);rw[e1];rcases h with h |⟨y,hy,hf,e⟩
    . exact .inl h
    . rcases gD.mp hy with z |z
      . subst z;exact absurd hf hk
      . exact .inr ⟨y,z,hf,e⟩
theorem Zz(hf:∀y∈scope.names,y.2=.free->∃c,env.cells.lookup y.1=some c):closureFor scope env=pure (r6 env.cells scope.names []):=by
 have go:∀(names:List (Str×NameKind))(acc:List (Str×Addr)),(∀y∈names,y.2=.free->∃c,env.cells.lookup y.1=some c) ->
   (forIn names acc fun x cs=>if(x.2==NameKind.free)=true then do let a <-cellOf env x.1;pure (ForInStep.yield ((x.1,a)::cs)) else pure (ForInStep.yield cs):Sem (List (Str×Addr)))=pure (r6 env.cells names acc):=by
  intro names
  induction names with
  |nil=>intro acc _;rfl
  |cons p r ih=>
   intro acc h
   obtain⟨n,k⟩:=p
   rw[Ih]
   by_cases hk:k=.free
   . subst hk;obtain⟨c,e⟩:=h (n,.free) io rfl;have e':env.cells.lookup n=some c:=e;have e1:cellOf env n=pure c:=by unfold cellOf;rw[e']
     have e2:r6 env.cells ((n,NameKind.free)::r) acc=r6 env.cells r ((n,c)::acc):=by show r6 env.cells r (if(NameKind.free==NameKind.free)=true then(n,(env.cells.lookup n).getD 0)::acc else acc)=_;rw[ζ (show(NameKind.free==NameKind.free)=true from rfl),e'];rfl
     rw[e2,<-ih _ fun y hy=>h y (dg _ hy)];show((if(NameKind.free==NameKind.free)=true then do let a <-cellOf env n;pure (ForInStep.yield ((n,a)::acc)) else pure (ForInStep.yield acc)) >>= _:Sem _)=_;rw[ζ (show(NameKind.free==NameKind.free)=true from rfl),e1];rfl
   . have ez:(k==NameKind.free)=false:=by simpa using hk
     have e2:r6 env.cells ((n,k)::r) acc=r6 env.cells r acc:=by show r6 env.cells r (if(k==NameKind.free)=true then _ else acc)=_;rw[ξ (by rw[ez];exact θ)]
     rw[e2,<-ih _ fun y hy=>h y (dg _ hy)];show((if(k==NameKind.free)=true then do let a <-cellOf env n;pure (ForInStep.yield ((n,a)::acc)) else pure (ForInStep.yield acc)) >>= _:Sem _)=_;rw[ξ (by rw[ez];exact θ)];rfl
 have:=go scope.names [] hf;unfold closureFor;simpa using this
theorem zbz(I:Nat->Shared->Prop)
  (turn:∀n s,I n s->wpAny (model prog w) A (pyNext it) (fun r af=>match r with
   |none=>R (.ok .next) af
   |some v=>wpAny (model prog w) A (letOwnedTupleGo target it v) (fun _ fP=>wpAny (model prog w) A (assign target env v) (fun _ aT=>
    wpAny (model prog w) A (forIn aB true fun c r=>if r=true then do let ok <-isTrue c env (eval c env);pure (ForInStep.yield ok) else pure (ForInStep.yield r)) (fun ok az=>
     if ok=true then wpAny (model prog w) A (eval aE env) (fun x cQ=>
      wpAny (model prog w) A (call (.builtin "list.append") [acc,x]) (fun _ iS=>∃m,m<n/\I m iS) (fun _ _=>False) cQ) (fun _ _=>False) az
     else ∃m,m<n/\I m az) (fun _ _=>False) aT) (fun _ _=>False) fP) (fun _ _=>False) af) (fun _ _=>False) s)
  (n:Nat) (h:I n s) :
  codeAny (model prog w) A (.compLoop (.ListComp aE [⟨target,iter,aB,0⟩] scope pos) 0 it acc env) R s:=by
 refine codeAny_loop rfl I (fun n s hI=>?_) n h
 show wpAny _ A ((compTurn (.ListComp aE [⟨target,iter,aB,0⟩] scope pos) 0 it acc env).onRaise (fun x=>do noteFrame x env;theTreesLotGoes x)) _ _ s
 refine wpAny_noted ?_
 rw[compTurn_list]
 refine δ (wpAny_standAt (δ (EZ (turn n s hI) (fun r af dG=>?_) fun _ _ h'=>h'.elim)))
 cases r with
 |none=>exact π dG
 |some v=>
  refine δ (EZ dG (fun _ fP lH=>?_) fun _ _ h'=>h'.elim)
  refine δ (EZ lH (fun _ aT nq=>δ (EZ nq (fun ok az iT=>?_) fun _ _ h'=>h'.elim)) fun _ _ h'=>h'.elim)
  cases ok with
  |false=>exact π ⟨rfl,iT⟩
  |true=>
   exact δ (δ (EZ iT (fun x cQ nt=>δ (EZ nt (fun _ iS nu=>π (π ⟨rfl,nu⟩)) fun _ _ h'=>h'.elim)) fun _ _ h'=>h'.elim))
theorem Nt{env:Env}:∀{names:List (Str×NameKind)}{x:Str},
  (names.map fun (n,k)=>if(k==NameKind.free&&env.scope.kind==.function&&env.kindOf n==some .cell) then(n,NameKind.cell) else(n,k)).lookup x =
   (names.lookup x).map fun k=>if(k==NameKind.free&&env.scope.kind==.function&&env.kindOf x==some .cell) then NameKind.cell else k
 | [],_=>rfl
 | (n,k)::r,x=>by
  have ih:=@Nt env r x;show List.lookup x ((if(k==NameKind.free&&env.scope.kind==.function&&env.kindOf n==some .cell)=true then(n,NameKind.cell) else(n,k))::_)=_;cases hx:x==n with
  |true=>
   have e:x=n:=by simpa using hx
   subst e
   by_cases hc:(k==NameKind.free&&env.scope.kind==.function&&env.kindOf x==some .cell)=true
   . rw[ζ hc];simp only[HC,hx,CZ,hc,EE]
   . rw[ξ hc];simp only[HC,hx,CZ,hc,DR];rfl
  |false=>
   by_cases hc:(k==NameKind.free&&env.scope.kind==.function&&env.kindOf n==some .cell)=true
   . rw[ζ hc];simp only[HC,hx];exact ih
   . rw[ξ hc];simp only[HC,hx];exact ih
def j6(X:Cx)(sc:Scope)(N':List Str)(fp:List Addr)(az:Shared)(ny:Hp):Cx:=
 { X with env:=compEnvC sc (r6 X.env.cells sc.names []) az.heap.objs.size X.env,N:=N',s₀:=az,H₀:=ny,outer:=X.stack,ex:=fp,fn:=fun _=>false,pn:=[],xe:=fun _ _=>False }
noncomputable def E2(ix:List Nat)(σ:St):St:=ix.map fun j=>(σ[j]?).getD none
structure CompOk(X:Cx)(sc:Scope)(caps:List Str)(ix:List Nat):Prop where
 calm:X.calm=true
 kind:sc.kind=.function
 ncell:∀y∈sc.names,y.2≠.cell
 free:∀y∈sc.names,y.2=.free->X.env.kindOf y.1=some .cell\/X.env.kindOf y.1=some .free
 names:∀y∈sc.names,y.2=.local->sc.names.lookup y.1=some .local
 cap:∀(j:Nat) x,caps[j]?=some x->sc.names.lookup x=some .free/\∃i,ix[j]?=some i/\X.N[i]?=some x
 len:ix.length=caps.length
noncomputable def Xf(fsc:Scope)(N:List Str)(sc:Scope)(caps:List Str)(ix:List Nat):Bool:=
 sc.kind==.function&&sc.names.all (fun y=>y.2 != .cell)&&sc.names.all (fun y=>y.2 != .free||(fsc.names.lookup y.1==some .cell||fsc.names.lookup y.1==some .free)) &&
  sc.names.all (fun y=>y.2 != .local||sc.names.lookup y.1==some .local)&&caps.all (fun x=>sc.names.lookup x==some .free)&&(ix.map fun i=>N[i]?)==caps.map some
theorem z9(hc:X.calm=true)(h:Xf X.env.scope X.N sc caps ix=true):CompOk X sc caps ix:=by
 unfold Xf at h;simp only[ng]at h;obtain⟨⟨⟨⟨⟨h1,h2⟩,h3⟩,h4⟩,h5⟩,h6⟩:=h;have e6:(ix.map fun i=>X.N[i]?)=caps.map some:=by simpa using h6
 have iU:ix.length=caps.length:=by simpa using EH List.length e6
 refine⟨hc,by simpa using h1,fun y hy=>?_,fun y hy hf=>?_,fun y hy hl=>?_,fun j x hj=>⟨?_,?_⟩,iU⟩
 . have:=DQ.mp h2 y hy;simpa using this
 . have:=DQ.mp h3 y hy;rw[hf]at this;simp only[bne_self_eq_false,Bool.false_or,HL,Im]at this;exact this
 . have:=DQ.mp h4 y hy;rw[hl]at this;simpa using this
 . have:=DQ.mp h5 x (EB hj);simpa using this
 . have nR:j<ix.length:=by rw[iU];exact(DM.mp hj).1
   refine⟨ix[j],CH nR,?_⟩;have q:=EH (fun l=>l[j]?) e6;simp only[DB,CH nR,hj,CZ]at q;exact Option.some.inj q
section
variable {X:Cx}{sc:Scope}{tgs caps:List Str}{ix:List Nat}{pins:List (Addr×Obj)}{σ:St}{H:Hp}{s:Shared}{fp:List Addr}
theorem CompOk.free_cell(C:CompOk X sc caps ix)(I:Inv X pins σ H s):∀y∈sc.names,y.2=.free->∃c,X.env.cells.lookup y.1=some c:=fun y hy hf=>I.ok.has y.1 (C.free y hy hf)
theorem CompOk.sub(C:CompOk X sc caps ix)(I:Inv X pins σ H s)(h:(r6 X.env.cells sc.names []).lookup x=some c):X.env.cells.lookup x=some c:=
 jd (C.free_cell I) (fun _ _ e=>by cases e) h
theorem zh1(C:CompOk X sc caps ix)(I:Inv X pins σ H s)(hf:∀b∈fp,v9 X pins H b)(hl:∀b∈fp,b<s.heap.objs.size)(hn:h'.Ns s.heap.objs.size m)
  (hk:∀b o,s.heap.get? b=some o->h'.get? b=some o) :
  Inv (j6 X sc (tgs++caps) fp s H) [] (List.replicate tgs.length none++E2 ix σ) H { s with heap:=h',toks:=t' }:=by
 have sub:∀{x c},(r6 X.env.cells sc.names []).lookup x=some c->X.env.cells.lookup x=some c:=fun h=>C.sub I h
 have AV:∀{x c},X.env.cells.lookup x=some c->c<s.heap.objs.size:=fun {x c} h=>by obtain⟨v,q⟩:=I.cell x c h;exact q.lt
 refine⟨⟨I.ok.mod,C.kind,I.ok.glob,I.ok.blt,η _,fun x y c h1 h2=>I.ok.inj x y c (sub h1) (sub h2),fun x hx=>?_,fun x c gh _=>?_,I.ok.hd,I.ok.frames,.inl rfl,fun b hb=>⟨?_,fun x c h z=>?_⟩,fun b o e=>I.bs b o e,CL I.ok.bsz I.sz,fun b o e hb=>?_,fun b hb gm=>?_,I.stack,I.stkFree⟩,
  rfl,I.bare,Un.kept hk,⟨m,hn,fun i x v e1 e2 e3=>?_⟩,fun x c h=>?_,I.hok.fresh (η _),fun x c h=>I.freeC x c (sub h),fun p hp=>absurd (show p∈([]:List (Addr×Obj)) from hp) (by simp),I.hok.kept hk,?_⟩
 . -- a cell or free name of the pR has a cell
   have dy:(relabel sc X.env).names.lookup x=some .cell\/(relabel sc X.env).names.lookup x=some .free:=hx;have e:(relabel sc X.env).names.lookup x=(sc.names.lookup x).map fun k=>if(k==NameKind.free&&X.env.scope.kind==.function&&X.env.kindOf x==some .cell) then NameKind.cell else k:=Nt
   rw[e]at dy;cases q:sc.names.lookup x with
   |none=>rw[q]at dy;rcases dy with z |z<;>cases z
   |some k=>
    have hm:(x,k)∈sc.names:=FK q
    have rn:k=.free:=by
     rw[q]at dy;simp only[CZ]at dy;by_cases dA:k=.free
     . exact dA
     . have:(k==NameKind.free)=false:=by simpa using dA
       simp only[this,Bool.false_and,CM,DR]at dy;rcases dy with z |z
       . exact absurd (Option.some.inj z) (C.ncell _ hm)
       . exact Option.some.inj z
    subst rn
    exact Na (.inr ⟨_,hm,rfl,rfl⟩)
 . exact absurd (show false=true from gh) θ
 . exact CY (hl b hb)
 . exact(hf b hb).2.2.2.2.1 x c (sub h) z
 . obtain⟨_,_,_,hx,_⟩:=hf b hb;rcases hx with z |z
   . exact I.ok.noex b o e z
   . exact absurd (CV (Ξ e) (CL I.ok.bsz z)) (FH _)
 . obtain⟨_,h1,h2,_⟩:=hf b hb;rcases gD.mp (I.stkSub b gm) with z |z
   . exact h1 z
   . exact h2 z
 . -- the mT pP fo
   have hi:tgs.length<=i:=by
    by_cases hi:i<tgs.length
    . rw[EI (by simpa using hi),List.getElem?_replicate]at e2;split at e2<;>cases e2
    . lia
   have rq:caps[i - tgs.length]?=some x:=by have:(tgs++caps)[i]?=some x:=e1;rw[DP hi]at this;exact this
   rw[DP (by simpa using hi),List.length_replicate]at e2;obtain⟨bV,j,hj,rz⟩:=C.cap _ x rq;have rA:σ[j]?=some (some v):=by
    unfold E2 at e2;rw[DB,hj]at e2;simp only[CZ]at e2;have e2:=Option.some.inj e2;cases q:σ[j]? with
    |none=>rw[q]at e2;cases e2
    |some o=>rw[q]at e2;exact EH some e2
   have iV:(x,NameKind.free)∈sc.names:=FK bV;have cH:=C.free _ iV rfl;obtain⟨m0,AW,nS⟩:=I.loc;have nz:Vis X.env.scope x:=cH.elim (fun z=>.inr (.inl z)) fun z=>.inr (.inr z)
   obtain⟨u,r,look⟩:=nS j x v rz rA nz;refine⟨u,r,?_⟩;rcases look with⟨k,_⟩ |⟨_,c,hc,z⟩
   . rcases cH with q |q
     . rw[show X.env.kindOf x=some .cell from q]at k;cases k
     . rw[show X.env.kindOf x=some .free from q]at k;cases k
   . obtain⟨c',aN⟩:=Na (cells:=X.env.cells) (names:=sc.names) (acc:=[]) (x:=x) (.inr ⟨_,iV,rfl,rfl⟩);have ef:c'=c:=by have:=sub aN;rw[hc]at this;exact(Option.some.inj this).symm
     subst ef;refine .inr ⟨?_,c',aN,?_⟩
     . have e:(relabel sc X.env).names.lookup x=(sc.names.lookup x).map fun k=>if(k==NameKind.free&&X.env.scope.kind==.function&&X.env.kindOf x==some .cell) then NameKind.cell else k:=Nt
       show(relabel sc X.env).names.lookup x=some .cell\/(relabel sc X.env).names.lookup x=some .free;rw[e,bV];simp only[CZ];split
       . exact .inl rfl
       . exact .inr rfl
     . obtain⟨o,ho,hd⟩:=z;exact⟨o,hk _ o ho,hd⟩
 . obtain⟨v,o,ho,hd⟩:=I.cell x c (sub h);exact⟨v,o,hk _ o ho,hd⟩
 . show _=(tgs++caps).length;unfold E2;rw[χ,List.length_replicate,bI,χ,C.len]
inductive PTs (X:Cx):List Expr->TT->Prop where
 |nil:PTs X [] (fun _ H Q=>Q true H)
 |one {c:Expr} {t:TT} (h:PT X c t):PTs X [c] t
theorem PTs.run(h:PTs X aB t)(I:Inv X pins σ H s)(q:t σ H Q) :
  wpAny (model X.prog X.w) X.A (forIn aB true fun c r=>if r=true then do let ok <-isTrue c X.env (eval c X.env);pure (ForInStep.yield ok) else pure (ForInStep.yield r)) (TP X pins σ Q) X.xe s:=by
 cases h with
 |nil=>exact wpAny_tests_nil ⟨H,I,q⟩
 |one h=>exact wpAny_tests_one (h pins s σ H Q I q)
def Qa(J:It)(D:Addr)(B:V->Hp->(List V->Hp->Prop)->Prop)(cs:St)(tt:TT)(te:TE)(Q:VK)(H1:Hp):Prop:=
 ∃W:Nat->Nat->List V->Hp->Prop,(∃m,W 0 m [] (upd H1 D (.lst [])))/\∀i m ys H,W i m ys H ->
  H D=some (.lst ys)/\((J.stop i H/\Q (.ref D) H)\/(J.go i H/\∀x H',J.yld i H x H'->B x H' fun aq H2=>tt (aq.map some++cs) H2 fun b H3=>
   if b=true then te (aq.map some++cs) H3 fun y H4=>H4 D=some (.lst ys)/\ys.length<sizeLine/\∃m',m'<m/\W (i+1) m' (ys++[y]) (upd H4 D (.lst (ys++[y])))
   else ∃m',m'<m/\W (i+1) m' ys H3))
def N2(wi:TI)(B:V->Hp->(List V->Hp->Prop)->Prop)(ix:List Nat)(tt:TT)(te:TE):TE:=fun σ H Q=>wi σ H fun J H1=>∀D,H1 D=none->Qa J D B (E2 ix σ) tt te Q H1
variable {aE tg iter:Expr}{aB:List Expr}{pos:Pos}{g:TG}{B:V->Hp->(List V->Hp->Prop)->Prop}{tt:TT}{te:TE}
theorem Yo(C:CompOk X sc caps ix)(hg:∀fp s H,PG (j6 X sc (tgs++caps) fp s H) tg g)
  (hB:∀(x:V)(bJ cs:St)(H:Hp)(Q:St->Hp->Prop),bJ.length=tgs.length->B x H (fun aq H2=>Q (aq.map some++cs) H2)->g x (bJ++cs) H fun aS H2=>(∃aq:List V,aq.length=tgs.length/\aS=aq.map some++cs)/\Q aS H2)
  (ht:∀fp s H,PTs (j6 X sc (tgs++caps) fp s H) aB tt) (he:∀fp s H,PE (j6 X sc (tgs++caps) fp s H) aE te)
  {J:It} {it:Addr} {tn:Nat->Heap->Prop} {Q:VK} {E:Value->Shared->Prop} (I2:Inv X pins σ H s) (T:Turn X.prog X.w X.K tg J fp it tn) (st:tn 0 s.heap) (hf:∀b∈fp,v9 X pins H b)
  (hw:∀D,H D=none->Qa J D B (E2 ix σ) tt te Q H) {RR:Value->Addr->Result->Shared->Prop}
  (rB:∀D Cc H' s' m,s'.heap.Ns Cc m->Inv X pins σ H' s'->v9 X pins H' Cc->Q (.ref D) H'->RR (.ref D) Cc (.ok .next) s') :
  wpAny (model X.prog X.w) X.A (newList []) (fun acc az=>wpAny (model X.prog X.w) X.A (newFunctionEnv sc X.env.globals (r6 X.env.cells sc.names []) [] X.env.qual none .none (some X.env)) (fun iW cQ=>
   codeAny (model X.prog X.w) X.A (.compStart (.ListComp aE [⟨tg,iter,aB,0⟩] sc pos) 0 (.ref it) acc { iW with scope:=relabel sc X.env }) (RR acc iW.locals) cQ) E az) E s:=by
 refine wpAny_newObj_type (wpAny_newFunctionEnv C.ncell (by intro y hy;simp at hy) (fun dG fq ft=>?_) C.kind)
 have I3:Inv X pins σ (upd H s.heap.objs.size (.lst [])) { s with heap:=s.heap.push { cls:=.type "list",dict:=none,data:=.seq ([]:List Value).toArray } }:=I2.lnew (t':=s.toks) (its:=[]) .nil (DG _)
 have rC:H s.heap.objs.size=none:=I2.fresh
 have nU:∀b∈fp,b<s.heap.objs.size:=fun b hb=>by obtain⟨o,e,_⟩:=T.obj _ _ st b hb;exact Ξ e
 have rD:∀b∈fp,b≠s.heap.objs.size:=fun b hb=>CY (nU b hb)
 have nV:∀b∈fp,v9 X pins (upd H s.heap.objs.size (.lst [])) b:=fun b hb=>⟨by rw[e9 (rD b hb)];exact(hf b hb).1,(hf b hb).2⟩
 generalize rE:({ s with heap:=s.heap.push { cls:=.type "list",dict:=none,data:=.seq ([]:List Value).toArray } }:Shared)=az at I3 fq ft⊢
 have iX:az.heap=s.heap.push { cls:=.type "list",dict:=none,data:=.seq ([]:List Value).toArray }:=by rw[<-rE]
 have du:tn 0 az.heap:=T.keep _ _ _ st fun b _ o e=>by rw[iX];exact Φ _ e
 have nW:∀b∈fp,b<az.heap.objs.size:=fun b hb=>by rw[iX,Heap.size_push];exact Nat.lt_succ_of_lt (nU b hb)
 generalize AX:s.heap.objs.size=D at *
 have nZ:∀b o,az.heap.get? b=some o->dG.get? b=some o:=fun b o e=>ft.extBut b o (CY (Ξ e)) (Φ _ e)
 have I4:=zh1 (tgs:=tgs) (t':=az.toks+([]:List (Str×Value)).length) C I3 nV nW fq nZ
 have cK:tn 0 dG:=T.keep _ _ _ du fun b _ o e=>nZ b o e
 have rF:∀b∈fp,(upd H D (.lst [])) b=none:=fun b hb=>(nV b hb).1
 generalize cL:j6 X sc (tgs++caps) fp az (upd H D (.lst []))=Xc at I4
 have bF:Xc.prog=X.prog:=by rw[<-cL];rfl
 have dB:Xc.w=X.w:=by rw[<-cL];rfl
 have og:Xc.K=X.K:=by rw[<-cL];rfl
 have fQ:Xc.calm=true:=by rw[<-cL];exact C.calm
 have hA:Xc.A=X.A:=by rw[<-cL];rfl
 have dX:Xc.env=compEnvC sc (r6 X.env.cells sc.names []) az.heap.objs.size X.env:=by rw[<-cL];rfl
 have iw:Xc.xe=fun _ _=>False:=by rw[<-cL];rfl
 have oh:=hg fp az (upd H D (.lst []))
 have oj:=ht fp az (upd H D (.lst []))
 have dC:=he fp az (upd H D (.lst []))
 rw[cL]at oh oj dC
 obtain⟨W,⟨m0,w0⟩,turn⟩:=hw D rC
 have cY:∀{H':Hp},(∀b∈fp,H' b=none)->∀b∈fp,v9 Xc [] H' b:=fun {H'} hn b hb=>by
  refine⟨hn b hb,?_,?_,.inl ?_,fun x c e z=>?_,fun p hp=>?_⟩
  . rw[dX];exact CY (nW b hb)
  . rw[<-cL];intro z;obtain⟨_,h1,h2,_⟩:=hf b hb;rcases gD.mp (I3.stkSub b z) with q |q
    . exact h1 q
    . exact h2 q
  . rw[<-cL];exact hb
  . rw[dX]at e;exact(hf b hb).2.2.2.2.1 x c (C.sub I2 e) z
  . rw[<-cL]at hp;exact absurd (show p∈([]:List (Addr×Obj)) from hp) (by simp)
 have loop:∀cQ:Shared,cQ={ az with heap:=dG,toks:=az.toks+([]:List (Str×Value)).length } ->
   codeAny (model X.prog X.w) X.A (.compLoop (.ListComp aE [⟨tg,iter,aB,0⟩] sc pos) 0 (.ref it) (.ref D) (compEnvC sc (r6 X.env.cells sc.names []) az.heap.objs.size X.env)) (RR (.ref D) az.heap.objs.size) cQ:=by
  intro cQ ol
  rw[<-bF,<-dB,<-hA,<-dX]
  refine zbz (fun n s'=>∃(i:Nat)(ys:List V)(bJ:St)(H':Hp),bJ.length=tgs.length/\Inv Xc [] (bJ++E2 ix σ) H' s'/\tn i s'.heap/\(∀b∈fp,H' b=none)/\W i n ys H') ?_ m0
   ⟨0,[],List.replicate tgs.length none,upd H D (.lst []),by simp,by rw[ol];exact I4,by rw[ol];exact cK,rF,w0⟩
  rintro n s5 ⟨i,ys,bJ,H5,rG,I5,fy,ir,w5⟩
  obtain⟨AY,lJ⟩:=turn i n ys H5 w5
  rcases lJ with⟨stop,q⟩ |⟨go,step⟩
  . rw[bF,dB];refine thn (T.done Xc bF dB og fQ i [] s5 _ H5 _ I5 (cY ir) fy stop) fun r s6 ⟨hr,I6⟩=>?_
    subst hr;obtain⟨m6,om,_⟩:=I6.loc;rw[dX]at om;have rH:∀b∈fp,(b∈X.ex\/X.s₀.heap.objs.size<=b)/\b≠X.env.locals/\(∀x c,X.env.cells.lookup x=some c->c≠b)/\∀p∈X.pn++pins,p.1≠b:=fun b hb=>⟨(hf b hb).2.2.2.1,(hf b hb).2.1,(hf b hb).2.2.2.2.1,(hf b hb).2.2.2.2.2⟩
    have gr:s6.os=az.os:=by have:=I6.os;rw[<-cL]at this;exact this
    have rJ:Un (frs X.stack) fp (upd H D (.lst [])) H5 az.heap s6.heap:=by have:=I6.base;rw[<-cL]at this;exact this
    have nA:HOk X.prog X.w H5 s6.heap:=by have:=I6.hok;rw[bF,dB]at this;exact this
    have I7:Inv X pins σ H5 s6:=I3.call' gr rJ nA I6.bare rH;refine rB D _ H5 s6 m6 om I7 ?_ q;have rK:H5 az.heap.objs.size=none:=by have:=I6.free;rw[dX]at this;exact this
    exact I3.fpOk (η _) rK
  . rw[bF,dB];refine thn (T.item Xc bF dB og fQ i [] s5 _ H5 _ I5 (cY ir) fy go) fun r s6 ⟨u,hr,h6⟩=>?_
    subst hr;refine thn h6 fun _ s7 ⟨x,H7,I7,r7,y7,lP,rL⟩=>?_
    have rM:=I7.pinned (cY rL) (T.obj _ _ lP);have bG:=oh _ s7 _ H7 x u _ rM r7 (hB x bJ (E2 ix σ) H7 (fun aS H2=>tt aS H2 fun b H3=>if b=true then te aS H3 fun y H4=>H4 D=some (.lst ys)/\ys.length<sizeLine/\∃m',m'<n/\W (i+1) m' (ys++[y]) (upd H4 D (.lst (ys++[y]))) else ∃m',m'<n/\W (i+1) m' ys H3) rG (step x H7 y7));rw[bF,dB,iw]at bG;refine thn bG fun _ s8 ⟨rN,H8,I8,⟨aq,oo,nC⟩,q8⟩=>?_
    have again:∀{H9:Hp}{s9:Shared},Inv Xc ([]++Aq fp s7.heap) rN H9 s9->tn (i+1) s9.heap/\∀b∈fp,H9 b=none:=fun {H9 s9} I9=>
     ⟨T.keep _ _ _ lP fun b hb o e=>(I9.pin (b,o) (CQ _ (CQ _ (Fy hb e)))).1,fun b hb=>by obtain⟨o,e,d⟩:=T.obj _ _ lP b hb;exact(I9.pin (b,o) (CQ _ (CQ _ (Fy hb e)))).2.1⟩
    subst nC;have df:=oj.run I8 q8;rw[bF,dB,iw]at df;refine thn df fun ok s9 ⟨H9,I9,q9⟩=>?_
    cases ok with
    |false=>
     rw[ξ θ]at q9⊢
     obtain⟨m',hm,w9⟩:=q9
     obtain⟨a1,a2⟩:=again I9
     exact⟨m',hm,i+1,ys,aq.map some,H9,by simpa using oo,I9.unpinned,a1,a2,w9⟩
    |true=>
     rw[ζ rfl]at q9⊢
     have oq:=dC _ s9 _ H9 _ I9 q9
     rw[bF,dB,iw]at oq
     refine thn oq fun uy rO ⟨y,ot,rP,rQ,nD,nE,m',hm,rR⟩=>?_
     have ou:=Q4 (X:=Xc) _ rO _ ot (.ref D) [y] (.ref D) [uy] (fun v ox=>v=.non/\ox=upd ot D (.lst (ys++[y]))) rP rfl (.cons rQ .nil) ⟨D,ys,y,rfl,rfl,nD,nE,rfl,rfl⟩
     rw[bF,dB,iw]at ou
     refine thn ou fun _ AZ ⟨v,ox,oy,_,_,rS⟩=>?_
     subst rS
     obtain⟨a1,a2⟩:=again oy
     exact⟨m',hm,i+1,ys++[y],aq.map some,_,by simpa using oo,oy.unpinned,a1,a2,rR⟩
 refine codeAny_compStart_list (loop _ rfl) (T.self X.A 0 _ _ _ cK (loop _ rfl))
theorem Uz(C:CompOk X sc caps ix)(hi:PI X tg iter wi)(hg:∀fp s H,PG (j6 X sc (tgs++caps) fp s H) tg g)
  (hB:∀(x:V)(bJ cs:St)(H:Hp)(Q:St->Hp->Prop),bJ.length=tgs.length->B x H (fun aq H2=>Q (aq.map some++cs) H2)->g x (bJ++cs) H fun aS H2=>(∃aq:List V,aq.length=tgs.length/\aS=aq.map some++cs)/\Q aS H2)
  (ht:∀fp s H,PTs (j6 X sc (tgs++caps) fp s H) aB tt) (he:∀fp s H,PE (j6 X sc (tgs++caps) fp s H) aE te)
  (hs:∀x,foldedSetIterable iter X.env x=pure x:=by intro _;rfl):PE X (.ListComp aE [⟨tg,iter,aB,0⟩] sc pos) (N2 wi B ix tt te):=by
 intro pins s σ H Q I h
 rw[eval_ListComp]
 refine wpAny_comprehension_free (use:=none) rfl hs (Zz (C.free_cell I)) C.kind C.names (thn (hi pins s σ H _ I h) fun v s1 h1=>thn h1 fun iq s2 h2=>?_)
 obtain⟨it,fp,tn,J,H2,e,I2,T,aD,f2,hw⟩:=h2
 subst e
 refine Yo (RR:=fun acc Cc=>compPost (model X.prog X.w) X.A X.xe none (EP X pins σ Q) acc Cc) C hg hB ht he I2 T aD f2 hw ?_
 intro D Cc H' s' m hn I' cM q
 refine⟨m,hn,fun h' sb=>⟨.ref D,H',?_,rfl,q⟩⟩
 exact I'.turned (t':=s'.toks) (fun b o hb e=>sb.extBut b o hb e) cM.1 cM.2.1 cM.2.2.2.1 cM.2.2.2.2.1 cM.2.2.2.2.2
theorem Uy(hN:X.N.Nodup)(hk:X.N[k]?=some x)(hx:X.env.scope.names.lookup x=some .local)(C:CompOk X sc caps ix)(hi:PI X tg iter wi)(hg:∀fp s H,PG (j6 X sc (tgs++caps) fp s H) tg g)
  (hB:∀(x:V)(bJ cs:St)(H:Hp)(Q:St->Hp->Prop),bJ.length=tgs.length->B x H (fun aq H2=>Q (aq.map some++cs) H2)->g x (bJ++cs) H fun aS H2=>(∃aq:List V,aq.length=tgs.length/\aS=aq.map some++cs)/\Q aS H2)
  (ht:∀fp s H,PTs (j6 X sc (tgs++caps) fp s H) aB tt) (he:∀fp s H,PE (j6 X sc (tgs++caps) fp s H) aE te)
  (cN:swapsWith (.ListComp aE [⟨tg,iter,aB,0⟩] sc pos) (some (.Name x px)) bM.line X.env=pure true:=by rfl)
  (hs:∀x,foldedSetIterable iter X.env x=pure x:=by intro _;rfl):PS X (.Assign [.Name x px] (.ListComp aE [⟨tg,iter,aB,0⟩] sc pos) bM) (B6 (N2 wi B ix tt te) (u9 k)):=by
 intro pins s σ H D0 I h
 rw[exec_Assign_Name_used _ _ _ _ cN]
 refine δ (wpAny_standAt (δ ?_))
 show wpAny _ X.A (do let _ <-comprehension (.ListComp aE [⟨tg,iter,aB,0⟩] sc pos) sc X.env _ (newList []) false (eval iter X.env) (some (assign (.Name x px) X.env))) _ _ s
 refine δ (EZ (wpAny_comprehension_free (use:=some (assign (.Name x px) X.env)) (Q:=fun _ s'=>SP X pins D0 .next s') rfl hs (Zz (C.free_cell I)) C.kind C.names
  (thn (hi pins s σ H _ I h) fun v s1 h1=>thn h1 fun iq s2 h2=>?_)) (fun _ s' hq=>π (π hq)) fun _ _ e=>e)
 obtain⟨it,fp,tn,J,H2,e,I2,T,aD,f2,hw⟩:=h2
 subst e
 refine Yo (RR:=fun acc Cc=>compPost (model X.prog X.w) X.A X.xe (some (assign (.Name x px) X.env)) (fun _ s'=>SP X pins D0 .next s') acc Cc) C hg hB ht he I2 T aD f2 hw ?_
 intro D Cc H' s' m hn I' cM q
 show wpAny _ X.A (assign (.Name x px) X.env (.ref D)) _ _ _
 refine wpAny_assign_Name (Xm I' hN hk (.inl hx) (v:=.ref D) rfl (fun eR rT cS=>?_) (.inr hx))
 obtain⟨a,sb,ha⟩:=cS
 have ag:Cc≠a:=by
  rcases ha with z |z
  . rw[z];exact cM.2.1
  . exact fun e=>cM.2.2.2.2.1 x a z e.symm
 refine⟨m,hn.sameBut sb ag,fun h' rV=>⟨_,H',?_,q⟩⟩
 exact rT.turned (t':=eR.toks) (fun b o hb e=>rV.extBut b o hb e) cM.1 cM.2.1 cM.2.2.2.1 cM.2.2.2.2.1 cM.2.2.2.2.2
end
section
variable {X:Cx}
theorem PE.imp(h:PE X e t)(hi:∀σ H Q,t' σ H Q->t σ H Q):PE X e t':=fun pins s σ H Q I q=>h pins s σ H Q I (hi σ H Q q)
theorem PT.imp(h:PT X e t)(hi:∀σ H Q,t' σ H Q->t σ H Q):PT X e t':=fun pins s σ H Q I q=>h pins s σ H Q I (hi σ H Q q)
theorem OpR.imp(h:OpR X f r)(hi:∀x y H Q,r' x y H Q->r x y H Q):OpR X f r':=fun pins s σ H x y v u Q I rx ry q=>h pins s σ H x y v u Q I rx ry (hi x y H Q q)
theorem UnR.imp(h:UnR X f r)(hi:∀x H Q,r' x H Q->r x H Q):UnR X f r':=fun pins s σ H x v Q I rx q=>h pins s σ H x v Q I rx (hi x H Q q)
end
noncomputable def n8(i:Nat):TE:=fun σ H Q=>match σ[i]? with |some (some v)=>Q v H |_=>False
theorem pw(i:Nat)(hN:X.N[i]?=some x:=by rfl)(hv:Vis X.env.scope x:=by first |exact .inl rfl |exact .inr (.inl rfl) |exact .inr (.inr rfl))(hd:(x==("__debug__":Str))=false:=by decide)
  (bU:(x==("__classdict__":Str))=false:=by decide):PE X (.Name x pos) (n8 i):=
 (Ss hN hv hd bU).imp fun σ H Q q=>by
  unfold n8 at q;unfold kj;split at q
  . rename_i v e;exact⟨v,e,q⟩
  . exact q.elim
noncomputable def cI(g:Int->Int->V):R2:=fun x y H Q=>match x,y with | .int i,.int j=>Q (g i j) H |_,_=>False
noncomputable def cIC(C:Int->Int->Prop)(g:Int->Int->V):R2:=fun x y H Q=>match x,y with | .int i,.int j=>C i j/\Q (g i j) H |_,_=>False
theorem OpR.cI(h:OpR X f (rI0 g)):OpR X f (cI g):=h.imp fun x y H Q q=>by cases x<;>cases y<;>first |exact⟨_,_,rfl,rfl,q⟩ |exact q.elim
theorem OpR.cIC(h:OpR X f (rI C g)):OpR X f (cIC C g):=h.imp fun x y H Q q=>by cases x<;>cases y<;>first |exact⟨_,_,rfl,rfl,q.1,q.2⟩ |exact q.elim
section
variable {X:Cx}
theorem J4:OpR X (binaryOp .Add) (cI fun i j=>.int (i+j)):=op_add.cI
theorem Ab:OpR X (binaryOp .Sub) (cI fun i j=>.int (i - j)):=op_sub.cI
theorem kQ:OpR X (binaryOp .Mult) (cIC CMul fun i j=>.int (i * j)):=op_mul.cIC
theorem Ep:OpR X (binaryOp .FloorDiv) (cIC O6 fun i j=>.int (i / j)):=op_fdiv.cIC
theorem C3:OpR X (binaryOp .Mod) (cIC (fun _ j=>0<j) fun i j=>.int (i % j)):=op_mod.cIC
theorem Z0:OpR X (compareOp .Lt) (cI fun i j=>.bl (decide (i<j))):=op_lt.cI
theorem Y9:OpR X (compareOp .LtE) (cI fun i j=>.bl (decide (i<=j))):=op_le.cI
theorem Ct:OpR X (compareOp .Gt) (cI fun i j=>.bl (decide (j<i))):=op_gt.cI
theorem y35:OpR X (compareOp .GtE) (cI fun i j=>.bl (decide (j<=i))):=op_ge.cI
def cU(g:Int->V):V->Hp->VK->Prop:=fun x H Q=>match x with | .int i=>Q (g i) H |_=>False
theorem Ds:UnR X (unaryOp .USub) (cU fun i=>.int (-i)):=un_neg.imp fun x H Q q=>by cases x<;>first |exact⟨_,rfl,q⟩ |exact q.elim
end
noncomputable def C2(H:Hp)(p:Addr):Option (List V):=match H p with
 |some (.lst xs)=>some xs
 |some (.tup xs)=>some xs
 |some (.frz _ (.lst xs))=>some xs
 |some (.frz _ (.tup xs))=>some xs
 |_=>none
theorem Wf{K:Frag}{H:Hp}{p:Addr}{xs:List V}(h:C2 H p=some xs):SqL K H p xs\/SqT K H p xs:=by
 unfold C2 at h;split at h;all_goals first | (cases h;done) |skip
 . rename_i ys e;cases h;exact .inl (.inl (.inl e))
 . rename_i ys e;cases h;exact .inr (.inl (.inl e))
 . rename_i o ys e;cases h;exact .inl (.inl (.inr ⟨_,e⟩))
 . rename_i o ys e;cases h;exact .inr (.inl (.inr ⟨_,e⟩))
theorem Xe(h:H p=some (.lst xs)):C2 H p=some xs:=by unfold C2;rw[h]
theorem Xd(h:H p=some (.tup xs)):C2 H p=some xs:=by unfold C2;rw[h]
def N1(x:V)(H:Hp)(Q:Bool->Hp->Prop):Prop:=match x with
 | .bl b=>Q b H
 | .int i=>Q (i != 0) H
 | .non=>Q false H
 | .str y=>y.length<=sizeLine/\Q ((y.length:Int) != 0) H
 | .ref p=>(match C2 H p with
  |some xs=>Q (!xs.isEmpty) H
  |none=>(match H p with |some (.dK kvs)=>Q (!kvs.isEmpty) H |_=>False))
 |_=>False
theorem We{K:Frag}{x:V}{H:Hp}{Q:Bool->Hp->Prop}(h:N1 x H Q):∃k,kc K x H k/\Q k H:=by
 cases x with
 |bl b=>exact⟨b,rfl,h⟩
 |int i=>exact⟨_,rfl,h⟩
 |non=>exact⟨_,rfl,h⟩
 |str y=>exact⟨_,⟨h.1,rfl⟩,h.2⟩
 |ref p=>
  unfold N1 at h
  dsimp only at h
  split at h
  . rename_i xs e;rcases Wf (K:=K) e with z |z
    . exact⟨_,.inl ⟨xs,z,rfl⟩,h⟩
    . exact⟨_,.inr (.inl ⟨xs,z,rfl⟩),h⟩
  . split at h
    . rename_i kvs e;exact⟨_,.inr (.inr ⟨kvs,e,rfl⟩),h⟩
    . exact h.elim
 |_=>exact h.elim
noncomputable def y36(t:TE):TT:=fun σ H Q=>t σ H fun x H'=>N1 x H' Q
section
variable {X:Cx}{a b c:Expr}{ta tb:TE}{pos:Pos}
theorem vP(ha:PE X a ta)(he:∀whole,isTrue a X.env whole=(do let v <-whole;standAt a.pos;holding [v] (truthy v)):=by intro _;rfl):PT X a (y36 ta):=by intro pins s σ H Q I h;exact isTrue_plain (thn (ha pins s σ H _ I h) fun v s1 ⟨x,H1,I1,r1,q1⟩=>Sm pins s1 σ H1 x v Q I1 r1 (We q1)) (he _)
noncomputable def Hu(t:TE):TT:=fun σ H Q=>t σ H fun x H'=>match x with | .bl k=>Q k H' |_=>False
theorem xO(ho:OpR X (compareOp op) r)(ha:PE X a ta)(hb:PE X b tb)(hm:behindInMarks op b=false):PT X (.Compare a [op] [b] pos) (Hu (tOp r ta tb)):=by
 intro pins s σ H Q I h;refine wpAny_isTrue_Compare1 (thn (ha pins s σ H _ I h) fun v s1 ⟨x,H1,I1,r1,q1⟩=>thn (hb pins s1 σ H1 _ I1 q1) fun u s2 ⟨y,H2,I2,r2,q2⟩=>
  thn (ho pins s2 σ H2 x y v u _ I2 r1 r2 q2) fun c s3 ⟨z,H3,I3,r3,q3⟩=>?_) hm
 cases z<;>first |exact q3.elim |skip
 cases r3;exact FO ⟨H3,I3,q3⟩
end
section
variable {X:Cx}{a b c:Expr}{ta tb:TE}{pos:Pos}
def PCh(X:Cx)(ops:List CmpOp)(rs:List Expr)(t:V->TE):Prop:=
 ∀(pos:Pos)(pins:List (Addr×Obj))(s:Shared)(σ:St)(H:Hp)(x:V)(v:Value)(Q:VK),Inv X pins σ H s->RelV x v->t x σ H Q->wpAny (model X.prog X.w) X.A (compareChain pos v ops (evalEach rs X.env)) (EP X pins σ Q) X.xe s
def PChT(X:Cx)(ops:List CmpOp)(rs:List Expr)(t:V->TT):Prop:=
 ∀(pos:Pos)(pins:List (Addr×Obj))(s:Shared)(σ:St)(H:Hp)(x:V)(v:Value)(Q:Bool->Hp->Prop),Inv X pins σ H s->RelV x v->t x σ H Q->wpAny (model X.prog X.w) X.A (testChain pos v ops (evalEach rs X.env)) (TP X pins σ Q) X.xe s
noncomputable def Pz(r:R2)(tb:TE):V->TE:=fun x σ H Q=>tb σ H fun y H2=>r x y H2 Q
noncomputable def Py(r:R2)(tb:TE)(t:V->TE):V->TE:=fun x σ H Q=>tb σ H fun y H2=>r x y H2 fun z H3=>match z with | .bl k=>(if k=true then t y σ H3 Q else Q (.bl false) H3) |_=>False
noncomputable def Sj(r:R2)(tb:TE):V->TT:=fun x σ H Q=>tb σ H fun y H2=>r x y H2 fun z H3=>match z with | .bl k=>Q k H3 |_=>False
noncomputable def Si(r:R2)(tb:TE)(t:V->TT):V->TT:=fun x σ H Q=>tb σ H fun y H2=>r x y H2 fun z H3=>match z with | .bl k=>(if k=true then t y σ H3 Q else Q false H3) |_=>False
theorem yQ(ho:OpR X (compareOp op) r)(hb:PE X b tb):PCh X [op] [b] (Pz r tb):=by intro pos pins s σ H x v Q I rx h;exact chain_last (thn (hb pins s σ H _ I h) fun u s2 ⟨y,H2,I2,r2,q2⟩=>ho pins s2 σ H2 x y v u Q I2 rx r2 q2)
theorem yP(ho:OpR X (compareOp op) r)(hb:PE X b tb)(hr:PCh X (eA::ops) (r'::rs) t):PCh X (op::eA::ops) (b::r'::rs) (Py r tb t):=by
 intro pos pins s σ H x v Q I rx h;refine chain_link (thn (hb pins s σ H _ I h) fun u s2 ⟨y,H2,I2,r2,q2⟩=>thn (ho pins s2 σ H2 x y v u _ I2 rx r2 q2) fun d s3 ⟨z,H3,I3,r3,q3⟩=>?_);cases z<;>first |exact q3.elim |skip
 rename_i k;cases r3;refine FO ?_;cases k with
 |false=>exact ite_ff ⟨.bl false,H3,I3,rfl,by simpa using q3⟩
 |true=>exact ite_tt (hr pos pins s3 σ H3 y u Q I3 r2 (by simpa using q3))
theorem zy(ho:OpR X (compareOp op) r)(hb:PE X b tb):PChT X [op] [b] (Sj r tb):=by
 intro pos pins s σ H x v Q I rx h;refine test_last (thn (hb pins s σ H _ I h) fun u s2 ⟨y,H2,I2,r2,q2⟩=>thn (ho pins s2 σ H2 x y v u _ I2 rx r2 q2) fun d s3 ⟨z,H3,I3,r3,q3⟩=>?_);cases z<;>first |exact q3.elim |skip
 cases r3;exact FO ⟨H3,I3,q3⟩
theorem zx(ho:OpR X (compareOp op) r)(hb:PE X b tb)(hr:PChT X (eA::ops) (r'::rs) t):PChT X (op::eA::ops) (b::r'::rs) (Si r tb t):=by
 intro pos pins s σ H x v Q I rx h;refine test_link (thn (hb pins s σ H _ I h) fun u s2 ⟨y,H2,I2,r2,q2⟩=>thn (ho pins s2 σ H2 x y v u _ I2 rx r2 q2) fun d s3 ⟨z,H3,I3,r3,q3⟩=>?_);cases z<;>first |exact q3.elim |skip
 rename_i k;cases r3;refine FO ?_;cases k with
 |false=>exact ite_ff ⟨H3,I3,by simpa using q3⟩
 |true=>exact ite_tt (hr pos pins s3 σ H3 y u Q I3 r2 (by simpa using q3))
noncomputable def jS(ta:TE)(t:V->TE):TE:=fun σ H Q=>ta σ H fun x H1=>t x σ H1 Q
noncomputable def Px(ta:TE)(t:V->TT):TT:=fun σ H Q=>ta σ H fun x H1=>t x σ H1 Q
theorem vO(ha:PE X a ta)(hr:PCh X (bq::br::ops) (bZ::cc::rs) t)(hm:lastMarks (bq::br::ops) (bZ::cc::rs)=false:=by with_unfolding_all rfl) :
  PE X (.Compare a (bq::br::ops) (bZ::cc::rs) pos) (jS ta t):=by
 intro pins s σ H Q I h
 exact Compare_chain (thn (ha pins s σ H _ I h) fun v s1 ⟨x,H1,I1,r1,q1⟩=>hr pos pins s1 σ H1 x v Q I1 r1 q1) hm
theorem vN(ha:PE X a ta)(hr:PChT X (bq::br::ops) (bZ::cc::rs) t)(hm:lastMarks (bq::br::ops) (bZ::cc::rs)=false:=by with_unfolding_all rfl) :
  PT X (.Compare a (bq::br::ops) (bZ::cc::rs) pos) (Px ta t):=by
 intro pins s σ H Q I h
 exact isTrue_chain (thn (ha pins s σ H _ I h) fun v s1 ⟨x,H1,I1,r1,q1⟩=>hr pos pins s1 σ H1 x v Q I1 r1 q1) hm
noncomputable def Pw(ta tb:TE):TE:=fun σ H Q=>ta σ H fun x H1=>match x with | .bl c=>(if c=true then tb σ H1 Q else Q (.bl false) H1) |_=>False
noncomputable def jR(ta tb:TE):TE:=fun σ H Q=>ta σ H fun x H1=>match x with | .bl c=>(if c=true then Q (.bl true) H1 else tb σ H1 Q) |_=>False
end
section
variable {X:Cx}{a b c:Expr}{ta tb:TE}{pos:Pos}{rest:List Expr}
theorem xN(ha:PE X a ta)(hb:PE X (.BoolOp .And (b::rest) pos) tb):PE X (.BoolOp .And (a::b::rest) pos) (Pw ta tb):=by
 intro pins s σ H Q I h;refine BoolOp_and (thn (ha pins s σ H _ I h) fun v s1 ⟨x,H1,I1,r1,q1⟩=>?_);cases x<;>first |exact q1.elim |skip
 rename_i k;cases r1;refine FO ?_;cases k with
 |true=>exact ite_tt (hb pins s1 σ H1 Q I1 (by simpa using q1))
 |false=>exact ite_ff ⟨.bl false,H1,I1,rfl,by simpa using q1⟩
theorem vM(ha:PE X a ta)(hb:PE X (.BoolOp .Or (b::rest) pos) tb):PE X (.BoolOp .Or (a::b::rest) pos) (jR ta tb):=by
 intro pins s σ H Q I h;refine BoolOp_or (thn (ha pins s σ H _ I h) fun v s1 ⟨x,H1,I1,r1,q1⟩=>?_);cases x<;>first |exact q1.elim |skip
 rename_i k;cases r1;refine FO ?_;cases k with
 |true=>exact ite_tt ⟨.bl true,H1,I1,rfl,by simpa using q1⟩
 |false=>exact ite_ff (hb pins s1 σ H1 Q I1 (by simpa using q1))
noncomputable def kP(ta:TE):TE:=fun σ H Q=>ta σ H fun x H1=>N1 x H1 fun k H2=>Q (.bl (!k)) H2
theorem xM(ha:PE X a ta):PE X (.UnaryOp .Not a pos) (kP ta):=by intro pins s σ H Q I h;refine UnaryOp_ (thn (ha pins s σ H _ I h) fun v s1 ⟨x,H1,I1,r1,q1⟩=>not_of ?_);exact thn (Sm pins s1 σ H1 x v _ I1 r1 (We q1)) fun k s2 ⟨H2,I2,q2⟩=>⟨.bl (!k),H2,I2,rfl,q2⟩
noncomputable def J3(H:Hp):V->Option String
 | .non=>some "NoneType"
 | .bl _=>some "bool"
 | .int _=>some "int"
 | .str _=>some "str"
 | .ref a=>(match H a with
  |some (.lst _)=>some "list"
  |some (.frz _ (.lst _))=>some "list"
  |some (.tup _)=>some "tuple"
  |some (.dK _)=>some "dict"
  |some (.dT _)=>some "dict"
  |_=>none)
 |_=>none
noncomputable def E1(t c:String):Bool:=t==c||(t=="bool"&&c=="int")
noncomputable def E9(c:String):Bool:=["int","bool","str","list","tuple","dict"].contains c
theorem K3{K:Frag}{t c:String}(ht:["NoneType","bool","int","str","list","tuple","dict"].contains t=true)(hc:E9 c=true):PySem.W.kitOne K (.type t) (.type c)=some (E1 t c):=by
 have h1:t="NoneType"\/t="bool"\/t="int"\/t="str"\/t="list"\/t="tuple"\/t="dict":=by simpa using ht
 have h2:c="int"\/c="bool"\/c="str"\/c="list"\/c="tuple"\/c="dict":=by simpa [E9] using hc
 rcases h1 with rfl |rfl |rfl |rfl |rfl |rfl |rfl<;>rcases h2 with rfl |rfl |rfl |rfl |rfl |rfl<;>first |rfl | (with_unfolding_all rfl)
theorem yO:CallR X (.builtin "isinstance") (fun xs H Q=>match xs with
  | [x,.ty c]=>E9 c=true/\(match J3 H x with |some t=>Q (.bl (E1 t c)) H |none=>False)
  |_=>False):=by
 intro pins s σ H xs us Q I r h
 split at h
 . rename_i x c;obtain⟨hc,h⟩:=h;obtain⟨u,w',rfl,ru,ce⟩:=kY r;cases ce;split at h
   . rename_i t et;have fin:∀(tk:Nat),EP X pins σ Q (.bool (E1 t c)) { s with toks:=tk }:=fun tk=>⟨.bl _,H,I.tok _,rfl,h⟩
     cases x<;>simp only[J3]at et
     case non=>cases et;exact K4 I ru .non (K3 (by decide) hc) fin
     case bl b=>cases et;exact K4 I ru (.bl b) (K3 (by decide) hc) fin
     case int b=>cases et;exact K4 I ru (.int b) (K3 (by decide) hc) fin
     case str b=>cases et;exact K4 I ru (.str b) (K3 (by decide) hc) fin
     case ref a=>
      split at et<;>first | (cases et;done) |skip
      . rename_i ys e;cases et;exact K4 I ru (.lst e) (K3 (by decide) hc) fin
      . rename_i o ys e;cases et;exact K4 I ru (.frz e) (K3 (by decide) hc) fin
      . rename_i ys e;cases et;exact K4 I ru (.tup e) (K3 (by decide) hc) fin
      . rename_i ys e;cases et;exact K4 I ru (.dK e) (K3 (by decide) hc) fin
      . rename_i ys e;cases et;exact K4 I ru (.dT e) (K3 (by decide) hc) fin
     all_goals cases et
   . exact h.elim
 . exact h.elim
theorem zv(hc:X.calm=true):CallR X (.builtin "sum") (fun xs H Q=>match xs with
  | [.ref p]=>∃ns:List Int,C2 H p=some (ns.map V.int)/\Q (.int ns.sum) H
  |_=>False):=by
 intro pins s σ H xs us Q I r h
 split at h
 . rename_i p;obtain⟨ns,e,q⟩:=h;obtain⟨u,rfl,ru⟩:=J5 r;cases ru;have key:∀{its:List Value},Vals (ns.map V.int) its->∃ys:Array (Int×Tok),its.toArray=intItems ys/\preSum (numAt ys) ys.size=ns.sum:=fun {its} rv=>by
    have hi:=Yp rv;obtain⟨ys,hx⟩:=hi.allInts.items;refine⟨ys,hx,?_⟩;have e1:ns=ys.toList.map (·.1):=by rw[<-nums_intItems,<-hx];exact(show numsOf its.toArray.toList=ns from hi.numsOf).symm
    rw[preSum_eq,DU (by simp),e1]
   rcases Wf (K:=X.K) e with hq |hq
   . obtain⟨its,rv,pl,_⟩:=I.list hq;obtain⟨ys,hx,es⟩:=key rv;refine sum_intListG (I.ok.hd hc) (hx ▸ pl.isList) fun h' tk t' hk=>?_
     rw[es];exact⟨.int ns.sum,H,I.kept hk,⟨_,rfl⟩,q⟩
   . obtain⟨its,rv,pl,_⟩:=I.tuple hq;obtain⟨ys,hx,es⟩:=key rv;refine PySem.W.ktm_sumG (I.ok.hd hc) (hx ▸ pl) fun h' tk t' hk=>?_
     rw[es];exact⟨.int ns.sum,H,I.kept hk,⟨_,rfl⟩,q⟩
 . exact h.elim
abbrev Ht(s:Shared)(L:Addr):List (Addr×Obj):=Fn (Att.noObjs s.heap) s.heap L
section
variable {pins:List (Addr×Obj)}{σ:St}{H:Hp}{s:Shared}{h':Heap}{m:Str->Option Value}
theorem Yn(N:News (Att.noObjs s.heap) L h' (Ht s L)):∀b o,b≠L->s.heap.get? b=some o->h'.get? b=some o:=fun b o hb e=>(N (b,o) (zdm hb (Att.noObjs_get _ _) e)).1
theorem Inv.frn(I:Inv X pins σ H s)(hn:s.heap.Ns X.env.locals m)(F:Fr (Att.noObjs s.heap) X.env.locals h' m)(N:News (Att.noObjs s.heap) X.env.locals h' (Ht s X.env.locals)):Inv X pins σ H { s with heap:=h',toks:=tk }:=by
 have kept:=Yn N;refine I.step (g':=s.gens) (d':=s.drawn) (ch:=[]) (fun _ z=>nomatch z) (fun b o hL _ _ e _=>kept b o hL e) (fun b o hL _ _ e _=>⟨o.slots,kept b o hL e⟩) (fun _ _ _ _ n=>n) (fun b o _ e=>?_) (fun _ _ e=>e) (fun _ _ _ e=>e) (fun b ps e=>⟨#[],by rw[e];simp⟩) (fun m' hm=>?_) (fun b u e=>?_) I.bare
 . by_cases hb:b=X.env.locals
   . subst hb;obtain⟨o',_,_,bi,_⟩:=F.ns;exact⟨o',bi⟩
   . exact⟨o,kept b o hb e⟩
 . rw[hm.eq_nsMap,<-hn.eq_nsMap];exact F.ns
 . refine(I.hok b u e).stay (fun c v hc q=>kept c v ?_ q) (fun _ q=>q) fun _ _ q=>q
   intro z;rcases hc with hc |hc
   . rw[<-hc,z,I.free]at e;cases e
   . rw[z,I.free]at hc;cases hc
theorem Inv.frnew(I:Inv X pins σ H s)(hn:s.heap.Ns X.env.locals m)(F:Fr (Att.noObjs s.heap) X.env.locals h' m)(N:News (Att.noObjs s.heap) X.env.locals h' ((D,ob)::Ht s X.env.locals))
  (hD:s.heap.get? D=none) (new:ObjOk X.prog X.w (upd H D o) h' D o):H D=none/\Inv X pins σ (upd H D o) { s with heap:=h',toks:=tk }:=by
 have kept:=Yn (fun p hp=>N p (.tail _ hp))
 have A':D≠X.env.locals:=(N (D,ob) (.head _)).2.1
 have rW:∀b o,s.heap.get? b=some o->b≠D:=fun b o e z=>by rw[z,hD]at e;cases e
 have HD:H D=none:=by
  cases q:H D with
  |none=>rfl
  |some u=>
   have:=(I.hok D u q).lt
   obtain⟨v,hv⟩:∃v,s.heap.get? D=some v:=by
    have z:=I.hok D u q;cases u with
    |lst xs=>obtain⟨_,_,_,_,e⟩:=z;exact⟨_,e⟩
    |tup xs=>obtain⟨_,_,_,o,e,_⟩:=z;exact⟨_,e⟩
    |dK kvs=>obtain⟨_,_,_,_,o,_,_,e,_⟩:=z;exact⟨_,e⟩
    |dT kvs=>obtain⟨_,_,_,_,o,_,_,e,_⟩:=z;exact⟨_,e⟩
    |set S n=>obtain⟨_,_,_,_,e,_⟩:=z;exact⟨_,e⟩
    |ins C dx fs=>obtain⟨_,_,_,e,_⟩:=z;exact⟨_,e⟩
    |own x=>exact z
    |xd fs=>obtain⟨mA,n1,_⟩:=z;obtain⟨o,_,_,e,_⟩:=n1;exact⟨o,e⟩
    |met f x=>exact⟨_,z⟩
    |rng lo hi=>obtain⟨_,_,_,e⟩:=z;exact⟨_,e⟩
    |frz o u=>exact⟨_,z.1⟩
    |tbl ps=>exact⟨_,z⟩
    |ctb q=>obtain⟨_,e,_⟩:=z;exact⟨_,e⟩
    |ext φ=>exact z.2.1
   rw[hD]at hv;cases hv
 refine⟨HD,I.step (g':=s.gens) (d':=s.drawn) (ch:=[]) (fun _ z=>nomatch z) (fun b o hL _ _ e _=>kept b o hL e) (fun b o hL _ _ e _=>⟨o.slots,kept b o hL e⟩) (fun b ob _ e n=>by rw[e9 (rW b ob e)];exact n) (fun b o _ e=>?_)
  (fun b xs e=>by rw[e9 (r8 e HD)];exact e) (fun b u xs e=>by rw[e9 (r8 e HD)];exact e) (fun b ps e=>⟨#[],by rw[e9 (r8 e HD),e];simp⟩) (fun m' hm=>?_) (fun b u e=>?_) I.bare⟩
 . by_cases hb:b=X.env.locals
   . subst hb;obtain⟨o',_,_,bi,_⟩:=F.ns;exact⟨o',bi⟩
   . exact⟨o,kept b o hb e⟩
 . rw[hm.eq_nsMap,<-hn.eq_nsMap];exact F.ns
 . by_cases hb:b=D
   . subst hb;rw[k9]at e;cases e;exact new
   . rw[e9 hb]at e;refine(I.hok b u e).stay (fun c v hc q=>kept c v ?_ q) (fun c q=>?_) fun c xs q=>?_
     . intro z;rcases hc with hc |hc
       . rw[<-hc,z,I.free]at e;cases e
       . rw[z,I.free]at hc;cases hc
     . rw[e9 (r8 q HD)];exact q
     . rw[e9 (r8 q HD)];exact q
end
end
noncomputable def ItS(S:Hp->Prop)(xs:List V):It:=⟨fun i H=>S H/\i<xs.length,fun i H x H'=>H'=H/\xs[i]?=some x,fun i H=>S H/\xs.length<=i⟩
theorem Turn.conv{P:Program}{w:World}{K:Frag}{tg:Expr}{J J':It}{fp:List Addr}{it:Addr}{tn:Nat->Heap->Prop}(T:Turn P w K tg J fp it tn)(h1:∀i H,J'.go i H->J.go i H)(h2:∀i H x H',J'.go i H->J.yld i H x H'->J'.yld i H x H')
  (h3:∀i H,J'.stop i H->J.stop i H):Turn P w K tg J' fp it tn where
 mem:=T.mem
 obj:=T.obj
 keep:=T.keep
 item:=fun X a b c d i pins s σ H E I hf st hg=>thn (T.item X a b c d i pins s σ H E I hf st (h1 i H hg)) fun r s1 ⟨u,e,h⟩=>⟨u,e,thn h fun _ s2 ⟨x,H',I',r',y',st',cr⟩=>⟨x,H',I',r',h2 i H x H' hg y',st',cr⟩⟩
 done:=fun X a b c d i pins s σ H E I hf st hg=>T.done X a b c d i pins s σ H E I hf st (h3 i H hg)
 self:=T.self
section
variable {X:Cx}{tg:Expr}
def R9(x:V)(H1:Hp)(R:It->Hp->Prop):Prop:=match x with
 | .ref a=>(match H1 a with
  |some (.lst xs)=>R (ItS (fun H'=>Rd H' a (.lst xs)) xs) H1
  |some (.frz _ (.lst xs))=>R (ItS (fun H'=>Rd H' a (.lst xs)) xs) H1
  |some (.tup xs)=>R (ItS (fun H'=>H' a=some (.tup xs)) xs) H1
  |_=>False)
 |_=>False
theorem yN(h:Rd H a (.lst xs))(r:R (ItS (fun H'=>Rd H' a (.lst xs)) xs) H):R9 (.ref a) H R:=by
 unfold R9;rcases h with h |⟨o,h⟩
 . dsimp only;rw[h];exact r
 . dsimp only;rw[h];exact r
theorem yM(h:H a=some (.tup xs))(r:R (ItS (fun H'=>H' a=some (.tup xs)) xs) H):R9 (.ref a) H R:=by unfold R9;dsimp only;rw[h];exact r
noncomputable def y37(K:Frag)(tl:TE):TI:=fun σ H R=>tl σ H fun x H1=>R9 x H1 R
theorem vL(hl:PE X l tl):PI X tg l (y37 X.K tl):=by
 intro pins s σ H R I h;refine thn (hl pins s σ H _ I h) fun v s1 ⟨x,H1,I1,r1,q1⟩=>?_
 cases x<;>first |exact q1.elim |skip
 rename_i a;cases r1;unfold R9 at q1;dsimp only at q1;have fu:∀xs,Rd H1 a (.lst xs)->R (ItS (fun H'=>Rd H' a (.lst xs)) xs) H1->wpAny (model X.prog X.w) X.A (pyIter (.ref a)) (PIE X pins σ tg R) X.xe s1:=fun xs hq q=>by
  obtain⟨its,rv,p,hz⟩:=I1.list (.inl hq);refine wpAny_pyIter_list p.isList ?_;refine⟨s1.heap.objs.size,[s1.heap.objs.size],_,_,H1,rfl,I1.kept (t':=s1.toks) fun b o e=>Φ _ e,(zJ a _).conv ?_ ?_ ?_,⟨_,Ω _ rfl,rfl,rfl⟩,fun b hb=>?_,q⟩
  . exact fun i H' ⟨h1,h2⟩=>⟨xs,xs[i],.inl h1,by simp[h2]⟩
  . exact fun i H' x gw ⟨h1,h2⟩ ⟨e,y⟩=>⟨e,y xs (.inl h1)⟩
  . exact fun i H' ⟨h1,h2⟩=>⟨xs,.inl h1,h2⟩
  . have e:b=s1.heap.objs.size:=by simpa using hb
    subst e;exact I1.fpOk (η _) (I1.hok.fresh (η _))
 split at q1
 . rename_i xs e;exact fu xs (.inl e) q1
 . rename_i o xs e;exact fu xs (.inr ⟨o,e⟩) q1
 . rename_i xs e;obtain⟨its,rv,p,hz⟩:=I1.tuple (.of e);refine wpAny_pyIter_tuple (show s1.heap.IsTuple a its.toArray from p) ?_;refine⟨s1.heap.objs.size,[s1.heap.objs.size],_,_,H1,rfl,I1.kept (t':=s1.toks) fun b o e=>Φ _ e,(zgx a _).conv ?_ ?_ ?_,⟨_,Ω _ rfl,rfl,rfl⟩,fun b hb=>?_,q1⟩
   . exact fun i H' ⟨h1,h2⟩=>⟨xs,xs[i],.of h1,by simp[h2]⟩
   . exact fun i H' x gw ⟨h1,h2⟩ ⟨e,y⟩=>⟨e,y xs (.of h1)⟩
   . exact fun i H' ⟨h1,h2⟩=>⟨xs,.of h1,h2⟩
   . have e:b=s1.heap.objs.size:=by simpa using hb
     subst e;exact I1.fpOk (η _) (I1.hok.fresh (η _))
 . exact q1.elim
noncomputable def O5(lo:Int)(n:Nat):List V:=(List.range n).map fun (i:Nat)=>V.int (lo+i)
theorem Wd(lo:Int)(n:Nat):(O5 lo n).length=n:=by simp[O5]
theorem xL(lo:Int)(n i:Nat)(h:i<n):(O5 lo n)[i]?=some (.int (lo+i)):=by simp[O5,h]
end
def jQ(J:It)(g:TG)(tb:TS)(D:Ends)(σ:St)(H1:Hp):Prop:=∃W:Nat->Nat->St->Hp->Prop,(∃m,W 0 m σ H1)/\∀i m σ H,W i m σ H ->
 (J.stop i H/\D.nx σ H)\/(J.go i H/\∃N:St->Hp->Prop,(∀ae H',N ae H'->∃m',m'<m/\W (i+1) m' ae H')/\∀x H',J.yld i H x H'->g x σ H' fun aS H2=>tb { D with nx:=N,ct:=N,bk:=D.nx } aS H2)
noncomputable def Pv(wi:TI)(g:TG)(tb:TS):TS:=fun D σ H=>wi σ H fun J H1=>jQ J g tb D σ H1
theorem Ux(hp:PassesOwn (model X.prog X.w) X.A X.env X.xe)(hc:X.calm=true)(hi:PI X tg iter wi)(hg:PG X tg g)(hb:PSs X body tb)
 (hs:∀x,foldedSetIterable iter X.env x=pure x:=by intro _;rfl):PS X (.For tg iter body [] pos) (Pv wi g tb):=wa hp hc hi hg hb hs
theorem Same.upd_new(h:H a=none):Same H (upd H a o):=fun b u e=>by rw[e9 (r8 e h)];exact e
theorem Same.upd_at(s:Same H H1)(h:H a=none):Same H (upd H1 a o):=fun b u e=>by rw[e9 (r8 e h)];exact s b u e
theorem xK{prog:Program}{w:World}{A:Around}{E:Value->Shared->Prop}{s:Shared}{e it l:Addr}(gx:e≠it)(cT:l≠e)(gy:l≠it){items:Array Value}{i:Nat}{Q:Option Value->Shared->Prop}(hi:i<items.size)
  (he:∃bS,IsEnum s.heap e it i bS) (h1:s.heap.IsListIter it l i) (g1:s.heap.IsList l items)
  (q:∀T aq h' tk,(∃t x,items[i]?=some x/\aq=#[.int i t,x])->s.heap.objs.size<=T->IsTp h' T aq->((∃x,IsEnumOut h' e it ((i:Int)+1) x T)/\h'.IsListIter it l (i+1)/\h'.IsList l items/\T≠e/\T≠it) ->
   (∀c o,c∉[e,it]->s.heap.get? c=some o->h'.get? c=some o)->Q (some (.ref T)) { s with heap:=h',toks:=tk }):wpAny (model prog w) A (pyNext (.ref e)) Q E s:=by
 obtain⟨bS,he⟩:=he
 have gt:∀{c:Addr}{o:Obj},s.heap.get? c=some o->s.heap.objs.size≠c:=fun e z=>absurd (Ξ e) (by rw[z];exact FH _)
 have n1:s.heap.objs.size≠it:=by obtain⟨_,e,_⟩:=h1;exact gt e
 refine wpAny_pyNext_enum_item he h1 g1 (x:=items[i]) (by simp[hi]) gx fun h' r1 r2 r3 _ kp=>?_
 have kl:∀c o,c∉[e,it]->s.heap.get? c=some o->h'.get? c=some o:=fun c o hc e=>by simp only[gD,FD,or_false,not_or]at hc;exact kp c o hc.1 hc.2 e
 exact q s.heap.objs.size #[.int i s.toks,items[i]] h' (s.toks+1) ⟨_,_,by simp[hi],rfl⟩ (η _) (.mk' r3) ⟨⟨_,r1⟩,r2,g1.at fun o e=>kp _ o cT gy e,gt he,n1⟩ kl
section
variable {X:Cx}{pins:List (Addr×Obj)}{σ:St}{H:Hp}{s:Shared}
theorem Inv.turnedT{wr:List Addr}{h':Heap}{tk:Nat}{T:Addr}{xs:List V}{its:List Value}(I:Inv X pins σ H s)(hw:∀b∈wr,v9 X pins H b)(k:∀b o,b∉wr->s.heap.get? b=some o->h'.get? b=some o)
  (hT:s.heap.objs.size<=T) (ht:IsTp h' T its.toArray) (rv:Vals xs its) (hz:xs.length<=sizeLine):Inv X pins σ (upd H T (.tup xs)) { s with heap:=h',toks:=tk }:=by
 have HT:H T=none:=I.hok.fresh hT
 have nw:∀b u,H b=some u->b∉wr:=fun b u e z=>by rw[(hw b z).1]at e;cases e
 have neT:∀b o,s.heap.get? b=some o->b≠T:=fun b o e=>CY (CV (Ξ e) hT)
 refine I.step (g':=s.gens) (d':=s.drawn) (ch:=wr) (fun b hb=>⟨(hw b hb).2.2.2.1,(hw b hb).2.1,(hw b hb).2.2.2.2.1,(hw b hb).2.2.2.2.2⟩) (fun b o _ _ hc e _=>k b o hc e) (fun b o _ _ hc e _=>⟨o.slots,k b o hc e⟩)
  (fun b o _ e n=>by rw[e9 (neT b o e)];exact n) (fun b o hc e=>⟨o,k b o hc e⟩) (fun b ys e=>by rw[e9 (r8 e HT)];exact e) (fun b u ys e=>by rw[e9 (r8 e HT)];exact e)
  (fun b ps e=>⟨#[],by rw[e9 (r8 e HT),e];simp⟩) (fun m hm=>?_) (fun b u e=>?_) I.bare
 . obtain⟨o,es,ep,ho,r⟩:=hm;exact⟨o,es,ep,k _ o (fun z=>(hw _ z).2.1 rfl) ho,r⟩
 . by_cases hb:b=T
   . subst hb;rw[k9]at e;cases e;exact⟨hz,its,rv,ht⟩
   . rw[e9 hb]at e;refine(I.hok b u e).stay (fun c v hc q=>k c v ?_ q) (fun c q=>?_) fun c ys q=>?_
     . rcases hc with z |z
       . rw[z];exact nw b u e
       . exact nw c _ z
     . rw[e9 (r8 q HT)];exact q
     . rw[e9 (r8 q HT)];exact q
end
section
variable {X:Cx}{pins:List (Addr×Obj)}{σ:St}{H:Hp}{s:Shared}
theorem Inv.turnedN{wr:List Addr}{h':Heap}{tk:Nat}(I:Inv X pins σ H s)(hw:∀b∈wr,v9 X pins H b)(k:∀b o,b∉wr->s.heap.get? b=some o->h'.get? b=some o):Inv X pins σ H { s with heap:=h',toks:=tk }:=by
 have nw:∀b u,H b=some u->b∉wr:=fun b u e z=>by rw[(hw b z).1]at e;cases e
 refine I.step (g':=s.gens) (d':=s.drawn) (ch:=wr) (fun b hb=>⟨(hw b hb).2.2.2.1,(hw b hb).2.1,(hw b hb).2.2.2.2.1,(hw b hb).2.2.2.2.2⟩) (fun b o _ _ hc e _=>k b o hc e) (fun b o _ _ hc e _=>⟨o.slots,k b o hc e⟩)
  (fun b o _ e n=>n) (fun b o hc e=>⟨o,k b o hc e⟩) (fun b ys e=>e) (fun b u ys e=>e) (fun b ps e=>⟨#[],by rw[e];simp⟩) (fun m hm=>?_) (fun b u e=>?_) I.bare
 . obtain⟨o,es,ep,ho,r⟩:=hm;exact⟨o,es,ep,k _ o (fun z=>(hw _ z).2.1 rfl) ho,r⟩
 . refine(I.hok b u e).stay (fun c v hc q=>k c v ?_ q) (fun c q=>q) fun c ys q=>q
   rcases hc with z |z
   . rw[z];exact nw b u e
   . exact nw c _ z
end
def ItP(S:Hp->Prop)(ps:List (V×V)):It:=⟨fun i H=>S H/\i<ps.length,fun i H x H'=>∃T a b,x=.ref T/\H T=none/\H'=upd H T (.tup [a,b])/\ps[i]?=some (a,b),fun i H=>S H/\i=ps.length⟩
theorem Sh:2<=sizeLine:=by rw[Ib];decide
theorem zu{P:Program}{w:World}{K:Frag}{bz:List Expr}{k:Nat}{pos:Pos}{e it l:Addr}{xs:List V}(gx:e≠it)(cT:l≠e)(gy:l≠it) :
  Turn P w K (.Tuple bz k pos) (ItP (fun H=>Rd H l (.lst xs)) ((O5 0 xs.length).zip xs)) [e,it] e (fun i h=>(∃bS,IsEnum h e it i bS)/\h.IsListIter it l i) where
 mem:=by simp
 obj:=fun i h ⟨⟨bS,he⟩,⟨o1,h1,_,d1⟩⟩ c hc=>by
  have aN:c=e\/c=it:=by simpa using hc
  rcases aN with rfl |rfl
  . exact⟨_,he,fun v z=>by cases z⟩
  . exact⟨o1,h1,fun v z=>by rw[d1]at z;cases z⟩
 keep:=fun i h h' ⟨⟨bS,he⟩,h1⟩ kp=>⟨⟨bS,kp e (by simp) _ he⟩,h1.at fun o z=>kp it (by simp) o z⟩
 item:=by
  intro X hP hw hK hc i pins s σ H E I hf st hg;subst hP hw hK;obtain⟨hS,aC⟩:=hg;obtain⟨he,h1⟩:=st;obtain⟨its,r,p1,z1⟩:=I.list (.inl hS);have W:=WalksT.enumerate (prog:=X.prog) (w:=X.w) (A:=X.A) (I.ok.hd hc) e it l gx cT gy its.toArray;have rX:=r.length;have rY:i<xs.length:=by rw[EN,Wd]at aC;lia
  have rZ:i<its.toArray.size:=by simp only[CJ];lia
  refine xK gx cT gy rZ he h1 p1.isList fun T aq h' tk sd hT ht hM hk=>⟨.ref T,rfl,?_⟩
  refine W.go bz k pos i T _ _ _ hM fun eU fR iY=>?_
  obtain⟨t,x,hx,rfl⟩:=sd;obtain⟨a,ea⟩:∃a,xs[i]?=some a:=⟨xs[i],by simp⟩;obtain⟨u1,q1,se⟩:=r.get ea;have dy:its[i]?=some x:=by simpa using hx
  rw[q1]at dy;cases dy;obtain⟨oT,sf,sg,nT,cy⟩:=ht;have nF:IsTp eU T ([.int (i:Nat) t,x]:List Value).toArray:=⟨oT,iY T oT (W.apart i T _ hM) sf,sg,nT,cy⟩;have sub:∀c∈[e,it],v9 X pins H c:=fun c aN=>hf c aN
  have I2:=I.turnedT (tk:=tk) (xs:=[.int (i:Nat),a]) (its:=[.int (i:Nat) t,x]) sub (fun c o fB z=>iY c o fB (hk c o fB z)) hT nF (.cons ⟨_,rfl⟩ (.cons se .nil)) Sh;have HT:H T=none:=I.hok.fresh hT;refine⟨.ref T,upd H T (.tup [.int (i:Nat),a]),I2,rfl,⟨T,.int (i:Nat),a,rfl,HT,rfl,?_⟩,⟨fR.1,fR.2.1⟩,fun c aN=>?_⟩
  . rw[FT];refine⟨?_,ea⟩;rw[xL 0 _ _ rY];simp
  . rw[e9]
    . exact(hf c aN).1
    . intro ec;have hh:∃o,s.heap.get? c=some o:=by
       have fX:c=e\/c=it:=by simpa using aN
       obtain⟨bS,dC⟩:=he;obtain⟨o1,g1,_⟩:=h1;rcases fX with z |z<;>subst z
       . exact⟨_,dC⟩
       . exact⟨_,g1⟩
      obtain⟨o,ho⟩:=hh;exact absurd (CV (Ξ ho) hT) (by rw[ec];exact FH _)
 done:=by
  intro X hP hw hK hc i pins s σ H E I hf st hg;subst hP hw hK;obtain⟨hS,nG⟩:=hg;obtain⟨he,h1⟩:=st;obtain⟨its,r,p1,z1⟩:=I.list (.inl hS);have W:=WalksT.enumerate (prog:=X.prog) (w:=X.w) (A:=X.A) (I.ok.hd hc) e it l gx cT gy its.toArray;have rX:=r.length;have hi:its.toArray.size=i:=by rw[EN,Wd]at nG;simp only[CJ];lia
  rw[<-hi]at h1 he;exact W.done s _ _ ⟨he,h1,p1.isList⟩ fun h' tk hk=>⟨rfl,I.turnedN hf hk⟩
 self:=fun A i s Q E st h=>by obtain⟨⟨bS,he⟩,_⟩:=st;exact wpAny_pyIter_enum he h
section
variable {X:Cx}{a:Expr}{ta:TA}{p pos am:Pos}{bz:List Expr}{k:Nat}
def kN(ta:TA):TI:=fun σ H R=>ta σ H fun vs H1=>match vs with
 | [.ref l]=>∃xs,Rd H1 l (.lst xs)/\R (ItP (fun H=>Rd H l (.lst xs)) ((O5 0 xs.length).zip xs)) H1
 |_=>False
theorem xJ(hg:Gl X "enumerate")(hm:X.mg "enumerate"=none)(ha:PA X [a] ta)(hs:starEach [a] X.env=[(false,eval a X.env)]:=by rfl) :
  PI X (.Tuple bz k am) (.Call (.Name "enumerate" p) [a] [] pos) (kN ta):=by
 intro pins s σ H R I h
 refine Call_ (P9 I hg hm boot_enumerate (GP (thn (ha pos pins s σ H _ I h) fun us s1 ⟨vs,H1,I1,r1,q1⟩=>?_) hs rfl))
 dsimp only at q1
 split at q1
 . rename_i l;obtain⟨xs,e1,q⟩:=q1;obtain⟨u,rfl,ru⟩:=J5 r1;cases ru;obtain⟨AM,BA,p1,_⟩:=I1.list (.inl e1);have oz:l<s1.heap.objs.size:=by obtain⟨o,ho,_⟩:=p1.isList;exact Ξ ho
   refine call_enumerate_list p1.isList fun h' he hi hsz hk=>?_
   refine wpAny_pyIter_enum he ⟨s1.heap.objs.size+1,[s1.heap.objs.size+1,s1.heap.objs.size],_,_,H1,rfl,I1.kept (t':=s1.toks) hk,zu (Nat.succ_ne_self _) (CY (Nat.lt_succ_of_lt oz)) (CY oz),⟨⟨_,he⟩,hi⟩,fun c hc=>?_,q⟩;have aN:s1.heap.objs.size<=c:=by
    have:c=s1.heap.objs.size+1\/c=s1.heap.objs.size:=by simpa using hc
    rcases this with z |z<;>rw[z]<;>first |exact Nat.le_add_right _ _ |exact η _
   exact I1.fpOk aN (I1.hok.fresh aN)
 . exact q1.elim
end
def cB1:V->Hp->(List V->Hp->Prop)->Prop:=fun x H R=>R [x] H
def cBT(n:Nat):V->Hp->(List V->Hp->Prop)->Prop:=fun x H R=>match x with
 | .ref a=>(match H a with |some (.tup xs)=>xs.length=n/\R xs H |_=>False)
 |_=>False
section
variable {X:Cx}{sc:Scope}{caps:List Str}{ix:List Nat}{aE iter:Expr}{aB:List Expr}{pos px py am:Pos}{tt:TT}{te:TE}{wi:TI}{x y:Str}{kt:Nat}
theorem jP(x:V)(bJ cs:St)(H:Hp)(Q:St->Hp->Prop)(hl:bJ.length=1)(h:cB1 x H (fun aq H2=>Q (aq.map some++cs) H2)):u9 0 x (bJ++cs) H fun aS H2=>(∃aq:List V,aq.length=1/\aS=aq.map some++cs)/\Q aS H2:=by
 match bJ,hl with
 | [t],_=>exact⟨⟨[x],rfl,rfl⟩,h⟩
theorem jO{K:Frag}(x:V)(bJ cs:St)(H:Hp)(Q:St->Hp->Prop)(hl:bJ.length=2)(h:cBT 2 x H (fun aq H2=>Q (aq.map some++cs) H2)) :
  Ha K 2 (Ae (u9 0) (Ae (u9 1) Hd)) x (bJ++cs) H fun aS H2=>(∃aq:List V,aq.length=2/\aS=aq.map some++cs)/\Q aS H2:=by
 cases x<;>first |exact h.elim |skip
 rename_i a
 unfold cBT at h
 dsimp only at h
 split at h
 . rename_i xs e;obtain⟨hn,h⟩:=h
   match bJ,hl,xs,hn with
   | [t,t'],_,[v,v'],_=>exact⟨a,[v,v'],rfl,.of e,rfl,v,[v'],rfl,v',[],rfl,rfl,⟨[v,v'],rfl,rfl⟩,h⟩
 . exact h.elim
theorem Cs(hN:(tgs++caps).Nodup)(hi:(tgs++caps)[i]?=some x)(hx:sc.names.lookup x=some .local)(fp:List Addr)(s:Shared)(H:Hp):PG (j6 X sc (tgs++caps) fp s H) (.Name x px) (u9 i):=
 Fm (X:=j6 X sc (tgs++caps) fp s H) hN hi (.inl (lookup_relabel_local hx)) (.inr (lookup_relabel_local hx))
theorem yL(C:CompOk X sc caps ix)(hN:([x]++caps).Nodup)(hx:sc.names.lookup x=some .local)(hi:PI X (.Name x px) iter wi)(ht:∀fp s H,PTs (j6 X sc ([x]++caps) fp s H) aB tt)(he:∀fp s H,PE (j6 X sc ([x]++caps) fp s H) aE te)
  (hs:∀x,foldedSetIterable iter X.env x=pure x:=by intro _;rfl):PE X (.ListComp aE [⟨.Name x px,iter,aB,0⟩] sc pos) (N2 wi cB1 ix tt te):=
 Uz (tgs:=[x]) C hi (fun fp s H=>Cs hN rfl hx fp s H) jP ht he hs
theorem yK{v:Str}{k:Nat}{bM pv:Pos}(eV:X.N.Nodup)(hk:X.N[k]?=some v)(hv:X.env.scope.names.lookup v=some .local)(C:CompOk X sc caps ix)(hN:([x]++caps).Nodup)(hx:sc.names.lookup x=some .local)(hi:PI X (.Name x px) iter wi)
  (ht:∀fp s H,PTs (j6 X sc ([x]++caps) fp s H) aB tt) (he:∀fp s H,PE (j6 X sc ([x]++caps) fp s H) aE te)
  (cN:swapsWith (.ListComp aE [⟨.Name x px,iter,aB,0⟩] sc pos) (some (.Name v pv)) bM.line X.env=pure true:=by rfl) (hs:∀x,foldedSetIterable iter X.env x=pure x:=by intro _;rfl) :
  PS X (.Assign [.Name v pv] (.ListComp aE [⟨.Name x px,iter,aB,0⟩] sc pos) bM) (B6 (N2 wi cB1 ix tt te) (u9 k)):=
 Uy (tgs:=[x]) eV hk hv C hi (fun fp s H=>Cs hN rfl hx fp s H) jP ht he cN hs
theorem Pu(hc:X.calm=true)(hN:([x,y]++caps).Nodup)(hx:sc.names.lookup x=some .local)(hy:sc.names.lookup y=some .local)(fp:List Addr)(s:Shared)(H:Hp) :
  PG (j6 X sc ([x,y]++caps) fp s H) (.Tuple [.Name x px,.Name y py] kt am) (Ha X.K 2 (Ae (u9 0) (Ae (u9 1) Hd))):=
 Sq (X:=j6 X sc ([x,y]++caps) fp s H) hc (Lq (Cs hN rfl hx fp s H) (Lq (Cs hN rfl hy fp s H) pgs_nil))
theorem yJ(C:CompOk X sc caps ix)(hN:([x,y]++caps).Nodup)(hx:sc.names.lookup x=some .local)(hy:sc.names.lookup y=some .local)(hi:PI X (.Tuple [.Name x px,.Name y py] kt am) iter wi)(ht:∀fp s H,PTs (j6 X sc ([x,y]++caps) fp s H) aB tt)
  (he:∀fp s H,PE (j6 X sc ([x,y]++caps) fp s H) aE te) (hs:∀x,foldedSetIterable iter X.env x=pure x:=by intro _;rfl):PE X (.ListComp aE [⟨.Tuple [.Name x px,.Name y py] kt am,iter,aB,0⟩] sc pos) (N2 wi (cBT 2) ix tt te):=
 Uz (tgs:=[x,y]) C hi (fun fp s H=>Pu C.calm hN hx hy fp s H) jO ht he hs
theorem yI{v:Str}{k:Nat}{bM pv:Pos}(eV:X.N.Nodup)(hk:X.N[k]?=some v)(hv:X.env.scope.names.lookup v=some .local)(C:CompOk X sc caps ix)(hN:([x,y]++caps).Nodup)(hx:sc.names.lookup x=some .local)(hy:sc.names.lookup y=some .local)
  (hi:PI X (.Tuple [.Name x px,.Name y py] kt am) iter wi) (ht:∀fp s H,PTs (j6 X sc ([x,y]++caps) fp s H) aB tt) (he:∀fp s H,PE (j6 X sc ([x,y]++caps) fp s H) aE te)
  (cN:swapsWith (.ListComp aE [⟨.Tuple [.Name x px,.Name y py] kt am,iter,aB,0⟩] sc pos) (some (.Name v pv)) bM.line X.env=pure true:=by rfl) (hs:∀x,foldedSetIterable iter X.env x=pure x:=by intro _;rfl) :
  PS X (.Assign [.Name v pv] (.ListComp aE [⟨.Tuple [.Name x px,.Name y py] kt am,iter,aB,0⟩] sc pos) bM) (B6 (N2 wi (cBT 2) ix tt te) (u9 k)):=
 Uy (tgs:=[x,y]) eV hk hv C hi (fun fp s H=>Pu C.calm hN hx hy fp s H) jO ht he cN hs
noncomputable def Hs(n:Nat)(t:TGs):TG:=fun v σ H Q=>match v with
 | .ref a=>(match H a with |some (.tup xs)=>xs.length=n/\t xs σ H Q |_=>False)
 |_=>False
noncomputable def Sg(t:TG)(u:TGs):TGs:=fun vs σ H Q=>match vs with |v::r=>t v σ H fun ae H'=>u r ae H' Q | []=>False
noncomputable def Pt:TGs:=fun vs σ H Q=>match vs with | []=>Q σ H |_=>False
theorem PGs.imp(h:PGs X es t)(hi:∀vs σ H Q,t' vs σ H Q->t vs σ H Q):PGs X es t':=fun pins s σ H vs us Q I r q=>h pins s σ H vs us Q I r (hi vs σ H Q q)
theorem PG.imp(h:PG X e t)(hi:∀v σ H Q,t' v σ H Q->t v σ H Q):PG X e t':=fun pins s σ H v u Q I r q=>h pins s σ H v u Q I r (hi v σ H Q q)
theorem yH:PGs X [] Pt:=pgs_nil.imp fun vs σ H Q q=>by
 cases vs with
 |nil=>exact⟨rfl,q⟩
 |cons _ _=>exact q.elim
theorem zt(h1:PG X e t)(h2:PGs X es u)(hs:(assignEach (e::es) X.env).map (·.2)=assign e X.env::(assignEach es X.env).map (·.2):=by rfl):PGs X (e::es) (Sg t u):=(Lq h1 h2 hs).imp fun vs σ H Q q=>by
 cases vs with
 |nil=>exact q.elim
 |cons v r=>exact⟨v,r,rfl,q⟩
theorem xI(hc:X.calm=true)(h:PGs X es t)
  (hn:(assignEach es X.env).length=n:=by rfl) (bG:(assignEach es X.env).findIdx? (·.1)=none:=by rfl):PG X (.Tuple es k pos) (Hs n t):=(Sq hc h hn bG).imp fun v σ H Q q=>by
 cases v<;>first |exact q.elim |skip
 rename_i a
 unfold Hs at q
 dsimp only at q
 split at q
 . rename_i xs e;exact⟨a,xs,rfl,.of e,q.1,q.2⟩
 . exact q.elim
end
theorem y38(a:α)(r:List α):atI (a::r) 0=some a:=Kt (j:=0) rfl
theorem y39(a b:α)(r:List α):atI (a::b::r) 1=some b:=Kt (j:=1) rfl
section
variable {prog:Program}{w:World}{A:Around}{E:Value->Shared->Prop}{s:Shared}
theorem Wc(ag:t≠it):∀(n i:Nat)(s:Shared)(Q:List Value->Shared->Prop),s.heap.IsListIter it t i->s.heap.IsList t items->i+n<=items.size ->
  (∀h',h'.IsListIter it t (i+n)->Heap.SameBut it s.heap h'->Q ((items.toList.drop i).take n) { s with heap:=h' })->wpAny (model prog w) A (draw (.ref it) n) Q E s
 | 0,i,s,Q,bW,_,_,k=>by show wpAny _ _ (pure []) Q E s;exact π (by simpa using k s.heap bW (Heap.SameBut.refl ..))
 |n+1,i,s,Q,bW,ht,cT,k=>by
  have aC:i<items.size:=by lia
  show wpAny _ _ (pyNext (.ref it) >>= _) Q E s;refine δ (wpAny_pyNext_list_item bW ht (x:=items[i]) (by simp[aC]) fun g1 lQ gA=>?_);refine δ (EJ (Wc ag n (i+1) _ _ lQ (ht.extBut gA.extBut ag) (by lia) fun g2 sk sq=>π ?_));have hd:items.toList.drop i=items[i]::items.toList.drop (i+1):=by simp[EY,aC]
  have z:=k g2 (by rw[show i+(n+1)=i+1+n by lia];exact sk) (gA.trans sq);rw[hd,List.take_succ_cons]at z;exact z
theorem zr(hh:A.handled=none)(ht:s.heap.IsList t items)
  (k:∀h',(∀b o,s.heap.get? b=some o->h'.get? b=some o)->Q items.toList { s with heap:=h' }):wpAny (model prog w) A (unpackItems (.ref t) items.size none) Q E s:=by
 have aC:t≠s.heap.objs.size:=by obtain⟨o,ho,_⟩:=ht;exact CY (Ξ ho)
 have bS:∀{b:Addr}{o:Obj},s.heap.get? b=some o->b≠s.heap.objs.size:=fun e=>CY (Ξ e)
 unfold unpackItems
 refine δ ?_
 . unfold notIterableAtAll;refine δ (wpAny_specialOf ht.typeIs slot_list_iter.lookup ?_);refine π ?_;simp only[CM,DR];refine δ (EJ (wpAny_pyIter_list ht ?_));refine δ (EJ (Wc aC items.size 0 _ _ ⟨_,Ω _ rfl,rfl,rfl⟩ (ht.push _) (by lia) fun g1 lQ gA=>?_));have fV:List.take items.size (List.drop 0 items.toList)=items.toList:=by rw[List.drop_zero];exact DU (by simp)
   rw[fV];rw[ξ (by simp)];have iy:g1.IsList t items:=(ht.push _).extBut gA.extBut aC;refine δ (EJ (wpAny_pyNext_list_end hh lQ iy (by simp) fun g2 sr=>?_));simp only[Option.isSome_none,CM,DR];exact π (k g2 fun b o e=>sr b o (bS e) (gA.extBut b o (bS e) (Φ _ e)))
theorem zh2(hh:A.handled=none)(ht:s.heap.IsList t items)
  (hn:(assignEach bz env).length=items.size) (lK:(assignEach bz env).findIdx? (·.1)=none)
  (h:∀h',(∀b o,s.heap.get? b=some o->h'.get? b=some o)->wpAny (model prog w) A (assignInOrder ((assignEach bz env).map (·.2)) items.toList) Q E { s with heap:=h' }) :
  wpAny (model prog w) A (assign (.Tuple bz x1 pos) env (.ref t)) Q E s:=by
 rw[assign_Tuple]
 refine δ (wpAny_standAt ?_)
 unfold unpack
 rw[hn,lK]
 exact δ (EJ (zr hh ht h))
end
section
variable {X:Cx}{pos:Pos}
noncomputable def Aa(n:Nat)(t:TGs):TG:=fun v σ H Q=>match v with
 | .ref a=>(match H a with
  |some (.tup xs)=>xs.length=n/\t xs σ H Q
  |some (.lst xs)=>xs.length=n/\t xs σ H Q
  |_=>False)
 |_=>False
theorem xH(hc:X.calm=true)(h:PGs X es t)
  (hn:(assignEach es X.env).length=n:=by rfl) (bG:(assignEach es X.env).findIdx? (·.1)=none:=by rfl):PG X (.Tuple es k pos) (Aa n t):=by
 intro pins s σ H v u Q I r hw
 cases v<;>first |exact hw.elim |skip
 rename_i a
 unfold Aa at hw
 dsimp only at hw
 split at hw
 . rename_i xs e;exact xI hc h hn bG pins s σ H (.ref a) u Q I r (by unfold Hs;dsimp only;rw[e];exact hw)
 . rename_i xs e;obtain⟨hl,hw⟩:=hw;cases r;obtain⟨its,rv,ht,hz⟩:=I.list (.of e);refine zh2 (I.ok.hd hc) ht.isList (by simp[hn,<-hl,rv.length]) bG fun h' hx=>?_
   exact h pins _ σ H xs _ Q (I.kept (t':=s.toks) hx) (by simpa using rv) hw
 . exact hw.elim
theorem kq{Q:VK}{a b:Bool}{H:Hp}(h:Q (.bl a) H)(e:a=b):Q (.bl b) H:=e ▸ h
def Cr:List V->Hp->VK->Prop:=fun xs H Q=>match xs with
 | [x,.ty c]=>E9 c=true/\(match J3 H x with |some t=>Q (.bl (E1 t c)) H |none=>False)
 |_=>False
def Hr:List V->Hp->VK->Prop:=fun xs H Q=>match xs with
 | [.ref p]=>∃ns:List Int,C2 H p=some (ns.map V.int)/\Q (.int ns.sum) H
 |_=>False
section
variable {H:Hp}{Q:VK}{p:Addr}{x:V}{cs:String}
theorem vK:Cr [x,.ty cs] H Q=(E9 cs=true/\(match J3 H x with |some t=>Q (.bl (E1 t cs)) H |none=>False)):=rfl
theorem Uw:Hr [.ref p] H Q=∃ns:List Int,C2 H p=some (ns.map V.int)/\Q (.int ns.sum) H:=rfl
end
theorem kM:CallR X (.builtin "isinstance") Cr:=yO
theorem Ps(hc:X.calm=true):CallR X (.builtin "sum") Hr:=zv hc
end
inductive NK where
 |i (n:Int)
 |t (ks:List NK)
noncomputable instance:DecidableEq NK:=fun a b=>Classical.propDecidable (a=b)
mutual
noncomputable def NK.dep:NK->Nat
 | .i _=>0
 | .t ks=>z8 ks+1
noncomputable def z8:List NK->Nat
 | []=>0
 |k::ks=>max k.dep (z8 ks)
end
mutual
noncomputable def NK.hs:NK->Int
 | .i n=>hashInt n
 | .t ks=>reduceHash (Builtin.Tuple.tupleHashOf (Y8 ks))
noncomputable def Y8:List NK->List Int
 | []=>[]
 |k::ks=>k.hs::Y8 ks
end
mutual
noncomputable def NK.dr:NK->Nat
 | .i _=>1
 | .t ks=>Cq ks+1
noncomputable def Cq:List NK->Nat
 | []=>0
 |k::ks=>k.dr+Cq ks
end
mutual
def NKv(h:Heap):NK->Value->Prop
 | .i n,v=>∃t,v=.int n t
 | .t ks,v=>∃a its,v=.ref a/\h.IsTuple a its/\NKvs h ks its.toList
def NKvs(h:Heap):List NK->List Value->Prop
 | [],vs=>vs=[]
 |k::ks,vs=>∃v r,vs=v::r/\NKv h k v/\NKvs h ks r
end
theorem NKvs.len:∀{ks:List NK}{vs:List Value},NKvs h ks vs->ks.length=vs.length
 | [],_,q=>by simp only[NKvs]at q;rw[q];rfl
 |k::ks,_,q=>by simp only[NKvs]at q;obtain⟨v,r,rfl,_,q⟩:=q;simp only[pp,NKvs.len q]
theorem zq{h:Heap}{a:Addr}{x y:Array Value}(p:h.IsTuple a x)(q:h.IsTuple a y):x=y:=by obtain⟨o,e,c,n,d⟩:=p;obtain⟨o',e',c',n',d'⟩:=q;rw[e]at e';cases e';rw[d]at d';cases d';rfl
mutual
theorem NKv.inj:∀{k j:NK}{v:Value},NKv h k v->NKv h j v->k=j
 | .i n,.i m,v,p,q=>by simp only[NKv]at p q;obtain⟨t,rfl⟩:=p;obtain⟨t',e⟩:=q;cases e;rfl
 | .i n,.t ks,v,p,q=>by simp only[NKv]at p q;obtain⟨t,rfl⟩:=p;obtain⟨_,_,e,_⟩:=q;cases e
 | .t ks,.i m,v,p,q=>by simp only[NKv]at p q;obtain⟨t,rfl⟩:=q;obtain⟨_,_,e,_⟩:=p;cases e
 | .t ks,.t js,v,p,q=>by simp only[NKv]at p q;obtain⟨a,its,rfl,p1,p2⟩:=p;obtain⟨b,its',e,q1,q2⟩:=q;cases e;cases zq p1 q1;rw[NKvs.inj p2 q2]
theorem NKvs.inj:∀{ks js:List NK}{vs:List Value},NKvs h ks vs->NKvs h js vs->ks=js
 | [],[],_,_,_=>rfl
 | [],j::js,_,p,q=>by simp only[NKvs]at p q;subst p;obtain⟨_,_,e,_⟩:=q;cases e
 |k::ks,[],_,p,q=>by simp only[NKvs]at p q;subst q;obtain⟨_,_,e,_⟩:=p;cases e
 |k::ks,j::js,_,p,q=>by simp only[NKvs]at p q;obtain⟨v,r,rfl,p1,p2⟩:=p;obtain⟨_,_,e,q1,q2⟩:=q;cases e;rw[NKv.inj p1 q1,NKvs.inj p2 q2]
end
mutual
theorem NKv.stay(st:∀a its,h.IsTuple a its->h'.IsTuple a its):∀{k:NK}{v:Value},NKv h k v->NKv h' k v
 | .i n,v,p=>by simp only[NKv]at p⊢;exact p
 | .t ks,v,p=>by simp only[NKv]at p⊢;obtain⟨a,its,e,p1,p2⟩:=p;exact⟨a,its,e,st _ _ p1,NKvs.stay st p2⟩
theorem NKvs.stay(st:∀a its,h.IsTuple a its->h'.IsTuple a its):∀{ks:List NK}{vs:List Value},NKvs h ks vs->NKvs h' ks vs
 | [],_,p=>by simp only[NKvs]at p⊢;exact p
 |k::ks,_,p=>by simp only[NKvs]at p⊢;obtain⟨v,r,e,p1,p2⟩:=p;exact⟨v,r,e,NKv.stay st p1,NKvs.stay st p2⟩
end
section
variable {prog:Program}{w:World}
theorem Uv:∀(m:Nat){k:NK}{v:Value}{A:Around}{E:Value->Shared->Prop}{s:Shared}{Q:Int->Shared->Prop},k.dep<=m->A.units+m<cLine->NKv s.heap k v->Q k.hs { s with toks:=s.toks+k.dr }->wpAny (model prog w) A (pyHash v) Q E s
 |m,.i n,v,A,E,s,Q,hd,hu,p,q=>by simp only[NKv]at p;obtain⟨t,rfl⟩:=p;exact wpAny_pyHash_int q
 | 0,.t ks,v,A,E,s,Q,hd,hu,p,q=>by simp only[NK.dep]at hd;lia
 |m+1,.t ks,v,A,E,s,Q,hd,hu,p,q=>by
  simp only[NKv]at p;obtain⟨a,its,rfl,⟨o,e,c,n,d⟩,p2⟩:=p;simp only[NK.dep]at hd;show wpAny (model prog w) A (pyHashByItsType (.ref a)) Q E s;refine W.pyHash_slot (T:="tuple") ⟨o,e,c⟩ F.slot_tuple_hash F.entry_tuple_hash (F.args_tuple_hash_1 _) rfl (.inr (by lia)) ?_;refine δ (wpAny_of_eq (show slotArgs "__hash__" 0 ⟨[.ref a],[]⟩=pure (.ref a,[]) from rfl) ?_);show wpAny (model prog w) A.in1 (Builtin.Tuple.tupleItemsOf (.ref a) >>= _) _ _ s;refine δ (wpAny_tupleItemsOf e d ?_);refine δ ?_;have go:∀(ks:List NK)(vs:List Value)(b:Array Int)(s':Shared)(Q':Array Int->Shared->Prop),z8 ks<=m->NKvs s'.heap ks vs->(∀b':Array Int,b'.toList=b.toList++Y8 ks->Q' b' { s' with toks:=s'.toks+Cq ks }) ->
    wpAny (model prog w) A.in1 (forIn vs b fun x r=>do
     let h <-pyHash x
     pure (ForInStep.yield (r.push h))) Q' E s':=by
   intro ks
   induction ks with
   |nil=>
    intro vs b s' Q' _ p hq
    simp only[NKvs]at p;subst p
    exact π (hq b (by simp[Y8]))
   |cons k ks ih=>
    intro vs b s' Q' hd p hq
    simp only[NKvs]at p
    obtain⟨v,r,rfl,p1,p2⟩:=p
    simp only[z8]at hd
    rw[Ih]
    refine δ (δ (Uv m (by lia) (by show A.units+1+m<cLine;lia) p1 ?_))
    refine π ?_
    refine ih r (b.push k.hs) _ Q' (by lia) p2 fun b' eW=>?_
    have:=hq b' (by rw[eW];simp[Y8])
    simpa only [Cq,Nat.add_assoc] using this
  rw[<-Array.forIn_toList];refine go ks its.toList #[] s _ (by lia) p2 fun b' eW=>?_
  show wpAny (model prog w) A.in1 (retInt (Builtin.Tuple.tupleHashOf b'.toList)) _ _ _;refine EZ (wpAny_ret_mkInt (Q:=fun v s'=>∃n t,v=Value.int n t/\Q (reduceHash n) s') ⟨_,_,rfl,?_⟩) (fun fin s' h=>?_) fun _ _ h=>h
  . rw[eW];simpa only [NK.hs,NK.dr,Nat.add_assoc,HI] using q
  . obtain⟨v,rfl,n,t,rfl,hq⟩:=h;exact⟨n,t,rfl,hq⟩
theorem Pr:∀(m:Nat){k j:NK}{u v:Value}{A:Around},k.dep<=m->A.units+m<cLine->NKv s.heap k u->NKv s.heap j v->SeqAt.EqAt A s u v (decide (k=j))
 |m,.i n,.i n',u,v,A,hd,hu,p,q=>by
  simp only[NKv]at p q;obtain⟨t,rfl⟩:=p;obtain⟨t',rfl⟩:=q;have:decide (NK.i n=NK.i n')=(n==n'):=by
   by_cases h:n=n'
   . rw[h];simp
   . rw[decide_eq_false (fun e=>h (NK.i.inj e))];simp[h]
  rw[this];exact .int_int _ _ _ _
 |m,.i n,.t js,u,v,A,hd,hu,p,q=>by simp only[NKv]at p q;obtain⟨t,rfl⟩:=p;obtain⟨a,its,rfl,q1,_⟩:=q;rw[decide_eq_false (fun e=>by cases e)];exact .int_tuple _ _ q1 (by lia)
 |m,.t ks,.i n',u,v,A,hd,hu,p,q=>by simp only[NKv]at p q;obtain⟨t,rfl⟩:=q;obtain⟨a,its,rfl,q1,_⟩:=p;rw[decide_eq_false (fun e=>by cases e)];exact .tuple_int _ _ q1 (by lia)
 | 0,.t ks,.t js,u,v,A,hd,hu,p,q=>by simp only[NK.dep]at hd;lia
 |m+1,.t ks,.t js,u,v,A,hd,hu,p,q=>by
  have p0:=p;have q0:=q;simp only[NKv]at p q;obtain⟨a,its,rfl,p1,p2⟩:=p;obtain⟨b,ax,rfl,q1,q2⟩:=q;simp only[NK.dep]at hd;by_cases bu:a=b
  . subst bu;rw[decide_eq_true (NKv.inj p0 q0)];exact .same _
  . have l1:=p2.len;have l2:=q2.len;simp only[CN]at l1 l2;have fC:∀(ks:List NK)(vs:List Value),NKvs s.heap ks vs->∀j v,vs[j]?=some v->NKv s.heap (ks.getD j (.i 0)) v/\(ks.getD j (.i 0)).dep<=z8 ks:=by
     intro ks;induction ks with
     |nil=>intro vs p j v e;simp only[NKvs]at p;subst p;simp at e
     |cons k ks ih=>
      intro vs p j v e
      simp only[NKvs]at p
      obtain⟨v0,r,rfl,r1,r2⟩:=p
      cases j with
      |zero=>simp at e;subst e;exact⟨r1,by simp only[List.getD_cons_zero,z8];lia⟩
      |succ j=>
       simp only[List.getElem?_cons_succ]at e
       obtain⟨x1,x2⟩:=ih r r2 j v e
       exact⟨x1,by simp only[List.getD_cons_succ,z8];lia⟩
    have q:=SeqAt.RcAt.tuples (A:=A) p1 q1 (by lia) (e:=fun j=>decide (ks.getD j (.i 0)=js.getD j (.i 0))) fun j h1 h2=>by obtain⟨x1,x2⟩:=fC ks _ p2 j its[j] (by simp[h1]);obtain⟨y1,y2⟩:=fC js _ q2 j ax[j] (by simp[h2]);exact Pr m (by lia) (by show A.units+1+m<cLine;lia) x1 y1
    have eb:((List.range (min its.size ax.size)).all (fun j=>decide (ks.getD j (.i 0)=js.getD j (.i 0)))&&its.size==ax.size)=decide (NK.t ks=NK.t js):=by
     rw[FX,ng,DQ,mV,Im];constructor
     . rintro⟨h1,h2⟩;congr 1;refine List.ext_getElem (by lia) fun j hj eB=>?_
       have:=h1 j (FQ.mpr (by lia));rw[mV,CI,CI,CH hj,CH eB]at this;exact this
     . intro e;cases e;exact⟨fun j _=>decide_eq_true rfl,by lia⟩
    rw[eb]at q;exact .of_refs bu q
end
section
variable {prog:Program}{w:World}
theorem Wb:∀(m:Nat){k:NK}{v:Value}{Q:Bool->Shared->Prop},k.dep<=m->NKv s.heap k v->Q true s->wpAny (model prog w) A (eqIsQuiet m v) Q E s
 |m,.i n,v,Q,hd,p,q=>by simp only[NKv]at p;obtain⟨t,rfl⟩:=p;rw[eqIsQuiet.eq_3 _ _ (fun a e=>by cases e)];exact π q
 | 0,.t ks,v,Q,hd,p,q=>by simp only[NK.dep]at hd;lia
 |m+1,.t ks,v,Q,hd,p,q=>by
  simp only[NKv]at p;obtain⟨a,its,rfl,⟨o,e,c,n,d⟩,p2⟩:=p;simp only[NK.dep]at hd;rw[eqIsQuiet.eq_2];refine δ (wpAny_specialOf (T:="tuple") ⟨o,e,c⟩ F.slot_tuple_eq.lookup ?_);show wpAny (model prog w) A (isInstance (.ref a) (.type "tuple") >>= _) _ _ s;refine δ (wpAny_isInstance (T:="tuple") (b:=true) ⟨o,e,c⟩ (by rfl) ?_);show wpAny (model prog w) A (seqItems? (.ref a) >>= _) _ _ s;refine δ (wpAny_seqItems e d ?_);refine δ ?_;have go:∀(ks:List NK)(vs:List Value)(Q':Option Bool×Unit->Shared->Prop),z8 ks<=m->NKvs s.heap ks vs->Q' (none,()) s ->
    wpAny (model prog w) A (forIn vs ((none,()):Option Bool×Unit) fun y __s=>do
     let __do_lift <-eqIsQuiet m y
     if(!__do_lift)=true then pure (ForInStep.done (some false,()))
      else pure (ForInStep.yield (none,()))) Q' E s:=by
   intro ks
   induction ks with
   |nil=>
    intro vs Q' _ p hq
    simp only[NKvs]at p;subst p
    exact π hq
   |cons k ks ih=>
    intro vs Q' hd p hq
    simp only[NKvs]at p
    obtain⟨v,r,rfl,p1,p2⟩:=p
    simp only[z8]at hd
    rw[Ih]
    refine δ (δ (Wb m (by lia) p1 ?_))
    refine π ?_
    exact ih r Q' (by lia) p2 hq
  show wpAny (model prog w) A (forIn its ((none,()):Option Bool×Unit) _) _ _ s;rw[<-Array.forIn_toList];refine go ks its.toList _ (by lia) p2 ?_;exact π q
def deepKind(prog:Program)(w:World):HeapKind prog w NK where
 is:=fun h k a=>NKv h k (.ref a)/\k.dep<=8
 hash:=NK.hs
 draws:=NK.dr
 room:=fun A=>A.units+8<cLine
 inj:=fun p q=>NKv.inj p.1 q.1
 keeps:=fun {h h' k a d o es ep} p e eo sb=>⟨NKv.stay (fun b its t=>by
  obtain⟨ob,eb,cb,n,db⟩:=t;have ag:b≠d:=fun z=>by subst z;rw[e]at eb;cases eb;rw[eo]at db;cases db
  exact⟨ob,(sb.2 b ag).trans eb,cb,n,db⟩) p.1,p.2⟩
 pyHash:=fun {A E s k a Q} hr p q=>Uv 8 p.2 hr p.1 q
 eqBool:=fun {A E s x y a b Q} hr p p' q=>Pr 8 p.2 hr p.1 p'.1 prog w E Q q
 quiet:=fun {A E s k a Q} p q=>Wb 8 p.2 p.1 q
end
def dnE(x:NK×Addr×Value):DictEntry:={ hash:=x.1.hs,key:=.ref x.2.1,val:=x.2.2 }
def dnP(a:Addr)(ks:List (NK×Addr))(xs:List V)(o:Obj)(h:Heap):Prop:=
 h.get? a=some o/\∃(vs:List Value)(es:Array DictEntry)(ep:Nat),Vals xs vs/\ks.length=vs.length/\o.ExactDict/\o.data=.dict es ep/\es.toList=((ks.zip vs).map fun q=>(q.1.1,q.1.2,q.2)).map dnE
theorem dnP.stay:∀h1 h2:Heap,dnP a ks xs o h1->(∀o,h1.get? a=some o->h2.get? a=some o)->dnP a ks xs o h2:=fun _ _ p k=>⟨k _ p.1,p.2⟩
mutual
def NKr(H:Hp):NK->V->Prop
 | .i n,v=>v=.int n
 | .t ks,v=>∃a ys,v=.ref a/\H a=some (.tup ys)/\NKrs H ks ys
def NKrs(H:Hp):List NK->List V->Prop
 | [],vs=>vs=[]
 |k::ks,vs=>∃v r,vs=v::r/\NKr H k v/\NKrs H ks r
end
mutual
theorem NKr.mono(st:∀a ys,H a=some (.tup ys)->H' a=some (.tup ys)):∀{k:NK}{v:V},NKr H k v->NKr H' k v
 | .i n,v,p=>by simp only[NKr]at p⊢;exact p
 | .t ks,v,p=>by simp only[NKr]at p⊢;obtain⟨a,ys,e,p1,p2⟩:=p;exact⟨a,ys,e,st _ _ p1,NKrs.mono st p2⟩
theorem NKrs.mono(st:∀a ys,H a=some (.tup ys)->H' a=some (.tup ys)):∀{ks:List NK}{vs:List V},NKrs H ks vs->NKrs H' ks vs
 | [],_,p=>by simp only[NKrs]at p⊢;exact p
 |k::ks,_,p=>by simp only[NKrs]at p⊢;obtain⟨v,r,e,p1,p2⟩:=p;exact⟨v,r,e,NKr.mono st p1,NKrs.mono st p2⟩
end
section
variable {X:Cx}{pins:List (Addr×Obj)}{σ:St}{H:Hp}{s:Shared}
mutual
theorem U1(I:Inv X pins σ H s):∀{k:NK}{x:V}{u:Value},NKr H k x->RelV x u->NKv s.heap k u
 | .i n,x,u,p,r=>by simp only[NKr]at p;subst p;obtain⟨t,rfl⟩:=r;simp only[NKv];exact⟨t,rfl⟩
 | .t ks,x,u,p,r=>by simp only[NKr]at p;obtain⟨a,ys,rfl,p1,p2⟩:=p;cases r;obtain⟨its,r1,t1,_⟩:=I.tuple (.of p1);simp only[NKv];exact⟨a,its.toArray,rfl,t1,Sf I p2 r1⟩
theorem Sf(I:Inv X pins σ H s):∀{ks:List NK}{xs:List V}{us:List Value},NKrs H ks xs->Vals xs us->NKvs s.heap ks us
 | [],_,_,p,r=>by simp only[NKrs]at p;subst p;cases r;simp only[NKvs]
 |k::ks,_,_,p,r=>by
  simp only[NKrs]at p;obtain⟨v,q,rfl,p1,p2⟩:=p;cases r with
  |cons a1 a2=>
   simp only[NKvs]
   exact⟨_,_,rfl,U1 I p1 a1,Sf I p2 a2⟩
end
end
def KL(K:Frag)(a:Addr)(xs:List V):Prop:=∃(o:Obj)(its:Array Value)(n:Nat),K.lookup a=some o/\o.cls=.type "list"/\o.dict=none/\o.data=.seq its n/\its.size<=sizeLine/\Vals xs its.toList
def XO(K:Frag)(c:String)(a:Addr)(od:Option Addr)(o:HO):Prop:=∃C:Addr,PySem.W.nsIn K mainGlobals (c:Str)=some (some (.ref C))/\o=.ext fun h=>∃ob,h.get? a=some ob/\ob.cls=.ref C/\(∃vs,ob.data=.fields vs)/\ob.dict=od
noncomputable def jN(c:String):List Str:=if c="Fallen" then ["corner"] else if c="Crossed" then ["one","other"] else if c="NotFull" then ["line"] else []
inductive D where
 |non |bl (b:Bool) |int (i:Int) |str (x:Str) |tup (ds:List D) |lst (ds:List D)
 |dk (ks:List Key) (ds:List D) |dt (ks:List (List Key)) (ds:List D) |dn (ks:List NK) (ds:List D) |scr (ns:List Int) |exc (c:String) (fs:List D)
def DN(H:Hp)(a:Addr)(qs:List (NK×Addr)):Prop:=(qs.map (·.1)).Nodup/\(∀q∈qs,NKr H q.1 (.ref q.2)/\q.1.dep<=8)/\(a==sysModules)=false/\qs.length<=sizeLine
theorem DN.tk(h:DN H a qs)(st:∀a ys,H a=some (.tup ys)->H' a=some (.tup ys)):DN H' a qs:=
 ⟨h.1,fun q hq=>⟨NKr.mono st (h.2.1 q hq).1,(h.2.1 q hq).2⟩,h.2.2⟩
mutual
def RD(K:Frag)(H:Hp):D->V->Prop
 | .non,v=>v=.non
 | .bl b,v=>v=.bl b
 | .int i,v=>v=.int i
 | .str x,v=>v=.str x
 | .tup ds,v=>∃a xs,v=.ref a/\H a=some (.tup xs)/\RDs K H ds xs
 | .lst ds,v=>∃a xs,v=.ref a/\H a=some (.lst xs)/\RDs K H ds xs
 | .dk ks ds,v=>∃a xs,v=.ref a/\H a=some (.dK (ks.zip xs))/\ks.length=xs.length/\RDs K H ds xs
 | .dt ks ds,v=>∃a xs,v=.ref a/\H a=some (.dT (ks.zip xs))/\ks.length=xs.length/\RDs K H ds xs
 | .dn ks ds,v=>∃a qs xs o,v=.ref a/\H a=some (.ext (dnP a qs xs o))/\qs.map (·.1)=ks/\DN H a qs/\RDs K H ds xs
 | .scr ns,v=>∃a,v=.ref a/\((∃o,H a=some (.frz o (.lst (ns.map V.int))))\/KL K a (ns.map V.int))
 | .exc c fs,v=>∃a od o,v=.ref a/\XO K c a od o/\H a=some o/\(fs=[]\/∃(dx:Addr)(ns:List Int)(ob:Obj),od=some dx/\H dx=some (.frz ob (.xd ((jN c).zip (ns.map V.int))))/\fs=ns.map D.int)
def RDs(K:Frag)(H:Hp):List D->List V->Prop
 | [],xs=>xs=[]
 |d::ds,xs=>∃x r,xs=x::r/\RD K H d x/\RDs K H ds r
end
mutual
noncomputable def D.noL:D->Bool
 | .lst _=>false
 | .dk _ _=>false
 | .dt _ _=>false
 | .dn _ _=>false
 | .tup ds=>i9 ds
 |_=>true
noncomputable def i9:List D->Bool
 | []=>true
 |d::ds=>d.noL&&i9 ds
end
mutual
noncomputable def D.pl:D->Bool
 | .dk _ _=>false
 | .dt _ _=>false
 | .dn _ _=>false
 | .scr _=>false
 | .exc _ _=>false
 | .tup ds=>pls ds
 | .lst ds=>pls ds
 |_=>true
noncomputable def pls:List D->Bool
 | []=>true
 |d::ds=>d.pl&&pls ds
end
def D.shal:D->Bool
 | .lst ds=>i9 ds
 | .dk _ ds=>i9 ds
 | .dt _ ds=>i9 ds
 | .dn _ ds=>i9 ds
 |d=>d.noL
def Imm:HO->Prop
 | .tup _=>True
 | .frz _ _=>True
 | .ext φ=>∀a qs xs o,φ≠dnP a qs xs o
 |_=>False
theorem XO.imm{K:Frag}{c:String}{a:Addr}{od:Option Addr}{o:HO}(h:XO K c a od o):Imm o:=by
 obtain⟨C,_,rfl⟩:=h;intro b qs xs o0 e;obtain⟨ob,eD⟩:∃ob:Obj,ob={ cls:=.ref C,dict:=od,data:=.fields #[] }:=⟨_,rfl⟩;have hg:∀(i:Nat)(o:Obj),({ objs:=Array.replicate (a+1) ob }:Heap).get? i=some o->o=ob:=fun i o q=>by
  by_cases hi:i<a+1
  . have z:({ objs:=Array.replicate (a+1) ob }:Heap).get? i=some ob:=by
     unfold Heap.get?
     rw[IA,ζ hi,eD]
    rw[z]at q;cases q;rfl
  . unfold Heap.get? at q;rw[IA,ξ hi]at q;cases q
 have h1:(fun h:Heap=>∃ob,h.get? a=some ob/\ob.cls=.ref C/\(∃vs,ob.data=.fields vs)/\ob.dict=od) { objs:=Array.replicate (a+1) ob }:=by refine⟨ob,?_,by rw[eD],⟨#[],by rw[eD]⟩,by rw[eD]⟩;unfold Heap.get?;rw[IA,ζ (Nat.lt_succ_self a),eD]
 rw[e]at h1;obtain⟨g,vs,es,ep,_,_,_,d,_⟩:=h1;rw[hg _ _ g,eD]at d;cases d
def TK(H H':Hp):Prop:=∀a o,Imm o->H a=some o->H' a=some o
section
variable {K:Frag}{H H':Hp}
mutual
theorem RD.tk(hs:TK H H'):∀{d:D}{v:V},d.noL=true->RD K H d v->RD K H' d v
 | .non,_,_,h=>by simp only[RD]at h⊢;exact h
 | .bl _,_,_,h=>by simp only[RD]at h⊢;exact h
 | .int _,_,_,h=>by simp only[RD]at h⊢;exact h
 | .str _,_,_,h=>by simp only[RD]at h⊢;exact h
 | .tup ds,_,n,h=>by simp only[RD]at h⊢;obtain⟨a,xs,e,h1,h2⟩:=h;exact⟨a,xs,e,hs _ _ trivial h1,RDs.tk hs (by simpa only [D.noL] using n) h2⟩
 | .lst ds,_,n,h=>by simp[D.noL]at n
 | .dk _ ds,_,n,h=>by simp[D.noL]at n
 | .dt _ ds,_,n,h=>by simp[D.noL]at n
 | .dn _ ds,_,n,h=>by simp[D.noL]at n
 | .exc c fs,_,n,h=>by
  simp only[RD]at h⊢;obtain⟨a,od,o,e,h1,h2,h3⟩:=h;refine⟨a,od,o,e,h1,hs _ _ h1.imm h2,?_⟩;rcases h3 with h3 |⟨dx,xs,ob,q1,q2,q3⟩
  . exact .inl h3
  . exact .inr ⟨dx,xs,ob,q1,hs _ _ trivial q2,q3⟩
 | .scr ns,_,n,h=>by
  simp only[RD]at h⊢;obtain⟨a,e,h1⟩:=h;refine⟨a,e,?_⟩;rcases h1 with⟨o,h1⟩ |h1
  . exact .inl ⟨o,hs _ _ trivial h1⟩
  . exact .inr h1
theorem RDs.tk(hs:TK H H'):∀{ds:List D}{xs:List V},i9 ds=true->RDs K H ds xs->RDs K H' ds xs
 | [],_,_,h=>by simp only[RDs]at h⊢;exact h
 |d::ds,_,n,h=>by simp only[RDs]at h⊢;simp only[i9,ng]at n;obtain⟨x,r,e,h1,h2⟩:=h;exact⟨x,r,e,RD.tk hs n.1 h1,RDs.tk hs n.2 h2⟩
end
mutual
theorem RD.mono(hs:Same H H'):∀{d:D}{v:V},RD K H d v->RD K H' d v
 | .non,_,h=>by simp only[RD]at h⊢;exact h
 | .bl _,_,h=>by simp only[RD]at h⊢;exact h
 | .int _,_,h=>by simp only[RD]at h⊢;exact h
 | .str _,_,h=>by simp only[RD]at h⊢;exact h
 | .tup ds,_,h=>by simp only[RD]at h⊢;obtain⟨a,xs,e,h1,h2⟩:=h;exact⟨a,xs,e,hs _ _ h1,RDs.mono hs h2⟩
 | .lst ds,_,h=>by simp only[RD]at h⊢;obtain⟨a,xs,e,h1,h2⟩:=h;exact⟨a,xs,e,hs _ _ h1,RDs.mono hs h2⟩
 | .dk _ ds,_,h=>by simp only[RD]at h⊢;obtain⟨a,xs,e,h1,hl,h2⟩:=h;exact⟨a,xs,e,hs _ _ h1,hl,RDs.mono hs h2⟩
 | .dn _ ds,_,h=>by simp only[RD]at h⊢;obtain⟨a,qs,xs,o,e,h1,hk,hd,h2⟩:=h;exact⟨a,qs,xs,o,e,hs _ _ h1,hk,hd.tk fun b ys q=>hs _ _ q,RDs.mono hs h2⟩
 | .dt _ ds,_,h=>by simp only[RD]at h⊢;obtain⟨a,xs,e,h1,hl,h2⟩:=h;exact⟨a,xs,e,hs _ _ h1,hl,RDs.mono hs h2⟩
 | .exc c fs,_,h=>by
  simp only[RD]at h⊢;obtain⟨a,od,o,e,h1,h2,h3⟩:=h;refine⟨a,od,o,e,h1,hs _ _ h2,?_⟩;rcases h3 with h3 |⟨dx,xs,ob,q1,q2,q3⟩
  . exact .inl h3
  . exact .inr ⟨dx,xs,ob,q1,hs _ _ q2,q3⟩
 | .scr ns,_,h=>by
  simp only[RD]at h⊢;obtain⟨a,e,h1⟩:=h;refine⟨a,e,?_⟩;rcases h1 with⟨o,h1⟩ |h1
  . exact .inl ⟨o,hs _ _ h1⟩
  . exact .inr h1
theorem RDs.mono(hs:Same H H'):∀{ds:List D}{xs:List V},RDs K H ds xs->RDs K H' ds xs
 | [],_,h=>by simp only[RDs]at h⊢;exact h
 |d::ds,_,h=>by simp only[RDs]at h⊢;obtain⟨x,r,e,h1,h2⟩:=h;exact⟨x,r,e,RD.mono hs h1,RDs.mono hs h2⟩
end
theorem RDs.length:∀{ds:List D}{xs:List V},RDs K H ds xs->ds.length=xs.length
 | [],_,h=>by simp only[RDs]at h;subst h;rfl
 |d::ds,_,h=>by simp only[RDs]at h;obtain⟨x,r,rfl,_,h2⟩:=h;simp[RDs.length h2]
theorem RDs.get:∀{ds:List D}{xs:List V}{i:Nat}{x:V},RDs K H ds xs->xs[i]?=some x->∃d,ds[i]?=some d/\RD K H d x
 | [],_,i,x,h,e=>by simp only[RDs]at h;subst h;simp at e
 |d::ds,_,i,x,h,e=>by
  simp only[RDs]at h;obtain⟨y,r,rfl,h1,h2⟩:=h;cases i with
  |zero=>simp at e;subst e;exact⟨d,rfl,h1⟩
  |succ i=>simp at e;obtain⟨d',e1,e2⟩:=RDs.get h2 e;exact⟨d',by simpa using e1,e2⟩
theorem RDs.get':∀{ds:List D}{xs:List V}{i:Nat}{d:D},RDs K H ds xs->ds[i]?=some d->∃x,xs[i]?=some x/\RD K H d x
 | [],_,i,d,h,e=>by simp at e
 |d'::ds,_,i,d,h,e=>by
  simp only[RDs]at h;obtain⟨y,r,rfl,h1,h2⟩:=h;cases i with
  |zero=>simp at e;subst e;exact⟨y,rfl,h1⟩
  |succ i=>simp at e;obtain⟨x',e1,e2⟩:=RDs.get' h2 e;exact⟨x',by simpa using e1,e2⟩
theorem RDs.append:∀{ds es:List D}{xs ys:List V},RDs K H ds xs->RDs K H es ys->RDs K H (ds++es) (xs++ys)
 | [],_,_,_,h,h'=>by simp only[RDs]at h;subst h;exact h'
 |d::ds,es,_,ys,h,h'=>by simp only[RDs]at h;obtain⟨x,r,rfl,h1,h2⟩:=h;simp only[GD,RDs];exact⟨x,r++ys,rfl,h1,RDs.append h2 h'⟩
theorem RDs.nil:RDs K H [] []:=by simp only[RDs]
theorem RDs.cons(h:RD K H d x)(h':RDs K H ds xs):RDs K H (d::ds) (x::xs):=by simp only[RDs];exact⟨x,xs,rfl,h,h'⟩
theorem RDs.one(h:RD K H d x):RDs K H [d] [x]:=.cons h .nil
theorem RDs.take:∀{ds:List D}{xs:List V}(n:Nat),RDs K H ds xs->RDs K H (ds.take n) (xs.take n)
 |_,_,0,_=>by simp[RDs]
 | [],_,n+1,h=>by simp only[RDs]at h;subst h;simp[RDs]
 |d::ds,_,n+1,h=>by simp only[RDs]at h;obtain⟨x,r,rfl,h1,h2⟩:=h;simp only[List.take_succ_cons];exact .cons h1 (RDs.take n h2)
theorem RDs.drop:∀{ds:List D}{xs:List V}(n:Nat),RDs K H ds xs->RDs K H (ds.drop n) (xs.drop n)
 |_,_,0,h=>h
 | [],_,n+1,h=>by simp only[RDs]at h;subst h;simp[RDs]
 |d::ds,_,n+1,h=>by simp only[RDs]at h;obtain⟨x,r,rfl,h1,h2⟩:=h;exact RDs.drop n h2
theorem RDs.set:∀{ds:List D}{xs:List V}(n:Nat){d:D}{x:V},RDs K H ds xs->RD K H d x->RDs K H (ds.set n d) (xs.set n x)
 | [],_,n,_,_,h,_=>by simp only[RDs]at h;subst h;simp[RDs]
 |d::ds,_,0,_,_,h,h'=>by simp only[RDs]at h;obtain⟨x,r,rfl,h1,h2⟩:=h;exact .cons h' h2
 |d::ds,_,n+1,_,_,h,h'=>by simp only[RDs]at h;obtain⟨x,r,rfl,h1,h2⟩:=h;exact .cons h1 (RDs.set n h2 h')
theorem RDs.ofInts:∀(ns:List Int),RDs K H (ns.map D.int) (ns.map V.int)
 | []=>by simp only[List.map,RDs]
 |n::ns=>by simp only[List.map];exact RDs.cons (by simp only[RD]) (RDs.ofInts ns)
end
mutual
noncomputable def eqD:D->D->Bool
 | .non,.non=>true
 | .bl a,.bl b=>a==b
 | .bl a,.int j=>(if a then 1 else 0)==j
 | .int i,.bl b=>i==(if b then 1 else 0)
 | .int i,.int j=>i==j
 | .str a,.str b=>a==b
 | .tup ds,.tup es=>n6 ds es
 | .lst ds,.lst es=>n6 ds es
 |_,_=>false
noncomputable def n6:List D->List D->Bool
 | [],[]=>true
 |d::ds,e::es=>eqD d e&&n6 ds es
 |_,_=>false
end
mutual
noncomputable def D.dep:D->Nat
 | .tup ds=>h7 ds+1
 | .lst ds=>h7 ds+1
 |_=>0
noncomputable def h7:List D->Nat
 | []=>0
 |d::ds=>max d.dep (h7 ds)
end
mutual
theorem Wa:∀d:D,d.pl=true->eqD d d=true
 | .non,_=>rfl
 | .bl b,_=>by simp[eqD]
 | .int b,_=>by simp[eqD]
 | .str b,_=>by simp[eqD]
 | .tup ds,h=>by simp only[eqD];exact Mf ds (by simpa only [D.pl] using h)
 | .lst ds,h=>by simp only[eqD];exact Mf ds (by simpa only [D.pl] using h)
 | .dk _ _,h=>by simp[D.pl]at h
 | .dt _ _,h=>by simp[D.pl]at h
 | .dn _ _,h=>by simp[D.pl]at h
 | .scr _,h=>by simp[D.pl]at h
 | .exc _ _,h=>by simp[D.pl]at h
theorem Mf:∀ds:List D,pls ds=true->n6 ds ds=true
 | [],_=>rfl
 |d::ds,h=>by simp only[pls,ng]at h;simp only[n6,Wa d h.1,Mf ds h.2,EM]
end
mutual
theorem RD.inj{K:Frag}{H:Hp}:∀{d e:D}{v:V},d.pl=true->e.pl=true->RD K H d v->RD K H e v->d=e
 | .non,e,v,_,p,h,h'=>by simp only[RD]at h;subst h;cases e<;>simp only[RD]at h'<;>first | (exfalso;simp[D.pl]at p;done) |rfl | (cases h';done) | (obtain⟨a,xs,z,_⟩:=h';cases z)
 | .bl b,e,v,_,p,h,h'=>by simp only[RD]at h;subst h;cases e<;>simp only[RD]at h'<;>first | (exfalso;simp[D.pl]at p;done) | (cases h';rfl) | (cases h';done) | (obtain⟨a,xs,z,_⟩:=h';cases z)
 | .int b,e,v,_,p,h,h'=>by simp only[RD]at h;subst h;cases e<;>simp only[RD]at h'<;>first | (exfalso;simp[D.pl]at p;done) | (cases h';rfl) | (cases h';done) | (obtain⟨a,xs,z,_⟩:=h';cases z)
 | .str b,e,v,_,p,h,h'=>by simp only[RD]at h;subst h;cases e<;>simp only[RD]at h'<;>first | (exfalso;simp[D.pl]at p;done) | (cases h';rfl) | (cases h';done) | (obtain⟨a,xs,z,_⟩:=h';cases z)
 | .dk _ _,e,v,p,_,h,h'=>by simp[D.pl]at p
 | .dt _ _,e,v,p,_,h,h'=>by simp[D.pl]at p
 | .dn _ _,e,v,p,_,h,h'=>by simp[D.pl]at p
 | .scr _,e,v,p,_,h,h'=>by simp[D.pl]at p
 | .exc _ _,e,v,p,_,h,h'=>by simp[D.pl]at p
 | .tup ds,e,v,p,p',h,h'=>by
  simp only[RD]at h;obtain⟨a,xs,rfl,h1,h2⟩:=h;cases e<;>simp only[RD]at h'
  case tup es=>
   obtain⟨b,ys,z,h3,h4⟩:=h'
   cases z
   rw[h1]at h3;cases h3
   rw[RDs.inj (by simpa only [D.pl] using p) (by simpa only [D.pl] using p') h2 h4]
  case lst es=>
   obtain⟨b,ys,z,h3,h4⟩:=h'
   cases z
   rw[h1]at h3;cases h3
  all_goals first | (exfalso;simp[D.pl]at p';done) |cases h'
 | .lst ds,e,v,p,p',h,h'=>by
  simp only[RD]at h;obtain⟨a,xs,rfl,h1,h2⟩:=h;cases e<;>simp only[RD]at h'
  case tup es=>
   obtain⟨b,ys,z,h3,h4⟩:=h'
   cases z
   rw[h1]at h3;cases h3
  case lst es=>
   obtain⟨b,ys,z,h3,h4⟩:=h'
   cases z
   rw[h1]at h3;cases h3
   rw[RDs.inj (by simpa only [D.pl] using p) (by simpa only [D.pl] using p') h2 h4]
  all_goals first | (exfalso;simp[D.pl]at p';done) |cases h'
theorem RDs.inj{K:Frag}{H:Hp}:∀{ds es:List D}{xs:List V},pls ds=true->pls es=true->RDs K H ds xs->RDs K H es xs->ds=es
 | [],es,xs,_,_,h,h'=>by
  simp only[RDs]at h;subst h;cases es<;>simp only[RDs]at h'
  . rfl
  . obtain⟨x,r,z,_⟩:=h';cases z
 |d::ds,es,xs,p,p',h,h'=>by
  simp only[RDs]at h;obtain⟨x,r,rfl,h1,h2⟩:=h;simp only[pls,ng]at p;cases es with
  |nil=>simp only[RDs]at h';cases h'
  |cons e es=>
   simp only[RDs]at h'
   obtain⟨y,r',z,h3,h4⟩:=h'
   cases z
   simp only[pls,ng]at p'
   rw[RD.inj p.1 p'.1 h1 h3,RDs.inj p.2 p'.2 h2 h4]
end
theorem Kr:∀{ds:List D}{d:D},pls ds=true->d∈ds->d.pl=true
 |e::ds,d,h,m=>by
  simp only[pls,ng]at h;rcases gD.mp m with rfl |m
  . exact h.1
  . exact Kr h.2 m
theorem Ln:∀{ds:List D}{d:D},d∈ds->d.dep<=h7 ds
 |d'::ds,d,h=>by
  simp only[h7];rcases gD.mp h with rfl |h
  . lia
  . have:=Ln h;lia
theorem Lm:∀{ds es:List D},ds.length=es.length->n6 ds es=(List.range ds.length).all fun j=>eqD (ds.getD j .non) (es.getD j .non)
 | [],[],_=>rfl
 | [],_::_,h=>by simp at h
 |_::_,[],h=>by simp at h
 |d::ds,e::es,h=>by simp only[n6,pp];rw[Lm (by simpa using h),List.range_succ_eq_map,List.all_cons,List.all_map];rfl
theorem Ll:∀{ds es:List D},ds.length≠es.length->n6 ds es=false
 | [],[],h=>absurd rfl h
 | [],_::_,_=>rfl
 |_::_,[],_=>rfl
 |d::ds,e::es,h=>by simp only[n6];rw[Ll (by intro z;exact h (by simp[z])),Bool.and_false]
section
variable {X:Cx}{pins:List (Addr×Obj)}{σ:St}{H:Hp}{s:Shared}
theorem Inv.tupA(I:Inv X pins σ H s)(h:H a=some (.tup xs)):∃its:List Value,Vals xs its/\s.heap.IsTuple a its.toArray:=by obtain⟨its,r,t,_⟩:=I.tuple (.of h);exact⟨its,r,t⟩
theorem Inv.lstA(I:Inv X pins σ H s)(h:H a=some (.lst xs)):∃its:List Value,Vals xs its/\s.heap.IsList a its.toArray:=by obtain⟨its,r,t,_⟩:=I.list (.of h);exact⟨its,r,t.isList⟩
inductive Shp (X:Cx) (H:Hp) (s:Shared):D->V->Value->Prop
 |non:Shp X H s .non .non .none
 |bl (b:Bool):Shp X H s (.bl b) (.bl b) (.bool b)
 |int (i:Int) (t:Tok):Shp X H s (.int i) (.int i) (.int i t)
 |str (c:Str) (t:Tok):Shp X H s (.str c) (.str c) (.str c t)
 |tup {ds:List D} {a:Addr} {xs:List V} {its:List Value} (p:pls ds=true) (h:H a=some (.tup xs)) (q:RDs X.K H ds xs) (r:Vals xs its) (t:s.heap.IsTuple a its.toArray):Shp X H s (.tup ds) (.ref a) (.ref a)
 |lst {ds:List D} {a:Addr} {xs:List V} {its:List Value} (p:pls ds=true) (h:H a=some (.lst xs)) (q:RDs X.K H ds xs) (r:Vals xs its) (t:s.heap.IsList a its.toArray):Shp X H s (.lst ds) (.ref a) (.ref a)
theorem shp(I:Inv X pins σ H s)(p:d.pl=true)(h:RD X.K H d x)(r:RelV x u):Shp X H s d x u:=by
 cases d<;>simp only[RD]at h<;>first | (exfalso;simp[D.pl]at p;done) |skip
 . subst h;cases r;exact .non
 . subst h;cases r;exact .bl _
 . subst h;obtain⟨t,rfl⟩:=r;exact .int _ _
 . subst h;obtain⟨t,rfl⟩:=r;exact .str _ _
 . obtain⟨a,xs,rfl,h1,h2⟩:=h;cases r;obtain⟨its,v,t⟩:=I.tupA h1;exact .tup (by simpa only [D.pl] using p) h1 h2 v t
 . obtain⟨a,xs,rfl,h1,h2⟩:=h;cases r;obtain⟨its,v,t⟩:=I.lstA h1;exact .lst (by simpa only [D.pl] using p) h1 h2 v t
def Gy(X:Cx)(H:Hp)(s:Shared)(A:Around)(n:Nat):Prop:=∀{d e:D}{x y:V}{u v:Value},d.pl=true->e.pl=true->d.dep<=n->RD X.K H d x->RD X.K H e y->RelV x u->RelV y v->SeqAt.EqAt A s u v (eqD d e)
theorem Uu(ih:Gy X H s A n)(pd:pls ds=true)(pe:pls es=true)(ss:h7 ds<=n)(cg:RDs X.K H ds xs)(fD:RDs X.K H es ys)(r:Vals xs its)(r2:Vals ys ax)(j:Nat)
  (h1:j<its.toArray.size) (h2:j<ax.toArray.size):SeqAt.EqAt A s its.toArray[j] ax.toArray[j] (eqD (ds.getD j .non) (es.getD j .non)):=by
 have eX:j<its.length:=by simpa using h1
 have sw:j<ax.length:=by simpa using h2
 have l1:=r.length
 have l2:=r2.length
 obtain⟨u1,e1,q1⟩:=r.get (i:=j) (x:=xs[j]'(by lia)) (by simp)
 obtain⟨u2,e2,q2⟩:=r2.get (i:=j) (x:=ys[j]'(by lia)) (by simp)
 obtain⟨d1,g1,w1⟩:=cg.get (i:=j) (x:=xs[j]'(by lia)) (by simp)
 obtain⟨d2,g2,w2⟩:=fD.get (i:=j) (x:=ys[j]'(by lia)) (by simp)
 have ea:its.toArray[j]=u1:=by rw[CH eX]at e1;simpa using e1
 have eb:ax.toArray[j]=u2:=by rw[CH sw]at e2;simpa using e2
 have ga:ds.getD j .non=d1:=by rw[CI,g1];rfl
 have gb:es.getD j .non=d2:=by rw[CI,g2];rfl
 rw[ea,eb,ga,gb]
 exact ih (Kr pd (EB g1)) (Kr pe (EB g2)) (CL (Ln (EB g1)) ss) w1 w2 q1 q2
theorem xG(cg:RDs X.K H ds xs)(fD:RDs X.K H es ys)(r:Vals xs its)(r2:Vals ys ax) :
  ((List.range (min its.toArray.size ax.toArray.size)).all (fun j=>eqD (ds.getD j .non) (es.getD j .non))&&its.toArray.size==ax.toArray.size)=n6 ds es:=by
 have lx:=cg.length;have ly:=fD.length;have l1:=r.length;have l2:=r2.length
 simp only[CJ]
 by_cases hl:ds.length=es.length
 . rw[Lm hl];have:its.length=ax.length:=by lia
   rw[this,Il,show ax.length=ds.length by lia];simp
 . rw[Ll hl];have:(its.length==ax.length)=false:=by simp;lia
   rw[this,Bool.and_false]
theorem xF(cg:RDs X.K H ds xs)(fD:RDs X.K H es ys)(r:Vals xs its)(r2:Vals ys ax)(hl:ds.length=es.length) :
  ((List.range its.toArray.size).all fun j=>eqD (ds.getD j .non) (es.getD j .non))=n6 ds es:=by
 have lx:=cg.length;have ly:=fD.length;have l1:=r.length;have l2:=r2.length
 rw[Lm hl,CJ,show its.length=ds.length by lia]
theorem jM(hu:A.units<cLine)(ih:Gy X H s A.in1 n)(hn:d.dep<=n+1)(sx:Shp X H s d x u)(sy:Shp X H s e y v):SeqAt.RcAt A s u v (eqD d e)/\SeqAt.RcNeAt A s u v (!eqD d e):=by
 cases sx with
 |non=>cases sy with
  |non=>exact⟨.none_none,.none_none⟩
  |bl _=>exact⟨.none_bool _,.none_bool _⟩
  |int _ _=>exact⟨.none_int _ _,.none_int _ _⟩
  |str _ _=>exact⟨.none_str _ _,.none_str _ _⟩
  |tup p2 h2 q2 r2 t2=>exact⟨.none_tuple t2 hu,.none_tuple t2 hu⟩
  |lst p2 h2 q2 r2 t2=>exact⟨.none_list t2 hu,.none_list t2 hu⟩
 |bl _=>cases sy with
  |non=>exact⟨.bool_none _,.bool_none _⟩
  |bl _=>exact⟨.bool_bool _ _,.bool_bool _ _⟩
  |int _ _=>exact⟨.bool_int _ _ _,.bool_int _ _ _⟩
  |str _ _=>exact⟨.bool_str _ _ _,.bool_str _ _ _⟩
  |tup p2 h2 q2 r2 t2=>exact⟨.bool_tuple _ t2 hu,.bool_tuple _ t2 hu⟩
  |lst p2 h2 q2 r2 t2=>exact⟨.bool_list _ t2 hu,.bool_list _ t2 hu⟩
 |int _ _=>cases sy with
  |non=>exact⟨.int_none _ _,.int_none _ _⟩
  |bl _=>exact⟨.int_bool _ _ _,.int_bool _ _ _⟩
  |int _ _=>exact⟨.int_int _ _ _ _,.int_int _ _ _ _⟩
  |str _ _=>exact⟨.int_str _ _ _ _,.int_str _ _ _ _⟩
  |tup p2 h2 q2 r2 t2=>exact⟨.int_tuple _ _ t2 hu,.int_tuple _ _ t2 hu⟩
  |lst p2 h2 q2 r2 t2=>exact⟨.int_list _ _ t2 hu,.int_list _ _ t2 hu⟩
 |str _ _=>cases sy with
  |non=>exact⟨.str_none _ _,.str_none _ _⟩
  |bl _=>exact⟨.str_bool _ _ _,.str_bool _ _ _⟩
  |int _ _=>exact⟨.str_int _ _ _ _,.str_int _ _ _ _⟩
  |str _ _=>exact⟨.str_str _ _ _ _,.str_str _ _ _ _⟩
  |tup p2 h2 q2 r2 t2=>exact⟨.str_tuple _ _ t2 hu,.str_tuple _ _ t2 hu⟩
  |lst p2 h2 q2 r2 t2=>exact⟨.str_list _ _ t2 hu,.str_list _ _ t2 hu⟩
 |tup p h q r t=>cases sy with
  |non=>exact⟨.tuple_none t hu,.tuple_none t hu⟩
  |bl _=>exact⟨.tuple_bool _ t hu,.tuple_bool _ t hu⟩
  |int _ _=>exact⟨.tuple_int _ _ t hu,.tuple_int _ _ t hu⟩
  |str _ _=>exact⟨.tuple_str _ _ t hu,.tuple_str _ _ t hu⟩
  |tup p2 h2 q2 r2 t2 => 
   simp only[D.dep]at hn
   have z:=Uu ih p p2 (Nat.le_of_succ_le_succ hn) q q2 r r2
   simp only[eqD]
   rw[<-xG q q2 r r2]
   exact⟨.tuples t t2 hu z,.tuples t t2 hu z⟩
  |lst p2 h2 q2 r2 t2=>exact⟨.tuple_list t t2 hu,.tuple_list t t2 hu⟩
 |lst p h q r t=>cases sy with
  |non=>exact⟨.list_none t hu,.list_none t hu⟩
  |bl _=>exact⟨.list_bool _ t hu,.list_bool _ t hu⟩
  |int _ _=>exact⟨.list_int _ _ t hu,.list_int _ _ t hu⟩
  |str _ _=>exact⟨.list_str _ _ t hu,.list_str _ _ t hu⟩
  |tup p2 h2 q2 r2 t2=>exact⟨.list_tuple t t2 hu,.list_tuple t t2 hu⟩
  |lst p2 h2 q2 r2 t2 => 
   rename_i ds _ xs its es _ ys ax
   simp only[D.dep]at hn
   have z:=Uu ih p p2 (Nat.le_of_succ_le_succ hn) q q2 r r2
   have lx:=q.length;have ly:=q2.length;have l1:=r.length;have l2:=r2.length
   simp only[eqD]
   by_cases hl:ds.length=es.length
   . have hsz:its.toArray.size=ax.toArray.size:=by simp;lia
     rw[<-xF q q2 r r2 hl];exact⟨.lists t t2 hsz hu z,.lists t t2 hsz hu z⟩
   . have hsz:(its.toArray.size != ax.toArray.size)=true:=by simp;lia
     rw[Ll hl];exact⟨.lists_lengths t t2 hsz hu,.lists_lengths t t2 hsz hu⟩
theorem Eo(I:Inv X pins σ H s):∀(n:Nat){A:Around}{d e:D}{x y:V}{u v:Value},d.pl=true->e.pl=true->d.dep<=n->A.units+n<cLine->RD X.K H d x->RD X.K H e y->RelV x u->RelV y v->SeqAt.EqAt A s u v (eqD d e):=by
 have key:∀(n:Nat){A:Around}{d e:D}{x y:V}{u v:Value},A.units<cLine->(∀m,m+1=n->Gy X H s A.in1 m)->d.pl=true->e.pl=true->d.dep<=n->RD X.K H d x->RD X.K H e y->RelV x u->RelV y v->SeqAt.EqAt A s u v (eqD d e):=by
  intro n A d e x y u v hu ih iz gB hn hx hy ru rv;have sx:=shp I iz hx ru;have sy:=shp I gB hy rv;have back:∀{a b:Addr},u=.ref a->v=.ref b->x=.ref a->y=.ref b->1<=d.dep->SeqAt.EqAt A s u v (eqD d e):=fun {a b} eu ev ex ey h1=>by
   subst eu ev ex ey;by_cases bu:a=b
   . subst bu;rw[RD.inj iz gB hx hy,Wa _ gB];exact .same _
   . exact .of_refs bu (jM (n:=n - 1) hu (ih (n - 1) (by lia)) (by lia) sx sy).1
  cases sx with
  |non=>cases sy with
   |non=>exact .same _
   |bl _=>exact .none_bool _
   |int _ _=>exact .none_int _ _
   |str _ _=>exact .none_str _ _
   |tup p2 h2 q2 r2 t2=>exact .none_tuple t2 hu
   |lst p2 h2 q2 r2 t2=>exact .none_list t2 hu
  |bl _=>cases sy with
   |non=>exact .bool_none _
   |bl _=>exact .bool_bool _ _
   |int _ _=>exact .bool_int _ _ _
   |str _ _=>exact .bool_str _ _ _
   |tup p2 h2 q2 r2 t2=>exact .bool_tuple _ t2 hu
   |lst p2 h2 q2 r2 t2=>exact .bool_list _ t2 hu
  |int _ _=>cases sy with
   |non=>exact .int_none _ _
   |bl _=>exact .int_bool _ _ _
   |int _ _=>exact .int_int _ _ _ _
   |str _ _=>exact .int_str _ _ _ _
   |tup p2 h2 q2 r2 t2=>exact .int_tuple _ _ t2 hu
   |lst p2 h2 q2 r2 t2=>exact .int_list _ _ t2 hu
  |str _ _=>cases sy with
   |non=>exact .str_none _ _
   |bl _=>exact .str_bool _ _ _
   |int _ _=>exact .str_int _ _ _ _
   |str _ _=>exact .str_str _ _ _ _
   |tup p2 h2 q2 r2 t2=>exact .str_tuple _ _ t2 hu
   |lst p2 h2 q2 r2 t2=>exact .str_list _ _ t2 hu
  |tup p h q r t=>cases sy with
   |non=>exact .tuple_none t hu
   |bl _=>exact .tuple_bool _ t hu
   |int _ _=>exact .tuple_int _ _ t hu
   |str _ _=>exact .tuple_str _ _ t hu
   |tup p2 h2 q2 r2 t2=>exact back rfl rfl rfl rfl (by simp only[D.dep];exact Nat.succ_pos _)
   |lst p2 h2 q2 r2 t2=>exact .tuple_list t t2 hu
  |lst p h q r t=>cases sy with
   |non=>exact .list_none t hu
   |bl _=>exact .list_bool _ t hu
   |int _ _=>exact .list_int _ _ t hu
   |str _ _=>exact .list_str _ _ t hu
   |tup p2 h2 q2 r2 t2=>exact .list_tuple t t2 hu
   |lst p2 h2 q2 r2 t2=>exact back rfl rfl rfl rfl (by simp only[D.dep];exact Nat.succ_pos _)
 intro n;induction n with
 |zero=>exact fun p q hn hu=>key 0 (by lia) (fun m z=>nomatch z) p q hn
 |succ n ih=>exact fun {A d e x y u v} p q hn hu=>key (n+1) (by lia) (fun m z=>by cases z;exact fun p q hn=>ih p q hn (by show A.units+1+n<cLine;lia)) p q hn
theorem Se(I:Inv X pins σ H s)(iz:d.pl=true)(gB:e.pl=true)(hn:d.dep<=n)(hu:A.units+1+n<cLine)(hx:RD X.K H d x)(hy:RD X.K H e y)(ru:RelV x u)(rv:RelV y v):SeqAt.RcAt A s u v (eqD d e)/\SeqAt.RcNeAt A s u v (!eqD d e):=
 jM (n:=n) (by lia) (fun p q h=>Eo I n p q h (by show A.units+1+n<cLine;lia)) (by lia) (shp I iz hx ru) (shp I gB hy rv)
end
section
variable {X:Cx}
open Classical in
def hitD(K:Frag)(H:Hp)(d:D)(u:Value):Bool:=match kg u with
 |some v=>decide (∃e,e.pl=true/\RD K H e v/\eqD e d=true)
 |none=>false
open Classical in
theorem Ut{K:Frag}{H:Hp}{d e:D}{y:V}{u:Value}(pe:e.pl=true)(r:RelV y u)(h:RD K H e y):hitD K H d u=eqD e d:=by unfold hitD;rw[r.abs];dsimp only;rw[FX];rw[decide_eq_true_iff];exact⟨fun⟨e',p',h',q⟩=>by rw[RD.inj pe p' h h'];exact q,fun q=>⟨e,pe,h,q⟩⟩
theorem Bk{K:Frag}{H:Hp}{d:D}:∀{es:List D}{xs:List V}{us:List Value},pls es=true->RDs K H es xs->Vals xs us->us.any (hitD K H d)=es.any fun e=>eqD e d
 | [],_,_,_,h,r=>by simp only[RDs]at h;subst h;cases r;rfl
 |e::es,_,_,p,h,r=>by
  simp only[RDs]at h;simp only[pls,ng]at p;obtain⟨x,xs,rfl,h1,h2⟩:=h;cases r with
  |cons r1 r2=>rw[HG,HG,Ut p.1 r1 h1,Bk p.2 h2 r2]
theorem Az{A:Around}{pins:List (Addr×Obj)}{σ:St}{H:Hp}{s:Shared}(I:Inv X pins σ H s)(hu:A.units+1+20<cLine){d:D}{x:V}{v:Value}(pd:d.pl=true)(hx:RD X.K H d x)(rx:RelV x v):∀{es:List D}{xs:List V}{us:List Value},
  pls es=true->RDs X.K H es xs->Vals xs us->h7 es<=20->∀u∈us,SeqAt.EqAt A.in1 s u v (hitD X.K H d u)
 | [],_,_,_,h,r,_=>by simp only[RDs]at h;subst h;cases r;intro u hu;cases hu
 |e::es,_,_,p,h,r,hd=>by
  simp only[RDs]at h;simp only[pls,ng]at p;obtain⟨y,xs,rfl,h1,h2⟩:=h;simp only[h7]at hd;cases r with
  |cons r1 r2=>
   intro u hm
   rcases gD.mp hm with z |hm
   . subst z;rw[Ut p.1 r1 h1];exact Eo I 20 p.1 pd (by lia) (by show A.units+1+20<cLine;lia) h1 hx r1 rx
   . exact Az I hu pd hx rx p.2 h2 r2 (by lia) u hm
end
structure Ex where
 cls:String
 fs:List D
inductive R (α:Type) where
 |ok (a:α) |er (x:Ex) |st
noncomputable def R.bind{α β:Type}(r:R α)(f:α->R β):R β:=match r with
 | .ok a=>f a
 | .er x=>.er x
 | .st=>.st
def Rk{α:Type}(EX:Ex->Prop)(r:R α)(k:α->Prop):Prop:=match r with
 | .ok a=>k a
 | .er x=>EX x
 | .st=>False
section
variable {α β:Type}{EX:Ex->Prop}
noncomputable def R.of(o:Option α):R α:=match o with
 |some a=>.ok a
 |none=>.st
theorem R.of_some(a:α):R.of (some a)=R.ok a:=rfl
theorem Rk.of(h:Rk EX (R.of o) k):∃a,o=some a/\k a:=by
 cases o with
 |none=>exact h.elim
 |some a=>exact⟨a,rfl,h⟩
theorem R.bind_ok(a:α)(f:α->R β):(R.ok a).bind f=f a:=rfl
theorem Rk.bind:Rk EX (r.bind f) k=Rk EX r fun a=>Rk EX (f a) k:=by cases r<;>rfl
theorem Rk.mono(h:Rk EX r k)(hk:∀a,k a->k' a):Rk EX r k':=by
 cases r with
 |ok a=>exact hk a h
 |er x=>exact h
 |st=>exact h
end
def Ext(H0 H aa H':Hp):Prop:=Same H0 aa/\Same aa H'/\∀a,H a≠none->H0 a=none->aa a=none
theorem Ext.refl(h:Same H0 H):Ext H0 H H0 H:=⟨Same.refl _,h,fun _ _ e=>e⟩
theorem Ay(h:o=some x):o≠none:=by rw[h];exact fun z=>nomatch z
theorem Same.ne(h:Same H H')(n:H a≠none):H' a≠none:=by
 cases e:H a with
 |none=>exact absurd e n
 |some o=>exact Ay (h a o e)
theorem Ext.trans(s:Same H H')(a:Ext H0 H aa H')(b:Ext aa H' nH gw):Ext H0 H nH gw:=
 ⟨a.1.trans b.1,b.2.1,fun c h1 h2=>b.2.2 c (s.ne h1) (a.2.2 c h1 h2)⟩
theorem Ext.grow(a:Ext H0 H aa H')(s:Same H' gw):Ext H0 H aa gw:=⟨a.1,a.2.1.trans s,a.2.2⟩
theorem Ext.new(h:Same H0 H)(hp:H p=none):Ext H0 H (upd H0 p o) (upd H p o):=by
 have h0:H0 p=none:=by
  cases e:H0 p with
  |none=>rfl
  |some u=>rw[h p u e]at hp;cases hp
 refine⟨Same.upd_new h0,fun b u e=>?_,fun a h1 h2=>?_⟩
 . by_cases hb:b=p
   . subst hb;rw[k9]at e⊢;exact e
   . rw[e9 hb]at e⊢;exact h b u e
 . have ha:a≠p:=fun z=>h1 (by rw[z];exact hp)
   rw[e9 ha];exact h2
def OB(K:Frag)(H0 H:Hp)(a:Addr):D->Prop
 | .lst ds=>∃xs,H a=some (.lst xs)/\RDs K H0 ds xs
 | .dk ks ds=>∃xs,H a=some (.dK (ks.zip xs))/\ks.length=xs.length/\RDs K H0 ds xs
 | .dt ks ds=>∃xs,H a=some (.dT (ks.zip xs))/\ks.length=xs.length/\RDs K H0 ds xs
 | .dn ks ds=>∃qs xs o,H a=some (.ext (dnP a qs xs o))/\qs.map (·.1)=ks/\DN H0 a qs/\RDs K H0 ds xs
 |_=>False
section
variable {K:Frag}{H0 H aa H':Hp}{a:Addr}{d:D}
theorem OB.some(h:OB K H0 H a d):∃o,H a=some o/\¬Imm o:=by
 cases d<;>simp only[OB]at h
 . obtain⟨xs,h,_⟩:=h;exact⟨_,h,fun z=>z⟩
 . obtain⟨xs,h,_⟩:=h;exact⟨_,h,fun z=>z⟩
 . obtain⟨xs,h,_⟩:=h;exact⟨_,h,fun z=>z⟩
 . obtain⟨qs,xs,o,h,_⟩:=h;exact⟨_,h,fun z=>z _ _ _ _ rfl⟩
theorem OB.mono(h:OB K H0 H a d)(s0:Same H0 aa)(s:Same H H'):OB K aa H' a d:=by
 cases d<;>simp only[OB]at h⊢
 . obtain⟨xs,h,r⟩:=h;exact⟨_,s _ _ h,r.mono s0⟩
 . obtain⟨xs,h,l,r⟩:=h;exact⟨_,s _ _ h,l,r.mono s0⟩
 . obtain⟨xs,h,l,r⟩:=h;exact⟨_,s _ _ h,l,r.mono s0⟩
 . obtain⟨qs,xs,o,h,k,n,r⟩:=h;exact⟨qs,xs,o,s _ _ h,k,n.tk fun b ys q=>s0 _ _ q,r.mono s0⟩
theorem OB.at(h:OB K H0 H a d)(e:H' a=H a):OB K H0 H' a d:=by
 cases d<;>simp only[OB]at h⊢
 . obtain⟨xs,h,r⟩:=h;exact⟨_,e.trans h,r⟩
 . obtain⟨xs,h,l,r⟩:=h;exact⟨_,e.trans h,l,r⟩
 . obtain⟨xs,h,l,r⟩:=h;exact⟨_,e.trans h,l,r⟩
 . obtain⟨qs,xs,o,h,k,n,r⟩:=h;exact⟨qs,xs,o,e.trans h,k,n,r⟩
theorem OB.tk(h:OB K H0 H a d)(n:d.shal=true)(t:TK H0 aa):OB K aa H a d:=by
 cases d<;>simp only[OB,D.shal]at h n⊢
 . obtain⟨xs,h,r⟩:=h;exact⟨_,h,r.tk t n⟩
 . obtain⟨xs,h,l,r⟩:=h;exact⟨_,h,l,r.tk t n⟩
 . obtain⟨xs,h,l,r⟩:=h;exact⟨_,h,l,r.tk t n⟩
 . obtain⟨qs,xs,o,h,k,m,r⟩:=h;exact⟨qs,xs,o,h,k,m.tk fun b ys q=>t _ _ trivial q,r.tk t n⟩
theorem OB.rd(h:OB K H0 H a d)(s0:Same H0 aa)(e:aa a=H a):RD K aa d (.ref a):=by
 cases d<;>simp only[OB,RD]at h⊢
 . obtain⟨xs,h,r⟩:=h;exact⟨_,_,rfl,e.trans h,r.mono s0⟩
 . obtain⟨xs,h,l,r⟩:=h;exact⟨_,_,rfl,e.trans h,l,r.mono s0⟩
 . obtain⟨xs,h,l,r⟩:=h;exact⟨_,_,rfl,e.trans h,l,r.mono s0⟩
 . obtain⟨qs,xs,o,h,k,n,r⟩:=h;exact⟨_,qs,xs,o,rfl,e.trans h,k,n.tk fun b ys q=>s0 _ _ q,r.mono s0⟩
end
def Out(K:Frag)(fr:Bool)(H0 H:Hp)(d:D)(v:V)(H':Hp):Prop:=
 Same H H'/\∃aa,Ext H0 H aa H'/\(if fr=true then ∃p,v=.ref p/\H p=none/\aa p=none/\OB K aa H' p d else RD K aa d v)
section
variable {K:Frag}{fr:Bool}{H0 H aa H':Hp}{d:D}{v:V}
theorem Out.val(s:Same H H')(e:Ext H0 H aa H')(r:RD K aa d v):Out K false H0 H d v H':=⟨s,aa,e,by rw[ξ θ];exact r⟩
theorem Out.pure(s:Same H0 H)(r:RD K H0 d v):Out K false H0 H d v H:=.val (Same.refl _) (.refl s) r
theorem Out.fresh(s:Same H H')(e:Ext H0 H aa H')(hp:H p=none)(fE:aa p=none)(o:OB K aa H' p d):Out K true H0 H d (.ref p) H':=⟨s,aa,e,by rw[ζ rfl];exact⟨p,rfl,hp,fE,o⟩⟩
theorem Out.rd(o:Out K false H0 H d v H'):Same H H'/\∃aa,Ext H0 H aa H'/\RD K aa d v:=by obtain⟨s,aa,e,r⟩:=o;rw[ξ θ]at r;exact⟨s,aa,e,r⟩
theorem Out.weak(o:Out K fr H0 H d v H'):Out K false H0 H d v H':=by
 cases fr with
 |false=>exact o
 |true=>
  obtain⟨s,aa,e,r⟩:=o
  rw[ζ rfl]at r
  obtain⟨p,rfl,hp,fE,ob⟩:=r
  obtain⟨u,hu,_⟩:=ob.some
  have e2:Ext H0 H (upd aa p u) H':=by
   refine⟨e.1.trans (Same.upd_new fE),fun b w q=>?_,fun a h1 h2=>?_⟩
   . by_cases hb:b=p
     . subst hb;rw[k9]at q;cases q;exact hu
     . rw[e9 hb]at q;exact e.2.1 b w q
   . rw[e9 (fun z=>h1 (by rw[z];exact hp))];exact e.2.2 a h1 h2
  exact .val s e2 (ob.rd (Same.upd_new fE) (by rw[k9,hu]))
theorem Out.after(s:Same H H1)(e:Ext H0 H ar H1)(o:Out K fr ar H1 d v H'):Out K fr H0 H d v H':=by
 obtain⟨s',aa,e',r⟩:=o;refine⟨s.trans s',aa,e.trans s e',?_⟩;cases fr with
 |false=>exact r
 |true=>
  rw[ζ rfl]at r⊢
  obtain⟨p,rfl,hp,r⟩:=r
  refine⟨p,rfl,?_,r⟩
  cases q:H p with
  |none=>rfl
  |some u=>rw[s p u q]at hp;cases hp
end
abbrev DE:=List (Option D)
def RE(K:Frag)(H:Hp)(ρ:DE)(σ:St):Prop:=ρ.length=σ.length/\∀(i:Nat) d,ρ[i]?=some (some d)->∃v,σ[i]?=some (some v)/\RD K H d v
theorem RE.mono{K:Frag}{H H':Hp}{ρ:DE}{σ:St}(h:RE K H ρ σ)(s:Same H H'):RE K H' ρ σ:=⟨h.1,fun i d e=>by obtain⟨v,h1,h2⟩:=h.2 i d e;exact⟨v,h1,h2.mono s⟩⟩
structure XW where
 hb:Hp
 p:Ex->Hp->Prop
abbrev F0:XW:=⟨fun _=>none,fun _ _=>False⟩
theorem F0.same(H:Hp):Same F0.hb H:=fun _ _ z=>nomatch z
def XW.at(W:XW)(x:Ex):Prop:=∀H',Same W.hb H'->W.p x H'
noncomputable def TEd(K:Frag)(EX:XW)(fr:Bool)(f:DE->R D):TE:=fun σ H Q=>Same EX.hb H/\∃ρ H0,Same H0 H/\RE K H0 ρ σ/\Rk EX.at (f ρ) fun d=>∀v H',Out K fr H0 H d v H'->Q v H'
noncomputable def TAd(K:Frag)(EX:XW)(f:DE->R (List D)):TA:=fun σ H Q=>Same EX.hb H/\∃ρ H0,Same H0 H/\RE K H0 ρ σ/\Rk EX.at (f ρ) fun ds=>∀vs H' aa,Same H H'->Ext H0 H aa H'->RDs K aa ds vs->Q vs H'
noncomputable def TTd(K:Frag)(EX:XW)(f:DE->R Bool):TT:=fun σ H Q=>Same EX.hb H/\∃ρ H0,Same H0 H/\RE K H0 ρ σ/\Rk EX.at (f ρ) fun b=>∀H',Same H H'->Q b H'
noncomputable def a7(i:Nat):DE->R D:=fun ρ=>match ρ[i]? with |some (some d)=>.ok d |_=>.st
noncomputable def eC(d:D):DE->R D:=fun _=>.ok d
def eOp(o:D->D->Option D)(fa fb:DE->R D):DE->R D:=fun ρ=>(fa ρ).bind fun x=>(fb ρ).bind fun y=>R.of (o x y)
def eUn(o:D->Option D)(fa:DE->R D):DE->R D:=fun ρ=>(fa ρ).bind fun x=>R.of (o x)
noncomputable def b7:DE->R (List D):=fun _=>.ok []
def a8(f:DE->R D)(fs:DE->R (List D)):DE->R (List D):=fun ρ=>(f ρ).bind fun d=>(fs ρ).bind fun ds=>.ok (d::ds)
def d9(m:List D->R D)(fs:DE->R (List D)):DE->R D:=fun ρ=>(fs ρ).bind m
def eCB(m:List D->Option D)(fs:DE->R (List D)):DE->R D:=fun ρ=>(fs ρ).bind fun ds=>R.of (m ds)
def t9(fs:DE->R (List D)):DE->R D:=fun ρ=>(fs ρ).bind fun ds=>if ds.length<=1000 then .ok (.tup ds) else .st
def t8(fs:DE->R (List D)):DE->R D:=fun ρ=>(fs ρ).bind fun ds=>if ds.length<=1000 then .ok (.lst ds) else .st
def eIf(t:DE->R Bool)(fa fb:DE->R D):DE->R D:=fun ρ=>(t ρ).bind fun b=>if b=true then fa ρ else fb ρ
def O7(t u:DE->R Bool):DE->R Bool:=fun ρ=>(t ρ).bind fun b=>if b=true then u ρ else .ok false
def bOr(t u:DE->R Bool):DE->R Bool:=fun ρ=>(t ρ).bind fun b=>if b=true then .ok true else u ρ
def y6(t:DE->R Bool):DE->R Bool:=fun ρ=>(t ρ).bind fun b=>.ok (!b)
noncomputable def asB:D->Option Bool
 | .bl b=>some b
 |_=>none
def d6(tr:D->Option Bool)(f:DE->R D):DE->R Bool:=fun ρ=>(f ρ).bind fun d=>R.of (tr d)
def t7(fa fb:DE->R D):DE->R D:=fun ρ=>(fa ρ).bind fun x=>(R.of (asB x)).bind fun b=>if b=true then fb ρ else .ok (.bl false)
def eOr(fa fb:DE->R D):DE->R D:=fun ρ=>(fa ρ).bind fun x=>(R.of (asB x)).bind fun b=>if b=true then .ok (.bl true) else fb ρ
def OpD(K:Frag)(fr:Bool)(o:D->D->Option D)(r:R2):Prop:=∀(H0 H:Hp)(x y:V)(d e z:D)(Q:VK),Same H0 H->RD K H0 d x->RD K H0 e y->o d e=some z->(∀v H',Out K fr H0 H z v H'->Q v H')->r x y H Q
def UnD(K:Frag)(fr:Bool)(o:D->Option D)(r:V->Hp->VK->Prop):Prop:=∀(H0 H:Hp)(x:V)(d z:D)(Q:VK),Same H0 H->RD K H0 d x->o d=some z->(∀v H',Out K fr H0 H z v H'->Q v H')->r x H Q
def J2(K:Frag)(fr:Bool)(m:List D->Option D)(r:List V->Hp->VK->Prop):Prop:=∀(H0 H:Hp)(xs:List V)(ds:List D)(z:D)(Q:VK),Same H0 H->RDs K H0 ds xs->m ds=some z->(∀v H',Out K fr H0 H z v H'->Q v H')->r xs H Q
def Gx(K:Frag)(tr:D->Option Bool)(r:V->Hp->(Bool->Hp->Prop)->Prop):Prop:=∀(H0 H:Hp)(x:V)(d:D)(b:Bool)(Q:Bool->Hp->Prop),Same H0 H->RD K H0 d x->tr d=some b->Q b H->r x H Q
section
variable {K:Frag}{EX:XW}{fr:Bool}{σ:St}{H:Hp}{Q:VK}
theorem TEd.go(sx:Same EX.hb H)(s:Same H0 H)(e:RE K H0 ρ σ)(h:Rk EX.at (f ρ) k)(hk:∀d,k d->∀v H' aa,Same H H'->Ext H0 H aa H'->RD K aa d v->Q v H'):TEd K EX false f σ H Q:=
 ⟨sx,ρ,H0,s,e,h.mono fun d z v H' o=>by obtain⟨s',aa,e',r⟩:=o.rd;exact hk d z v H' aa s' e' r⟩
theorem TAd.go{f:DE->R (List D)}{ρ:DE}{H0:Hp}{k:List D->Prop}{Q:List V->Hp->Prop}(sx:Same EX.hb H)(s:Same H0 H)(e:RE K H0 ρ σ)(h:Rk EX.at (f ρ) k)(hk:∀d,k d->∀v H' aa,Same H H'->Ext H0 H aa H'->RDs K aa d v->Q v H'):TAd K EX f σ H Q:=
 ⟨sx,ρ,H0,s,e,h.mono fun d z v H' aa s' e' r=>hk d z v H' aa s' e' r⟩
theorem TTd.go{f:DE->R Bool}{ρ:DE}{H0:Hp}{k:Bool->Prop}{Q:Bool->Hp->Prop}(sx:Same EX.hb H)(s:Same H0 H)(e:RE K H0 ρ σ)(h:Rk EX.at (f ρ) k)(hk:∀b,k b->∀H',Same H H'->Q b H'):TTd K EX f σ H Q:=
 ⟨sx,ρ,H0,s,e,h.mono fun b z H' s'=>hk b z H' s'⟩
theorem TEd.weak(h:TEd K EX false f σ H Q):TEd K EX fr f σ H Q:=by obtain⟨sx,ρ,H0,s,e,h⟩:=h;exact⟨sx,ρ,H0,s,e,h.mono fun d z v H' o=>z v H' o.weak⟩
theorem kL(h:TEd K EX false (a7 i) σ H Q):∃v,σ[i]?=some (some v)/\Q v H:=by
 obtain⟨sx,ρ,H0,s,e,h⟩:=h;unfold a7 at h;split at h
 . rename_i d q;obtain⟨v,h1,h2⟩:=e.2 i d q;exact⟨v,h1,h v H (.pure s h2)⟩
 . exact h.elim
theorem Kq(hd:∀H0,RD K H0 d v)(h:TEd K EX false (eC d) σ H Q):tC v σ H Q:=by obtain⟨sx,ρ,H0,s,e,h⟩:=h;exact h v H (.pure s (hd _))
theorem Cp(ho:OpD K fr o r)(h:TEd K EX fr (eOp o fa fb) σ H Q):tOp r (TEd K EX false fa) (TEd K EX false fb) σ H Q:=by
 obtain⟨sx,ρ,H0,s,e,h⟩:=h;unfold eOp at h;rw[Rk.bind]at h;refine TEd.go sx s e h fun d h v H1 ar s1 e1 r1=>?_
 rw[Rk.bind]at h;refine TEd.go (sx.trans s1) e1.2.1 (e.mono e1.1) h fun d2 h v2 H2 bv s2 e2 r2=>?_
 obtain⟨z,hz,h⟩:=h.of;exact ho bv H2 v v2 d d2 z Q e2.2.1 (r1.mono e2.1) r2 hz fun w H3 o=>h w H3 (o.after (s1.trans s2) (e1.trans s1 e2))
theorem y3a(ho:UnD K fr o r)(h:TEd K EX fr (eUn o fa) σ H Q):tUn r (TEd K EX false fa) σ H Q:=by
 obtain⟨sx,ρ,H0,s,e,h⟩:=h;unfold eUn at h;rw[Rk.bind]at h;refine TEd.go sx s e h fun d h v H1 ar s1 e1 r1=>?_
 obtain⟨z,hz,h⟩:=h.of;exact ho ar H1 v d z Q e1.2.1 r1 hz fun w H3 o=>h w H3 (o.after s1 e1)
theorem Pq{Q:List V->Hp->Prop}(h:TAd K EX b7 σ H Q):S4 σ H Q:=by obtain⟨sx,ρ,H0,s,e,h⟩:=h;exact h [] H H0 (Same.refl _) (.refl s) .nil
theorem Jm{Q:List V->Hp->Prop}{f:DE->R D}{fs:DE->R (List D)}(h:TAd K EX (a8 f fs) σ H Q):F1 (TEd K EX false f) (TAd K EX fs) σ H Q:=by
 obtain⟨sx,ρ,H0,s,e,h⟩:=h;unfold a8 at h;rw[Rk.bind]at h;refine TEd.go sx s e h fun d h v H1 ar s1 e1 r1=>?_
 rw[Rk.bind]at h;refine TAd.go (sx.trans s1) e1.2.1 (e.mono e1.1) h fun ds h vs H2 bv s2 e2 r2=>?_
 exact h (v::vs) H2 bv (s1.trans s2) (e1.trans s1 e2) (.cons (r1.mono e2.1) r2)
theorem Gw(hm:J2 K fr m r)(h:TEd K EX fr (eCB m fs) σ H Q):tCB r (TAd K EX fs) σ H Q:=by
 obtain⟨sx,ρ,H0,s,e,h⟩:=h;unfold eCB at h;rw[Rk.bind]at h;refine TAd.go sx s e h fun ds h vs H1 ar s1 e1 r1=>?_
 obtain⟨z,hz,h⟩:=h.of;exact hm ar H1 vs ds z Q e1.2.1 r1 hz fun w H3 o=>h w H3 (o.after s1 e1)
theorem Us(h:n<=1000):n<=sizeLine:=CL h (by decide)
theorem kK(h:TEd K EX false (t9 fs) σ H Q):jZ (TAd K EX fs) σ H Q:=by
 obtain⟨sx,ρ,H0,s,e,h⟩:=h;unfold t9 at h;rw[Rk.bind]at h;refine TAd.go sx s e h fun ds h vs H1 ar s1 e1 r1=>?_
 split at h
 . rename_i hl;refine⟨Us (by rw[<-r1.length];exact hl),fun p hp=>h _ _ (.val (s1.trans (Same.upd_new hp)) (e1.trans s1 (.new e1.2.1 hp)) ?_)⟩;have sB:ar p=none:=by
    cases q:ar p with
    |none=>rfl
    |some u=>rw[e1.2.1 p u q]at hp;cases hp
   simp only[RD];exact⟨p,vs,rfl,k9,r1.mono (Same.upd_new sB)⟩
 . exact h.elim
theorem Same.none(s:Same H H')(h:H' p=none):H p=none:=by
 cases q:H p with
 |none=>rfl
 |some u=>rw[s p u q]at h;cases h
theorem Out.new(s:Same H0 H)(hp:H p=none)(eD:∀H',H' p=some o->OB K H0 H' p d):Out K true H0 H d (.ref p) (upd H p o):=
 .fresh (Same.upd_new hp) ((Ext.refl s).grow (Same.upd_new hp)) hp (s.none hp) (eD _ k9)
theorem kJ(h:TEd K EX true (t8 fs) σ H Q):jY (TAd K EX fs) σ H Q:=by
 obtain⟨sx,ρ,H0,s,e,h⟩:=h;unfold t8 at h;rw[Rk.bind]at h;refine TAd.go sx s e h fun ds h vs H1 ar s1 e1 r1=>?_
 split at h
 . rename_i hl;refine⟨Us (by rw[<-r1.length];exact hl),fun p hp=>h _ _ (Out.after s1 e1 (.new e1.2.1 hp fun H' hH=>?_))⟩;simp only[OB];exact⟨vs,hH,r1⟩
 . exact h.elim
theorem y3b(h:TEd K EX fr (eIf t fa fb) σ H Q):tIf (TTd K EX t) (TEd K EX fr fa) (TEd K EX fr fb) σ H Q:=by
 obtain⟨sx,ρ,H0,s,e,h⟩:=h;unfold eIf at h;rw[Rk.bind]at h;refine TTd.go sx s e h fun b h H1 s1=>?_
 have fin:∀{f:DE->R D},Rk EX.at (f ρ) (fun d=>∀v H',Out K fr H0 H d v H'->Q v H')->TEd K EX fr f σ H1 Q:=fun {f} h=>
  ⟨sx.trans s1,ρ,H0,s.trans s1,e,h.mono fun d z v H' o=>z v H' (o.after s1 ((Ext.refl s).grow s1))⟩
 cases b with
 |true=>exact fin h
 |false=>exact fin h
theorem vJ{t u:DE->R Bool}{Q:Bool->Hp->Prop}(h:TTd K EX (O7 t u) σ H Q):ki (TTd K EX t) (TTd K EX u) σ H Q:=by
 obtain⟨sx,ρ,H0,s,e,h⟩:=h;unfold O7 at h;rw[Rk.bind]at h;refine TTd.go sx s e h fun b h H1 s1=>?_
 cases b with
 |true=>exact TTd.go (sx.trans s1) (s.trans s1) e h fun b h H' s'=>h H' (s1.trans s')
 |false=>exact h H1 s1
theorem kI{t u:DE->R Bool}{Q:Bool->Hp->Prop}(h:TTd K EX (bOr t u) σ H Q):tOr (TTd K EX t) (TTd K EX u) σ H Q:=by
 obtain⟨sx,ρ,H0,s,e,h⟩:=h;unfold bOr at h;rw[Rk.bind]at h;refine TTd.go sx s e h fun b h H1 s1=>?_
 cases b with
 |true=>exact h H1 s1
 |false=>exact TTd.go (sx.trans s1) (s.trans s1) e h fun b h H' s'=>h H' (s1.trans s')
theorem vI{t:DE->R Bool}{Q:Bool->Hp->Prop}(h:TTd K EX (y6 t) σ H Q):kh (TTd K EX t) σ H Q:=by obtain⟨sx,ρ,H0,s,e,h⟩:=h;unfold y6 at h;rw[Rk.bind]at h;exact TTd.go sx s e h fun b h H1 s1=>h H1 s1
end
noncomputable def y3c(r:V->Hp->(Bool->Hp->Prop)->Prop)(t:TE):TT:=fun σ H Q=>t σ H fun x H'=>r x H' Q
noncomputable def Y7(K:Frag)(EX:XW)(g:D->DE->R D):V->TE:=fun x σ H Q=>Same EX.hb H/\∃d ρ H0,Same H0 H/\RE K H0 ρ σ/\RD K H0 d x/\Rk EX.at (g d ρ) fun z=>∀v H',Out K false H0 H z v H'->Q v H'
noncomputable def Z9(K:Frag)(EX:XW)(g:D->DE->R Bool):V->TT:=fun x σ H Q=>Same EX.hb H/\∃d ρ H0,Same H0 H/\RE K H0 ρ σ/\RD K H0 d x/\Rk EX.at (g d ρ) fun b=>∀H',Same H H'->Q b H'
def Z8(o:D->D->Option D)(fb:DE->R D):D->DE->R D:=fun d ρ=>(fb ρ).bind fun y=>R.of (o d y)
def U0(o:D->D->Option D)(fb:DE->R D)(g:D->DE->R D):D->DE->R D:=fun d ρ=>(fb ρ).bind fun y=>(R.of (o d y)).bind fun z=>(R.of (asB z)).bind fun b=>if b=true then g y ρ else .ok (.bl false)
def Ew(o:D->D->Option D)(fb:DE->R D):D->DE->R Bool:=fun d ρ=>(fb ρ).bind fun y=>(R.of (o d y)).bind fun z=>R.of (asB z)
def Ev(o:D->D->Option D)(fb:DE->R D)(g:D->DE->R Bool):D->DE->R Bool:=fun d ρ=>(fb ρ).bind fun y=>(R.of (o d y)).bind fun z=>(R.of (asB z)).bind fun b=>if b=true then g y ρ else .ok false
def Y6(fa:DE->R D)(g:D->DE->R D):DE->R D:=fun ρ=>(fa ρ).bind fun x=>g x ρ
def Db(fa:DE->R D)(g:D->DE->R Bool):DE->R Bool:=fun ρ=>(fa ρ).bind fun x=>g x ρ
theorem W6(h:asB d=some b):d=.bl b:=by cases d<;>simp[asB]at h;subst h;rfl
theorem RD.bl{K:Frag}{H:Hp}{b:Bool}{v:V}(h:RD K H (.bl b) v):v=.bl b:=by simpa only [RD] using h
section
variable {K:Frag}{EX:XW}{σ:St}{H:Hp}{Q:VK}{QB:Bool->Hp->Prop}
theorem kH(h:TEd K EX false (t7 fa fb) σ H Q):Pw (TEd K EX false fa) (TEd K EX false fb) σ H Q:=by
 obtain⟨sx,ρ,H0,s,e,h⟩:=h;unfold t7 at h;rw[Rk.bind]at h;refine TEd.go sx s e h fun d h v H1 ar s1 e1 r1=>?_
 rw[Rk.bind]at h;obtain⟨b,hb,h⟩:=h.of;cases W6 hb;cases r1.bl;cases b with
 |true=>exact TEd.go (sx.trans s1) e1.2.1 (e.mono e1.1) h fun d h v H2 bv s2 e2 r2=>h v H2 (.val (s1.trans s2) (e1.trans s1 e2) r2)
 |false=>exact h _ H1 (.val s1 e1 (by simp only[RD]))
theorem y3d(h:TEd K EX false (eOr fa fb) σ H Q):jR (TEd K EX false fa) (TEd K EX false fb) σ H Q:=by
 obtain⟨sx,ρ,H0,s,e,h⟩:=h;unfold eOr at h;rw[Rk.bind]at h;refine TEd.go sx s e h fun d h v H1 ar s1 e1 r1=>?_
 rw[Rk.bind]at h;obtain⟨b,hb,h⟩:=h.of;cases W6 hb;cases r1.bl;cases b with
 |true=>exact h _ H1 (.val s1 e1 (by simp only[RD]))
 |false=>exact TEd.go (sx.trans s1) e1.2.1 (e.mono e1.1) h fun d h v H2 bv s2 e2 r2=>h v H2 (.val (s1.trans s2) (e1.trans s1 e2) r2)
theorem kG(ht:Gx K tr r)(h:TTd K EX (d6 tr fa) σ H QB):y3c r (TEd K EX false fa) σ H QB:=by
 obtain⟨sx,ρ,H0,s,e,h⟩:=h;unfold d6 at h;rw[Rk.bind]at h;refine TEd.go sx s e h fun d h v H1 ar s1 e1 r1=>?_
 obtain⟨b,hb,h⟩:=h.of;exact ht ar H1 v d b QB e1.2.1 r1 hb (h H1 s1)
theorem vH(ht:Gx K tr r)(h:TEd K EX false (eUn (fun d=>(tr d).map fun b=>.bl (!b)) fa) σ H Q) :
  (fun σ H Q=>(TEd K EX false fa) σ H fun x H1=>r x H1 fun k H2=>Q (.bl (!k)) H2) σ H Q:=by
 obtain⟨sx,ρ,H0,s,e,h⟩:=h
 unfold eUn at h
 rw[Rk.bind]at h
 refine TEd.go sx s e h fun d h v H1 ar s1 e1 r1=>?_
 obtain⟨z,hz,h⟩:=h.of
 have hz:(tr d).map (fun b=>D.bl (!b))=some z:=hz
 cases hb:tr d with
 |none=>rw[hb]at hz;cases hz
 |some b=>
  rw[hb]at hz;cases hz
  exact ht ar H1 v d b _ e1.2.1 r1 hb (h _ H1 (.val s1 e1 (by simp only[RD])))
theorem kF(ho:OpD K false o r)(h:TTd K EX (d6 asB (eOp o fa fb)) σ H QB):Hu (tOp r (TEd K EX false fa) (TEd K EX false fb)) σ H QB:=by obtain⟨sx,ρ,H0,s,e,h⟩:=h;unfold d6 at h;rw[Rk.bind]at h;unfold Hu;refine Cp (EX:=EX) ho ⟨sx,ρ,H0,s,e,h.mono fun d h v H' o=>?_⟩;obtain⟨b,hb,h⟩:=h.of;obtain⟨s',aa,e',r'⟩:=o.rd;cases W6 hb;cases r'.bl;exact h H' s'
theorem vG(ho:OpD K false o r)(h:Y7 K EX (Z8 o fb) x σ H Q):Pz r (TEd K EX false fb) x σ H Q:=by
 obtain⟨sx,d,ρ,H0,s,e,rx,h⟩:=h;unfold Z8 at h;rw[Rk.bind]at h;refine TEd.go sx s e h fun d2 h v2 H2 bv s2 e2 r2=>?_
 obtain⟨z,hz,h⟩:=h.of;exact ho bv H2 x v2 d d2 z Q e2.2.1 (rx.mono e2.1) r2 hz fun w H3 o=>h w H3 (o.after s2 e2)
theorem vF(ho:OpD K false o r)(h:Y7 K EX (U0 o fb g) x σ H Q):Py r (TEd K EX false fb) (Y7 K EX g) x σ H Q:=by
 obtain⟨sx,d,ρ,H0,s,e,rx,h⟩:=h;unfold U0 at h;rw[Rk.bind]at h;refine TEd.go sx s e h fun d2 h v2 H2 bv s2 e2 r2=>?_
 rw[Rk.bind]at h;obtain⟨z,hz,h⟩:=h.of;rw[Rk.bind]at h;obtain⟨b,hb,h9⟩:=h.of;cases W6 hb;refine ho bv H2 x v2 d d2 _ _ e2.2.1 (rx.mono e2.1) r2 hz fun w H3 o=>?_
 obtain⟨s3,dh,e3,r3⟩:=o.rd;cases r3.bl;clear h;have h:=h9;cases b with
 |true=>exact⟨(sx.trans s2).trans s3,d2,ρ,dh,e3.2.1,e.mono (e2.1.trans e3.1),r2.mono e3.1,h.mono fun z h v H' o=>h v H' (o.after (s2.trans s3) (e2.trans s2 e3))⟩
 |false=>exact h _ H3 (.val (s2.trans s3) (e2.trans s2 e3) (by simp only[RD]))
theorem xE(ho:OpD K false o r)(h:Z9 K EX (Ew o fb) x σ H QB):Sj r (TEd K EX false fb) x σ H QB:=by
 obtain⟨sx,d,ρ,H0,s,e,rx,h⟩:=h;unfold Ew at h;rw[Rk.bind]at h;refine TEd.go sx s e h fun d2 h v2 H2 bv s2 e2 r2=>?_
 rw[Rk.bind]at h;obtain⟨z,hz,h⟩:=h.of;obtain⟨b,hb,h⟩:=h.of;cases W6 hb;refine ho bv H2 x v2 d d2 _ _ e2.2.1 (rx.mono e2.1) r2 hz fun w H3 o=>?_
 obtain⟨s3,dh,e3,r3⟩:=o.rd;cases r3.bl;exact h H3 (s2.trans s3)
theorem xD(ho:OpD K false o r)(h:Z9 K EX (Ev o fb g) x σ H QB):Si r (TEd K EX false fb) (Z9 K EX g) x σ H QB:=by
 obtain⟨sx,d,ρ,H0,s,e,rx,h⟩:=h;unfold Ev at h;rw[Rk.bind]at h;refine TEd.go sx s e h fun d2 h v2 H2 bv s2 e2 r2=>?_
 rw[Rk.bind]at h;obtain⟨z,hz,h⟩:=h.of;rw[Rk.bind]at h;obtain⟨b,hb,h9⟩:=h.of;cases W6 hb;refine ho bv H2 x v2 d d2 _ _ e2.2.1 (rx.mono e2.1) r2 hz fun w H3 o=>?_
 obtain⟨s3,dh,e3,r3⟩:=o.rd;cases r3.bl;clear h;have h:=h9;cases b with
 |true=>exact⟨(sx.trans s2).trans s3,d2,ρ,dh,e3.2.1,e.mono (e2.1.trans e3.1),r2.mono e3.1,h.mono fun z h H' s'=>h H' (s2.trans (s3.trans s'))⟩
 |false=>exact h H3 (s2.trans s3)
theorem kE(h:TEd K EX false (Y6 fa g) σ H Q):jS (TEd K EX false fa) (Y7 K EX g) σ H Q:=by obtain⟨sx,ρ,H0,s,e,h⟩:=h;unfold Y6 at h;rw[Rk.bind]at h;exact TEd.go sx s e h fun d h v H1 ar s1 e1 r1=>⟨sx.trans s1,d,ρ,ar,e1.2.1,e.mono e1.1,r1,h.mono fun z h v H' o=>h v H' (o.after s1 e1)⟩
theorem vE(h:TTd K EX (Db fa g) σ H QB):Px (TEd K EX false fa) (Z9 K EX g) σ H QB:=by obtain⟨sx,ρ,H0,s,e,h⟩:=h;unfold Db at h;rw[Rk.bind]at h;exact TEd.go sx s e h fun d h v H1 ar s1 e1 r1=>⟨sx.trans s1,d,ρ,ar,e1.2.1,e.mono e1.1,r1,h.mono fun z h H' s'=>h H' (s1.trans s')⟩
end
inductive Sl where
 |em |im (d:D) |ow (d:D)
abbrev DS:=List Sl
noncomputable def Sl.see(b:Bool):Sl->Option D
 | .em=>none
 | .im d=>some d
 | .ow d=>if b=true then some d else none
noncomputable def Sl.frz(b:Bool):Sl->Sl
 | .ow d=>if b=true then .im d else .ow d
 |s=>s
def vis:List Bool->DS->DE
 |_,[]=>[]
 | [],s::r=>s.see false::vis [] r
 |b::m,s::r=>s.see b::vis m r
noncomputable def frz:List Bool->DS->DS
 |_,[]=>[]
 | [],s::r=>s::r
 |b::m,s::r=>s.frz b::frz m r
theorem Ko:∀(m:List Bool)(ρ:DS)(i:Nat),(vis m ρ)[i]?=(ρ[i]?).map (Sl.see (m.getD i false))
 | [],[],i=>by simp[vis]
 |_::_,[],i=>by simp[vis]
 | [],s::r,0=>by simp[vis]
 |b::m,s::r,0=>by simp[vis]
 | [],s::r,i+1=>by simpa [vis] using Ko [] r i
 |b::m,s::r,i+1=>by simpa [vis] using Ko m r i
theorem Mt:∀(m:List Bool)(ρ:DS),(vis m ρ).length=ρ.length
 | [],[]=>rfl
 |_::_,[]=>rfl
 | [],s::r=>by simp[vis,Mt [] r]
 |b::m,s::r=>by simp[vis,Mt m r]
theorem Sl.frz_false(s:Sl):s.frz false=s:=by cases s<;>simp[Sl.frz]
theorem Kn:∀(m:List Bool)(ρ:DS)(i:Nat),(L2.frz m ρ)[i]?=(ρ[i]?).map (Sl.frz (m.getD i false))
 | [],[],i=>by simp[frz]
 |_::_,[],i=>by simp[frz]
 | [],s::r,i=>by
  simp only[frz,List.getD_nil];cases h:(s::r)[i]? with
  |none=>rfl
  |some x=>simp[Sl.frz_false]
 |b::m,s::r,0=>by simp[frz]
 |b::m,s::r,i+1=>by simpa [frz] using Kn m r i
theorem Ym:∀(m:List Bool)(ρ:DS),(L2.frz m ρ).length=ρ.length
 | [],[]=>rfl
 |_::_,[]=>rfl
 | [],s::r=>rfl
 |b::m,s::r=>by simp[frz,Ym m r]
structure RS(K:Frag)(Hc Hb H0:Hp)(ρ:DS)(σ:St)(H:Hp):Prop where
 sb:Same Hb H
 ext:Ext Hc Hb H0 H
 len:ρ.length=σ.length
 im:∀(i:Nat) d,ρ[i]?=some (.im d)->∃v,σ[i]?=some (some v)/\RD K H0 d v
 ow:∀(i:Nat) d,ρ[i]?=some (.ow d)->∃a,σ[i]?=some (some (.ref a))/\H0 a=none/\Hb a=none/\OB K H0 H a d
 ap:∀(i j:Nat) d e a,ρ[i]?=some (.ow d)->ρ[j]?=some (.ow e)->σ[i]?=some (some (.ref a))->σ[j]?=some (some (.ref a))->i=j
theorem RS.grow{K:Frag}{Hc Hb H0 H H':Hp}{ρ:DS}{σ:St}(R:RS K Hc Hb H0 ρ σ H)(s:Same H H'):RS K Hc Hb H0 ρ σ H':=
 ⟨R.sb.trans s,R.ext.grow s,R.len,R.im,fun i d e=>by obtain⟨a,h1,h2,h3,h4⟩:=R.ow i d e;exact⟨a,h1,h2,h3,h4.mono (Same.refl _) s⟩,R.ap⟩
def Msk(m:List Bool)(ρ:DS)(σ:St)(a:Addr):Prop:=∃i d,m.getD i false=true/\ρ[i]?=some (.ow d)/\σ[i]?=some (some (.ref a))
open Classical in
noncomputable def HeOf(m:List Bool)(ρ:DS)(σ:St)(H0 H:Hp):Hp:=fun a=>if Msk m ρ σ a then H a else H0 a
open Classical in
noncomputable def HdOf(m:List Bool)(ρ:DS)(σ:St)(H0:Hp):Hp:=fun a=>if Msk m ρ σ a then none else H0 a
section
variable {K:Frag}{Hc Hb H0 H H':Hp}{ρ:DS}{σ:St}{m:List Bool}
theorem RS.msk(R:RS K Hc Hb H0 ρ σ H)(h:Msk m ρ σ a):H0 a=none/\Hb a=none/\∃o,H a=some o/\¬Imm o:=by obtain⟨i,d,_,h1,h2⟩:=h;obtain⟨a',q1,q2,q3,q4⟩:=R.ow i d h1;rw[h2]at q1;cases q1;exact⟨q2,q3,q4.some⟩
theorem Fj(h:Msk m ρ σ a):HeOf m ρ σ H0 H a=H a:=by unfold HeOf;exact ζ h
theorem W5(h:¬Msk m ρ σ a):HeOf m ρ σ H0 H a=H0 a:=by unfold HeOf;exact ξ h
theorem Fi(h:Msk m ρ σ a):HdOf m ρ σ H0 a=none:=by unfold HdOf;exact ζ h
theorem W4(h:¬Msk m ρ σ a):HdOf m ρ σ H0 a=H0 a:=by unfold HdOf;exact ξ h
theorem RS.he0(R:RS K Hc Hb H0 ρ σ H)(m:List Bool):Same H0 (HeOf m ρ σ H0 H):=fun b o e=>by
 by_cases h:Msk m ρ σ b
 . rw[(R.msk h).1]at e;cases e
 . rw[W5 h];exact e
theorem RS.heH(R:RS K Hc Hb H0 ρ σ H)(m:List Bool):Same (HeOf m ρ σ H0 H) H:=fun b o e=>by
 by_cases h:Msk m ρ σ b
 . rw[Fj h]at e;exact e
 . rw[W5 h]at e;exact R.ext.2.1 b o e
theorem RS.re(R:RS K Hc Hb H0 ρ σ H)(m:List Bool):RE K (HeOf m ρ σ H0 H) (vis m ρ) σ:=by
 refine⟨by rw[Mt];exact R.len,fun i d e=>?_⟩;rw[Ko]at e;cases q:ρ[i]? with
 |none=>rw[q]at e;cases e
 |some s=>
  rw[q]at e
  simp only[CZ,Option.some.injEq]at e
  cases s with
  |em=>cases e
  |im d'=>
   cases e
   obtain⟨v,h1,h2⟩:=R.im i d q
   exact⟨v,h1,h2.mono (R.he0 m)⟩
  |ow d'=>
   simp only[Sl.see]at e
   split at e
   . rename_i hm;cases e;obtain⟨a,h1,h2,h3,h4⟩:=R.ow i d q;exact⟨_,h1,h4.rd (R.he0 m) (Fj ⟨i,d,hm,q,h1⟩)⟩
   . cases e
def j9(keep:Bool)(m:List Bool)(ρ:DS):DS:=if keep=true then ρ else frz m ρ
def keeps(fr:Bool)(d:D):Bool:=if fr=true then d.shal else d.noL
def Apt(K:Frag)(fr:Bool)(Hb H0:Hp)(ρ:DS)(σ:St)(H:Hp)(d:D)(v:V):Prop:=
 if fr=true then ∃p,v=.ref p/\H0 p=none/\Hb p=none/\OB K H0 H p d/\∀(i:Nat) e,ρ[i]?=some (.ow e)->σ[i]?≠some (some (.ref p)) else RD K H0 d v
theorem Fh(h:(j9 keep m ρ)[i]?=some (.ow d)):ρ[i]?=some (.ow d)/\(keep=false->m.getD i false=false):=by
 unfold j9 at h;cases keep with
 |true=>exact⟨h,fun z=>nomatch z⟩
 |false=>
  rw[ξ θ,Kn]at h
  cases q:ρ[i]? with
  |none=>rw[q]at h;cases h
  |some s=>
   rw[q]at h
   simp only[CZ,Option.some.injEq]at h
   cases s with
   |em=>cases h
   |im d'=>cases h
   |ow d'=>
    simp only[Sl.frz]at h
    split at h
    . cases h
    . rename_i hm;cases h;exact⟨rfl,fun _=>by simpa using hm⟩
theorem RS.frame(R:RS K Hc Hb H0 ρ σ H)(s:Same H H')(e:Ext (HeOf m ρ σ H0 H) H aa H')(keep:Bool) :
  ∃aO,RS K Hc Hb aO (j9 keep m ρ) σ H'/\TK aa aO/\(keep=false->aO=aa)/\(∀p,aa p=none->aO p=none)/\Same H0 aO:=by
 have iZ:∀(i:Nat) d' a,ρ[i]?=some (.ow d')->σ[i]?=some (some (.ref a))->¬Msk m ρ σ a->aa a=none:=fun i d' a h1 h2 h3=>by obtain⟨a',q1,q2,q3,q4⟩:=R.ow i d' h1;rw[h2]at q1;cases q1;obtain⟨u,hu,_⟩:=q4.some;exact e.2.2 a (Ay hu) (by rw[W5 h3];exact q2)
 have nI:∀{i:Nat}{d':D}{a:Addr},ρ[i]?=some (.ow d')->σ[i]?=some (some (.ref a))->m.getD i false=false->¬Msk m ρ σ a:=fun {i d' a} h1 h2 h3 ⟨j,e',q1,q2,q3⟩=>by have:=R.ap i j d' e' a h1 q2 h2 q3;subst this;rw[h3]at q1;cases q1
 cases keep with
 |true=>
  have BB:j9 true m ρ=ρ:=rfl
  have s0:Same H0 (HdOf m ρ σ aa):=fun b u q=>by
   have hb:¬Msk m ρ σ b:=fun z=>by rw[(R.msk z).1]at q;cases q
   rw[W4 hb];exact e.1 b u (R.he0 m b u q)
  have tk:TK aa (HdOf m ρ σ aa):=fun b u hi q=>by
   have hb:¬Msk m ρ σ b:=fun z=>by obtain⟨_,_,w,hw,hn⟩:=R.msk z;have:=e.1 b w (by rw[Fj z];exact hw);rw[q]at this;cases this;exact hn hi
   rw[W4 hb];exact q
  refine⟨HdOf m ρ σ aa,⟨R.sb.trans s,⟨R.ext.1.trans s0,fun b u q=>?_,fun a h1 h2=>?_⟩,R.len,fun i d' q=>?_,fun i d' q=>?_,R.ap⟩,tk,(fun z=>nomatch z),fun p hp=>?_,s0⟩
  . by_cases hb:Msk m ρ σ b
    . rw[Fi hb]at q;cases q
    . rw[W4 hb]at q;exact e.2.1 b u q
  . by_cases hb:Msk m ρ σ a
    . exact Fi hb
    . rw[W4 hb];exact e.2.2 a (R.sb.ne h1) (by rw[W5 hb];exact R.ext.2.2 a h1 h2)
  . obtain⟨w,h1,h2⟩:=R.im i d' q;exact⟨w,h1,h2.mono s0⟩
  . obtain⟨a,h1,h2,h3,h4⟩:=R.ow i d' q;refine⟨a,h1,?_,h3,h4.mono s0 s⟩;by_cases hb:Msk m ρ σ a
    . exact Fi hb
    . rw[W4 hb];exact iZ i d' a q h1 hb
  . by_cases hb:Msk m ρ σ p
    . exact Fi hb
    . rw[W4 hb];exact hp
 |false=>
  refine⟨aa,⟨R.sb.trans s,?_,?_,fun i d' q=>?_,fun i d' q=>?_,fun i j d1 d2 a q1 q2=>?_⟩,fun _ _ _ z=>z,fun _=>rfl,fun _ z=>z,(R.he0 m).trans e.1⟩
  . refine⟨R.ext.1.trans ((R.he0 m).trans e.1),e.2.1,fun a h1 h2=>e.2.2 a (R.sb.ne h1) ?_⟩;have hb:¬Msk m ρ σ a:=fun z=>h1 (R.msk z).2.1
    rw[W5 hb];exact R.ext.2.2 a h1 h2
  . show(L2.frz m ρ).length=_;rw[Ym];exact R.len
  . have q':(L2.frz m ρ)[i]?=some (.im d'):=q;rw[Kn]at q';cases hs:ρ[i]? with
    |none=>rw[hs]at q';cases q'
    |some sl=>
     rw[hs]at q'
     simp only[CZ,Option.some.injEq]at q'
     cases sl with
     |em=>cases q'
     |im d2=>
      cases q'
      obtain⟨w,h1,h2⟩:=R.im i d' hs
      exact⟨w,h1,h2.mono ((R.he0 m).trans e.1)⟩
     |ow d2=>
      simp only[Sl.frz]at q'
      split at q'
      . rename_i hm;cases q';obtain⟨a,h1,h2,h3,h4⟩:=R.ow i d' hs;obtain⟨u,hu,_⟩:=h4.some;refine⟨_,h1,h4.rd ((R.he0 m).trans e.1) ?_⟩;rw[hu];exact e.1 a u (by rw[Fj ⟨i,d',hm,hs,h1⟩];exact hu)
      . cases q'
  . obtain⟨q1,q2⟩:=Fh q;obtain⟨a,h1,h2,h3,h4⟩:=R.ow i d' q1;exact⟨a,h1,iZ i d' a q1 h1 (nI q1 h1 (q2 rfl)),h3,h4.mono ((R.he0 m).trans e.1) s⟩
  . exact R.ap i j d1 d2 a (Fh q1).1 (Fh q2).1
theorem RS.out(R:RS K Hc Hb H0 ρ σ H)(o:Out K fr (HeOf m ρ σ H0 H) H d v H') :
  ∃aO,RS K Hc Hb aO (j9 (keeps fr d) m ρ) σ H'/\Apt K fr Hb aO (j9 (keeps fr d) m ρ) σ H' d v:=by
 obtain⟨s,aa,e,r⟩:=o
 obtain⟨aO,R',tk,eq,hn,_⟩:=R.frame s e (keeps fr d)
 refine⟨aO,R',?_⟩
 unfold Apt
 cases fr with
 |false=>
  rw[ξ θ]at r⊢
  cases hk:keeps false d with
  |true=>exact r.tk tk (by simpa [keeps] using hk)
  |false=>rw[eq hk];exact r
 |true=>
  rw[ζ rfl]at r⊢
  obtain⟨p,rfl,hp,fE,ob⟩:=r
  refine⟨p,rfl,hn p fE,R.sb.none hp,?_,fun i e' q z=>?_⟩
  . cases hk:keeps true d with
    |true=>exact ob.tk (by simpa [keeps] using hk) tk
    |false=>rw[eq hk];exact ob
  . obtain⟨a,h1,_,_,h4⟩:=R.ow i e' (Fh q).1;rw[z]at h1;cases h1;obtain⟨u,hu,_⟩:=h4.some;rw[hp]at hu;cases hu
theorem RS.outs(R:RS K Hc Hb H0 ρ σ H)(s:Same H H')(e:Ext (HeOf m ρ σ H0 H) H aa H')(r:RDs K aa ds vs) :
  ∃aO,RS K Hc Hb aO (j9 (i9 ds) m ρ) σ H'/\RDs K aO ds vs:=by
 obtain⟨aO,R',tk,eq,hn,_⟩:=R.frame s e (i9 ds)
 refine⟨aO,R',?_⟩
 cases hk:i9 ds with
 |true=>exact r.tk tk hk
 |false=>rw[eq hk];exact r
noncomputable def G3(fr:Bool)(i:Nat)(d:D)(ρ:DS):DS:=ρ.set i (if fr=true then .ow d else .im d)
theorem RS.put(R:RS K Hc Hb H0 ρ σ H)(a:Apt K fr Hb H0 ρ σ H d v)(i:Nat):RS K Hc Hb H0 (G3 fr i d ρ) (σ.set i (some v)) H:=by
 unfold G3;have other:∀{j:Nat}{s:Sl},j≠i->(ρ.set i s)[j]?=ρ[j]?:=fun {j s} h=>by rw[FJ (GF h)]
 have bK:∀{j:Nat},j≠i->(σ.set i (some v))[j]?=σ[j]?:=fun {j} h=>by rw[FJ (GF h)]
 have here:∀{s s':Sl},(ρ.set i s)[i]?=some s'->s'=s/\(σ.set i (some v))[i]?=some (some v):=fun {s s'} h=>by
  have hi:i<ρ.length:=by have:=(DM.mp h).1;simpa using this
  rw[FM hi]at h;cases h;exact⟨rfl,by rw[FM (by rw[<-R.len];exact hi)]⟩
 refine⟨R.sb,R.ext,by rw[HJ,HJ];exact R.len,fun j d' q=>?_,fun j d' q=>?_,fun j k d1 d2 b q1 q2 z1 z2=>?_⟩
 . by_cases hj:j=i
   . subst hj;obtain⟨h1,h2⟩:=here q;refine⟨v,h2,?_⟩;cases fr with
     |false=>
      rw[ξ θ]at h1;cases h1
      unfold Apt at a
      rw[ξ θ]at a;exact a
     |true=>rw[ζ rfl]at h1;cases h1
   . rw[other hj]at q;rw[bK hj];exact R.im j d' q
 . by_cases hj:j=i
   . subst hj;obtain⟨h1,h2⟩:=here q;cases fr with
     |false=>rw[ξ θ]at h1;cases h1
     |true=>
      rw[ζ rfl]at h1;cases h1
      unfold Apt at a
      rw[ζ rfl]at a
      obtain⟨p,rfl,a1,a2,a3,_⟩:=a
      exact⟨p,h2,a1,a2,a3⟩
   . rw[other hj]at q;rw[bK hj];exact R.ow j d' q
 . by_cases hj:j=i
   . by_cases hk:k=i
     . rw[hj,hk]
     . subst hj;obtain⟨h1,h2⟩:=here q1;rw[other hk]at q2;rw[bK hk]at z2;rw[h2]at z1;cases fr with
       |false=>rw[ξ θ]at h1;cases h1
       |true=>
        unfold Apt at a
        rw[ζ rfl]at a
        obtain⟨p,rfl,_,_,_,a4⟩:=a
        cases z1
        exact absurd z2 (a4 k d2 q2)
   . by_cases hk:k=i
     . subst hk;obtain⟨h1,h2⟩:=here q2;rw[other hj]at q1;rw[bK hj]at z1;rw[h2]at z2;cases fr with
       |false=>rw[ξ θ]at h1;cases h1
       |true=>
        unfold Apt at a
        rw[ζ rfl]at a
        obtain⟨p,rfl,_,_,_,a4⟩:=a
        cases z2
        exact absurd z1 (a4 j d1 q1)
     . rw[other hj]at q1;rw[other hk]at q2;rw[bK hj]at z1;rw[bK hk]at z2;exact R.ap j k d1 d2 b q1 q2 z1 z2
end
inductive SR where
 |nx (ρ:DS) |bk (ρ:DS) |ct (ρ:DS) |rt (d:D) |er (x:Ex) |st
def SK(K:Frag)(EX:XW)(fr:Bool)(Hc Hb:Hp)(De:Ends):SR->Prop
 | .nx ρ=>∀σ H H0,RS K Hc Hb H0 ρ σ H->De.nx σ H
 | .bk ρ=>∀σ H H0,RS K Hc Hb H0 ρ σ H->De.bk σ H
 | .ct ρ=>∀σ H H0,RS K Hc Hb H0 ρ σ H->De.ct σ H
 | .rt d=>∀v H,Out K fr Hc Hb d v H->De.rt v H
 | .er x=>EX.at x
 | .st=>False
noncomputable def TSd(K:Frag)(EX:XW)(fr:Bool)(g:DS->SR):TS:=fun De σ H=>∃Hc Hb H0 ρ,Same EX.hb Hb/\RS K Hc Hb H0 ρ σ H/\SK K EX fr Hc Hb De (g ρ)
noncomputable def R.toS{α:Type}(r:R α)(k:α->SR):SR:=match r with
 | .ok a=>k a
 | .er x=>.er x
 | .st=>.st
noncomputable def sNx:DS->SR:=fun ρ=>.nx ρ
noncomputable def sNo:DS->SR:=fun _=>.st
noncomputable def c7(g1 g2:DS->SR):DS->SR:=fun ρ=>match g1 ρ with
 | .nx au=>g2 au
 |r=>r
noncomputable def see(ρ:DS):DE:=ρ.map (Sl.see true)
def sIf(t:DE->R Bool)(g1 g2:DS->SR):DS->SR:=fun ρ=>(t (see ρ)).toS fun b=>if b=true then g1 ρ else g2 ρ
def d8(fr:Bool)(i:Nat)(m:List Bool)(f:DE->R D):DS->SR:=fun ρ=>(f (vis m ρ)).toS fun d=>.nx (G3 fr i d (j9 (keeps fr d) m ρ))
def g7(m:List Bool)(f:DE->R D):DS->SR:=fun ρ=>(f (vis m ρ)).toS fun d=>.rt d
noncomputable def F4(i:Nat):DS->SR:=fun ρ=>match ρ[i]? with
 |some (.ow d)=>.rt d
 |_=>.st
def Ah(f:DE->R D):DS->SR:=fun ρ=>(f (see ρ)).toS fun _=>.nx ρ
section
variable {K:Frag}{EX:XW}{fr:Bool}{Hc Hb H0 H H':Hp}{ρ:DS}{σ:St}{De:Ends}{m:List Bool}
theorem SK.toS:SK K EX fr Hc Hb De (r.toS k)=Rk EX.at r fun a=>SK K EX fr Hc Hb De (k a):=by cases r<;>rfl
theorem Km:∀(ρ:DS),vis (List.replicate ρ.length true) ρ=see ρ
 | []=>rfl
 |s::r=>by show s.see true::vis (List.replicate r.length true) r=_;rw[Km r];rfl
theorem RS.extE(R:RS K Hc Hb H0 ρ σ H)(m:List Bool):Ext Hc Hb (HeOf m ρ σ H0 H) H:=
 ⟨R.ext.1.trans (R.he0 m),R.heH m,fun a h1 h2=>by
  have hb:¬Msk m ρ σ a:=fun z=>h1 (R.msk z).2.1
  rw[W5 hb];exact R.ext.2.2 a h1 h2⟩
theorem RS.te(I:RS K Hc Hb H0 ρ σ H)(sb:Same EX.hb Hb)(h:Rk EX.at (f (vis m ρ)) k)
  (hk:∀d,k d->∀v H' aO,RS K Hc Hb aO (j9 (keeps cr d) m ρ) σ H'->Apt K cr Hb aO (j9 (keeps cr d) m ρ) σ H' d v->Q v H'):TEd K EX cr f σ H Q:=
 ⟨sb.trans I.sb,vis m ρ,HeOf m ρ σ H0 H,I.heH m,I.re m,h.mono fun d z v H' o=>by obtain⟨aO,R',a⟩:=I.out o;exact hk d z v H' aO R' a⟩
theorem RS.tt(I:RS K Hc Hb H0 ρ σ H)(sb:Same EX.hb Hb)(h:Rk EX.at (f (see ρ)) k)(hk:∀b,k b->∀H',RS K Hc Hb H0 ρ σ H'->Q b H'):TTd K EX f σ H Q:=by refine⟨sb.trans I.sb,see ρ,HeOf (List.replicate ρ.length true) ρ σ H0 H,I.heH _,?_,h.mono fun b z H' s=>hk b z H' (I.grow s)⟩;rw[<-Km];exact I.re _
theorem Gv(h:TSd K EX fr sNx De σ H):Qh De σ H:=by obtain⟨Hc,Hb,H0,ρ,sb,R,h⟩:=h;exact h σ H H0 R
theorem y3e(h:TSd K EX fr sNo De σ H):Sr De σ H:=by obtain⟨Hc,Hb,H0,ρ,sb,R,h⟩:=h;exact h
theorem Hq(h:TSd K EX fr (c7 g1 g2) De σ H):Da (TSd K EX fr g1) (TSd K EX fr g2) De σ H:=by
 obtain⟨Hc,Hb,H0,ρ,sb,R,h⟩:=h;refine⟨Hc,Hb,H0,ρ,sb,R,?_⟩;unfold c7 at h;cases q:g1 ρ with
 |nx au=>rw[q]at h;exact fun ae H' aa R'=>⟨Hc,Hb,aa,au,sb,R',h⟩
 |bk au=>rw[q]at h;exact h
 |ct au=>rw[q]at h;exact h
 |rt d=>rw[q]at h;exact h
 |er x=>rw[q]at h;exact h
 |st=>rw[q]at h;exact h
theorem Pp(h:TSd K EX fr (sIf t g1 g2) De σ H):ke (TTd K EX t) (TSd K EX fr g1) (TSd K EX fr g2) De σ H:=by
 obtain⟨Hc,Hb,H0,ρ,sb,R,h⟩:=h;unfold sIf at h;rw[SK.toS]at h;refine R.tt sb h fun b h H' R'=>?_
 cases b with
 |true=>exact⟨Hc,Hb,H0,ρ,sb,R',h⟩
 |false=>exact⟨Hc,Hb,H0,ρ,sb,R',h⟩
theorem Dr(h:TSd K EX fr (d8 cr i m f) De σ H):B6 (TEd K EX cr f) (u9 i) De σ H:=by obtain⟨Hc,Hb,H0,ρ,sb,R,h⟩:=h;unfold d8 at h;rw[SK.toS]at h;exact R.te sb h fun d h v H' aO R' a=>h _ H' aO (R'.put a i)
theorem kD(h:TSd K EX fr (g7 m f) De σ H):He (TEd K EX fr f) De σ H:=by obtain⟨Hc,Hb,H0,ρ,sb,R,h⟩:=h;unfold g7 at h;rw[SK.toS]at h;exact⟨sb.trans R.sb,vis m ρ,HeOf m ρ σ H0 H,R.heH m,R.re m,h.mono fun d z v H' o=>z v H' (o.after R.sb (R.extE m))⟩
theorem vD(h:TSd K EX true (F4 i) De σ H):He (n8 i) De σ H:=by
 obtain⟨Hc,Hb,H0,ρ,sb,R,h⟩:=h;unfold F4 at h;split at h
 . rename_i d q;obtain⟨a,h1,h2,h3,h4⟩:=R.ow i d q;show n8 i σ H De.rt;unfold n8;rw[h1];exact h _ H (.fresh R.sb R.ext h3 h2 h4)
 . exact h.elim
theorem vC(h:TSd K EX fr (Ah f) De σ H):U3 (TEd K EX false f) De σ H:=by obtain⟨Hc,Hb,H0,ρ,sb,R,h⟩:=h;unfold Ah at h;rw[SK.toS]at h;refine⟨sb.trans R.sb,see ρ,HeOf (List.replicate ρ.length true) ρ σ H0 H,R.heH _,by rw[<-Km];exact R.re _,h.mono fun d z v H' o=>?_⟩;exact z σ H' H0 (R.grow o.1)
theorem RS.mutate(R:RS K Hc Hb H0 ρ σ H)(h:ρ[i]?=some (.ow d))(ha:σ[i]?=some (some (.ref a)))(ob:OB K H0 (upd H a o) a d'):RS K Hc Hb H0 (ρ.set i (.ow d')) σ (upd H a o):=by
 obtain⟨a',q1,q2,q3,q4⟩:=R.ow i d h;rw[ha]at q1;cases q1;have hi:i<ρ.length:=(DM.mp h).1;have other:∀{j:Nat}{s:Sl},j≠i->(ρ.set i s)[j]?=ρ[j]?:=fun {j s} h=>by rw[FJ (GF h)]
 have here:(ρ.set i (.ow d'))[i]?=some (.ow d'):=by rw[FM hi]
 have sm:∀{H1:Hp},Same H1 H->H1 a=none->Same H1 (upd H a o):=fun s n=>s.upd_at n
 refine⟨sm R.sb q3,⟨R.ext.1,sm R.ext.2.1 q2,R.ext.2.2⟩,by rw[HJ];exact R.len,fun j d2 q=>?_,fun j d2 q=>?_,fun j k d1 d2 b z1 z2=>?_⟩
 . have hj:j≠i:=fun z=>by subst z;rw[here]at q;cases q
   rw[other hj]at q;exact R.im j d2 q
 . by_cases hj:j=i
   . subst hj;rw[here]at q;cases q;exact⟨a,ha,q2,q3,ob⟩
   . rw[other hj]at q;obtain⟨b,h1,h2,h3,h4⟩:=R.ow j d2 q;have hb:b≠a:=fun z=>hj (R.ap j i d2 d b q h h1 (by rw[z];exact ha))
     exact⟨b,h1,h2,h3,h4.at (e9 hb)⟩
 . have back:∀{j:Nat}{d1:D},(ρ.set i (.ow d'))[j]?=some (.ow d1)->∃d0,ρ[j]?=some (.ow d0):=fun {j d1} z=>by
    by_cases hj:j=i
    . subst hj;exact⟨d,h⟩
    . rw[other hj]at z;exact⟨_,z⟩
   obtain⟨e1,z1⟩:=back z1
   obtain⟨e2,z2⟩:=back z2
   exact R.ap j k e1 e2 b z1 z2
def R8(K:Frag)(mt:D->List D->Option D)(r:V->List V->Hp->VK->Prop):Prop:=∀(H0 H:Hp)(a:Addr)(d d':D)(ds:List D)(vs:List V)(Q:VK),Same H0 H->H0 a=none->OB K H0 H a d->RDs K H0 ds vs->mt d ds=some d' ->
 (∀v o,OB K H0 (upd H a o) a d'->Q v (upd H a o))->r (.ref a) vs H Q
noncomputable def isT(T:String):D->Bool
 | .lst _=>T=="list"
 | .dk _ _=>T=="dict"
 | .dt _ _=>T=="dict"
 |_=>false
def TyD(K:Frag)(T:String):Prop:=∀(H0 H:Hp)(a:Addr)(d:D),OB K H0 H a d->isT T d=true->tyV K T (.ref a) H
def B7(T:String)(mt:D->List D->Option D)(i:Nat)(m:List Bool)(fs:DE->R (List D)):DS->SR:=fun ρ=>match ρ[i]? with
 |some (.ow d0)=>if isT T d0=true then(fs (vis m ρ)).toS fun ds=>match (j9 (i9 ds) m ρ)[i]? with
  |some (.ow d)=>(R.of (mt d ds)).toS fun d'=>.nx ((j9 (i9 ds) m ρ).set i (.ow d'))
  |_=>.st
  else .st
 |_=>.st
theorem Po{T:String}{mt:D->List D->Option D}{r:V->List V->Hp->VK->Prop}{i:Nat}{fs:DE->R (List D)}(hm:R8 K mt r)(hT:TyD K T)(h:TSd K EX fr (B7 T mt i m fs) De σ H) :
  U3 (tBM K T r (n8 i) (TAd K EX fs)) De σ H:=by
 obtain⟨Hc,Hb,H0,ρ,sb,R,h⟩:=h
 unfold B7 at h
 split at h
 . rename_i d0 q0;split at h
   . rename_i dN;rw[SK.toS]at h;obtain⟨a,h1,h2,h3,h4⟩:=R.ow i d0 q0;unfold U3 tBM n8;rw[h1];refine⟨hT H0 H a d0 h4 dN,sb.trans R.sb,vis m ρ,HeOf m ρ σ H0 H,R.heH m,R.re m,h.mono fun ds h vs H' aa s e sC=>?_⟩;obtain⟨aO,R',sD⟩:=R.outs s e sC;split at h
     . rename_i d q;rw[SK.toS]at h;obtain⟨d',cZ,h⟩:=h.of;obtain⟨a',z1,z2,z3,z4⟩:=R'.ow i d q;rw[h1]at z1;cases z1;exact hm aO H' a d d' ds vs _ R'.ext.2.1 z2 z4 sD cZ fun v o ob=>h σ _ aO (R'.mutate q h1 ob)
     . exact h.elim
   . exact h.elim
 . exact h.elim
def Gu(K:Frag)(st:D->D->D->Option D)(r:S5):Prop:=∀(H0 H:Hp)(a:Addr)(d d' dk dv:D)(y v:V)(Q:Hp->Prop),Same H0 H->H0 a=none->OB K H0 H a d->RD K H0 dk y->RD K H0 dv v->st d dk dv=some d' ->
 (∀o,OB K H0 (upd H a o) a d'->Q (upd H a o))->r (.ref a) y v H Q
def G6(st:D->D->D->Option D)(i:Nat)(m:List Bool)(fk fv:DE->R D):DS->SR:=fun ρ=>(fv (vis m ρ)).toS fun dv=>match (j9 (keeps false dv) m ρ)[i]? with
 |some (.ow _)=>(fk (vis m (j9 (keeps false dv) m ρ))).toS fun dk=>(match (j9 (keeps false dk) m (j9 (keeps false dv) m ρ))[i]? with
  |some (.ow d)=>(R.of (st d dk dv)).toS fun d'=>.nx ((j9 (keeps false dk) m (j9 (keeps false dv) m ρ)).set i (.ow d'))
  |_=>.st)
 |_=>.st
theorem Apt.rd(a:Apt K false Hb H0 ρ σ H d v):RD K H0 d v:=by unfold Apt at a;rw[ξ θ]at a;exact a
end
section
variable {K:Frag}{EX:XW}{fr:Bool}{Hc Hb H0 H H':Hp}{ρ:DS}{σ:St}{De:Ends}{m:List Bool}
theorem Ho{st:D->D->D->Option D}{r:S5}{i:Nat}{fk fv:DE->R D}(hs:Gu K st r)(h:TSd K EX fr (G6 st i m fk fv) De σ H) :
  B6 (TEd K EX false fv) (Cy (n8 i) (TEd K EX false fk) r) De σ H:=by
 obtain⟨Hc,Hb,H0,ρ,sb,I,h⟩:=h
 unfold G6 at h
 rw[SK.toS]at h
 refine I.te sb h fun dv h v H1 sE I1 a1=>?_
 split at h
 . rename_i d0 q0;rw[SK.toS]at h;obtain⟨a,h1,h2,h3,h4⟩:=I1.ow i d0 q0;unfold Cy n8;rw[h1];refine⟨sb.trans I1.sb,vis m _,HeOf m _ σ sE H1,I1.heH m,I1.re m,h.mono fun dk h y H2 o2=>?_⟩;obtain⟨s2,bv,e2,r2⟩:=o2.rd;obtain⟨lR,I2,tk,eq,hn,sub⟩:=I1.frame s2 e2 (keeps false dk);have sG:RD K lR dk y:=by
    cases hk:keeps false dk with
    |true=>exact r2.tk tk (by simpa [keeps] using hk)
    |false=>rw[eq hk];exact r2
   split at h
   . rename_i d q;rw[SK.toS]at h;obtain⟨d',cZ,h⟩:=h.of;obtain⟨a',z1,z2,z3,z4⟩:=I2.ow i d q;rw[h1]at z1;cases z1;exact hs lR H2 a d d' dk dv y v _ I2.ext.2.1 z2 z4 sG (a1.rd.mono sub) cZ fun o ob=>h σ _ lR (I2.mutate q h1 ob)
   . exact h.elim
 . exact h.elim
inductive Tg where
 |n (i:Nat) |t (is:List Nat)
def Ju:List Nat->List D->DS->DS
 |i::is,d::ds,ρ=>Ju is ds (G3 false i d ρ)
 |_,_,ρ=>ρ
noncomputable def items:D->Option (List D)
 | .tup ds=>some ds
 | .lst ds=>some ds
 |_=>none
def S9:Tg->D->DS->Option DS
 | .n i,d,ρ=>some (G3 false i d ρ)
 | .t is,d,ρ=>(items d).bind fun ds=>if ds.length=is.length then some (Ju is ds ρ) else none
def TGd(K:Frag)(tg:Tg):TG:=fun v σ H Q=>∃Hc Hb H0 ρ d au,RS K Hc Hb H0 ρ σ H/\RD K H0 d v/\S9 tg d ρ=some au/\∀ae,RS K Hc Hb H0 au ae H->Q ae H
theorem RS.putI(I:RS K Hc Hb H0 ρ σ H)(r:RD K H0 d v)(i:Nat):RS K Hc Hb H0 (G3 false i d ρ) (σ.set i (some v)) H:=
 I.put (fr:=false) (by unfold Apt;rw[ξ θ];exact r) i
theorem jL(h:TGd K (.n i) v σ H Q):u9 i v σ H Q:=by obtain⟨Hc,Hb,H0,ρ,d,au,I,r,e,q⟩:=h;simp only[S9,Option.some.injEq]at e;subst e;exact q _ (I.putI r i)
def Em:List Nat->TGs
 | []=>Pt
 |i::is=>Sg (u9 i) (Em is)
theorem Me:∀(is:List Nat){ds:List D}{xs:List V}{ρ:DS}{σ:St}{Q:St->Hp->Prop},RS K Hc Hb H0 ρ σ H->RDs K H0 ds xs->ds.length=is.length->(∀ae,RS K Hc Hb H0 (Ju is ds ρ) ae H->Q ae H)->Em is xs σ H Q
 | [],[],_,ρ,σ,Q,I,r,_,q=>by simp only[RDs]at r;subst r;exact q σ I
 | [],_::_,_,_,_,_,_,_,hl,_=>by simp at hl
 |_::_,[],_,_,_,_,_,_,hl,_=>by simp at hl
 |i::is,d::ds,_,ρ,σ,Q,I,r,hl,q=>by simp only[RDs]at r;obtain⟨x,xs,rfl,r1,r2⟩:=r;exact Me is (I.putI r1 i) r2 (by simpa using hl) q
theorem y3f(h:TGd K (.t is) v σ H Q):Aa is.length (Em is) v σ H Q:=by
 obtain⟨Hc,Hb,H0,ρ,d,au,I,r,e,q⟩:=h;simp only[S9]at e;cases d<;>simp only[items,Option.bind_none,Option.bind_some]at e<;>first |cases e |skip
 . rename_i ds;split at e
   . rename_i hl;cases e;simp only[RD]at r;obtain⟨a,xs,rfl,ha,rs⟩:=r;unfold Aa;simp only[I.ext.2.1 a _ ha];exact⟨by rw[<-rs.length];exact hl,Me is I rs hl q⟩
   . cases e
 . rename_i ds;split at e
   . rename_i hl;cases e;simp only[RD]at r;obtain⟨a,xs,rfl,ha,rs⟩:=r;unfold Aa;simp only[I.ext.2.1 a _ ha];exact⟨by rw[<-rs.length];exact hl,Me is I rs hl q⟩
   . cases e
noncomputable def Hno:Hp:=fun _=>none
def R7(K:Frag)(J:It)(H0:Hp)(ds:List D):Prop:=
 (∀(i:Nat) d,ds[i]?=some d->∀H H1,Same H0 H1->Same H1 H->J.go i H/\∀x H',J.yld i H x H'->Same H H'/\∃ar,Ext H1 H ar H'/\RD K ar d x)/\∀H,Same H0 H->J.stop ds.length H
def TId(K:Frag)(EX:XW)(kp:Bool)(f:DE->R (List D)):TI:=fun σ H Q=>Same EX.hb H/\∃ρ H0,Same H0 H/\RE K H0 ρ σ/\Rk EX.at (f ρ) fun ds=>∀J H' aa,Same H H'->Ext H0 H aa H'->R7 K J (if kp=true then Hno else aa) ds->Q J H'
def B0(tg:Tg)(g:DS->SR):List D->DS->SR
 | [],ρ=>.nx ρ
 |d::ds,ρ=>match S9 tg d ρ with
  |none=>.st
  |some cu=>match g cu with
   | .nx ay=>B0 tg g ds ay
   | .ct ay=>B0 tg g ds ay
   | .bk ay=>.nx ay
   | .rt d=>.rt d
   | .er x=>.er x
   | .st=>.st
def r9(kp:Bool)(m:List Bool)(f:DE->R (List D))(tg:Tg)(g:DS->SR):DS->SR:=fun ρ=>(f (vis m ρ)).toS fun ds=>B0 tg g ds (j9 kp m ρ)
theorem Ext.base(a:Ext Hc Hb gC H)(b:Ext gC Hb H0 H'):Ext Hc Hb H0 H':=⟨a.1.trans b.1,b.2.1,fun c h1 h2=>b.2.2 c h1 (a.2.2 c h1 h2)⟩
theorem RS.base(a:Ext Hc Hb gC H1)(I:RS K gC Hb H0 ρ σ H):RS K Hc Hb H0 ρ σ H:=⟨I.sb,a.base I.ext,I.len,I.im,I.ow,I.ap⟩
theorem RS.self(I:RS K Hc Hb H0 ρ σ H):RS K H0 Hb H0 ρ σ H:=⟨I.sb,⟨Same.refl _,I.ext.2.1,fun _ _ z=>z⟩,I.len,I.im,I.ow,I.ap⟩
theorem Out.base(a:Ext Hc Hb gC H)(o:Out K fr gC Hb d v H'):Out K fr Hc Hb d v H':=by obtain⟨s,aa,e,r⟩:=o;exact⟨s,aa,a.base e,r⟩
theorem RS.sees(I:RS K Hc Hb H0 ρ σ H)(s:Same H H')(e:Ext H0 H ar H'):RS K Hc Hb ar ρ σ H':=
 ⟨I.sb.trans s,⟨I.ext.1.trans e.1,e.2.1,fun a h1 h2=>e.2.2 a (I.sb.ne h1) (I.ext.2.2 a h1 h2)⟩,I.len,fun i d q=>by
  obtain⟨v,h1,h2⟩:=I.im i d q;exact⟨v,h1,h2.mono e.1⟩,fun i d q=>by
  obtain⟨a,h1,h2,h3,h4⟩:=I.ow i d q;obtain⟨u,hu,_⟩:=h4.some;exact⟨a,h1,e.2.2 a (Ay hu) h2,h3,h4.mono e.1 s⟩,I.ap⟩
theorem y3g(sb:Same EX.hb Hb)(I1:RS K Hc Hb Hn ρ σ H1)(eY:R7 K J Hn ds)(h:SK K EX fr Hc Hb De (B0 tg g ds ρ)):jQ J (TGd K tg) (TSd K EX fr g) De σ H1:=by
 have lS:Ext Hc Hb Hn H1:=I1.ext;refine⟨fun i mm σ H=>mm=ds.length - i/\i<=ds.length/\∃ρ H0,RS K Hn Hb H0 ρ σ H/\SK K EX fr Hc Hb De (B0 tg g (ds.drop i) ρ),⟨ds.length,by simp,DG _,_,Hn,I1.self,h⟩,?_⟩;rintro i mm σ H ⟨rfl,hi,ρ,H0,I2,h⟩;have sn:Same Hn H0:=I2.ext.1;by_cases aC:i<ds.length
 . have hd:ds[i]?=some ds[i]:=by simp[aC]
   obtain⟨lT,hy⟩:=eY.1 i _ hd H H0 sn I2.ext.2.1;have lU:ds.drop i=ds[i]::ds.drop (i+1):=EY aC;rw[lU]at h;refine .inr ⟨lT,fun ae H'=>∃au aa,RS K Hn Hb aa au ae H'/\SK K EX fr Hc Hb De (B0 tg g (ds.drop (i+1)) au),fun ae H' ⟨au,aa,q⟩=>⟨ds.length - (i+1),by omega,rfl,aC,au,aa,q⟩,fun x H' y=>?_⟩;obtain⟨s3,H3,e3,r3⟩:=hy x H' y;have I3:=I2.sees s3 e3;unfold B0 at h;split at h
   . exact h.elim
   . rename_i cu q1;refine⟨Hn,Hb,H3,ρ,ds[i],cu,I3,r3,q1,fun ae I4=>⟨Hn,Hb,H3,cu,sb,I4,?_⟩⟩;cases qg:g cu with
     |nx ay=>rw[qg]at h;exact fun dD H5 dj I5=>⟨ay,dj,I5,h⟩
     |ct ay=>rw[qg]at h;exact fun dD H5 dj I5=>⟨ay,dj,I5,h⟩
     |bk ay=>rw[qg]at h;exact fun dD H5 dj I5=>h dD H5 dj (I5.base lS)
     |rt d=>rw[qg]at h;exact fun v H5 o=>h v H5 (o.base lS)
     |er x=>rw[qg]at h;exact h
     |st=>rw[qg]at h;exact h
 . have e:i=ds.length:=by omega
   subst e;rw[List.drop_length]at h;refine .inl ⟨eY.2 H (sn.trans I2.ext.2.1),?_⟩;exact h σ H H0 (I2.base lS)
theorem Pn(h:TSd K EX fr (r9 kp m f tg g) De σ H):Pv (TId K EX kp f) (TGd K tg) (TSd K EX fr g) De σ H:=by
 obtain⟨Hc,Hb,H0,ρ,sb,I,h⟩:=h;unfold r9 at h;rw[SK.toS]at h;refine⟨sb.trans I.sb,vis m ρ,HeOf m ρ σ H0 H,I.heH m,I.re m,h.mono fun ds h J H1 ar s1 e1 it=>?_⟩;obtain⟨Hn,I1,tk,eq,hn,sub⟩:=I.frame s1 e1 kp;have eY:R7 K J Hn ds:=by
  cases kp with
  |true=>
   rw[ζ rfl]at it
   exact⟨fun i d q H H1 a b=>it.1 i d q H H1 (fun _ _ z=>nomatch z) b,fun H a=>it.2 H fun _ _ z=>nomatch z⟩
  |false=>rw[ξ θ,<-eq rfl]at it;exact it
 exact y3g sb I1 eY h
def w4(t:DE->R Bool)(g:DS->SR):Nat->DS->SR
 | 0,_=>.st
 |n+1,ρ=>(t (see ρ)).toS fun b=>if b=true then(match g ρ with
  | .nx ay=>w4 t g n ay
  | .ct ay=>w4 t g n ay
  | .bk ay=>.nx ay
  | .rt d=>.rt d
  | .er x=>.er x
  | .st=>.st) else .nx ρ
def F5(n:Nat)(t:DE->R Bool)(g:DS->SR):DS->SR:=w4 t g n
theorem xC(h:TSd K EX fr (F5 n t g) De σ H):So (TTd K EX t) (TSd K EX fr g) De σ H:=by
 obtain⟨Hc,Hb,H0,ρ,sb,I,h⟩:=h;refine⟨fun mm σ H=>∃ρ H0,RS K Hc Hb H0 ρ σ H/\SK K EX fr Hc Hb De (w4 t g mm ρ),⟨n,ρ,H0,I,h⟩,?_⟩;rintro mm σ H ⟨ρ,H0,I,h⟩;cases mm with
 |zero=>exact h.elim
 |succ mm=>
  unfold w4 at h
  rw[SK.toS]at h
  refine I.tt sb h fun b h H' I'=>?_
  cases b with
  |false=>exact h σ H' H0 I'
  |true=>
   rw[ζ rfl]at h⊢
   refine⟨fun ae H'=>∃au aa,RS K Hc Hb aa au ae H'/\SK K EX fr Hc Hb De (w4 t g mm au),fun ae H' q=>⟨mm,Nat.lt_succ_self _,q⟩,Hc,Hb,H0,ρ,sb,I',?_⟩
   cases qg:g ρ with
   |nx ay=>rw[qg]at h;exact fun dD H5 dj I5=>⟨ay,dj,I5,h⟩
   |ct ay=>rw[qg]at h;exact fun dD H5 dj I5=>⟨ay,dj,I5,h⟩
   |bk ay=>rw[qg]at h;exact fun dD H5 dj I5=>h dD H5 dj I5
   |rt d=>rw[qg]at h;exact fun v H5 o=>h v H5 o
   |er x=>rw[qg]at h;exact h
   |st=>rw[qg]at h;exact h
noncomputable def R.noE{α:Type}(r:R α):R α:=match r with
 | .er _=>.st
 |r=>r
theorem Rk.noE{α:Type}{EX sH:Ex->Prop}{r:R α}{k:α->Prop}(h:Rk EX r.noE k):Rk sH r k:=by
 cases r with
 |ok a=>exact h
 |er x=>exact h.elim
 |st=>exact h
def BD(K:Frag)(bn:D->Option (List D))(B:V->Hp->(List V->Hp->Prop)->Prop):Prop:=∀(H0 H:Hp)(x:V)(d:D)(ds:List D)(Q:List V->Hp->Prop),Same H0 H->RD K H0 d x->bn d=some ds->(∀vs,RDs K H0 ds vs->Q vs H)->B x H Q
noncomputable def b1:D->Option (List D):=fun d=>some [d]
noncomputable def bT(n:Nat):D->Option (List D)
 | .tup ds=>if ds.length=n then some ds else none
 |_=>none
theorem jK:BD K b1 cB1:=fun H0 H x d ds Q s r e q=>by simp only[b1,Option.some.injEq]at e;subst e;exact q [x] (.one r)
theorem jJ:BD K (bT n) (cBT n):=fun H0 H x d ds Q s r e q=>by
 cases d<;>simp only[bT]at e<;>first |cases e |skip
 rename_i es;split at e
 . rename_i hl;cases e;simp only[RD]at r;obtain⟨a,xs,rfl,ha,rs⟩:=r;unfold cBT;simp only[s a _ ha];exact⟨by rw[<-rs.length];exact hl,q xs rs⟩
 . cases e
noncomputable def sel(ix:List Nat)(ρ:DE):DE:=ix.map fun j=>(ρ[j]?).getD none
def J1(bn:D->Option (List D))(t:DE->R Bool)(f:DE->R D)(cs:DE):List D->R (List D)
 | []=>.ok []
 |d::ds=>(R.of (bn d)).bind fun bs=>(t (bs.map some++cs)).noE.bind fun b=>if b=true then(f (bs.map some++cs)).noE.bind fun y=>(J1 bn t f cs ds).bind fun ys=>.ok (y::ys) else J1 bn t f cs ds
def m8(fi:DE->R (List D))(bn:D->Option (List D))(ix:List Nat)(t:DE->R Bool)(f:DE->R D):DE->R D:=fun ρ=>(fi ρ).bind fun ds=>if ds.length<=100000 then(J1 bn t f (sel ix ρ) ds).bind fun ys=>.ok (.lst ys) else .st
theorem RE.sel{ρ:DE}{vs:List V}{ds:List D}(h:RE K H0 ρ σ)(r:RDs K H0 ds vs)(ix:List Nat):RE K H0 (ds.map some++sel ix ρ) (vs.map some++E2 ix σ):=by
 have hl:=r.length;refine⟨by simp[L2.sel,E2,hl],fun i d e=>?_⟩;by_cases hi:i<ds.length
 . rw[EI (by simpa using hi),DB]at e;rw[EI (by simpa [<-hl] using hi),DB];cases q:ds[i]? with
   |none=>rw[q]at e;cases e
   |some d'=>
    rw[q]at e;cases e
    obtain⟨x,h1,h2⟩:=r.get' q
    exact⟨x,by rw[h1];rfl,h2⟩
 . rw[DP (by simpa using hi)]at e;rw[DP (by simpa [<-hl] using hi)];simp only[bI]at e⊢;rw[<-hl];unfold L2.sel at e;unfold E2;rw[DB]at e⊢;cases q:ix[i - ds.length]? with
   |none=>rw[q]at e;cases e
   |some j=>
    rw[q]at e
    simp only[CZ,Option.some.injEq]at e⊢
    cases qj:ρ[j]? with
    |none=>rw[qj]at e;cases e
    |some o=>
     rw[qj]at e
     simp only[Option.getD_some]at e
     subst e
     obtain⟨v,h1,h2⟩:=h.2 j d qj
     exact⟨v,by rw[h1];rfl,h2⟩
theorem Q3(h:n<100000):n<sizeLine:=CV h (by decide)
theorem xB(hW:Same W.hb EX.hb)(hB:BD K bn B)(fF:∀σ H Q,TTd K F0 t σ H Q->tt σ H Q)
  (h:TEd K EX true (m8 fi bn ix t f) σ H Q):N2 (TId K EX kp fi) B ix tt (TEd K W false f) σ H Q:=by
 obtain⟨sx,ρ,H0,s,e,h⟩:=h
 unfold m8 at h
 rw[Rk.bind]at h
 refine⟨sx,ρ,H0,s,e,h.mono fun ds h J H1 ar s1 e1 it D hD=>?_⟩
 split at h
 . rename_i hsz;rw[Rk.bind]at h;have eY:R7 K J ar ds:=by
    cases kp with
    |true=>rw[ζ rfl]at it;exact⟨fun i d q H H1 a b=>it.1 i d q H H1 (fun _ _ z=>nomatch z) b,fun H a=>it.2 H fun _ _ z=>nomatch z⟩
    |false=>rw[ξ θ]at it;exact it
   have e':=e.mono e1.1;have sI:ar D=none:=e1.2.1.none hD;refine⟨fun i mm ys H2=>mm=ds.length - i/\i<=ds.length/\ys.length<=i/\∃acc bv,Same H1 H2/\H2 D=some (.lst ys)/\Ext ar H1 bv H2/\bv D=none/\RDs K bv acc ys /\
    Rk EX.at (J1 bn t f (L2.sel ix ρ) (ds.drop i)) fun rest=>∀v H',Out K true H0 H (.lst (acc++rest)) v H'->Q v H',⟨ds.length,by simp,DG _,η _,[],ar,Same.upd_new hD,k9,(Ext.refl e1.2.1).grow (Same.upd_new hD),sI,.nil,h⟩,?_⟩
   rintro i mm ys H2 ⟨rfl,hi,fD,acc,bv,s2,fc,e2,lg,r2,h⟩;refine⟨fc,?_⟩;by_cases aC:i<ds.length
   . have hd:ds[i]?=some ds[i]:=by simp[aC]
     obtain⟨lT,hy⟩:=eY.1 i _ hd H2 bv e2.1 e2.2.1;have lU:ds.drop i=ds[i]::ds.drop (i+1):=EY aC;rw[lU]at h;unfold J1 at h;rw[Rk.bind]at h;obtain⟨bs,sJ,h⟩:=h.of;rw[Rk.bind]at h;refine .inr ⟨lT,fun x H3 y=>?_⟩;obtain⟨s3,dh,e3,r3⟩:=hy x H3 y;refine hB dh H3 x _ bs _ e3.2.1 r3 sJ fun vs sK=>?_
     have en:=(e'.mono (e2.1.trans e3.1)).sel sK ix;have e23:=e2.trans s2 e3;refine fF _ _ _ ⟨F0.same _,_,dh,e3.2.1,en,(Rk.noE h).mono fun b h H4 s4=>?_⟩;have iA:=s2.trans (s3.trans s4);have lV:H4 D=some (.lst ys):=s4 _ _ (s3 _ _ fc);have lh:dh D=none:=e3.2.2 D (Ay fc) lg;have e14:Ext ar H1 dh H4:=e23.grow s4;cases b with
     |false=>
      rw[ξ θ]at h
      dsimp only
      rw[ξ θ]
      exact⟨ds.length - (i+1),by lia,rfl,aC,by lia,acc,dh,iA,lV,e14,lh,r2.mono e3.1,h⟩
     |true=>
      rw[ζ rfl]at h
      dsimp only
      rw[ζ rfl]
      rw[Rk.bind]at h
      refine⟨hW.trans (sx.trans (s1.trans iA)),_,dh,e14.2.1,en,(Rk.noE h).mono fun y h w H5 o5=>?_⟩
      obtain⟨s5,oA,e5,r5⟩:=o5.rd
      have sL:H5 D=some (.lst ys):=s5 _ _ lV
      have ll:oA D=none:=e5.2.2 D (Ay lV) lh
      have lW:=e14.trans iA e5
      rw[Rk.bind]at h
      refine⟨sL,Q3 (by lia),ds.length - (i+1),by lia,rfl,aC,by rw[χ];show ys.length+1<=i+1;lia,acc++[y],oA,(iA.trans s5).upd_at hD,k9,⟨lW.1,lW.2.1.upd_at ll,lW.2.2⟩,ll,((r2.mono (e3.1.trans e5.1))).append (.one r5),?_⟩
      exact h.mono fun rest h v H' o=>h v H' (by simpa using o)
   . have ei:i=ds.length:=by lia
     subst ei;rw[List.drop_length]at h;refine .inl ⟨eY.2 H2 (e2.1.trans e2.2.1),h _ H2 ?_⟩;rw[ED];refine Out.after s1 e1 (.fresh s2 e2 hD lg ?_);simp only[OB];exact⟨ys,fc,r2⟩
 . exact h.elim
theorem El(hB:BD K bn B)(fF:∀σ H Q,TTd K F0 t σ H Q->tt σ H Q)
 (h:TEd K EX true (m8 fi bn ix t f) σ H Q):N2 (TId K EX kp fi) B ix tt (TEd K F0 false f) σ H Q:=xB (F0.same _) hB fF h
noncomputable def mOf(fr:Bool)(n k:Nat)(g:DS->SR):List D->R D:=fun ds=>if ds.length=n then(match g (ds.map .im++List.replicate k .em) with
 | .rt d=>.ok d
 | .nx _=>if fr=true then .st else .ok .non
 | .er x=>.er x
 |_=>.st) else .st
def XFs(K:Frag)(x:Ex)(od:Option Addr)(H:Hp):Prop:=x.fs=[]\/∃(dx:Addr)(ns:List Int)(ob:Obj),od=some dx/\H dx=some (.frz ob (.xd ((jN x.cls).zip (ns.map V.int))))/\x.fs=ns.map D.int
def xNm(K:Frag)(mg:Str->Option Value)(E:XK)(x:Ex)(H:Hp):Prop:=∃C,mg (x.cls:Str)=some (.ref C)/\∀od,XFs K x od H->E (.ref C) od H
noncomputable def spD(K:Frag)(mg:Str->Option Value)(fr:Bool)(m:List D->R D)(n:Nat):Sp:=fun vs H Q E=>∃ds H0,Same H0 H/\RDs K H0 ds vs/\ds.length=n/\Rk (XW.at ⟨H,xNm K mg E⟩) (m ds) fun d=>∀v H',Out K fr H0 H d v H'->Q v H'
noncomputable def Ek(sp:Sp)(E:XK)(t:TA):TE:=fun σ H Q=>t σ H fun vs H1=>sp vs H1 Q E
theorem vB{mg:Str->Option Value}{E:XK}{m:List D->R D}{n:Nat}{fs:DE->R (List D)}{Q:VK}(hl:∀ds,ds.length≠n->m ds=.st)(hE:∀x H,EX.p x H->xNm K mg E x H)(h:TEd K EX fr (d9 m fs) σ H Q):Ek (spD K mg fr m n) E (TAd K EX fs) σ H Q:=by
 obtain⟨sx,ρ,H0,s,e,h⟩:=h;unfold d9 at h;rw[Rk.bind]at h;refine TAd.go sx s e h fun ds h vs H1 ar s1 e1 r1=>?_
 refine⟨ds,ar,e1.2.1,r1,?_,?_⟩
 . apply tB;intro hn;rw[hl ds hn]at h;exact h
 . cases q:m ds with
   |ok d=>rw[q]at h;exact fun v H' o=>h v H' (o.after s1 e1)
   |er x=>rw[q]at h;exact fun H' s'=>hE x H' (h H' ((sx.trans s1).trans s'))
   |st=>rw[q]at h;exact h
theorem xA(ds:List D)(h:ds.length≠n):mOf fr n k g ds=.st:=by unfold mOf;rw[ξ h]
theorem yG(s:Same H0 H)(r:RDs K H0 ds vs)(k:Nat):RS K H0 H H0 (ds.map .im++List.replicate k .em) (vs.map some++List.replicate k none) H:=by
 have hl:=r.length;have lm:∀(i:Nat) d,(ds.map Sl.im++List.replicate k Sl.em)[i]?≠some (.ow d):=fun i d q=>by
  rcases CK.mp (EB q) with z |z
  . obtain⟨_,_,z⟩:=CP.mp z;cases z
  . have:=(List.mem_replicate.mp z).2;cases this
 refine⟨Same.refl _,.refl s,by simp[hl],fun i d q=>?_,fun i d q=>absurd q (lm i d),fun i j d e a q=>absurd q (lm i d)⟩;by_cases hi:i<ds.length
 . rw[EI (by simpa using hi),DB]at q;rw[EI (by simpa [<-hl] using hi),DB];cases qd:ds[i]? with
   |none=>rw[qd]at q;cases q
   |some d'=>
    rw[qd]at q
    simp only[CZ,Option.some.injEq,Sl.im.injEq]at q
    subst q
    obtain⟨x,h1,h2⟩:=r.get' qd
    exact⟨x,by rw[h1];rfl,h2⟩
 . rw[DP (by simpa using hi)]at q;have:=(List.mem_replicate.mp (EB q)).2;cases this
theorem vA(h:spD K mg fr (mOf fr n k g) n vs H Q E) :
  TSd K ⟨H,xNm K mg E⟩ fr g { nx:=fun _ H'=>Q .non H',rt:=Q } (vs.map some++List.replicate k none) H:=by
 obtain⟨ds,H0,s,r,hn,h⟩:=h
 refine⟨H0,H,H0,_,Same.refl _,yG s r k,?_⟩
 unfold mOf at h
 rw[ζ hn]at h
 cases q:g (ds.map .im++List.replicate k .em) with
 |nx ρ=>
  rw[q]at h
  cases fr with
  |true=>exact h.elim
  |false=>exact fun σ H' aa I=>h _ H' (.val I.sb I.ext (by simp only[RD]))
 |rt d=>rw[q]at h;exact h
 |er x=>rw[q]at h;exact h
 |bk ρ=>rw[q]at h;exact h.elim
 |ct ρ=>rw[q]at h;exact h.elim
 |st=>rw[q]at h;exact h.elim
end
structure Flt{α:Type}(t:Sem α):Prop where
 go:∀{M:Model}{Γ:PySem.Ctx}{Q Q':α->Pos->Shared->Prop}{E E':Value->Pos->Shared->Prop}{p:Pos}{s:Shared},
 t.wp M Γ Q E p s->t.wp M Γ Q' E' p s->t.wp M Γ (fun a p s=>Q a p s/\Q' a p s) (fun a p s=>E a p s/\E' a p s) p s
theorem Flt.bind(h:Flt t)(k:∀a,Flt (f a)):Flt (t >>= f):=by refine⟨fun x y=>?_⟩;rw[Sem.wp_bind']at x y⊢;exact Sem.wp_mono _ _ _ (fun a _ _ z=>(k a).go z.1 z.2) (fun _ _ _ z=>z) _ _ (h.go x y)
theorem Flt.pure(a:α):Flt (Pure.pure a:Sem α):=⟨fun x y=>⟨x,y⟩⟩
theorem Flt.uns(w:String):Flt (unsupported w:Sem α):=⟨fun x _=>x.elim⟩
theorem Flt.stack:Flt PySem.stack:=⟨fun x y=>⟨x,y⟩⟩
theorem Flt.alloc(o:Obj):Flt (PySem.alloc o):=⟨fun x y=>⟨x,y⟩⟩
theorem Flt.update(a:Addr)(f:Obj->Obj):Flt (PySem.update a f):=⟨fun x y=>⟨x.1,x.2,y.2⟩⟩
theorem Flt.load(a:Addr):Flt (PySem.load a):=⟨fun⟨o,e,x⟩ ⟨o',e',y⟩=>by rw[e]at e';cases e';exact⟨o,e,x,y⟩⟩
theorem Flt.cells(v:Value):Flt (fieldsOf v):=by cases v<;>first |exact .uns _ |exact .bind (.load _) fun o=>by split<;>first |exact .pure _ |exact .uns _
theorem Flt.field(v:Value)(i:Nat):Flt (PySem.field v i):=.bind (.cells v) fun vs=>by split<;>first |exact .pure _ |exact .uns _
theorem Flt.put(v:Value)(i:Nat)(x:Value):Flt (setField v i x):=by cases v<;>first |exact .uns _ |exact .bind (.load _) fun o=>by split<;>first |exact .uns _ | (split<;>first |exact .update _ _ |exact .uns _)
theorem Flt.flight(e:Value)(f:Option Addr):Flt (setFlight e f):=.bind (.field e 1) fun tb=>by split<;>first |exact .put _ _ _ |exact .pure _
theorem Flt.ready:∀l:List Env,Flt (readyFrames l)
 | []=>.pure _
 |env::outer=>by
  unfold readyFrames;split<;>first |exact .uns _ |skip
  refine .bind (.load _) fun o=>?_
  split<;>first |exact .pure _ |skip
  refine .bind ?_ fun b=>.bind ?_ fun v=>.bind (.update _ _) fun _=>Flt.ready outer
  . unfold behindIsImport;split<;>first |exact .pure _ |skip
    split<;>first |exact .pure _ |exact .bind (.field _ _) fun _=>.pure _
  . unfold keptBack;split<;>first |exact .pure _ |skip
    split<;>first |exact .pure _ |exact .bind (.bind .stack fun _=>.pure _) fun _=>.pure _
theorem Flt.frame(env:Env):Flt (frameOf env):=.bind (.bind .stack fun _=>.pure _) fun es=>.bind (by
 unfold frameObject;split
 . exact .pure _
 . exact .bind (.ready _) fun _=>.pure _) fun f=>by split<;>first |exact .pure _ |exact .uns _
theorem Flt.fields(vs:List Value):Flt (newFields "traceback" vs):=by
 have h:Flt (newObjAsIs (.type "traceback") (.fields vs.toArray)):=.bind (.alloc _) fun a=>.pure _
 unfold newFields newObj;dsimp only;split
 . exact .bind (.uns _) fun _=>h
 . exact h
theorem Flt.entry(env:Env)(e head:Value)(L:Addr)(b:Bool):Flt (do let a <-frameOf env;let pl <-entryPlaceOf L b;let b <-EntryCells.newEntry head a .none (rawInt L) .none pl;setField e 1 b):=
 .bind (.frame env) fun _=>.bind (.bind .stack fun AN=>by split<;>exact .pure _) fun _=>.bind (.fields _) fun _=>.put _ _ _
theorem Flt.note(e:Value)(env:Env):Flt (noteFrame e env):=by
 unfold noteFrame;split<;>first |exact .uns _ |skip
 refine .bind (.field _ _) fun head=>?_
 split
 . refine .bind (.field _ _) fun x=>?_
   split
   . exact .pure _
   . exact .bind (.put _ _ _) fun _=>.entry _ _ _ _ _
 . exact .entry _ _ _ _ _
theorem Mr(f:Flt t)(h:wpAny M A t Q E s)(k:wpAny M A t Q' E' s):wpAny M A t (fun a s=>Q a s/\Q' a s) (fun a s=>E a s/\E' a s) s:=
 fun Γ p oB=>f.go (h Γ p oB) (k Γ p oB)
section
variable {M:Model}{A:Around}{E:Value->Shared->Prop}{s:Shared}{base:Heap}{env:Env}{outer:List Env}{L e:Addr}{cls a0 fl:Value}{od:Option Addr}
def p8(e:Addr)(od:Option Addr)(h:Heap):Prop:=∀o,h.get? e=some o->o.dict=od
theorem yF(o:Obj)(f:Array Value->Array Value):(Obj.mapFields f o).dict=o.dict:=by unfold Obj.mapFields;split<;>rfl
theorem Lk(d:p8 e od h)(hb:∃o,h.get? b=some o/\∃vs,o.data=.fields vs):p8 e od (h.update b (Obj.mapFields f)):=by
 intro o ho;by_cases q:b=e
 . subst q;obtain⟨ob,h1,vs,h2⟩:=hb;rw[EA _ h1 (Obj.isFreed_of_fields (Obj.data_mapFields h2 f))]at ho;cases ho;rw[yF];exact d _ h1
 . rw[DV _ _ q]at ho;exact d o ho
theorem Ur(T:Addr):(Value.ref T != Value.none)=true:=by simp
theorem vz(L:Addr):(Value.none==rawInt L)=false:=by simp[rawInt]
theorem ze1(ht:s.heap.TracedAtW base e cls a0 fl)(d:p8 e od s.heap):wpAny M A (setFlight (.ref e) none) (fun _ s'=>p8 e od s'.heap) E s:=by obtain⟨oe,vs,T,oT,ts,he,-,hd,h1,-,-,hT,cy,h3⟩:=ht;have lX:=(HB.mp h3).1;unfold setFlight;exact δ (wpAny_field he hd h1 (by rw[ζ (Ur T)];exact wpAny_setField hT cy lX (Lk d ⟨_,hT,_,cy⟩)))
theorem Yl(bV:A.frames=some (env::outer))(hl:s.heap.FunFrames base (env::outer))(hf:env.frame=some L)(he:s.heap.get? e=some oe)(hd:oe.data=.fields vs)(hsz:1<vs.size)(d:p8 e od s.heap) :
  wpAny M A (do let a <-frameOf env;let pl <-entryPlaceOf L mU;let b <-EntryCells.newEntry head a .none (rawInt L) .none pl;setField (.ref e) 1 b) (fun _ s'=>p8 e od s'.heap) E s:=by
 have nf:e∉(env::outer).filterMap (·.frame):=fun hm=>by obtain⟨_,o,ho,sM⟩:=hl.mem hm;rw[he]at ho;cases ho;exact sM vs hd
 refine δ (wpAny_frameOf_fun bV hl hf fun h1 hs=>δ (wpAny_entryPlaceOf fun pl hpl=>?_))
 unfold EntryCells.newEntry newFields
 refine δ (wpAny_newObj_type ?_ (hpl.sizeOk5 _ _ _ _ _))
 have lY:h1.get? e=some oe:=(hs.2.1 e nf).trans he
 have me:=Φ (h:=h1) { cls:=.type "traceback",dict:=none,data:=.fields ([head,.ref L,.none,rawInt L,.none]++(if pl.isEmpty then List.replicate 6 Value.none else pl)).toArray } lY
 refine wpAny_setField me hd hsz (Lk (fun o ho=>?_) ⟨_,me,_,hd⟩)
 rw[me]at ho;cases ho
 exact d _ he
theorem zp(bV:A.frames=some (env::outer))(hl:s.heap.FunFrames base (env::outer))(hf:env.frame=some L)(ht:s.heap.TracedW base e cls a0)(d:p8 e od s.heap) :
  wpAny M A (noteFrame (.ref e) env) (fun _ s'=>p8 e od s'.heap) E s:=by
 obtain⟨oe,vs,T,oT,ts,he,-,hd,h1,-,gE,hT,cy,h3⟩:=ht
 have in1:=(HB.mp h1).1
 have lX:=(HB.mp h3).1
 have oC:∀b,T≠b->(s.heap.update T (Obj.mapFields (·.setIfInBounds 3 Value.none))).get? b=s.heap.get? b:=fun b hb=>DV _ _ hb
 have fr:(s.heap.update T (Obj.mapFields (·.setIfInBounds 3 Value.none))).FunFrames base (env::outer):=hl.of_keeps fun b o hb nf=>⟨o,(oC b fun z=>by rw[<-z,hT]at hb;cases hb;exact nf ts cy).trans hb,rfl⟩
 unfold noteFrame
 simp only[hf]
 exact δ (wpAny_field he hd h1 (by rw[ζ (Ur T)];exact δ (wpAny_field hT cy h3 (by rw[ξ (by rw[vz];exact θ)];exact δ (wpAny_setField hT cy lX (Yl bV fr hf ((oC e gE).trans he) hd in1 (Lk d ⟨_,hT,_,cy⟩)))))))
end
section
variable {M:Model}{A:Around}{E:Value->Shared->Prop}{s:Shared}{base:Heap}{env:Env}{outer:List Env}{L e:Addr}{cls a0:Value}{od:Option Addr}{Q:Unit->Shared->Prop}
theorem Uq(hh:Heap.HeldW base (env::outer) e cls a0 L s.heap)(d:p8 e od s.heap)(hQ:∀h',Heap.FlyingW base (env::outer) e cls a0 h'->s.heap.UpToSlots h'->p8 e od h'->Q () { s with heap:=h' }):wpAny M A (setFlight (.ref e) none) Q E s:=
 EZ (Mr (E:=E) (E':=E) (.flight _ _) (wpAny_landsW hh (Q:=fun _ s'=>∃h',s'={ s with heap:=h' }/\Heap.FlyingW base (env::outer) e cls a0 h'/\s.heap.UpToSlots h') fun h' f u=>⟨h',rfl,f,u⟩) (ze1 hh.2.2.2 d))
  (fun _ s' ⟨⟨h',e1,f,u⟩,d'⟩=>by subst e1;exact hQ h' f u d') fun _ _ z=>z.1
theorem xx(bV:A.frames=some (env::outer))(hf:env.frame=some L)(cz:Heap.FlyingW base (env::outer) e cls a0 s.heap)(d:p8 e od s.heap)
  (hQ:∀h',Heap.HeldW base (env::outer) e cls a0 L h'->s.heap.UpToSlots h'->p8 e od h'->Q () { s with heap:=h' }):wpAny M A (noteFrame (.ref e) env) Q E s:=
 EZ (Mr (E:=E) (E':=E) (.note _ _) (wpAny_looks_onW bV hf cz (Q:=fun _ s'=>∃h',s'={ s with heap:=h' }/\Heap.HeldW base (env::outer) e cls a0 L h'/\s.heap.UpToSlots h') fun h' f u=>⟨h',rfl,f,u⟩) (zp bV cz.2.2.1 hf cz.2.2.2 d))
  (fun _ s' ⟨⟨h',e1,f,u⟩,d'⟩=>by subst e1;exact hQ h' f u d') fun _ _ z=>z.1
theorem yE(bV:A.frames=some (env::outer))(hf:env.frame=some L)(cz:Heap.FlyingW base (env::outer) e cls a0 s.heap)(d:p8 e od s.heap)
  (hQ:∀h',Heap.FlyingW base outer e cls a0 h'->s.heap.UpToSlots h'->p8 e od h'->Q () { s with heap:=h' }):wpAny M A (leaving env (.ref e)) Q E s:=by
 unfold leaving
 refine δ (xx bV hf cz d fun h1 hh u1 d1=>Uq (s:={ s with heap:=h1 }) hh d1 fun h2 f u2 d2=>hQ h2 ?_ (u1.trans u2) d2)
 obtain⟨k1,k2,⟨_,_,k3⟩,k4⟩:=f
 exact⟨k1,k2,k3,k4⟩
theorem xw(bV:A.frames=some (env::outer))(hl:s.heap.FunFrames base (env::outer))(hf:env.frame=some L)(he:s.heap.get? e=some oe)(sN:base.StaysIn s.heap)(oE:base.get? e=none)(hd:oe.data=.fields vs)(h1:vs[1]?=some .none)(h0:vs[0]?=some a0)(d:p8 e od s.heap)
  (hQ:∀h',Heap.FlyingW base outer e oe.cls a0 h'->s.heap.UpToSlots h'->p8 e od h'->Q () { s with heap:=h' }):wpAny M A (leaving env (.ref e)) Q E s:=by
 have hsz:=(HB.mp h1).1
 unfold leaving noteFrame
 simp only[hf]
 refine δ (δ (wpAny_field he hd h1 ?_))
 rw[ξ (by decide)]
 refine EZ (Mr (E:=E) (E':=E) (.entry _ _ _ _ _) (wpAny_entryW bV hl hf he sN oE hd hsz h0 (Q:=fun _ s'=>∃h',s'={ s with heap:=h' }/\Heap.NotedW base (env::outer) e oe.cls a0 (rawInt L) s.heap h') fun h' n=>⟨h',rfl,n⟩) (Yl bV hl hf he hd hsz d)) (fun _ s' z=>?_) fun _ _ z=>z.1
 obtain⟨⟨h',e1,n1,n2,n3,n4⟩,d1⟩:=z
 subst e1
 refine Uq (s:={ s with heap:=h' }) ⟨n1,oE,n2,n3⟩ d1 fun h2 f u2 d2=>hQ h2 ?_ (Heap.UpToSlots.trans n4 u2) d2
 obtain⟨k1,k2,⟨_,_,k3⟩,k4⟩:=f
 exact⟨k1,k2,k3,k4⟩
end
theorem ObjOk.there(x:ObjOk P w H h a o):∃ob,h.get? a=some ob:=by
 induction o with
 |lst xs=>obtain⟨_,_,_,_,e⟩:=x;exact⟨_,e⟩
 |tup xs=>obtain⟨_,_,_,ob,e,_⟩:=x;exact⟨_,e⟩
 |dK kvs=>obtain⟨_,_,_,_,o,_,_,e,_⟩:=x;exact⟨_,e⟩
 |dT kvs=>obtain⟨_,_,_,_,o,_,_,e,_⟩:=x;exact⟨_,e⟩
 |set S n=>obtain⟨o,_,_,_,e,_⟩:=x;exact⟨_,e⟩
 |ins C dx fs=>obtain⟨_,_,_,e,_⟩:=x;exact⟨_,e⟩
 |own y=>exact x
 |xd fs=>obtain⟨_,⟨_,_,_,e,_⟩,_⟩:=x;exact⟨_,e⟩
 |rng lo hi=>obtain⟨_,_,_,e⟩:=x;exact⟨_,e⟩
 |frz ob u ih=>exact⟨_,x.1⟩
 |tbl ps=>exact⟨_,x⟩
 |ctb q=>obtain⟨_,e,_⟩:=x;exact⟨_,e⟩
 |met f y=>exact⟨_,x⟩
 |ext φ=>exact x.2.1
theorem HOk.none(x:HOk P w H h)(e:h.get? a=Option.none):H a=Option.none:=by
 cases q:H a with
 |none=>rfl
 |some o=>
  obtain⟨ob,z⟩:=(x a o q).there
  rw[e]at z;cases z
def Fly(h0:Heap)(H':Hp)(C a:Addr)(od:Option Addr)(h:Heap):Prop:=∃oe vs T oT ts a0,h.get? a=some oe/\oe.cls=.ref C/\vs[0]?=some a0/\oe.data=.fields vs/\vs[1]?=some (.ref T)/\T≠a/\h.get? T=some oT/\oT.data=.fields ts/\ts[3]?=some Value.none /\
 h0.get? a=none/\h0.get? T=none/\H' a=none/\H' T=none/\oe.dict=od/\∀dx,od=some dx->h0.get? dx=none
structure XOut(P:Program)(w:World)(outer:List Env)(H:Hp)(s:Shared)(C a:Addr)(od:Option Addr)(H':Hp)(s':Shared):Prop where
 os:s'.os=s.os
 bare:AllBare s'.gens
 un:Un (frs outer) [] H H' s.heap s'.heap
 hok:HOk P w H' s'.heap
 fly:Fly s.heap H' C a od s'.heap
noncomputable def CX1(P:Program)(w:World):CXT:=fun outer H s E e s'=>∃C a od H',e=.ref a/\XOut P w outer H s C a od H' s'/\E (.ref C) od H'
theorem Xb(e:(hideAll h l).get? b=none):b∈l\/h.get? b=none:=by
 by_cases hb:b∈l
 . exact .inl hb
 . cases q:h.get? b with
   |none=>exact .inr rfl
   |some o=>rw[hideAll_get l q hb]at e;cases e
section
variable {X:Cx}{pins:List (Addr×Obj)}{σ:List (Option V)}{H1 H2:Hp}{s1 s2:Shared}{h' B:Heap}{Z:List Addr}{C a:Addr}{a0:Value}{od:Option Addr}
theorem Inv.stack2(I:Inv X pins σ H1 s1)(un:Un (frs X.stack) [] H1 H2 s1.heap s2.heap):s2.heap.FunFrames X.base X.stack:=by
 have all:∀(l:List Env),(∀b∈frs l,b∈frs X.stack)->s1.heap.FunFrames X.base l->s2.heap.FunFrames X.base l:=by
  intro l;induction l with
  |nil=>intro _ _;trivial
  |cons env r ih=>
   intro hs hl
   obtain⟨hk,⟨L,o,hf,hn,ho,hd⟩,hr⟩:=hl
   have hL:L∈frs X.stack:=hs L (by unfold frs;rw[FL,hf];exact io)
   obtain⟨sl,e⟩:=un.slot L o ho (I.stkFree L hL) hL (by simp)
   exact⟨hk,⟨L,_,hf,hn,e,hd⟩,ih (fun b hb=>hs b (by unfold frs;rw[FL,hf];exact dg _ hb)) hr⟩
 exact all X.stack (fun _ hb=>hb) I.stack
theorem Yk(I:Inv X pins σ H1 s1)(bG:X.stack=X.env::X.outer)(hex:X.ex=[])(gr:s2.os=s1.os)(eM:AllBare s2.gens)(un:Un (frs X.stack) [] H1 H2 s1.heap s2.heap)(hok:HOk X.prog X.w H2 s2.heap)
  (hZ:∀b∈Z,s1.heap.get? b=none/\H2 b=none) (ha:s1.heap.get? a=none) (fe:H2 a=none) (keep:∀b o,s2.heap.get? b=some o->b∉Z->b∉frs X.stack->h'.get? b=some o)
  (up:s2.heap.UpToSlots h') (hB:∀b,B.get? b=none->b∈frs X.stack\/(s1.heap.get? b=none/\H2 b=none)) (cz:Heap.FlyingW B X.outer a (.ref C) a0 h') (ff:p8 a od h') (mf:∀dx,od=some dx->s1.heap.get? dx=none) :
  XOut X.prog X.w X.outer X.H₀ X.s₀ C a od H2 { s2 with heap:=h' }:=by
 have base:Un X.fs [] X.H₀ H1 X.s₀.heap s1.heap:=hex ▸ I.base
 have F2:=I.stack2 un
 have sub:∀b∈frs X.outer,b∈frs X.stack:=fun b hb=>by
  rw[bG];unfold frs;cases q:X.env.frame with
  |none=>rw[FL,q];exact hb
  |some L=>rw[FL,q];exact dg _ hb
 have ig:∀b o,X.s₀.heap.get? b=some o->b≠X.env.locals:=fun b o e=>CY (CV (Ξ e) I.ok.above)
 have lr:∀b o,X.s₀.heap.get? b=some o->b∉frs X.outer->b∉frs X.stack:=fun b o e hb z=>(gD.mp (I.stkSub b z)).elim (ig b o e) hb
 have cX:∀b,s1.heap.get? b=none->X.s₀.heap.get? b=none:=fun b e=>by
  cases q:X.s₀.heap.get? b with
  |none=>rfl
  |some o=>
   obtain⟨o',z⟩:=base.there b o q (by simp)
   rw[e]at z;cases z
 have oG:∀b o,X.s₀.heap.get? b=some o->b∉Z:=fun b o e hb=>by rw[cX b (hZ b hb).1]at e;cases e
 have hV:∀b∈frs X.stack,H2 b=none:=fun b hb=>by obtain⟨_,o,ho,_⟩:=I.stack.mem hb;exact un.free b o ho (I.stkFree b hb) (by simp)
 have eN:∀b∈frs X.stack,∀o,s2.heap.get? b=some o->∃sl,h'.get? b=some { o with slots:=sl }:=fun b hb o e=>by obtain⟨_,o',bi,hd⟩:=F2.mem hb;rw[e]at bi;cases bi;exact up b o e hd
 refine⟨by show s2.os=_;rw[gr,I.os],eM,⟨fun b o e n hb _=>?_,fun b o e n hb _=>?_,fun b o e n _=>?_,fun b o e _=>?_,fun b xs e=>un.tups b xs (base.tups b xs e),fun b o u e=>un.frzs b o u (base.frzs b o u e),fun b ps e=>?_⟩,fun b o e=>?_,?_⟩
 . exact keep b o (un.keep b o (base.keep b o e n hb (by simp)) (base.free b o e n (by simp)) (lr b o e hb) (by simp)) (oG b o e) (lr b o e hb)
 . obtain⟨sl,e1⟩:=base.slot b o e n hb (by simp);obtain⟨iB,e2⟩:=un.slot b _ e1 (base.free b o e n (by simp)) (sub b hb) (by simp);obtain⟨sO,e3⟩:=eN b (sub b hb) _ e2;exact⟨sO,e3⟩
 . obtain⟨o1,e1⟩:=base.there b o e (by simp);exact un.free b o1 e1 (base.free b o e n (by simp)) (by simp)
 . obtain⟨o1,e1⟩:=base.there b o e (by simp);obtain⟨o2,e2⟩:=un.there b o1 e1 (by simp);by_cases hb:b∈frs X.stack
   . obtain⟨sl,e3⟩:=eN b hb _ e2;exact⟨_,e3⟩
   . exact⟨o2,keep b o2 e2 (oG b o e) hb⟩
 . obtain⟨m1,e1⟩:=base.tbls b ps e;obtain⟨m2,e2⟩:=un.tbls b _ e1;exact⟨m1++m2,by rw[e2,Array.append_assoc]⟩
 . refine(hok b o e).stay (fun c v hc q=>keep c v q (fun hz=>?_) fun hf=>?_) (fun _ q=>q) fun _ _ q=>q
   . have:=(hZ c hz).2;rcases hc with rfl |hc
     . rw[e]at this;cases this
     . rw[hc]at this;cases this
   . have:=hV c hf;rcases hc with rfl |hc
     . rw[e]at this;cases this
     . rw[hc]at this;cases this
 . obtain⟨_,_,_,oe,vs,T,oT,ts,he,⟨hc,h0⟩,hd,h1,sP,gE,hT,cy,h3⟩:=cz;have oH:s1.heap.get? T=none/\H2 T=none:=by
    rcases hB T sP with z |z
    . obtain⟨_,o',bi,cZ⟩:=F2.mem z;obtain⟨sl,e3⟩:=eN T z o' bi;rw[hT]at e3;cases e3;exact absurd cy (cZ ts)
    . exact z
   exact⟨oe,vs,T,oT,ts,a0,he,hc,h0,hd,h1,gE,hT,cy,h3,cX a ha,cX T oH.1,fe,oH.2,ff _ he,fun dx e=>cX dx (mf dx e)⟩
theorem yD(I:Inv X pins σ H1 s1)(bG:X.stack=X.env::X.outer)(hex:X.ex=[])(hf:X.env.frame=some X.env.locals)(x:XOut X.prog X.w X.stack H1 s1 C a od H2 s2)
  (h:∀s',XOut X.prog X.w X.outer X.H₀ X.s₀ C a od H2 s'->Q () s'):wpAny (model X.prog X.w) X.A (leaving X.env (.ref a)) Q E s2:=by
 obtain⟨oe,vs,T,oT,ts,a0,he,hc,h0,hd,h1,gE,hT,cy,h3,na,nT,ha,oI,mh,mf⟩:=id x.fly
 have F2:=I.stack2 x.un
 have cw:∀env∈X.stack,∀b,env.frame=some b->b∈a::T::frs X.stack:=fun env he b hb=>dg _ (dg _ (GH.mpr ⟨env,he,hb⟩))
 have bV:X.A.frames=some (X.env::X.outer):=by rw[<-bG];exact I.ok.frames
 refine yE (od:=od) (base:=hideAll s2.heap (a::T::frs X.stack)) (cls:=.ref C) (a0:=a0) bV hf ⟨fun b o q=>PySem.W.of_hideAll _ q,hideAll_none _ (.head _),bG ▸ PySem.W.funFrames_hide F2 cw,?_⟩ (fun o ho=>by rw[he]at ho;cases ho;exact mh) fun h' cz up ff=>h _ (Yk (Z:=[a,T]) I bG hex x.os x.bare x.un x.hok (fun b hb=>?_) na ha (fun b o q hz gm=>cz.1 b o (hideAll_get _ q ?_)) up (fun b q=>?_) cz ff mf)
 . exact⟨oe,vs,T,oT,ts,he,⟨hc,h0⟩,hd,h1,hideAll_none _ (.tail _ (.head _)),gE,hT,cy,h3⟩
 . rcases gD.mp hb with rfl |hb
   . exact⟨na,ha⟩
   . have:b=T:=by simpa using hb
     subst this;exact⟨nT,oI⟩
 . intro z;rcases gD.mp z with rfl |z
   . exact hz (.head _)
   . rcases gD.mp z with rfl |z
     . exact hz (.tail _ (.head _))
     . exact gm z
 . rcases Xb q with z |z
   . rcases gD.mp z with rfl |z
     . exact .inr ⟨na,ha⟩
     . rcases gD.mp z with rfl |z
       . exact .inr ⟨nT,oI⟩
       . exact .inl z
   . refine .inr ⟨?_,x.hok.none z⟩;cases q1:s1.heap.get? b with
     |none=>rfl
     |some o=>
      obtain⟨o',e'⟩:=x.un.there b o q1 (by simp)
      rw[z]at e';cases e'
structure MadeX(h h':Heap)(e C:Addr)(od:Option Addr):Prop where
 new:h.get? e=none
 newd:∀dx,od=some dx->h.get? dx=none
 there:∃oe vs a0,h'.get? e=some oe/\oe.cls=.ref C/\oe.dict=od/\oe.data=.fields vs/\vs[0]?=some a0/\vs[1]?=some .none
theorem zh7(I:Inv X pins σ H1 s1)(bG:X.stack=X.env::X.outer)(hex:X.ex=[])(hf:X.env.frame=some X.env.locals)(hx:MadeX s1.heap s2.heap a C od)(hok:HOk X.prog X.w H2 s2.heap)(un:Un (frs X.stack) [] H1 H2 s1.heap s2.heap)(fe:H2 a=none)(gr:s2.os=s1.os)(eM:AllBare s2.gens)
  (h:∀s',XOut X.prog X.w X.outer X.H₀ X.s₀ C a od H2 s'->Q () s'):wpAny (model X.prog X.w) X.A (leaving X.env (.ref a)) Q E s2:=by
 have cw:∀env∈X.stack,∀b,env.frame=some b->b∈a::frs X.stack:=fun env he b hb=>dg _ (GH.mpr ⟨env,he,hb⟩)
 have bV:X.A.frames=some (X.env::X.outer):=by rw[<-bG];exact I.ok.frames
 have F2:=I.stack2 un
 obtain⟨oe,vs,a0,he,hc,mh,hd,h0,h1⟩:=hx.there
 refine xw (od:=od) (base:=hideAll s2.heap (a::frs X.stack)) bV (bG ▸ PySem.W.funFrames_hide F2 cw) hf he (fun b o q=>PySem.W.of_hideAll _ q) (hideAll_none _ (.head _)) hd h1 h0 (fun o ho=>by rw[he]at ho;cases ho;exact mh) fun h' cz up ff=>h _ ?_
 rw[hc]at cz
 refine Yk (B:=hideAll s2.heap (a::frs X.stack)) (Z:=[a]) I bG hex gr eM un hok (fun b hb=>?_) hx.new fe (fun b o q hz gm=>cz.1 b o (hideAll_get _ q ?_)) up (fun b q=>?_) cz ff hx.newd
 . obtain rfl:b=a:=by simpa using hb
   exact⟨hx.new,fe⟩
 . intro z;rcases gD.mp z with rfl |z
   . exact hz (.head _)
   . exact gm z
 . rcases Xb q with z |z
   . rcases gD.mp z with rfl |z
     . exact .inr ⟨hx.new,fe⟩
     . exact .inl z
   . refine .inr ⟨?_,hok.none z⟩;cases q1:s1.heap.get? b with
     |none=>rfl
     |some o=>
      obtain⟨o',e'⟩:=un.there b o q1 (by simp)
      rw[z]at e';cases e'
end
noncomputable def eOf(K:Frag)(EX:XW)(mg:Str->Option Value):XK:=fun cv od H=>∃x:Ex,EX.p x H/\mg (x.cls:Str)=some cv/\XFs K x od H
structure Lnd(X:Cx)(EX:XW):Prop where
 nm:∀x H,EX.p x H->∃C,X.mg (x.cls:Str)=some (.ref C)
 on:Es (CX1 X.prog X.w) X (eOf X.K EX X.mg)
 md:∀(pins:List (Addr×Obj))(σ:St)(H H2:Hp)(s:Shared)(a C:Addr)(od:Option Addr)(s':Shared)(x:Ex),Inv X pins σ H s->MadeX s.heap s'.heap a C od->HOk X.prog X.w H2 s'.heap->Un (frs X.stack) [] H H2 s.heap s'.heap->H2 a=none->s'.os=s.os->AllBare s'.gens->X.mg (x.cls:Str)=some (.ref C)->EX.p x H2->XFs X.K x od H2->X.xe (.ref a) s'
theorem Co:Lnd X F0:=⟨fun _ _ z=>z.elim,fun _ _ _ _ _ _ _ ⟨_,_,_,_,_,_,_,z,_⟩=>z.elim,fun _ _ _ _ _ _ _ _ _ _ _ _ _ _ _ _ _ _ z _=>z.elim⟩
theorem e8{P:Program}{w:World}{K:Frag}{mg:Str->Option Value}{base:Heap}{N:List Str}{qual:Str}{sc:Scope}{f:Addr}{cdv:Value}{A:Around}{outer:List Env}{s:Shared}{H:Hp}{E:XK} :
  Lnd (G4 (CX1 P w) P w K mg base N qual sc f cdv A outer s H E) ⟨H,xNm K mg E⟩:=by
 refine⟨fun x H ⟨C,hC,_⟩=>⟨C,hC⟩,?_,?_⟩
 . rintro pins σ H1 s1 e s' I ⟨C,a,od,H',rfl,xo,x,⟨C',mi,hE⟩,cq,hx⟩;have cq:mg (x.cls:Str)=some (.ref C):=cq;rw[mi]at cq;cases cq;exact yD I rfl rfl rfl xo fun eR y=>⟨_,a,od,H',rfl,y,hE od hx⟩
 . rintro pins σ H1 H2 s1 a C od s' x I hx hok un fe ho hb cq ⟨C',mi,hE⟩ hf;have cq:mg (x.cls:Str)=some (.ref C):=cq;rw[mi]at cq;cases cq;exact zh7 I rfl rfl rfl hx hok un fe ho hb fun eR y=>⟨_,a,od,H2,rfl,y,hE od hf⟩
def g8(P:Program)(w:World)(K:Frag)(mg:Str->Option Value)(base:Heap)(x:Str)(ps:List Str)(k:Nat)(sp:Sp):Prop:=
 ∃f fd,FnOk P w K mg base (CX1 P w) k f fd ps sp/\Binds K fd ps []/\mg x=some (.ref f)/\keepIn K (.ref f)=true
section
variable {X:Cx}{x:Str}{p pos:Pos}{e:Expr}{es:List Expr}{t:TA}{ps:List Str}{k j:Nat}{sp:Sp}{E:XK}
theorem Up(G:g8 X.prog X.w X.K X.mg X.base x ps k sp)(hx:Es (CX1 X.prog X.w) X E)(hr:Room j X.A)(hg:Gl X x)(ha:PA X (e::es) t)(gF:k<=j:=by omega)(bH:(x==("__debug__":Str))=false:=by decide)
  (he:starEach (e::es) X.env=(false,eval e X.env)::starEach es X.env:=by rfl) (hpl:(backTo pos (starEach es X.env)).any (·.1)=false:=by rfl):PE X (.Call (.Name x p) (e::es) [] pos) (Ek sp E t):=by
 obtain⟨f,fd,F,b,m,kp⟩:=G
 refine(xT F (hr.mono gF) hg m kp b .nil hx ha bH he hpl).imp fun σ H Q q=>?_
 unfold Qe
 unfold Ek at q
 simpa only [ED] using q
end
theorem Fun.okX{P:Program}{w:World}{K:Frag}{mg:Str->Option Value}{base:Heap}{x qual:Str}{st:Stmt}{f:Addr}{fd:FuncData}{N ps:List Str}{k:Nat}{sp:Sp}{CX:CXT}(F:Fun K x qual st f fd)(S:FnScope N ps (d7 st))(len:∀vs H Q E,sp vs H Q E->vs.length=ps.length)
  (ck:∀(cdv:Value)(A:Around)(outer:List Env)(s:Shared)(H:Hp)(vs:List V)(Q:VK)(E:XK),Room k (A.deeper (envOfC qual (d7 st) s.heap.objs.size f cdv))->sp vs H Q E ->
   ∃t,PSs (G4 CX P w K mg base N qual (d7 st) f cdv A outer s H E) (D7 st) t/\t { nx:=fun _ H'=>Q .non H',rt:=Q } (start N vs) H):FnOk P w K mg base CX (k+1) f fd ps sp:=by
 obtain⟨oc,od,kV,doc,pm,an,cdv,ct,osl,rfl,lk,bU⟩:=F.ex
 refine kX lk bU S len fun A outer s H vs Q E hr dM=>?_
 exact ck cdv A outer s H vs Q E hr dM
section
variable {K:Frag}{H:Hp}{v:V}
theorem RD.int(h:RD K H (.int i) v):v=.int i:=by simpa only [RD] using h
theorem RD.str(h:RD K H (.str i) v):v=.str i:=by simpa only [RD] using h
theorem RD.non(h:RD K H .non v):v=.non:=by simpa only [RD] using h
theorem RD.tup(h:RD K H (.tup ds) v):∃a xs,v=.ref a/\H a=some (.tup xs)/\RDs K H ds xs:=by simpa only [RD] using h
theorem RD.lst(h:RD K H (.lst ds) v):∃a xs,v=.ref a/\H a=some (.lst xs)/\RDs K H ds xs:=by simpa only [RD] using h
theorem RD.dk(h:RD K H (.dk ks ds) v):∃a xs,v=.ref a/\H a=some (.dK (ks.zip xs))/\ks.length=xs.length/\RDs K H ds xs:=by simpa only [RD] using h
theorem RD.dt(h:RD K H (.dt ks ds) v):∃a xs,v=.ref a/\H a=some (.dT (ks.zip xs))/\ks.length=xs.length/\RDs K H ds xs:=by simpa only [RD] using h
theorem RD.scr(h:RD K H (.scr ns) v):∃a,v=.ref a/\SqL K H a (ns.map V.int):=by
 simp only[RD]at h;obtain⟨a,e,h |h⟩:=h
 . exact⟨a,e,.inl (.inr h)⟩
 . exact⟨a,e,.inr h⟩
theorem RD.mkInt(i:Int):RD K H (.int i) (.int i):=by simp only[RD]
theorem RD.mkBl(i:Bool):RD K H (.bl i) (.bl i):=by simp only[RD]
theorem RD.mkNon:RD K H .non .non:=by simp only[RD]
theorem RD.mkStr(i:Str):RD K H (.str i) (.str i):=by simp only[RD]
theorem RD.mkTup(h:H a=some (.tup xs))(r:RDs K H ds xs):RD K H (.tup ds) (.ref a):=by simp only[RD];exact⟨a,xs,rfl,h,r⟩
end
noncomputable def dI(g:Int->Int->D):D->D->Option D
 | .int i,.int j=>some (g i j)
 |_,_=>none
noncomputable def dIC(C:Int->Int->Prop)[∀i j,Decidable (C i j)](g:Int->Int->D):D->D->Option D
 | .int i,.int j=>if C i j then some (g i j) else none
 |_,_=>none
noncomputable def dOr(o p:D->D->Option D):D->D->Option D:=fun d e=>match o d e with
 |some z=>some z
 |none=>p d e
section
variable {K:Frag}
theorem OpD.weak(h:OpD K fr o r):OpD K false o r:=fun H0 H x y d e z Q s rx ry ho k=>h H0 H x y d e z Q s rx ry ho fun v H' q=>k v H' q.weak
theorem OpD.or(h1:OpD K f1 o r)(h2:OpD K f2 p q):OpD K false (dOr o p) (fun x y H Q=>r x y H Q\/q x y H Q):=by
 intro H0 H x y d e z Q s rx ry ho k;unfold dOr at ho;split at ho
 . rename_i z' hz;cases ho;exact .inl (h1.weak H0 H x y d e z Q s rx ry hz k)
 . exact .inr (h2.weak H0 H x y d e z Q s rx ry ho k)
theorem R6(h:∀i j H,RD K H (gd i j) (gv i j)):OpD K false (dI gd) (cI gv):=by
 intro H0 H x y d e z Q s rx ry ho k;cases d<;>simp only[dI]at ho<;>first |cases ho |skip
 cases e<;>simp only[dI]at ho<;>first |cases ho |skip
 cases rx.int;cases ry.int;exact k _ H (.pure s (h _ _ _))
theorem Hm[∀i j,Decidable (C i j)](h:∀i j H,RD K H (gd i j) (gv i j)):OpD K false (dIC C gd) (cIC C gv):=by
 intro H0 H x y d e z Q s rx ry ho k;cases d<;>simp only[dIC]at ho<;>first |cases ho |skip
 cases e<;>simp only[dIC]at ho<;>first |cases ho |skip
 cases rx.int;cases ry.int;split at ho
 . rename_i ef;cases ho;exact⟨ef,k _ H (.pure s (h _ _ _))⟩
 . cases ho
instance (i j:Int):Decidable (CMul i j):=by unfold CMul;infer_instance
instance (i j:Int):Decidable (O6 i j):=by unfold O6;infer_instance
def F3:D->D->Option D:=dI fun i j=>.int (i+j)
def S8:D->D->Option D:=dI fun i j=>.int (i - j)
def Cn:D->D->Option D:=dIC CMul fun i j=>.int (i * j)
def O4:D->D->Option D:=dIC O6 fun i j=>.int (i / j)
def v7:D->D->Option D:=dIC (fun _ j=>0<j) fun i j=>.int (i % j)
def S7:D->D->Option D:=dI fun i j=>.bl (decide (i<j))
def dLe:D->D->Option D:=dI fun i j=>.bl (decide (i<=j))
def Z1:D->D->Option D:=dI fun i j=>.bl (decide (j<i))
def dGe:D->D->Option D:=dI fun i j=>.bl (decide (j<=i))
theorem J8:OpD K false F3 (cI fun i j=>.int (i+j)):=R6 fun _ _ _=>.mkInt _
theorem Ao:OpD K false S8 (cI fun i j=>.int (i - j)):=R6 fun _ _ _=>.mkInt _
theorem vy:OpD K false Cn (cIC CMul fun i j=>.int (i * j)):=Hm fun _ _ _=>.mkInt _
theorem Ej:OpD K false O4 (cIC O6 fun i j=>.int (i / j)):=Hm fun _ _ _=>.mkInt _
theorem C4:OpD K false v7 (cIC (fun _ j=>0<j) fun i j=>.int (i % j)):=Hm fun _ _ _=>.mkInt _
theorem An:OpD K false S7 (cI fun i j=>.bl (decide (i<j))):=R6 fun _ _ _=>.mkBl _
theorem Z7:OpD K false dLe (cI fun i j=>.bl (decide (i<=j))):=R6 fun _ _ _=>.mkBl _
theorem Ei:OpD K false Z1 (cI fun i j=>.bl (decide (j<i))):=R6 fun _ _ _=>.mkBl _
theorem kB:OpD K false dGe (cI fun i j=>.bl (decide (j<=i))):=R6 fun _ _ _=>.mkBl _
noncomputable def S6:D->Option D
 | .int i=>some (.int (-i))
 |_=>none
theorem Eh:UnD K false S6 (cU fun i=>.int (-i)):=by
 intro H0 H x d z Q s rx ho k;cases d<;>simp only[S6]at ho<;>first |cases ho |skip
 cases rx.int;exact k _ H (.pure s (.mkInt _))
noncomputable def v6:D->D->Option D
 | .lst ds,.lst es=>if ds.length+es.length<=100000 then some (.lst (ds++es)) else none
 |_,_=>none
theorem R5(h:n<=100000):n<=sizeLine:=CL h (by decide)
theorem Eg:OpD K true v6 jT:=by
 intro H0 H x y d e z Q s rx ry ho k;cases d<;>simp only[v6]at ho<;>first |cases ho |skip
 cases e<;>simp only[v6]at ho<;>first |cases ho |skip
 split at ho<;>cases ho;rename_i hl;obtain⟨a,xs,rfl,ha,ra⟩:=rx.lst;obtain⟨b,ys,rfl,hb,rb⟩:=ry.lst;refine⟨a,b,xs,ys,rfl,rfl,s _ _ ha,s _ _ hb,by rw[<-ra.length,<-rb.length];exact R5 hl,fun p hp=>k _ _ (.new s hp fun H' hH=>?_)⟩;simp only[OB];exact⟨_,hH,ra.append rb⟩
end
def dEq:D->D->Option D:=fun d e=>if d.pl=true/\e.pl=true/\d.dep<=20 then some (.bl (eqD d e)) else none
def dNe:D->D->Option D:=fun d e=>if d.pl=true/\e.pl=true/\d.dep<=20 then some (.bl (!eqD d e)) else none
def jI(K:Frag):R2:=fun x y H Q=>∃d e,RD K H d x/\RD K H e y/\d.pl=true/\e.pl=true/\d.dep<=20/\Q (.bl (eqD d e)) H
def jH(K:Frag):R2:=fun x y H Q=>∃d e,RD K H d x/\RD K H e y/\d.pl=true/\e.pl=true/\d.dep<=20/\Q (.bl (!eqD d e)) H
def L6(neg:Bool):D->D->Option D:=fun d c=>match c with
 | .lst es=>if d.pl=true/\pls es=true/\h7 es<=20 then some (.bl (if neg then !(es.any fun e=>eqD e d) else es.any fun e=>eqD e d)) else none
 | .tup es=>if d.pl=true/\pls es=true/\h7 es<=20 then some (.bl (if neg then !(es.any fun e=>eqD e d) else es.any fun e=>eqD e d)) else none
 |_=>none
def Cm(K:Frag)(neg:Bool):R2:=fun x y H Q=>∃p xs d es,y=.ref p/\(H p=some (.lst xs)\/H p=some (.tup xs))/\RD K H d x/\RDs K H es xs/\d.pl=true/\pls es=true/\h7 es<=20/\Q (.bl (if neg then !(es.any fun e=>eqD e d) else es.any fun e=>eqD e d)) H
section
variable {X:Cx}{K:Frag}
theorem E8(hu:X.A.units+64<cLine):OpR X (compareOp .Eq) (jI X.K):=by intro pins s σ H x y v u Q I rx ry h;obtain⟨d,e,h1,h2,p1,p2,h3,q⟩:=h;exact(Se (n:=20) I p1 p2 h3 (by lia) h1 h2 rx ry).1 X.prog X.w X.xe _ ⟨.bl _,H,I,rfl,q⟩
theorem kA(hu:X.A.units+64<cLine):OpR X (compareOp .NotEq) (jH X.K):=by intro pins s σ H x y v u Q I rx ry h;obtain⟨d,e,h1,h2,p1,p2,h3,q⟩:=h;exact(Se (n:=20) I p1 p2 h3 (by lia) h1 h2 rx ry).2 X.prog X.w X.xe _ ⟨.bl _,H,I,rfl,q⟩
theorem E7:OpD K false dEq (jI K):=by intro H0 H x y d e z Q s rx ry ho k;unfold dEq at ho;split at ho<;>cases ho;rename_i h;exact⟨d,e,rx.mono s,ry.mono s,h.1,h.2.1,h.2.2,k _ H (.pure s (.mkBl _))⟩
theorem kz:OpD K false dNe (jH K):=by intro H0 H x y d e z Q s rx ry ho k;unfold dNe at ho;split at ho<;>cases ho;rename_i h;exact⟨d,e,rx.mono s,ry.mono s,h.1,h.2.1,h.2.2,k _ H (.pure s (.mkBl _))⟩
theorem kr(hu:X.A.units+64<cLine):OpR X (compareOp .In) (Cm X.K false):=by
 intro pins s σ H x y v u Q I rx ry h;obtain⟨p,xs,d,es,rfl,hp,hx,dE,pd,pe,hd,q⟩:=h;cases ry;rcases hp with hq |hq
 . obtain⟨its,rv,pl,_⟩:=I.list (.of hq);refine SeqAt.in_listAt (hitD X.K H d) pl.isList (fun y hy=>Az (A:=X.A) I (by lia) pd hx rx pe dE rv hd y (by simpa using hy)) ⟨.bl _,H,I,rfl,?_⟩;rw[show its.toArray.any (hitD X.K H d)=its.any (hitD X.K H d) by simp,Bk pe dE rv];simpa using q
 . obtain⟨its,rv,pl,_⟩:=I.tuple (.of hq);refine SeqAt.in_tupleAt (hitD X.K H d) pl (fun y hy=>Az (A:=X.A) I (by lia) pd hx rx pe dE rv hd y (by simpa using hy)) ⟨.bl _,H,I,rfl,?_⟩;rw[show its.toArray.any (hitD X.K H d)=its.any (hitD X.K H d) by simp,Bk pe dE rv];simpa using q
theorem yC(hu:X.A.units+64<cLine):OpR X (compareOp .NotIn) (Cm X.K true):=by
 intro pins s σ H x y v u Q I rx ry h;obtain⟨p,xs,d,es,rfl,hp,hx,dE,pd,pe,hd,q⟩:=h;cases ry;rcases hp with hq |hq
 . obtain⟨its,rv,pl,_⟩:=I.list (.of hq);refine SeqAt.notIn_listAt (hitD X.K H d) pl.isList (fun y hy=>Az (A:=X.A) I (by lia) pd hx rx pe dE rv hd y (by simpa using hy)) ⟨.bl _,H,I,rfl,?_⟩;rw[show its.toArray.any (hitD X.K H d)=its.any (hitD X.K H d) by simp,Bk pe dE rv];simpa using q
 . obtain⟨its,rv,pl,_⟩:=I.tuple (.of hq);refine SeqAt.notIn_tupleAt (hitD X.K H d) pl (fun y hy=>Az (A:=X.A) I (by lia) pd hx rx pe dE rv hd y (by simpa using hy)) ⟨.bl _,H,I,rfl,?_⟩;rw[show its.toArray.any (hitD X.K H d)=its.any (hitD X.K H d) by simp,Bk pe dE rv];simpa using q
theorem od_inS:OpD K false (L6 neg) (Cm K neg):=by
 intro H0 H x y d e z Q s rx ry ho k;unfold L6 at ho;cases e<;>dsimp only at ho<;>first |cases ho |skip
 . split at ho<;>cases ho;rename_i es h;obtain⟨a,xs,rfl,ha,ra⟩:=ry.tup;exact⟨a,xs,d,es,rfl,.inr (s _ _ ha),rx.mono s,ra.mono s,h.1,h.2.1,h.2.2,k _ H (.pure s (.mkBl _))⟩
 . split at ho<;>cases ho;rename_i es h;obtain⟨a,xs,rfl,ha,ra⟩:=ry.lst;exact⟨a,xs,d,es,rfl,.inl (s _ _ ha),rx.mono s,ra.mono s,h.1,h.2.1,h.2.2,k _ H (.pure s (.mkBl _))⟩
end
noncomputable def G1:D->Option Key
 | .int i=>some (.inl i)
 | .str x=>some (.inr x)
 |_=>none
def N0:List D->Option (List Key)
 | []=>some []
 |d::ds=>match G1 d,N0 ds with
  |some k,some ks=>some (k::ks)
  |_,_=>none
theorem Kl{K:Frag}{H:Hp}{d:D}{k:Key}{v:V}(h:G1 d=some k)(r:RD K H d v):v=kV k:=by
 cases d<;>simp only[G1]at h<;>first |cases h |skip
 . cases r.int;rfl
 . cases r.str;rfl
theorem Lj{K:Frag}{H:Hp}:∀{ds:List D}{ks:List Key}{xs:List V},N0 ds=some ks->RDs K H ds xs->xs=ks.map kV
 | [],ks,xs,h,r=>by simp only[N0]at h;cases h;simp only[RDs]at r;subst r;rfl
 |d::ds,ks,xs,h,r=>by simp only[RDs]at r;obtain⟨x,xs,rfl,r1,r2⟩:=r;simp only[N0]at h;split at h<;>cases h;rename_i k ks h1 h2;rw[Kl h1 r1,Lj h2 r2];rfl
def ROp(K:Frag)(H:Hp):Option D->Option V->Prop
 |some z,w=>∃v,w=some v/\RD K H z v
 |none,w=>w=none
section
variable {κ:Type}[DecidableEq κ]
noncomputable def lookD(ks:List κ)(ds:List D)(k:κ):Option D:=((ks.zip ds).find? fun kv=>decide (kv.1=k)).map (·.2)
theorem Kk{K:Frag}{H:Hp}(k:κ):∀{ks:List κ}{ds:List D}{xs:List V},ks.length=xs.length->RDs K H ds xs->ROp K H (lookD ks ds k) (v8 (ks.zip xs) k)
 | [],ds,xs,_,_=>by simp[lookD,v8,ROp]
 |k'::ks,[],xs,h,r=>by simp only[RDs]at r;subst r;simp at h
 |k'::ks,d::ds,xs,h,r=>by
  simp only[RDs]at r;obtain⟨x,xs,rfl,r1,r2⟩:=r;have ih:=Kk k (by simpa using h) r2 (ks:=ks);simp only[lookD,v8,CW,GK]at ih⊢;by_cases e:k'=k
  . simp only[e,HN];exact⟨x,rfl,r1⟩
  . simp only[e,HQ];exact ih
noncomputable def D5(ks:List κ)(k:κ):List κ:=if k∈ks then ks else ks++[k]
noncomputable def m7{β:Type}(ks:List κ)(ds:List β)(k:κ)(d:β):List β:=if k∈ks then List.zipWith (fun k' d'=>if k'=k then d else d') ks ds else ds++[d]
theorem Vz(k:κ)(v:V)(hl:ks.length=xs.length):x5 (ks.zip xs) k v=(D5 ks k).zip (m7 ks xs k v)/\(D5 ks k).length=(m7 ks xs k v).length:=by
 have any:∀(ks:List κ)(xs:List V),ks.length=xs.length->((ks.zip xs).any fun kv=>decide (kv.1=k))=decide (k∈ks):=by
  intro ks;induction ks with
  |nil=>intro xs _;simp
  |cons k' ks ih=>
   intro xs h
   cases xs with
   |nil=>simp at h
   |cons x xs=>
    simp only[CW,HG]
    rw[ih xs (by simpa using h)]
    by_cases e:k'=k
    . simp[e]
    . by_cases m:k∈ks<;>simp[e,m,GF e]
 have mp:∀(ks:List κ)(xs:List V),ks.length=xs.length->(ks.zip xs).map (fun kv=>if kv.1=k then(kv.1,v) else kv)=ks.zip (List.zipWith (fun k' d'=>if k'=k then v else d') ks xs):=by
  intro ks;induction ks with
  |nil=>intro xs _;simp
  |cons k' ks ih=>
   intro xs h
   cases xs with
   |nil=>simp at h
   |cons x xs=>
    simp only[CW,gq,HV]
    rw[ih xs (by simpa using h)]
    by_cases e:k'=k<;>simp[e]
 unfold x5 D5 m7;rw[any ks xs hl];by_cases m:k∈ks
 . rw[ζ (by simpa using m),ζ m,ζ m];exact⟨mp ks xs hl,by simp[hl]⟩
 . rw[ξ (by simpa using m),ξ m,ξ m];exact⟨by rw[List.zip_append hl];rfl,by simp[hl]⟩
theorem Kj{K:Frag}{H:Hp}(k:κ){d:D}{v:V}(rv:RD K H d v){ks:List κ}{ds:List D}{xs:List V}(r:RDs K H ds xs):RDs K H (m7 ks ds k d) (m7 ks xs k v):=by
 have zw:∀(ks:List κ)(ds:List D)(xs:List V),RDs K H ds xs->RDs K H (List.zipWith (fun k' d'=>if k'=k then d else d') ks ds) (List.zipWith (fun k' d'=>if k'=k then v else d') ks xs):=by
  intro ks;induction ks with
  |nil=>intro ds xs _;simp[RDs]
  |cons k' ks ih=>
   intro ds xs r
   cases ds with
   |nil=>simp only[RDs]at r;subst r;simp[RDs]
   |cons d' ds=>
    simp only[RDs]at r
    obtain⟨x,xs,rfl,r1,r2⟩:=r
    simp only[HV]
    refine .cons ?_ (ih ds xs r2)
    by_cases e:k'=k
    . rw[ζ e,ζ e];exact rv
    . rw[ξ e,ξ e];exact r1
 unfold m7;by_cases m:k∈ks
 . rw[ζ m,ζ m];exact zw ks ds xs r
 . rw[ξ m,ξ m];exact r.append (.one rv)
end
def M9:D->D->Option (Option D)
 | .dk ks ds,k=>(G1 k).map fun k=>lookD ks ds k
 | .dt ks ds,.tup es=>(N0 es).map fun k=>lookD ks ds k
 |_,_=>none
theorem Uo{K:Frag}{H:Hp}{d k:D}{x y:V}{o:Option D}(h:M9 d k=some o)(rx:RD K H d x)(ry:RD K H k y) :
  ∃a w,x=.ref a/\DGet H a y w/\ROp K H o w:=by
 cases d<;>simp only[M9]at h<;>first |cases h |skip
 . rename_i ks ds;obtain⟨a,xs,rfl,ha,hl,rs⟩:=rx.dk;cases hk:G1 k with
   |none=>rw[hk]at h;cases h
   |some k'=>
    rw[hk]at h
    have h:lookD ks ds k'=o:=by simpa using h
    subst h
    cases Kl hk ry
    exact⟨a,_,rfl,DGet.k ha,Kk k' hl rs⟩
 . rename_i ks ds;cases k<;>simp only[M9]at h<;>first |cases h |skip
   rename_i es;obtain⟨a,xs,rfl,ha,hl,rs⟩:=rx.dt;obtain⟨b,ys,rfl,hb,rb⟩:=ry.tup;cases hk:N0 es with
   |none=>rw[hk]at h;cases h
   |some k'=>
    rw[hk]at h
    have h:lookD ks ds k'=o:=by simpa using h
    subst h
    have e:=Lj hk rb
    subst e
    exact⟨a,_,rfl,DGet.t ha hb,Kk k' hl rs⟩
def Gs(neg:Bool):D->D->Option D:=fun k d=>(M9 d k).map fun o=>.bl (if neg then !o.isSome else o.isSome)
noncomputable def Ck(neg:Bool):R2:=fun y x H Q=>∃a w,x=.ref a/\DGet H a y w/\Q (.bl (if neg then !w.isSome else w.isSome)) H
def Cj:D->D->Option D:=fun d k=>(M9 d k).bind id
noncomputable def Gr:R2:=fun x y H Q=>∃a w,x=.ref a/\DGet H a y (some w)/\Q w H
def x4:D->D->Option D
 | .lst ds,.int i=>atI ds i
 | .tup ds,.int i=>atI ds i
 | .scr ns,.int i=>(atI ns i).map D.int
 | .str z,.int i=>if z.length<=100000 then(atI z.cps.toList i).map fun c=>D.str ⟨#[c]⟩ else none
 |_,_=>none
theorem RDs.atI{K:Frag}{H:Hp}{ds:List D}{xs:List V}{i:Int}{d:D}(r:RDs K H ds xs)(h:L2.atI ds i=some d):∃v,L2.atI xs i=some v/\RD K H d v:=by
 unfold L2.atI at h⊢;rw[<-r.length];cases q:ixN ds.length i with
 |none=>rw[q]at h;cases h
 |some j=>
  rw[q]at h
  exact r.get' h
theorem xv(f:α->β)(xs:List α)(i:Int):atI (xs.map f) i=(atI xs i).map f:=by
 unfold atI;rw[bI];cases ixN xs.length i with
 |none=>rfl
 |some j=>simp
section
variable {X:Cx}{K:Frag}
theorem ko(hu:X.A.units+64<cLine):OpR X (compareOp .In) (Ck false):=by intro pins s σ H x y v u Q I rx ry h;obtain⟨a,w,rfl,g,q⟩:=h;cases ry;exact y34 (by omega) I g rx fun s' I'=>⟨.bl w.isSome,H,I',rfl,by simpa using q⟩
theorem yB(hu:X.A.units+64<cLine):OpR X (compareOp .NotIn) (Ck true):=by intro pins s σ H x y v u Q I rx ry h;obtain⟨a,w,rfl,g,q⟩:=h;cases ry;exact xQ (by omega) I g rx fun s' I'=>⟨.bl (!w.isSome),H,I',rfl,by simpa using q⟩
theorem vx:OpD K false (Gs neg) (Ck neg):=by
 intro H0 H x y d e z Q s rx ry ho k;unfold Gs at ho;cases bi:M9 e d with
 |none=>rw[bi]at ho;cases ho
 |some o=>
  rw[bi]at ho;cases ho
  obtain⟨a,w,rfl,g,m⟩:=Uo bi (ry.mono s) (rx.mono s)
  refine⟨a,w,rfl,g,k _ H ?_⟩
  have e:w.isSome=o.isSome:=by
   cases o with
   |none=>rw[show w=none from m];rfl
   |some z=>obtain⟨v,e,_⟩:=m;rw[e];rfl
  rw[e]
  exact .pure s (.mkBl _)
def dIn(neg:Bool):D->D->Option D:=dOr (L6 neg) (Gs neg)
def Gq(K:Frag)(neg:Bool):R2:=fun x y H Q=>Cm K neg x y H Q\/Ck neg x y H Q
theorem P5(hu:X.A.units+64<cLine):OpR X (compareOp .In) (Gq X.K false):=(kr hu).or (ko hu)
theorem Vy(hu:X.A.units+64<cLine):OpR X (compareOp .NotIn) (Gq X.K true):=(yC hu).or (yB hu)
theorem J0:OpD K false (dIn neg) (Gq K neg):=od_inS.or vx
theorem xu(hu:X.A.units+64<cLine):IxR X Gr:=by intro value slice pins s σ H x y v u Q I rx ry h hs;obtain⟨a,w,rfl,g,q⟩:=h;cases rx;exact tail_any (ops:=[.ref a,u]) (zdv I g) PySem.F.slot_dict_getitem.lookup (zC (by lia) I g ry fun w' s3 I3 ce=>⟨w,H,I3,ce,q⟩) hs
theorem vw:OpD K false Cj Gr:=by
 intro H0 H x y d e z Q s rx ry ho k;unfold Cj at ho;cases bi:M9 d e with
 |none=>rw[bi]at ho;cases ho
 |some o=>
  rw[bi]at ho
  have ho:o=some z:=ho
  subst ho
  obtain⟨a,w,e0,g,m⟩:=Uo bi rx ry
  obtain⟨v,rfl,rv⟩:=m
  subst e0
  refine⟨a,v,rfl,?_,k _ H (.pure s rv)⟩
  rcases g with⟨kvs,kk,e1,e2,e3⟩ |⟨kvs,kk,b,e1,e2,e3,e4⟩
  . refine .inl ⟨kvs,kk,?_,e2,e3⟩;rcases e1 with e1 |⟨o,e1⟩
    . exact .inl (s _ _ e1)
    . exact .inr ⟨o,s _ _ e1⟩
  . refine .inr ⟨kvs,kk,b,?_,e2,s _ _ e3,e4⟩;rcases e1 with e1 |⟨o,e1⟩
    . exact .inl (s _ _ e1)
    . exact .inr ⟨o,s _ _ e1⟩
theorem od_ixS:OpD K false x4 (rIx K):=by
 intro H0 H x y d e z Q s rx ry ho k;cases d<;>simp only[x4]at ho<;>first |cases ho |skip
 . -- a AO
   cases e<;>simp only[x4]at ho<;>first |cases ho |skip
   cases rx.str;cases ry.int;split at ho
   . rename_i z' i hl;cases hc:atI z'.cps.toList i with
     |none=>rw[hc]at ho;cases ho
     |some c=>
      rw[hc]at ho;cases ho
      exact .inr (.inr ⟨z',i,c,rfl,rfl,R5 hl,hc,k _ H (.pure s (.mkStr _))⟩)
   . cases ho
 . cases e<;>simp only[x4]at ho<;>first |cases ho |skip
   obtain⟨a,xs,rfl,ha,ra⟩:=rx.tup;cases ry.int;obtain⟨v,hv,rv⟩:=ra.atI ho;exact .inr (.inl ⟨a,xs,_,v,rfl,rfl,.of (s _ _ ha),hv,k _ H (.pure s rv)⟩)
 . cases e<;>simp only[x4]at ho<;>first |cases ho |skip
   obtain⟨a,xs,rfl,ha,ra⟩:=rx.lst;cases ry.int;obtain⟨v,hv,rv⟩:=ra.atI ho;exact .inl ⟨a,xs,_,v,rfl,rfl,.of (s _ _ ha),hv,k _ H (.pure s rv)⟩
 . cases e<;>simp only[x4]at ho<;>first |cases ho |skip
   rename_i ns i;cases ry.int;obtain⟨a,rfl,ha⟩:=(rx.mono s).scr;cases hc:atI ns i with
   |none=>rw[hc]at ho;cases ho
   |some c=>
    rw[hc]at ho;cases ho
    exact .inl ⟨a,_,i,.int c,rfl,rfl,ha,by rw[xv,hc];rfl,k _ H (.pure s (.mkInt _))⟩
def dIx:D->D->Option D:=dOr x4 Cj
def jG(K:Frag):R2:=fun x y H Q=>rIx K x y H Q\/Gr x y H Q
theorem y3h(hu:X.A.units+64<cLine):IxR X (jG X.K):=ix_seq.or (xu hu)
theorem km:OpD K false dIx (jG K):=od_ixS.or vw
end
structure QE(X:Cx)(EX:XW)(fr:Bool)(e:Expr)(f:DE->R D):Prop where
 h:PE X e (TEd X.K EX fr f)
structure QT(X:Cx)(EX:XW)(e:Expr)(t:DE->R Bool):Prop where
 h:PT X e (TTd X.K EX t)
structure QW(X:Cx)(EX:XW)(e:Expr)(t:DE->R Bool):Prop where
 h:PW X e (TTd X.K EX t)
structure QA(X:Cx)(EX:XW)(es:List Expr)(f:DE->R (List D)):Prop where
 h:PA X es (TAd X.K EX f)
structure QI(X:Cx)(EX:XW)(kp:Bool)(tg e:Expr)(f:DE->R (List D)):Prop where
 h:PI X tg e (TId X.K EX kp f)
structure QG(X:Cx)(tg:Expr)(t:Tg):Prop where
 h:PG X tg (TGd X.K t)
structure QGs(X:Cx)(ts:List Expr)(is:List Nat):Prop where
 h:PGs X ts (Em is)
structure QS(X:Cx)(EX:XW)(fr:Bool)(st:Stmt)(g:DS->SR):Prop where
 h:PS X st (TSd X.K EX fr g)
structure QB(X:Cx)(EX:XW)(fr:Bool)(sts:List Stmt)(g:DS->SR):Prop where
 h:PSs X sts (TSd X.K EX fr g)
structure QC(X:Cx)(EX:XW)(ops:List CmpOp)(rs:List Expr)(g:D->DE->R D):Prop where
 h:PCh X ops rs (Y7 X.K EX g)
structure QCT(X:Cx)(EX:XW)(ops:List CmpOp)(rs:List Expr)(g:D->DE->R Bool):Prop where
 h:PChT X ops rs (Z9 X.K EX g)
section
variable {X:Cx}{EX:XW}{fr:Bool}{a b c e:Expr}{es rest:List Expr}{fa fb:DE->R D}{fs:DE->R (List D)}{t u:DE->R Bool}{pos p:Pos}{x:Str}
theorem PA.imp{es:List Expr}{t t':TA}(h:PA X es t)(hi:∀σ H Q,t' σ H Q->t σ H Q):PA X es t':=fun pos pins s σ H Q I q=>h pos pins s σ H Q I (hi σ H Q q)
theorem PW.imp{e:Expr}{t t':TT}(h:PW X e t)(hi:∀σ H Q,t' σ H Q->t σ H Q):PW X e t':=fun wh pins s σ H Q I q=>h wh pins s σ H Q I (hi σ H Q q)
theorem PI.imp{tg e:Expr}{t t':TI}(h:PI X tg e t)(hi:∀σ H Q,t' σ H Q->t σ H Q):PI X tg e t':=fun pins s σ H Q I q=>h pins s σ H Q I (hi σ H Q q)
theorem PS.imp{st:Stmt}{t t':TS}(h:PS X st t)(hi:∀D σ H,t' D σ H->t D σ H):PS X st t':=fun pins s σ H D I q=>h pins s σ H D I (hi D σ H q)
theorem PSs.imp{st:List Stmt}{t t':TS}(h:PSs X st t)(hi:∀D σ H,t' D σ H->t D σ H):PSs X st t':=fun pins s σ H D I q=>h pins s σ H D I (hi D σ H q)
theorem QE.wk(h:QE X EX true e f):QE X EX false e f:=⟨h.h.imp fun _ _ _ q=>q.weak⟩
theorem qv(i:Nat)(hN:X.N[i]?=some x:=by rfl)(hv:Vis X.env.scope x:=by first |exact .inl rfl |exact .inr (.inl rfl) |exact .inr (.inr rfl))(hd:(x==("__debug__":Str))=false:=by decide)
 (bU:(x==("__classdict__":Str))=false:=by decide):QE X EX false (.Name x pos) (a7 i):=⟨(Ss hN hv hd bU).imp fun σ H Q q=>kL q⟩
theorem b8:QE X EX false (.Constant (.int i) j pos) (eC (.int i)):=⟨pe_int.imp fun σ H Q q=>Kq (fun _=>.mkInt i) q⟩
theorem G0:QE X EX false (.Constant (.bool i) j pos) (eC (.bl i)):=⟨pe_bl.imp fun σ H Q q=>Kq (fun _=>.mkBl i) q⟩
theorem y00:QE X EX false (.Constant .none j pos) (eC .non):=⟨pe_non.imp fun σ H Q q=>Kq (fun _=>.mkNon) q⟩
theorem i5(ho:OpR X (binaryOp op) r)(od:OpD X.K fr o r)(ha:QE X EX false a fa)(hb:QE X EX false b fb):QE X EX fr (.BinOp a op b pos) (eOp o fa fb):=⟨(qa ho ha.h hb.h).imp fun _ _ _ q=>Cp od q⟩
theorem Ci(ho:UnR X (unaryOp op) r)(od:UnD X.K fr o r)(ha:QE X EX false a fa):QE X EX fr (.UnaryOp op a pos) (eUn o fa):=⟨(kZ ho ha.h).imp fun _ _ _ q=>y3a od q⟩
theorem C1(ho:OpR X (compareOp op) r)(od:OpD X.K false o r)(ha:QE X EX false a fa)(hb:QE X EX false b fb)(hm:behindInMarks op b=false) :
 QE X EX false (.Compare a [op] [b] pos) (eOp o fa fb):=⟨(xV ho ha.h hb.h hm).imp fun _ _ _ q=>Cp od q⟩
theorem Y5(ho:IxR X r)(od:OpD X.K false o r)(ha:QE X EX false a fa)(hb:QE X EX false b fb)(hs:Ks b:=by exact fun _ _=>rfl):QE X EX false (.Subscript a b pos) (eOp o fa fb):=⟨(kU ho ha.h hb.h hs).imp fun _ _ _ q=>Cp od q⟩
theorem b9:QA X EX [] b7:=⟨pa_nil.imp fun _ _ _ q=>Pq q⟩
theorem a9(ha:QE X EX false e fa)(hr:QA X EX es fs)(hs:starEach (e::es) X.env=(false,eval e X.env)::starEach es X.env:=by rfl):QA X EX (e::es) (a8 fa fs):=⟨(Q0 ha.h hr.h hs).imp fun _ _ _ q=>Jm q⟩
theorem C0(h:QA X EX es fs):QE X EX false (.Tuple es x1 pos) (t9 fs):=⟨(vZ h.h).imp fun _ _ _ q=>kK q⟩
theorem z6(h:QA X EX es fs):QE X EX true (.List es pos) (t8 fs):=⟨(vW h.h).imp fun _ _ _ q=>kJ q⟩
theorem y01(hc:QT X EX c t)(ha:QE X EX fr a fa)(hb:QE X EX fr b fb):QE X EX fr (.IfExp c a b pos) (eIf t fa fb):=⟨(yZ hc.h ha.h hb.h).imp fun _ _ _ q=>y3b q⟩
theorem z5(ha:QE X EX false a fa)(hb:QE X EX false (.BoolOp .And (b::rest) pos) fb):QE X EX false (.BoolOp .And (a::b::rest) pos) (t7 fa fb):=⟨(xN ha.h hb.h).imp fun _ _ _ q=>kH q⟩
theorem jF(ha:QE X EX false a fa)(hb:QE X EX false (.BoolOp .Or (b::rest) pos) fb):QE X EX false (.BoolOp .Or (a::b::rest) pos) (eOr fa fb):=⟨(vM ha.h hb.h).imp fun _ _ _ q=>y3d q⟩
theorem E6(h:QE X EX false a fa):QE X EX false (.BoolOp op [a] pos) fa:=⟨wb h.h⟩
noncomputable def o9:D->Option Bool
 | .bl b=>some b
 | .int i=>some (i != 0)
 | .non=>some false
 | .str z=>if z.length<=100000 then some ((z.length:Int) != 0) else none
 | .lst ds=>some (!ds.isEmpty)
 | .tup ds=>some (!ds.isEmpty)
 | .dk ks _=>some (!ks.isEmpty)
 |_=>none
theorem Mz{α β:Type}{xs:List α}{ys:List β}(h:xs.length=ys.length):xs.isEmpty=ys.isEmpty:=by cases xs<;>cases ys<;>first |rfl |simp at h
theorem Sd{K:Frag}:Gx K o9 N1:=by
 intro H0 H x d b Q s rx ht q;cases d<;>simp only[o9]at ht<;>first |cases ht |skip
 . cases rx.non;exact q
 . cases rx.bl;exact q
 . cases rx.int;exact q
 . split at ht<;>cases ht;rename_i h;cases rx.str;exact⟨R5 h,q⟩
 . obtain⟨p,xs,rfl,hp,r⟩:=rx.tup;unfold N1;dsimp only;rw[Xd (s _ _ hp)];rw[Mz r.length]at q;exact q
 . obtain⟨p,xs,rfl,hp,r⟩:=rx.lst;unfold N1;dsimp only;rw[Xe (s _ _ hp)];rw[Mz r.length]at q;exact q
 . rename_i ks es;obtain⟨p,xs,rfl,hp,hl,r⟩:=rx.dk;unfold N1;dsimp only;have e:C2 H p=none:=by unfold C2;rw[s _ _ hp]
   rw[e];dsimp only;rw[s _ _ hp];dsimp only;rw[Mz (show ks.length=(List.zip ks xs).length by rw[EN,<-hl,Il])]at q;exact q
theorem Sc(ha:QE X EX false a fa):QE X EX false (.UnaryOp .Not a pos) (eUn (fun d=>(o9 d).map fun b=>.bl (!b)) fa):=⟨(xM ha.h).imp fun _ _ _ q=>vH Sd q⟩
theorem E5(ha:QE X EX false a fa)(he:∀whole,isTrue a X.env whole=(do let v <-whole;standAt a.pos;holding [v] (truthy v)):=by intro _;rfl):QT X EX a (d6 o9 fa):=⟨(vP ha.h he).imp fun _ _ _ q=>kG Sd q⟩
theorem k6(ho:OpR X (compareOp op) r)(od:OpD X.K false o r)(ha:QE X EX false a fa)(hb:QE X EX false b fb)(hm:behindInMarks op b=false) :
 QT X EX (.Compare a [op] [b] pos) (d6 asB (eOp o fa fb)):=⟨(xO ho ha.h hb.h hm).imp fun _ _ _ q=>kF od q⟩
theorem QW.pt(h:QW X EX a t):QT X EX a t:=⟨h.h.pt⟩
theorem E4(ha:QT X EX a t):QT X EX (.UnaryOp .Not a pos) (y6 t):=⟨(wc ha.h).imp fun _ _ _ q=>vI q⟩
theorem Jl(ha:QT X EX a t):QW X EX (.BoolOp .And [a] pos) t:=⟨xW ha.h⟩
theorem P4(ha:QT X EX a t):QW X EX (.BoolOp .Or [a] pos) t:=⟨we ha.h⟩
theorem Dq(ha:QT X EX a t)(hb:QW X EX (.BoolOp .And (b::rest) pos) u):QW X EX (.BoolOp .And (a::b::rest) pos) (O7 t u):=⟨(wd ha.h hb.h).imp fun _ _ _ q=>vJ q⟩
theorem E0(ha:QT X EX a t)(hb:QW X EX (.BoolOp .Or (b::rest) pos) u):QW X EX (.BoolOp .Or (a::b::rest) pos) (bOr t u):=⟨(qb ha.h hb.h).imp fun _ _ _ q=>kI q⟩
theorem PCh.imp{ops:List CmpOp}{rs:List Expr}{t t':V->TE}(h:PCh X ops rs t)(hi:∀x σ H Q,t' x σ H Q->t x σ H Q):PCh X ops rs t':=fun pos pins s σ H x v Q I r q=>h pos pins s σ H x v Q I r (hi x σ H Q q)
theorem PChT.imp{ops:List CmpOp}{rs:List Expr}{t t':V->TT}(h:PChT X ops rs t)(hi:∀x σ H Q,t' x σ H Q->t x σ H Q):PChT X ops rs t':=fun pos pins s σ H x v Q I r q=>h pos pins s σ H x v Q I r (hi x σ H Q q)
variable {g:D->DE->R D}{gt:D->DE->R Bool}{op eA:CmpOp}{ops:List CmpOp}{r:R2}{o:D->D->Option D}{r':Expr}{rs:List Expr}
theorem vv(ho:OpR X (compareOp op) r)(od:OpD X.K false o r)(hb:QE X EX false b fb):QC X EX [op] [b] (Z8 o fb):=⟨(yQ ho hb.h).imp fun _ _ _ _ q=>vG od q⟩
theorem Sb(ho:OpR X (compareOp op) r)(od:OpD X.K false o r)(hb:QE X EX false b fb)(hr:QC X EX (eA::ops) (r'::rs) g):QC X EX (op::eA::ops) (b::r'::rs) (U0 o fb g):=⟨(yP ho hb.h hr.h).imp fun _ _ _ _ q=>vF od q⟩
theorem xt(ho:OpR X (compareOp op) r)(od:OpD X.K false o r)(hb:QE X EX false b fb):QCT X EX [op] [b] (Ew o fb):=⟨(zy ho hb.h).imp fun _ _ _ _ q=>xE od q⟩
theorem xr(ho:OpR X (compareOp op) r)(od:OpD X.K false o r)(hb:QE X EX false b fb)(hr:QCT X EX (eA::ops) (r'::rs) gt):QCT X EX (op::eA::ops) (b::r'::rs) (Ev o fb gt):=⟨(zx ho hb.h hr.h).imp fun _ _ _ _ q=>xD od q⟩
theorem y02(ha:QE X EX false a fa)(hr:QC X EX (bq::br::ops) (bZ::cc::rs) g)(hm:lastMarks (bq::br::ops) (bZ::cc::rs)=false:=by with_unfolding_all rfl) :
 QE X EX false (.Compare a (bq::br::ops) (bZ::cc::rs) pos) (Y6 fa g):=⟨(vO ha.h hr.h hm).imp fun _ _ _ q=>kE q⟩
theorem y03(ha:QE X EX false a fa)(hr:QCT X EX (bq::br::ops) (bZ::cc::rs) gt)(hm:lastMarks (bq::br::ops) (bZ::cc::rs)=false:=by with_unfolding_all rfl) :
 QT X EX (.Compare a (bq::br::ops) (bZ::cc::rs) pos) (Db fa gt):=⟨(vN ha.h hr.h hm).imp fun _ _ _ q=>vE q⟩
theorem D3{id:String}{rr:List V->Hp->VK->Prop}{m:List D->Option D}(hc:CallR X (.builtin id) rr)(od:J2 X.K fr m rr)(hg:Gl X x)(hm:X.mg x=none)(hv:bootBuiltins x=some (.builtin id))(ha:QA X EX (e::es) fs)(hn:x≠"__name__":=by decide)(bH:(x==("__debug__":Str))=false:=by decide)
 (he:starEach (e::es) X.env=(false,eval e X.env)::starEach es X.env:=by rfl) (hpl:(backTo pos (starEach es X.env)).any (·.1)=false:=by rfl):QE X EX fr (.Call (.Name x p) (e::es) [] pos) (eCB m fs):=⟨(Wh hc hg hm hv ha.h hn bH he hpl).imp fun _ _ _ q=>Gw od q⟩
theorem I0(hc:CallR X (.type T) rr)(od:J2 X.K fr m rr)(hg:Gl X x)(hm:X.mg x=none)(hv:bootBuiltins x=some (.type T))(ha:QA X EX (e::es) fs)(hn:x≠"__name__":=by decide)(bH:(x==("__debug__":Str))=false:=by decide)
 (he:starEach (e::es) X.env=(false,eval e X.env)::starEach es X.env:=by rfl) (hpl:(backTo pos (starEach es X.env)).any (·.1)=false:=by rfl):QE X EX fr (.Call (.Name x p) (e::es) [] pos) (eCB m fs):=⟨(zF hc hg hm hv ha.h hn bH he hpl).imp fun _ _ _ q=>Gw od q⟩
theorem e7(L:Lnd X EX)(G:g8 X.prog X.w X.K X.mg X.base x ps k (spD X.K X.mg fr (mOf fr n kk gg) n))(hr:Room j X.A)(hg:Gl X x)(ha:QA X EX (e::es) fs)(gF:k<=j:=by omega)(bH:(x==("__debug__":Str))=false:=by decide)
 (he:starEach (e::es) X.env=(false,eval e X.env)::starEach es X.env:=by rfl) (hpl:(backTo pos (starEach es X.env)).any (·.1)=false:=by rfl):QE X EX fr (.Call (.Name x p) (e::es) [] pos) (d9 (mOf fr n kk gg) fs):=⟨(Up G L.on hr hg ha.h gF bH he hpl).imp fun _ _ _ q=>vB xA (fun x H z=>by obtain⟨C,hC⟩:=L.nm x H z;exact⟨C,hC,fun od xf=>⟨x,z,hC,xf⟩⟩) q⟩
end
noncomputable def B9:D->String
 | .non=>"NoneType"
 | .bl _=>"bool"
 | .int _=>"int"
 | .str _=>"str"
 | .tup _=>"tuple"
 | .lst _=>"list"
 | .dk _ _=>"dict"
 | .dt _ _=>"dict"
 | .dn _ _=>"?"
 | .scr _=>"?"
 | .exc _ _=>"?"
def k7(c:String):D->Option D:=fun d=>if E9 c=true/\B9 d≠"?" then some (.bl (E1 (B9 d) c)) else none
theorem xq{K:Frag}{H:Hp}{d:D}{v:V}(h:B9 d≠"?")(r:RD K H d v):J3 H v=some (B9 d):=by
 cases d
 . cases r.non;rfl
 . cases r.bl;rfl
 . cases r.int;rfl
 . cases r.str;rfl
 . obtain⟨a,xs,rfl,ha,_⟩:=r.tup;simp only[J3,ha,B9]
 . obtain⟨a,xs,rfl,ha,_⟩:=r.lst;simp only[J3,ha,B9]
 . obtain⟨a,xs,rfl,ha,_⟩:=r.dk;simp only[J3,ha,B9]
 . obtain⟨a,xs,rfl,ha,_⟩:=r.dt;simp only[J3,ha,B9]
 . exact absurd rfl h
 . exact absurd rfl h
 . exact absurd rfl h
theorem y04{K:Frag}{EX:XW}{σ:St}{H:Hp}{Q:VK}{c:String}{f:DE->R D}(h:TEd K EX false (eUn (k7 c) f) σ H Q):tCB Cr (F1 (TEd K EX false f) (F1 (tC (.ty c)) S4)) σ H Q:=by
 obtain⟨sx,ρ,H0,s,e,h⟩:=h;unfold eUn at h;rw[Rk.bind]at h;refine TEd.go sx s e h fun d h v H1 ar s1 e1 r1=>?_
 obtain⟨z,hz,h⟩:=h.of;unfold k7 at hz;split at hz<;>cases hz;rename_i hc;show Cr [v,.ty c] H1 Q;rw[vK];refine⟨hc.1,?_⟩;rw[xq hc.2 (r1.mono e1.2.1)];exact h _ H1 (.val s1 e1 (.mkBl _))
theorem G9(hg:Gl X x)(hm:X.mg x=none)(hv:bootBuiltins x=some (.builtin "isinstance"))(ha:QE X EX false a f)(hb:PE X b (tC (.ty c)))(hn:x≠"__name__":=by decide)(bH:(x==("__debug__":Str))=false:=by decide)
 (he:starEach [a,b] X.env=(false,eval a X.env)::starEach [b] X.env:=by rfl) (hpl:(backTo pos (starEach [b] X.env)).any (·.1)=false:=by rfl) (hs:starEach [b] X.env=(false,eval b X.env)::starEach [] X.env:=by rfl) :
 QE X EX false (.Call (.Name x p) [a,b] [] pos) (eUn (k7 c) f):=⟨(Wh kM hg hm hv (Q0 ha.h (Q0 hb pa_nil hs) he) hn bH he hpl).imp fun _ _ _ q=>y04 q⟩
noncomputable def n5:List D->Option (List Int)
 | []=>some []
 | .int i::ds=>(n5 ds).map (i::·)
 |_::_=>none
theorem Mq:∀(ns:List Int),n5 (ns.map D.int)=some ns
 | []=>rfl
 |n::ns=>by simp[n5,Mq ns]
theorem Fx{K:Frag}{H:Hp}:∀{ds:List D}{ns:List Int}{xs:List V},n5 ds=some ns->RDs K H ds xs->xs=ns.map V.int
 | [],ns,xs,h,r=>by simp only[n5]at h;cases h;simp only[RDs]at r;subst r;rfl
 |d::ds,ns,xs,h,r=>by
  simp only[RDs]at r;obtain⟨x,xs,rfl,r1,r2⟩:=r;cases d<;>simp only[n5]at h<;>first |cases h |skip
  cases q:n5 ds with
  |none=>rw[q]at h;cases h
  |some ms=>
   rw[q]at h;cases h
   cases r1.int
   rw[Fx q r2];rfl
noncomputable def j8:List D->Option D
 | [.lst ds]=>some (.int ds.length)
 | [.tup ds]=>some (.int ds.length)
 | [.dk ks _]=>some (.int ks.length)
 | [.scr ns]=>some (.int ns.length)
 | [.str z]=>if z.length<=100000 then some (.int z.length) else none
 |_=>none
def L5:List D->Option D
 | [.lst ds]=>(n5 ds).map fun ns=>.int ns.sum
 | [.tup ds]=>(n5 ds).map fun ns=>.int ns.sum
 |_=>none
noncomputable def Z6:List D->Option D
 | [.lst ds]=>some (.lst ds)
 | [.tup ds]=>some (.lst ds)
 | [.scr ns]=>some (.lst (ns.map .int))
 |_=>none
noncomputable def z7:List D->Option D
 | [.lst ds]=>some (.tup ds)
 | [.tup ds]=>some (.tup ds)
 |_=>none
section
variable {X:Cx}{K:Frag}
theorem RDs.uno(h:RDs K H [d] xs):∃x,xs=[x]/\RD K H d x:=by simp only[RDs]at h;obtain⟨x,r,rfl,h1,rfl⟩:=h;exact⟨x,rfl,h1⟩
theorem RDs.duo(h:RDs K H [d,e] xs):∃x y,xs=[x,y]/\RD K H d x/\RD K H e y:=by simp only[RDs]at h;obtain⟨x,r,rfl,h1,y,r',rfl,h2,rfl⟩:=h;exact⟨x,y,rfl,h1,h2⟩
def Pm(K:Frag):List V->Hp->VK->Prop:=fun xs H Q=>(∃p ys,xs=[.ref p]/\(SqL K H p ys\/SqT K H p ys)/\Q (.int ys.length) H)\/(∃a kvs,xs=[V.ref a]/\H a=some (.dK kvs)/\Q (.int kvs.length) H)\/∃z,xs=[.str z]/\z.length<=sizeLine/\Q (.int z.length) H
theorem vt:CallR X (.builtin "len") (Pm X.K):=call_len_seq.or (call_lenD.or zbu)
theorem vq:J2 K false j8 (Pm K):=by
 intro H0 H xs ds z Q s r ho k;unfold j8 at ho;split at ho<;>first |cases ho |skip
 . obtain⟨x,rfl,q1⟩:=r.uno;obtain⟨a,ys,rfl,ha,ra⟩:=q1.lst;exact .inl ⟨a,ys,rfl,.inl (.of (s _ _ ha)),by rw[<-ra.length];exact k _ H (.pure s (.mkInt _))⟩
 . obtain⟨x,rfl,q1⟩:=r.uno;obtain⟨a,ys,rfl,ha,ra⟩:=q1.tup;exact .inl ⟨a,ys,rfl,.inr (.of (s _ _ ha)),by rw[<-ra.length];exact k _ H (.pure s (.mkInt _))⟩
 . obtain⟨x,rfl,q1⟩:=r.uno;obtain⟨a,ys,rfl,ha,hl,ra⟩:=q1.dk;refine .inr (.inl ⟨a,_,rfl,s _ _ ha,?_⟩);rw[EN,<-hl,Il];exact k _ H (.pure s (.mkInt _))
 . obtain⟨x,rfl,q1⟩:=r.uno;obtain⟨a,rfl,ha⟩:=(q1.mono s).scr;exact .inl ⟨a,_,rfl,.inl ha,by rw[bI];exact k _ H (.pure s (.mkInt _))⟩
 . split at ho<;>cases ho;rename_i h;obtain⟨x,rfl,q1⟩:=r.uno;cases q1.str;exact .inr (.inr ⟨_,rfl,R5 h,k _ H (.pure s (.mkInt _))⟩)
theorem Sa:J2 K false L5 Hr:=by
 intro H0 H xs ds z Q s r ho k;unfold L5 at ho;split at ho<;>first |cases ho |skip
 . obtain⟨x,rfl,q1⟩:=r.uno;obtain⟨a,ys,rfl,ha,ra⟩:=q1.lst;rename_i es;cases q:n5 es with
   |none=>rw[q]at ho;cases ho
   |some ns=>
    rw[q]at ho;cases ho
    rw[Uw]
    exact⟨ns,by rw[<-Fx q ra];exact Xe (s _ _ ha),k _ H (.pure s (.mkInt _))⟩
 . obtain⟨x,rfl,q1⟩:=r.uno;obtain⟨a,ys,rfl,ha,ra⟩:=q1.tup;rename_i es;cases q:n5 es with
   |none=>rw[q]at ho;cases ho
   |some ns=>
    rw[q]at ho;cases ho
    rw[Uw]
    exact⟨ns,by rw[<-Fx q ra];exact Xd (s _ _ ha),k _ H (.pure s (.mkInt _))⟩
def Rz(K:Frag):List V->Hp->VK->Prop:=fun xs H Q=>∃p ys,xs=[.ref p]/\(SqL K H p ys\/SqT K H p ys)/\∀l,H l=none->Q (.ref l) (upd H l (.lst ys))
theorem xn:CallR X (.type "list") (Rz X.K):=zbv
theorem xm:J2 K true Z6 (Rz K):=by
 intro H0 H xs ds z Q s r ho k;have fin:∀{p:Addr}{ys:List V}{es:List D},RDs K H0 es ys->z=.lst es->H p=none->Q (.ref p) (upd H p (.lst ys)):=fun {p ys es} re e hp=>by subst e;refine k _ _ (.new s hp fun H' hH=>?_);simp only[OB];exact⟨_,hH,re⟩
 unfold Z6 at ho;split at ho<;>first |cases ho |skip
 . obtain⟨x,rfl,q1⟩:=r.uno;obtain⟨a,ys,rfl,ha,ra⟩:=q1.lst;exact⟨a,ys,rfl,.inl (.of (s _ _ ha)),fun l hl=>fin ra rfl hl⟩
 . obtain⟨x,rfl,q1⟩:=r.uno;obtain⟨a,ys,rfl,ha,ra⟩:=q1.tup;exact⟨a,ys,rfl,.inr (.of (s _ _ ha)),fun l hl=>fin ra rfl hl⟩
 . obtain⟨x,rfl,q1⟩:=r.uno;obtain⟨a,rfl,ha⟩:=(q1.mono s).scr;exact⟨a,_,rfl,.inl ha,fun l hl=>fin (RDs.ofInts _) rfl hl⟩
def Um(K:Frag):List V->Hp->VK->Prop:=fun xs H Q=>∃p ys,xs=[.ref p]/\((SqL K H p ys/\∀l,H l=none->Q (.ref l) (upd H l (.tup ys)))\/(SqT K H p ys/\Q (.ref p) H))
theorem O1:CallR X (.type "tuple") (Um X.K):=za6
theorem O0:J2 K false z7 (Um K):=by
 intro H0 H xs ds z Q s r ho k;unfold z7 at ho;split at ho<;>first |cases ho |skip
 . obtain⟨x,rfl,q1⟩:=r.uno;obtain⟨a,ys,rfl,ha,ra⟩:=q1.lst;refine⟨a,ys,rfl,.inl ⟨.of (s _ _ ha),fun l hl=>k _ _ (.val (Same.upd_new hl) (.new s hl) (.mkTup k9 (ra.mono (Same.upd_new (s.none hl)))))⟩⟩
 . obtain⟨x,rfl,q1⟩:=r.uno;obtain⟨a,ys,rfl,ha,ra⟩:=q1.tup;exact⟨a,ys,rfl,.inr ⟨.of (s _ _ ha),k _ H (.pure s (.mkTup ha ra))⟩⟩
end
noncomputable def m5{α:Type}(xs:List α)(lo hi:Option Int):List α:=(xs.drop (HT.sIx xs.length 0 lo)).take (HT.sIx xs.length xs.length hi - HT.sIx xs.length 0 lo)
def dSl:D->Option Int->Option Int->Option D
 | .lst ds,lo,hi=>some (.lst (m5 ds lo hi))
 | .scr ns,lo,hi=>some (.lst ((m5 ns lo hi).map .int))
 |_,_,_=>none
noncomputable def TOd(K:Frag)(EX:XW)(f:DE->R (Option Int)):TO:=fun σ H Q=>Same EX.hb H/\∃ρ H0,Same H0 H/\RE K H0 ρ σ/\Rk EX.at (f ρ) fun o=>∀H',Same H H'->Q o H'
noncomputable def oNo:DE->R (Option Int):=fun _=>.ok none
def oSo(f:DE->R D):DE->R (Option Int):=fun ρ=>(f ρ).bind fun d=>R.of (match d with | .int i=>some (some i) |_=>none)
def eSl(o:D->Option Int->Option Int->Option D)(f:DE->R D)(fl fh:DE->R (Option Int)):DE->R D:=fun ρ=>(f ρ).bind fun d=>(fl ρ).bind fun lo=>(fh ρ).bind fun hi=>R.of (o d lo hi)
def SlD(K:Frag)(fr:Bool)(o:D->Option Int->Option Int->Option D)(r:V->Option Int->Option Int->Hp->VK->Prop):Prop:=∀(H0 H:Hp)(x:V)(d z:D)(lo hi:Option Int)(Q:VK),Same H0 H->RD K H0 d x->o d lo hi=some z->(∀v H',Out K fr H0 H z v H'->Q v H')->r x lo hi H Q
section
variable {X:Cx}{K:Frag}{EX:XW}{fr:Bool}{σ:St}{H:Hp}{Q:VK}
structure QO(X:Cx)(EX:XW)(e:Option Expr)(f:DE->R (Option Int)):Prop where
 h:PO X e (TOd X.K EX f)
theorem PO.imp(h:PO X e t)(hi:∀σ H Q,t' σ H Q->t σ H Q):PO X e t':=fun pins s σ H Q I q=>h pins s σ H Q I (hi σ H Q q)
theorem Oe:QO X EX none oNo:=⟨po_none.imp fun σ H Q ⟨sx,ρ,H0,s,e,h⟩=>h H (Same.refl _)⟩
theorem Y4(he:QE X EX false e f):QO X EX (some e) (oSo f):=⟨(xR he.h).imp fun σ H Q ⟨sx,ρ,H0,s,e,h⟩=>by
 unfold oSo at h;rw[Rk.bind]at h;refine TEd.go sx s e h fun d h v H1 ar s1 e1 r1=>?_
 obtain⟨o,ho,h⟩:=h.of;cases d<;>dsimp only at ho<;>first |cases ho |skip
 cases r1.int;exact⟨_,rfl,h H1 s1⟩⟩
theorem y3i(hs:SlD K fr o r)(h:TEd K EX fr (eSl o f fl fh) σ H Q):tSl r (TEd K EX false f) (TOd K EX fl) (TOd K EX fh) σ H Q:=by
 obtain⟨sx,ρ,H0,s,e,h⟩:=h;unfold eSl at h;rw[Rk.bind]at h;refine TEd.go sx s e h fun d h v H1 ar s1 e1 r1=>?_
 rw[Rk.bind]at h;refine⟨sx.trans s1,ρ,ar,e1.2.1,e.mono e1.1,h.mono fun lo h H2 s2=>?_⟩;rw[Rk.bind]at h;refine⟨(sx.trans s1).trans s2,ρ,ar,e1.2.1.trans s2,e.mono e1.1,h.mono fun hi h H3 s3=>?_⟩;obtain⟨z,hz,h⟩:=h.of;exact hs ar H3 v d z lo hi Q (e1.2.1.trans (s2.trans s3)) r1 hz fun w H4 o=>h w H4 (o.after (s1.trans (s2.trans s3)) (e1.grow (s2.trans s3)))
theorem RDs.cut(r:RDs K H ds xs)(lo hi:Option Int):RDs K H (m5 ds lo hi) (S3 xs lo hi):=by unfold m5 S3;rw[<-r.length];exact(r.drop _).take _
theorem Fg:SlD K true dSl (jU K):=by
 intro H0 H x d z lo hi Q s r ho k;cases d<;>simp only[dSl]at ho<;>first |cases ho |skip
 . obtain⟨a,xs,rfl,ha,ra⟩:=r.lst;refine⟨a,xs,rfl,.of (s _ _ ha),fun p hp=>k _ _ (.new s hp fun H' hH=>?_)⟩;simp only[OB];exact⟨_,hH,ra.cut lo hi⟩
 . rename_i ns;obtain⟨a,rfl,ha⟩:=(r.mono s).scr;refine⟨a,_,rfl,ha,fun p hp=>k _ _ (.new s hp fun H' hH=>?_)⟩;simp only[OB];have e:=(RDs.ofInts (K:=K) (H:=H0) ns).cut lo hi;refine⟨_,hH,?_⟩;have e2:∀ns:List Int,m5 (ns.map D.int) lo hi=(m5 ns lo hi).map D.int:=fun ns=>by unfold m5;rw[bI,List.map_take,List.map_drop]
   rw[e2]at e;exact e
theorem Cg{o:D->Option Int->Option Int->Option D}{r:V->Option Int->Option Int->Hp->VK->Prop}{e:Expr}{lo hi:Option Expr}{pos p2:Pos}{f:DE->R D}{fl fh:DE->R (Option Int)}(hr:SlR X r)(hs:SlD X.K fr o r)(he:QE X EX false e f)(hl:QO X EX lo fl)(hu:QO X EX hi fh) :
 QE X EX fr (.Subscript e (.Slice lo hi none p2) pos) (eSl o f fl fh):=⟨(yX hr he.h hl.h hu.h).imp fun _ _ _ q=>y3i hs q⟩
end
def iL(f:DE->R D):DE->R (List D):=fun ρ=>(f ρ).bind fun d=>R.of (items d)
noncomputable def zD(lo:Int)(n:Nat):List D:=(List.range n).map fun (i:Nat)=>D.int (lo+i)
def iEn(fs:DE->R (List D)):DE->R (List D):=fun ρ=>(fs ρ).bind fun ds=>R.of (match ds with
 | [.lst es]=>some (((zD 0 es.length).zip es).map fun p=>D.tup [p.1,p.2])
 |_=>none)
section
variable {X:Cx}{K:Frag}{EX:XW}{H0:Hp}
theorem Ry(hS:∀H,Same H0 H->S H)(r:RDs K H0 ds xs):R7 K (ItS S xs) H0 ds:=by have hl:=r.length;refine⟨fun i d e H H1 s1 s2=>⟨⟨hS H (s1.trans s2),by rw[<-hl];exact(DM.mp e).1⟩,fun x H' ⟨e1,e2⟩=>?_⟩,fun H s=>⟨hS H s,by rw[hl];exact η _⟩⟩;subst e1;obtain⟨x',q1,q2⟩:=r.get' e;rw[q1]at e2;cases e2;exact⟨Same.refl _,H1,.refl s2,q2.mono s1⟩
theorem y06(lo:Int)(n:Nat):RDs K H0 (zD lo n) (O5 lo n):=by
 have:∀l:List Nat,RDs K H0 (l.map fun (i:Nat)=>D.int (lo+i)) (l.map fun (i:Nat)=>V.int (lo+i)):=by
  intro l;induction l with
  |nil=>simp[RDs]
  |cons a l ih=>exact .cons (.mkInt _) ih
 exact this _
theorem l9(hl:QE X EX false l f):QI X EX false tg l (iL f):=⟨(vL hl.h).imp fun σ H Q ⟨sx,ρ,H0,s,e,h⟩=>by
 unfold iL at h;rw[Rk.bind]at h;refine TEd.go sx s e h fun d h v H1 ar s1 e1 r1=>?_
 obtain⟨ds,hd,h⟩:=h.of;cases d<;>simp only[items]at hd<;>first |cases hd |skip
 . obtain⟨a,xs,rfl,ha,ra⟩:=r1.tup;exact yM (e1.2.1 _ _ ha) (h _ H1 ar s1 e1 (Ry (fun H s=>s _ _ ha) ra))
 . obtain⟨a,xs,rfl,ha,ra⟩:=r1.lst;exact yN (.inl (e1.2.1 _ _ ha)) (h _ H1 ar s1 e1 (Ry (fun H s=>.inl (s _ _ ha)) ra))⟩
theorem Rx(hS:∀H,Same H0 H->S H)(r:RDs K H0 ds xs)(r':RDs K H0 es ys):R7 K (ItP S (xs.zip ys)) H0 ((ds.zip es).map fun p=>D.tup [p.1,p.2]):=by
 have hl:=r.length;have eE:=r'.length;have hz:((ds.zip es).map fun p=>D.tup [p.1,p.2]).length=(xs.zip ys).length:=by rw[bI,EN,EN,hl,eE]
 refine⟨fun i d e H H1 s1 s2=>⟨⟨hS H (s1.trans s2),by rw[<-hz];exact(DM.mp e).1⟩,fun x H' y=>?_⟩,fun H s=>⟨hS H s,hz⟩⟩;obtain⟨T,a,b,rfl,hT,rfl,ep⟩:=y;obtain⟨ea,eb⟩:=FT.mp ep;obtain⟨da,ga,ra⟩:=r.get ea;obtain⟨db,gb,rb⟩:=r'.get eb;have gz:(ds.zip es)[i]?=some (da,db):=FT.mpr ⟨ga,gb⟩;rw[DB,gz]at e;cases e;refine⟨Same.upd_new hT,upd H1 T (.tup [a,b]),.new s2 hT,.mkTup k9 ?_⟩;have sm:=Same.upd_new (o:=.tup [a,b]) (s2.none hT);exact .cons (ra.mono (s1.trans sm)) (.cons (rb.mono (s1.trans sm)) .nil)
theorem jE(hg:Gl X "enumerate")(hm:X.mg "enumerate"=none)(ha:QA X EX [a] fs)(hs:starEach [a] X.env=[(false,eval a X.env)]:=by rfl) :
  QI X EX false (.Tuple bz k am) (.Call (.Name "enumerate" p) [a] [] pos) (iEn fs):=⟨(xJ hg hm ha.h hs).imp fun σ H Q ⟨sx,ρ,H0,s,e,h⟩=>by
 unfold iEn at h
 rw[Rk.bind]at h
 refine TAd.go sx s e h fun ds h vs H1 ar s1 e1 r1=>?_
 obtain⟨es,hd,h⟩:=h.of
 split at hd<;>first |cases hd |skip
 obtain⟨x,rfl,q1⟩:=r1.uno
 obtain⟨l,xs,rfl,hl,rl⟩:=q1.lst
 refine⟨xs,.inl (e1.2.1 _ _ hl),h _ H1 ar s1 e1 ?_⟩
 rw[rl.length]
 exact Rx (fun H s=>.inl (s _ _ hl)) (y06 _ _) rl⟩
end
section
variable {X:Cx}{sc:Scope}{caps:List Str}{ix:List Nat}{aE iter:Expr}{aB:List Expr}{pos px py am:Pos}{x y:Str}{kt:Nat}{kp:Bool}{EX:XW}{fi:DE->R (List D)}{t:DE->R Bool}{f:DE->R D}
noncomputable def K9:DE->R Bool:=fun _=>.ok true
inductive PTq (X:Cx) (sc:Scope) (N:List Str):List Expr->(DE->R Bool)->Prop where
 |nil:PTq X sc N [] K9
 |one {c:Expr} {t:DE->R Bool} (h:∀fp s H,QT (j6 X sc N fp s H) F0 c t):PTq X sc N [c] t
theorem PTq.run(h:PTq X sc N aB t):∃tt,(∀fp s H,PTs (j6 X sc N fp s H) aB tt)/\∀σ H Q,TTd X.K F0 t σ H Q->tt σ H Q:=by
 cases h with
 |nil=>exact⟨_,fun _ _ _=>.nil,fun σ H Q ⟨sx,ρ,H0,s,e,h⟩=>h H (Same.refl _)⟩
 |one h=>exact⟨_,fun fp s H=>.one (h fp s H).h,fun _ _ _ q=>q⟩
theorem Cf(C:CompOk X sc caps ix)(hN:([x]++caps).Nodup)(hx:sc.names.lookup x=some .local)(hi:QI X EX kp (.Name x px) iter fi)(ht:PTq X sc ([x]++caps) aB t)(he:∀fp s H,QE (j6 X sc ([x]++caps) fp s H) F0 false aE f)
  (hs:∀x,foldedSetIterable iter X.env x=pure x:=by intro _;rfl):QE X EX true (.ListComp aE [⟨.Name x px,iter,aB,0⟩] sc pos) (m8 fi b1 ix t f):=by
 obtain⟨tt,h1,h2⟩:=ht.run
 refine⟨(yL C hN hx hi.h h1 (fun fp s H=>(he fp s H).h) hs).imp fun _ _ _ q=>El jK h2 q⟩
theorem Od(C:CompOk X sc caps ix)(hN:([x,y]++caps).Nodup)(hx:sc.names.lookup x=some .local)(hy:sc.names.lookup y=some .local)(hi:QI X EX kp (.Tuple [.Name x px,.Name y py] kt am) iter fi)(ht:PTq X sc ([x,y]++caps) aB t)
  (he:∀fp s H,QE (j6 X sc ([x,y]++caps) fp s H) F0 false aE f) (hs:∀x,foldedSetIterable iter X.env x=pure x:=by intro _;rfl):QE X EX true (.ListComp aE [⟨.Tuple [.Name x px,.Name y py] kt am,iter,aB,0⟩] sc pos) (m8 fi (bT 2) ix t f):=by
 obtain⟨tt,h1,h2⟩:=ht.run
 refine⟨(yJ C hN hx hy hi.h h1 (fun fp s H=>(he fp s H).h) hs).imp fun _ _ _ q=>El jJ h2 q⟩
theorem Xa(h:∀σ H Q,sQ σ H Q->te σ H Q)(q:B6 sQ g De σ H):B6 te g De σ H:=h _ _ _ q
theorem Y3{fr:Bool}{m:List Bool}{v:Str}{k:Nat}{bM pv:Pos}(eV:X.N.Nodup)(hk:X.N[k]?=some v)(hv:X.env.scope.names.lookup v=some .local)(C:CompOk X sc caps ix)(hN:([x]++caps).Nodup)(hx:sc.names.lookup x=some .local)(hi:QI X EX kp (.Name x px) iter fi)
  (ht:PTq X sc ([x]++caps) aB t) (he:∀fp s H,QE (j6 X sc ([x]++caps) fp s H) F0 false aE f)
  (cN:swapsWith (.ListComp aE [⟨.Name x px,iter,aB,0⟩] sc pos) (some (.Name v pv)) bM.line X.env=pure true:=by rfl) (hs:∀x,foldedSetIterable iter X.env x=pure x:=by intro _;rfl) :
  QS X EX fr (.Assign [.Name v pv] (.ListComp aE [⟨.Name x px,iter,aB,0⟩] sc pos) bM) (d8 true k m (m8 fi b1 ix t f)):=by
 obtain⟨tt,h1,h2⟩:=ht.run
 refine⟨(yK eV hk hv C hN hx hi.h h1 (fun fp s H=>(he fp s H).h) cN hs).imp fun _ _ _ q=>Xa (fun _ _ _ q=>El jK h2 q) (Dr q)⟩
theorem y3j{fr:Bool}{m:List Bool}{v:Str}{k:Nat}{bM pv:Pos}(eV:X.N.Nodup)(hk:X.N[k]?=some v)(hv:X.env.scope.names.lookup v=some .local)(C:CompOk X sc caps ix)(hN:([x,y]++caps).Nodup)(hx:sc.names.lookup x=some .local)(hy:sc.names.lookup y=some .local)
  (hi:QI X EX kp (.Tuple [.Name x px,.Name y py] kt am) iter fi) (ht:PTq X sc ([x,y]++caps) aB t) (he:∀fp s H,QE (j6 X sc ([x,y]++caps) fp s H) F0 false aE f)
  (cN:swapsWith (.ListComp aE [⟨.Tuple [.Name x px,.Name y py] kt am,iter,aB,0⟩] sc pos) (some (.Name v pv)) bM.line X.env=pure true:=by rfl) (hs:∀x,foldedSetIterable iter X.env x=pure x:=by intro _;rfl) :
  QS X EX fr (.Assign [.Name v pv] (.ListComp aE [⟨.Tuple [.Name x px,.Name y py] kt am,iter,aB,0⟩] sc pos) bM) (d8 true k m (m8 fi (bT 2) ix t f)):=by
 obtain⟨tt,h1,h2⟩:=ht.run
 refine⟨(yI eV hk hv C hN hx hy hi.h h1 (fun fp s H=>(he fp s H).h) cN hs).imp fun _ _ _ q=>Xa (fun _ _ _ q=>El jJ h2 q) (Dr q)⟩
end
section
variable {X:Cx}{EX:XW}{fr cr:Bool}{st:Stmt}{sts:List Stmt}{a b c e:Expr}{es:List Expr}{f fv fk:DE->R D}{fs:DE->R (List D)}{t:DE->R Bool}{g g1 g2:DS->SR}{pos p:Pos}{m:List Bool}
theorem p7:QB X EX fr [] sNx:=⟨pss_nil.imp fun _ _ _ q=>Gv q⟩
theorem c9(h:QS X EX fr st g):QB X EX fr [st] g:=⟨Kw h.h⟩
theorem c8(h1:QS X EX fr st g1)(h2:QB X EX fr sts g2):QB X EX fr (st::sts) (c7 g1 g2):=⟨(Lr h1.h h2.h).imp fun _ _ _ q=>Hq q⟩
theorem Ff:QS X EX fr st sNo:=⟨ps_never.imp fun _ _ _ q=>y3e q⟩
theorem o8(hc:QT X EX c t)(ha:QB X EX fr x g1)(hb:QB X EX fr y g2):QS X EX fr (.If c x y pos) (sIf t g1 g2):=⟨(Qg hc.h ha.h hb.h).imp fun _ _ _ q=>Pp q⟩
theorem i7(he:QE X EX fr e f):QS X EX fr (.Return (some e) pos) (g7 m f):=⟨(Jq he.h).imp fun _ _ _ q=>kD q⟩
theorem P7(hN:X.N[i]?=some x:=by rfl)(hv:Vis X.env.scope x:=by first |exact .inl rfl |exact .inr (.inl rfl) |exact .inr (.inr rfl))(hd:(x==("__debug__":Str))=false:=by decide)
 (bU:(x==("__classdict__":Str))=false:=by decide):QS X EX true (.Return (some (.Name x p)) pos) (F4 i):=⟨(Jq (pw i hN hv hd bU)).imp fun _ _ _ q=>vD q⟩
theorem Rw(he:QE X EX false e f)(hs:swapsWith e none pos.line X.env=pure false:=by rfl):QS X EX fr (.Expr e pos) (Ah f):=⟨(Kv he.h hs).imp fun _ _ _ q=>vC q⟩
theorem y08(hN:X.N.Nodup)(hi:X.N[i]?=some x)(hx:Loc X.env.scope x)(he:QE X EX cr e f)(hs:swapsWith e (some (.Name x aP)) pos.line X.env=pure false:=by rfl)(hf:X.fn x=true\/X.env.scope.names.lookup x=some .local) :
 QS X EX fr (.Assign [.Name x aP] e pos) (d8 cr i m f):=⟨(Jn hN hi hx he.h hs hf).imp fun _ _ _ q=>Dr q⟩
theorem g_n(hN:X.N.Nodup)(hi:X.N[i]?=some x)(hx:Loc X.env.scope x)(hf:X.fn x=true\/X.env.scope.names.lookup x=some .local:=by exact .inl rfl):QG X (.Name x pos) (.n i):=⟨(Fm hN hi hx hf).imp fun _ _ _ _ q=>jL q⟩
theorem Ef:QGs X [] []:=⟨yH⟩
theorem N6(hN:X.N.Nodup)(hi:X.N[i]?=some x)(hx:Loc X.env.scope x)(hr:QGs X ts is)(hf:X.fn x=true\/X.env.scope.names.lookup x=some .local:=by exact .inl rfl)
 (hs:(assignEach (.Name x pos::ts) X.env).map (·.2)=assign (.Name x pos) X.env::(assignEach ts X.env).map (·.2):=by rfl):QGs X (.Name x pos::ts) (i::is):=⟨zt (Fm hN hi hx hf) hr.h hs⟩
theorem g_t(hc:X.calm=true)(h:QGs X ts is)(hn:(assignEach ts X.env).length=is.length:=by rfl)(bG:(assignEach ts X.env).findIdx? (·.1)=none:=by rfl):QG X (.Tuple ts k pos) (.t is):=⟨(xH hc h.h hn bG).imp fun _ _ _ _ q=>y3f q⟩
theorem E3(hp:PassesOwn (model X.prog X.w) X.A X.env X.xe)(hc:X.calm=true)(hi:QI X EX kp tg iter fi)(hg:QG X tg tt)(hb:QB X EX fr body g)
 (hs:∀x,foldedSetIterable iter X.env x=pure x:=by intro _;rfl):QS X EX fr (.For tg iter body [] pos) (r9 kp m fi tt g):=⟨(Ux hp hc hi.h hg.h hb.h hs).imp fun _ _ _ q=>Pn q⟩
theorem Ki(hp:PassesOwn (model X.prog X.w) X.A X.env X.xe)(hc:QT X EX c t)(hb:QB X EX fr body g):QS X EX fr (.While c body [] pos) (F5 n t g):=⟨(yY hp hc.h hb.h).imp fun _ _ _ q=>xC q⟩
noncomputable def v5:D->List D->Option D
 | .lst ds,[d]=>if ds.length<100000 then some (.lst (ds++[d])) else none
 |_,_=>none
theorem N5{K:Frag}:TyD K "list":=fun H0 H a d ob h=>by cases d<;>simp[isT]at h;simp only[OB]at ob;obtain⟨xs,hx,_⟩:=ob;exact .inl ⟨rfl,xs,.of hx⟩
theorem V1{K:Frag}:R8 K v5 Vb:=by
 intro H0 H a d d' ds vs Q s h0 ob r hm k;unfold v5 at hm;split at hm<;>first |cases hm |skip
 split at hm<;>cases hm;rename_i es e hl;simp only[OB]at ob;obtain⟨xs,hx,rx⟩:=ob;obtain⟨y,rfl,q1⟩:=r.uno;refine⟨a,xs,y,rfl,rfl,hx,by rw[<-rx.length];exact Q3 hl,k _ _ ?_⟩;simp only[OB];exact⟨_,k9,rx.append (.one q1)⟩
theorem P1{T id:String}{name:Str}{i:Nat}{x:Str}{xp aF ah:Pos}{mt:D->List D->Option D}{rr:V->List V->Hp->VK->Prop}(pa:PlainAttrs T)(slot:Slot T name id)(dN:typeOf (.builtin id)=pure (.type "method_descriptor"))(hm:MtM X id rr)(od:R8 X.K mt rr)(hT:TyD X.K T)
 (ho:PE X (.Name x xp) (n8 i)) (ha:QA X EX (e::es) fs)
 (aL:attributeBase (.Name x xp) name X.env (eval (.Name x xp) X.env)=eval (.Name x xp) X.env:=by rfl)
 (cx:((backTo ah (starEach (e::es) X.env)).all (fun x=>!x.1)&&(backToKw ah (keywordEach [] X.env)).all (fun x=>x.1.isSome)
  && decide ((e::es).length+([]:List Keyword).length+(if([]:List Keyword).isEmpty then 0 else 1)<30))=true:=by rfl)
 (aM:(aF.endLine==ah.line)=true:=by rfl) (hs:starEach (e::es) X.env=(false,eval e X.env)::starEach es X.env:=by rfl) (bg:(backTo ah (starEach es X.env)).any (·.1)=false:=by rfl)
 (cN:swapsWith (.Call (.Attribute (.Name x xp) name aF) (e::es) [] ah) none pos.line X.env=pure false:=by rfl) :
 QS X EX fr (.Expr (.Call (.Attribute (.Name x xp) name aF) (e::es) [] ah) pos) (B7 T mt i m fs):=⟨(Kv (Qc pa slot dN hm ho ha.h aL cx aM hs bg) cN).imp fun _ _ _ q=>Po od hT q⟩
def D9:D->D->D->Option D
 | .lst ds,.int i,v=>(ixN ds.length i).map fun j=>.lst (ds.set j v)
 | .dk ks ds,k,v=>if ks.length<100000 then(G1 k).map fun k=>.dk (D5 ks k) (m7 ks ds k v) else none
 | .dt ks ds,.tup es,v=>if ks.length<100000 then(N0 es).map fun k=>.dt (D5 ks k) (m7 ks ds k v) else none
 |_,_,_=>none
noncomputable def Pl:S5:=fun o i v H Q=>Qd o i v H Q\/∃a H',o=.ref a/\DPut H a i v H'/\Q H'
theorem y09(hu:X.A.units+64<cLine):Cz X Pl:=by
 intro pins s σ H o i v ov iv u Q I ro ri rv h;rcases h with h |⟨a,H',rfl,g,q⟩
 . exact yV pins s σ H o i v ov iv u Q I ro ri rv h
 . cases ro;exact zB (by lia) I g ri rv fun s' I'=>⟨H',I',q⟩
theorem vp{K:Frag}:Gu K D9 Pl:=by
 intro H0 H a d d' dk dv y v Q s h0 ob rk rv hm k;cases d<;>simp only[D9]at hm<;>first |cases hm |skip
 . cases dk<;>simp only[D9]at hm<;>first |cases hm |skip
   rename_i ds i;simp only[OB]at ob;obtain⟨xs,hx,rx⟩:=ob;cases rk.int;cases hj:ixN ds.length i with
   |none=>rw[hj]at hm;cases hm
   |some j=>
    rw[hj]at hm;cases hm
    refine .inl ⟨a,xs,i,j,rfl,rfl,hx,by rw[<-rx.length];exact hj,k _ ?_⟩
    simp only[OB]
    exact⟨_,k9,rx.set j rv⟩
 . rename_i ks ds;split at hm
   . rename_i hl;cases hk:G1 dk with
     |none=>rw[hk]at hm;cases hm
     |some kk=>
      rw[hk]at hm
      have hm:D.dk (D5 ks kk) (m7 ks ds kk dv)=d':=by simpa using hm
      subst hm
      simp only[OB]at ob
      obtain⟨xs,hx,ao,rx⟩:=ob
      cases Kl hk rk
      refine .inr ⟨a,_,rfl,DPut.k hx (by rw[EN,<-ao,Il];exact Q3 hl),k _ ?_⟩
      obtain⟨e1,e2⟩:=Vz kk v ao
      simp only[OB]
      exact⟨_,by rw[k9,e1],e2,Kj kk rv rx⟩
   . cases hm
 . rename_i ks ds;cases dk<;>simp only[D9]at hm<;>first |cases hm |skip
   rename_i es;split at hm
   . rename_i hl;cases hk:N0 es with
     |none=>rw[hk]at hm;cases hm
     |some kk=>
      rw[hk]at hm
      have hm:D.dt (D5 ks kk) (m7 ks ds kk dv)=d':=by simpa using hm
      subst hm
      simp only[OB]at ob
      obtain⟨xs,hx,ao,rx⟩:=ob
      obtain⟨b,ys,rfl,hb,rb⟩:=rk.tup
      have e:=Lj hk rb
      subst e
      refine .inr ⟨a,_,rfl,DPut.t hx (s _ _ hb) (by rw[EN,<-ao,Il];exact Q3 hl),k _ ?_⟩
      obtain⟨e1,e2⟩:=Vz kk v ao
      simp only[OB]
      exact⟨_,by rw[k9,e1],e2,Kj kk rv rx⟩
   . cases hm
theorem Pk(hu:X.A.units+64<cLine)(ho:PE X o (n8 i))(hk:QE X EX false ix fk)(hv:QE X EX false e fv)
 (ha:∀v,assign (.Subscript o ix am) X.env v=(do
  let ov <-holding [v] (eval o X.env)
  let iv <-holding [v,ov] (eval ix X.env)
  standAt am
  holding [v,ov,iv] (setItem ov iv v)
  release [v,ov,iv] []):=by intro _;rfl) (hs:swapsWithSole [.Subscript o ix am] e pos.line X.env=pure false:=by rfl) (hw:swappedStores [.Subscript o ix am] e X.env=pure none:=by rfl)
 (h1:(assignEach [.Subscript o ix am] X.env).map (·.2)=[assign (.Subscript o ix am) X.env]:=by rfl):QS X EX fr (.Assign [.Subscript o ix am] e pos) (G6 D9 i m fk fv):=⟨(Jo hv.h (Jp ho hk.h (y09 hu) ha) hs hw h1).imp fun _ _ _ q=>Ho vp q⟩
noncomputable def Hl:DE->R D:=fun _=>.ok (.dk [] [])
theorem vo:QE X EX true (.Dict [] [] pos) Hl:=⟨pe_dnewK.imp fun σ H Q ⟨sx,ρ,H0,s,e,h⟩ p hp=>h _ _ (.new s hp fun H' hH=>by simp only[OB];exact⟨[],hH,rfl,.nil⟩)⟩
end
theorem fnD{P:Program}{w:World}{K:Frag}{mg:Str->Option Value}{base:Heap}{x qual:Str}{st:Stmt}{f:Addr}{fd:FuncData}{N ps:List Str}{k n kk:Nat}{fr:Bool}{g:DS->SR}(F:Fun K x qual st f fd)(S:FnScope N ps (d7 st))(fG:ps.length=n)(hN:N.length=n+kk)
  (ck:∀(cdv:Value)(A:Around)(outer:List Env)(s:Shared)(H:Hp)(E:XK),Room k (A.deeper (envOfC qual (d7 st) s.heap.objs.size f cdv)) ->
   QB (G4 (CX1 P w) P w K mg base N qual (d7 st) f cdv A outer s H E) ⟨H,xNm K mg E⟩ fr (D7 st) g):FnOk P w K mg base (CX1 P w) (k+1) f fd ps (spD K mg fr (mOf fr n kk g) n):=by
 have ao:∀{vs:List V}{H:Hp}{Q:VK}{E:XK},spD K mg fr (mOf fr n kk g) n vs H Q E->vs.length=n:=fun {vs H Q E} h=>by obtain⟨ds,H0,s,r,hn,_⟩:=h;rw[<-r.length];exact hn
 refine F.okX S (fun vs H Q E h=>by rw[ao h,fG]) (fun cdv A outer s H vs Q E hr h=>⟨_,(ck cdv A outer s H E hr).h,?_⟩)
 have e:start N vs=vs.map some++List.replicate kk none:=by unfold start;rw[ao h,hN,Nat.add_sub_cancel_left]
 rw[e]
 exact vA h
noncomputable def spL(K:Frag)(fr:Bool)(m:List D->R D)(n:Nat):Sp:=fun vs H Q _=>∃ds H0,Same H0 H/\RDs K H0 ds vs/\ds.length=n/\Rk (fun _=>False) (m ds) fun d=>∀v H',Out K fr H0 H d v H'->Q v H'
theorem spL.spD{K:Frag}{fr:Bool}{m:List D->R D}{n:Nat}{vs:List V}{H:Hp}{Q:VK}{E:XK}{mg:Str->Option Value}(h:spL K fr m n vs H Q E):L2.spD K mg fr m n vs H Q E:=by
 obtain⟨ds,H0,s,r,hn,h⟩:=h;refine⟨ds,H0,s,r,hn,?_⟩;cases q:m ds with
 |ok d=>rw[q]at h;exact h
 |er x=>rw[q]at h;exact h.elim
 |st=>rw[q]at h;exact h.elim
theorem vn{K:Frag}{H:Hp}{a:Addr}{ns:List Int}{m:List D->R D}{fr:Bool}(hO:Cv H)(hS:SqL K H a (ns.map V.int))(h:m [.scr ns]=.ok (.bl true)):spL K fr m 1 [.ref a] H (fun v _=>v=.bl true) fun _ _ _=>False:=by
 refine⟨[.scr ns],H,Same.refl _,.one ?_,rfl,?_⟩
 . simp only[RD];refine⟨a,rfl,?_⟩;rcases hS with (hS |hS) |hS
   . rcases hO a with z |⟨o,xs,z⟩<;>rw[z]at hS<;>cases hS
   . exact .inl hS
   . exact .inr hS
 . rw[h];exact fun v H' o=>by obtain⟨_,aa,_,r⟩:=o.weak.rd;exact r.bl
end L2
namespace L2
open PySem PySem.Spec PyProof.Rows
open PySem.W (KasT kas_sort kas_rev kas_asc kas_desc kas_tail3 kas_descPart kas_count kas_place kas_bin)
end L2
namespace L2
open PySem PySem.Spec PyProof.Rows
open PySem.W (KasT kas_sort)
mutual
noncomputable def D.oi:D->Bool
 | .int _=>true
 | .tup ds=>ois ds
 |_=>false
noncomputable def ois:List D->Bool
 | []=>true
 |d::ds=>d.oi&&ois ds
end
mutual
noncomputable def ltT:D->D->Bool
 | .int i,.int j=>decide (i<j)
 | .int _,.tup _=>true
 | .tup ds,.tup es=>ltTs ds es
 |_,_=>false
noncomputable def ltTs:List D->List D->Bool
 | [],[]=>false
 | [],_::_=>true
 |_::_,[]=>false
 |d::ds,e::es=>if eqD d e=true then ltTs ds es else ltT d e
end
mutual
noncomputable def d5:D->D->Option Bool
 | .int i,.int j=>some (decide (i<j))
 | .tup ds,.tup es=>j5 ds es
 |_,_=>none
noncomputable def j5:List D->List D->Option Bool
 | [],[]=>some false
 | [],_::_=>some true
 |_::_,[]=>some false
 |d::ds,e::es=>if eqD d e=true then j5 ds es else d5 d e
end
mutual
theorem Rv:∀{d e:D}{b:Bool},d5 d e=some b->b=ltT d e
 | .int i,.int j,b,h=>by simp only[d5,Option.some.injEq]at h;simp only[ltT];exact h.symm
 | .tup ds,.tup es,b,h=>by simp only[d5]at h;simp only[ltT];exact Ul h
 | .non,e,b,h=>by simp[d5]at h
 | .bl _,e,b,h=>by simp[d5]at h
 | .str _,e,b,h=>by simp[d5]at h
 | .lst _,e,b,h=>by simp[d5]at h
 | .dk _ _,e,b,h=>by simp[d5]at h
 | .dt _ _,e,b,h=>by simp[d5]at h
 | .dn _ _,e,b,h=>by simp[d5]at h
 | .scr _,e,b,h=>by simp[d5]at h
 | .exc _ _,e,b,h=>by simp[d5]at h
 | .int _,.non,b,h=>by simp[d5]at h
 | .int _,.bl _,b,h=>by simp[d5]at h
 | .int _,.str _,b,h=>by simp[d5]at h
 | .int _,.lst _,b,h=>by simp[d5]at h
 | .int _,.tup _,b,h=>by simp[d5]at h
 | .int _,.dk _ _,b,h=>by simp[d5]at h
 | .int _,.dt _ _,b,h=>by simp[d5]at h
 | .int _,.dn _ _,b,h=>by simp[d5]at h
 | .int _,.scr _,b,h=>by simp[d5]at h
 | .int _,.exc _ _,b,h=>by simp[d5]at h
 | .tup _,.non,b,h=>by simp[d5]at h
 | .tup _,.bl _,b,h=>by simp[d5]at h
 | .tup _,.int _,b,h=>by simp[d5]at h
 | .tup _,.str _,b,h=>by simp[d5]at h
 | .tup _,.lst _,b,h=>by simp[d5]at h
 | .tup _,.dk _ _,b,h=>by simp[d5]at h
 | .tup _,.dt _ _,b,h=>by simp[d5]at h
 | .tup _,.dn _ _,b,h=>by simp[d5]at h
 | .tup _,.scr _,b,h=>by simp[d5]at h
 | .tup _,.exc _ _,b,h=>by simp[d5]at h
theorem Ul:∀{ds es:List D}{b:Bool},j5 ds es=some b->b=ltTs ds es
 | [],[],b,h=>by simp only[j5,Option.some.injEq]at h;simp only[ltTs];exact h.symm
 | [],_::_,b,h=>by simp only[j5,Option.some.injEq]at h;simp only[ltTs];exact h.symm
 |_::_,[],b,h=>by simp only[j5,Option.some.injEq]at h;simp only[ltTs];exact h.symm
 |d::ds,e::es,b,h=>by
  simp only[j5]at h;simp only[ltTs];split at h
  . rename_i q;rw[ζ q];exact Ul h
  . rename_i q;rw[ξ q];exact Rv h
end
mutual
theorem M8:∀{d e:D},d.oi=true->eqD d e=true->e.oi=true->d=e
 | .int i,.int j,_,h,_=>by simp only[eqD,Im]at h;rw[h]
 | .tup ds,.tup es,p,h,q=>by simp only[eqD]at h;simp only[D.oi]at p q;rw[Ru p h q]
 | .int i,.tup _,_,h,_=>by simp[eqD]at h
 | .tup _,.int _,_,h,_=>by simp[eqD]at h
 | .int _,.non,_,_,q=>by simp[D.oi]at q
 | .int _,.bl _,_,_,q=>by simp[D.oi]at q
 | .int _,.str _,_,_,q=>by simp[D.oi]at q
 | .int _,.lst _,_,_,q=>by simp[D.oi]at q
 | .int _,.dk _ _,_,_,q=>by simp[D.oi]at q
 | .int _,.dt _ _,_,_,q=>by simp[D.oi]at q
 | .int _,.dn _ _,_,_,q=>by simp[D.oi]at q
 | .int _,.scr _,_,_,q=>by simp[D.oi]at q
 | .int _,.exc _ _,_,_,q=>by simp[D.oi]at q
 | .tup _,.non,_,_,q=>by simp[D.oi]at q
 | .tup _,.bl _,_,_,q=>by simp[D.oi]at q
 | .tup _,.str _,_,_,q=>by simp[D.oi]at q
 | .tup _,.lst _,_,_,q=>by simp[D.oi]at q
 | .tup _,.dk _ _,_,_,q=>by simp[D.oi]at q
 | .tup _,.dt _ _,_,_,q=>by simp[D.oi]at q
 | .tup _,.dn _ _,_,_,q=>by simp[D.oi]at q
 | .tup _,.scr _,_,_,q=>by simp[D.oi]at q
 | .tup _,.exc _ _,_,_,q=>by simp[D.oi]at q
 | .non,_,p,_,_=>by simp[D.oi]at p
 | .bl _,_,p,_,_=>by simp[D.oi]at p
 | .str _,_,p,_,_=>by simp[D.oi]at p
 | .lst _,_,p,_,_=>by simp[D.oi]at p
 | .dk _ _,_,p,_,_=>by simp[D.oi]at p
 | .dt _ _,_,p,_,_=>by simp[D.oi]at p
 | .dn _ _,_,p,_,_=>by simp[D.oi]at p
 | .scr _,_,p,_,_=>by simp[D.oi]at p
 | .exc _ _,_,p,_,_=>by simp[D.oi]at p
theorem Ru:∀{ds es:List D},ois ds=true->n6 ds es=true->ois es=true->ds=es
 | [],[],_,_,_=>rfl
 | [],_::_,_,h,_=>by simp[n6]at h
 |_::_,[],_,h,_=>by simp[n6]at h
 |d::ds,e::es,p,h,q=>by simp only[n6,ng]at h;simp only[ois,ng]at p q;rw[M8 p.1 h.1 q.1,Ru p.2 h.2 q.2]
end
mutual
theorem V7:∀{d:D},d.oi=true->eqD d d=true
 | .int i,_=>by simp[eqD]
 | .tup ds,p=>by simp only[eqD];exact Vx (by simpa only [D.oi] using p)
 | .non,p=>by simp[D.oi]at p
 | .bl _,p=>by simp[D.oi]at p
 | .str _,p=>by simp[D.oi]at p
 | .lst _,p=>by simp[D.oi]at p
 | .dk _ _,p=>by simp[D.oi]at p
 | .dt _ _,p=>by simp[D.oi]at p
 | .dn _ _,p=>by simp[D.oi]at p
 | .scr _,p=>by simp[D.oi]at p
 | .exc _ _,p=>by simp[D.oi]at p
theorem Vx:∀{ds:List D},ois ds=true->n6 ds ds=true
 | [],_=>rfl
 |d::ds,p=>by simp only[ois,ng]at p;simp only[n6,V7 p.1,Vx p.2,EM]
end
mutual
theorem Ee:∀{d e:D},d.oi=true->e.oi=true->ltT d e=false->ltT e d=false->d=e
 | .int i,.int j,_,_,h,h'=>by
  simp only[ltT,CS]at h h';have:i=j:=by lia
  rw[this]
 | .tup ds,.tup es,p,q,h,h'=>by simp only[ltT]at h h';simp only[D.oi]at p q;rw[Uk p q h h']
 | .int _,.tup _,_,_,h,_=>by simp[ltT]at h
 | .tup _,.int _,_,_,_,h=>by simp[ltT]at h
 | .int _,.non,_,q,_,_=>by simp[D.oi]at q
 | .int _,.bl _,_,q,_,_=>by simp[D.oi]at q
 | .int _,.str _,_,q,_,_=>by simp[D.oi]at q
 | .int _,.lst _,_,q,_,_=>by simp[D.oi]at q
 | .int _,.dk _ _,_,q,_,_=>by simp[D.oi]at q
 | .int _,.dt _ _,_,q,_,_=>by simp[D.oi]at q
 | .int _,.dn _ _,_,q,_,_=>by simp[D.oi]at q
 | .int _,.scr _,_,q,_,_=>by simp[D.oi]at q
 | .int _,.exc _ _,_,q,_,_=>by simp[D.oi]at q
 | .tup _,.non,_,q,_,_=>by simp[D.oi]at q
 | .tup _,.bl _,_,q,_,_=>by simp[D.oi]at q
 | .tup _,.str _,_,q,_,_=>by simp[D.oi]at q
 | .tup _,.lst _,_,q,_,_=>by simp[D.oi]at q
 | .tup _,.dk _ _,_,q,_,_=>by simp[D.oi]at q
 | .tup _,.dt _ _,_,q,_,_=>by simp[D.oi]at q
 | .tup _,.dn _ _,_,q,_,_=>by simp[D.oi]at q
 | .tup _,.scr _,_,q,_,_=>by simp[D.oi]at q
 | .tup _,.exc _ _,_,q,_,_=>by simp[D.oi]at q
 | .non,_,p,_,_,_=>by simp[D.oi]at p
 | .bl _,_,p,_,_,_=>by simp[D.oi]at p
 | .str _,_,p,_,_,_=>by simp[D.oi]at p
 | .lst _,_,p,_,_,_=>by simp[D.oi]at p
 | .dk _ _,_,p,_,_,_=>by simp[D.oi]at p
 | .dt _ _,_,p,_,_,_=>by simp[D.oi]at p
 | .dn _ _,_,p,_,_,_=>by simp[D.oi]at p
 | .scr _,_,p,_,_,_=>by simp[D.oi]at p
 | .exc _ _,_,p,_,_,_=>by simp[D.oi]at p
theorem Uk:∀{ds es:List D},ois ds=true->ois es=true->ltTs ds es=false->ltTs es ds=false->ds=es
 | [],[],_,_,_,_=>rfl
 | [],_::_,_,_,h,_=>by simp[ltTs]at h
 |_::_,[],_,_,_,h=>by simp[ltTs]at h
 |d::ds,e::es,p,q,h,h'=>by
  simp only[ois,ng]at p q;simp only[ltTs]at h h';by_cases w:eqD d e=true
  . have:=M8 p.1 w q.1;subst this;rw[ζ w]at h;rw[ζ w]at h';rw[Uk p.2 q.2 h h']
  . have w':¬eqD e d=true:=fun z=>w (by rw[M8 q.1 z p.1];exact V7 p.1)
    rw[ξ w]at h;rw[ξ w']at h';have:=Ee p.1 q.1 h h';subst this;exact absurd (V7 p.1) w
end
mutual
theorem Jk:∀{d:D},d.oi=true->ltT d d=false
 | .int i,_=>by simp[ltT]
 | .tup ds,p=>by simp only[ltT];exact Uj (by simpa only [D.oi] using p)
 | .non,p=>by simp[D.oi]at p
 | .bl _,p=>by simp[D.oi]at p
 | .str _,p=>by simp[D.oi]at p
 | .lst _,p=>by simp[D.oi]at p
 | .dk _ _,p=>by simp[D.oi]at p
 | .dt _ _,p=>by simp[D.oi]at p
 | .dn _ _,p=>by simp[D.oi]at p
 | .scr _,p=>by simp[D.oi]at p
 | .exc _ _,p=>by simp[D.oi]at p
theorem Uj:∀{ds:List D},ois ds=true->ltTs ds ds=false
 | [],_=>rfl
 |d::ds,p=>by simp only[ois,ng]at p;simp only[ltTs];rw[ζ (V7 p.1)];exact Uj p.2
end
mutual
theorem Dp:∀{d e f:D},d.oi=true->e.oi=true->f.oi=true->ltT d e=true->ltT e f=true->ltT d f=true
 | .int i,.int j,.int k,_,_,_,h,h'=>by
  simp only[ltT,mV]at h h'⊢
  lia
 | .int i,.int j,.tup _,_,_,_,h,h'=>by simp only[ltT]
 | .int i,.tup _,.tup _,_,_,_,h,h'=>by simp only[ltT]
 | .tup ds,.tup es,.tup fs,p,q,r,h,h'=>by simp only[ltT]at h h'⊢;simp only[D.oi]at p q r;exact Rt p q r h h'
 | .int i,.tup _,.int _,_,_,_,h,h'=>by simp[ltT]at h'
 | .tup _,.int _,_,_,_,_,h,h'=>by simp[ltT]at h
 | .tup _,.tup _,.int _,_,_,_,h,h'=>by simp[ltT]at h'
 | .non,_,_,p,_,_,_,_=>by simp[D.oi]at p
 | .bl _,_,_,p,_,_,_,_=>by simp[D.oi]at p
 | .str _,_,_,p,_,_,_,_=>by simp[D.oi]at p
 | .lst _,_,_,p,_,_,_,_=>by simp[D.oi]at p
 | .dk _ _,_,_,p,_,_,_,_=>by simp[D.oi]at p
 | .dt _ _,_,_,p,_,_,_,_=>by simp[D.oi]at p
 | .dn _ _,_,_,p,_,_,_,_=>by simp[D.oi]at p
 | .scr _,_,_,p,_,_,_,_=>by simp[D.oi]at p
 | .exc _ _,_,_,p,_,_,_,_=>by simp[D.oi]at p
 |_,.non,_,_,p,_,_,_=>by simp[D.oi]at p
 |_,.bl _,_,_,p,_,_,_=>by simp[D.oi]at p
 |_,.str _,_,_,p,_,_,_=>by simp[D.oi]at p
 |_,.lst _,_,_,p,_,_,_=>by simp[D.oi]at p
 |_,.dk _ _,_,_,p,_,_,_=>by simp[D.oi]at p
 |_,.dt _ _,_,_,p,_,_,_=>by simp[D.oi]at p
 |_,.dn _ _,_,_,p,_,_,_=>by simp[D.oi]at p
 |_,.scr _,_,_,p,_,_,_=>by simp[D.oi]at p
 |_,.exc _ _,_,_,p,_,_,_=>by simp[D.oi]at p
 |_,_,.non,_,_,p,_,_=>by simp[D.oi]at p
 |_,_,.bl _,_,_,p,_,_=>by simp[D.oi]at p
 |_,_,.str _,_,_,p,_,_=>by simp[D.oi]at p
 |_,_,.lst _,_,_,p,_,_=>by simp[D.oi]at p
 |_,_,.dk _ _,_,_,p,_,_=>by simp[D.oi]at p
 |_,_,.dt _ _,_,_,p,_,_=>by simp[D.oi]at p
 |_,_,.dn _ _,_,_,p,_,_=>by simp[D.oi]at p
 |_,_,.scr _,_,_,p,_,_=>by simp[D.oi]at p
 |_,_,.exc _ _,_,_,p,_,_=>by simp[D.oi]at p
theorem Rt:∀{ds es fs:List D},ois ds=true->ois es=true->ois fs=true->ltTs ds es=true->ltTs es fs=true->ltTs ds fs=true
 | [],_,_::_,_,_,_,_,_=>by simp only[ltTs]
 |_,[],[],_,_,_,_,h=>by simp[ltTs]at h
 |_::_,[],_,_,_,_,h,_=>by simp[ltTs]at h
 |_,_::_,[],_,_,_,_,h=>by simp[ltTs]at h
 |d::ds,e::es,f::fs,p,q,r,h,h'=>by
  simp only[ois,ng]at p q r;simp only[ltTs]at h h'⊢;by_cases w:eqD d e=true
  . have:=M8 p.1 w q.1;subst this;rw[ζ w]at h;by_cases w2:eqD d f=true
    . rw[ζ w2]at h'⊢;exact Rt p.2 q.2 r.2 h h'
    . rw[ξ w2]at h'⊢;exact h'
  . rw[ξ w]at h;by_cases w2:eqD e f=true
    . have:=M8 q.1 w2 r.1;subst this;rw[ξ w];exact h
    . rw[ξ w2]at h';have h3:=Dp p.1 q.1 r.1 h h';by_cases w3:eqD d f=true
      . have:=M8 p.1 w3 r.1;subst this;rw[Jk p.1]at h3;cases h3
      . rw[ξ w3];exact h3
end
theorem Kh:∀{ds:List D}{i:Nat},ois ds=true->(ds.getD i (.int 0)).oi=true
 | [],i,_=>by simp[D.oi]
 |d::ds,0,h=>by simp only[ois,ng]at h;simpa using h.1
 |d::ds,i+1,h=>by simp only[ois,ng]at h;simpa using Kh (i:=i) h.2
def ltI(ds:List D)(i j:Nat):Bool:=ltT (ds.getD i (.int 0)) (ds.getD j (.int 0))
def F9(d:D):List D->List D
 | []=>[d]
 |e::r=>if ltT e d=true then e::F9 d r else d::e::r
def u8:List D->List D
 | []=>[]
 |d::r=>F9 d (u8 r)
theorem Mc(d:D):∀l:List D,(F9 d l).Perm (d::l)
 | []=>.refl _
 |e::r=>by
  unfold F9;split
  . exact((Mc d r).cons e).trans (.swap d e r)
  . exact .refl _
theorem O2:∀l:List D,(u8 l).Perm l
 | []=>.refl _
 |d::r=>(Mc d (u8 r)).trans ((O2 r).cons d)
theorem ois_mem:∀{ds:List D},ois ds=true↔∀d∈ds,d.oi=true
 | []=>by simp[ois]
 |d::ds=>by simp[ois,ois_mem (ds:=ds)]
def Srt(l:List D):Prop:=l.Pairwise fun a b=>ltT b a=false
theorem Vw:∀{l:List D},d.oi=true->ois l=true->Srt l->Srt (F9 d l)
 | [],_,_,_=>by simp[F9,Srt]
 |e::r,hd,hl,hs=>by
  simp only[ois,ng]at hl;obtain⟨h1,h2⟩:=FP.mp hs;unfold F9;split
  . rename_i aC;refine FP.mpr ⟨fun x hx=>?_,Vw hd hl.2 h2⟩;rcases gD.mp ((Mc d r).mem_iff.mp hx) with rfl |hx
    . cases hq:ltT x e with
      |false=>rfl
      |true=>
       have:=Dp hl.1 hd hl.1 aC hq
       rw[Jk hl.1]at this;cases this
    . exact h1 x hx
  . rename_i aC;have aC:ltT e d=false:=by simpa using aC
    refine FP.mpr ⟨fun x hx=>?_,hs⟩;rcases gD.mp hx with rfl |hx
    . exact aC
    . have sR:=(ois_mem.mp hl.2) x hx;cases hq:ltT x d with
      |false=>rfl
      |true=>
       have h3:=h1 x hx
       cases hy:ltT d e with
       |true=>rw[Dp sR hd hl.1 hq hy]at h3;cases h3
       |false=>
        rw[Ee hd hl.1 hy aC]at hq
        rw[hq]at h3;cases h3
theorem Ft(p:l.Perm l')(h:ois l'=true):ois l=true:=ois_mem.mpr fun d hd=>(ois_mem.mp h) d (p.mem_iff.mp hd)
theorem X1:∀{l:List D},ois l=true->Srt (u8 l)
 | [],_=>.nil
 |d::r,h=>by simp only[ois,ng]at h;exact Vw h.1 (Ft (O2 r) h.2) (X1 h.2)
theorem Bj:∀{l l':List D},ois l=true->l.Perm l'->Srt l->Srt l'->l=l'
 | [],l',_,p,_,_=>by rw[p.nil_eq]
 |a::r,[],_,p,_,_=>by have:=p.length_eq;simp at this
 |a::r,b::r',h,p,s,s'=>by
  have h':=h;simp only[ois,ng]at h;obtain⟨h1,h2⟩:=FP.mp s;obtain⟨h3,h4⟩:=FP.mp s';have hb:b∈a::r:=p.mem_iff.mpr io;have ha:a∈b::r':=p.mem_iff.mp io;have sS:=(ois_mem.mp h') b hb;have e:a=b:=by
   rcases gD.mp hb with z |z
   . exact z.symm
   . rcases gD.mp ha with w |w
     . exact w
     . exact Ee h.1 sS (h3 a w) (h1 b z)
  subst e;rw[Bj h.2 (List.perm_cons a |>.mp p) h2 h4]
end L2
namespace L2
open PySem PySem.Spec PyProof.Rows
open PySem.W (KasT kas_sort kas_rev kas_asc kas_desc kas_tail3 kas_descPart kas_count kas_place kas_bin)
def RcLt(A:Around)(s:Shared)(x y:Value)(b:Bool):Prop:=∀(prog:Program)(w:World)(E:Value->Shared->Prop)(Q:Value->Shared->Prop),Q (.bool b) s->wpAny (model prog w) A (richCompare .Lt x y) Q E s
inductive LexR (A:Around) (s:Shared):List Value->List Value->Bool->Prop
 |nn:LexR A s [] [] false
 |nc {w ws}:LexR A s [] (w::ws) true
 |cn {v vs}:LexR A s (v::vs) [] false
 |eq {v w vs ws b} (h:SeqAt.EqAt A s v w true) (r:LexR A s vs ws b):LexR A s (v::vs) (w::ws) b
 |lt {v w vs ws b} (h:SeqAt.EqAt A s v w false) (r:RcLt A s v w b):LexR A s (v::vs) (w::ws) b
section
open PySem.SeqAt
open PySem.AutoSeq1 (wpAny_loadPart')
open PySem.MeetsSeq PySem.MeetsSeq2 PySem.MeetsSeq3
theorem zZ(l b:Addr)(items bh:Array Value)(n n2:Nat)(dd mj:Option Addr)(sl iB:Array (Option Value))(r:Bool) :
  Meets (Builtin.«tuple.__lt__» ⟨[.ref l,.ref b],[]⟩)
   (fun A R s=>s.heap.get? l=some { cls:=.type "tuple",dict:=dd,data:=.seq items n,slots:=sl }/\s.heap.get? b=some { cls:=.type "tuple",dict:=mj,data:=.seq bh n2,slots:=iB } /\
    LexR A.in1 s items.toList bh.toList r/\R (.ok (.ret (.bool r))) s):=
 .of_wp fun prog w A R s h=>by
  obtain⟨hp,g,d,tk,os⟩:=s;obtain⟨hl,hb,hL,h⟩:=h;have f2:=AutoSeq1.sub_tuple_tuple
  wp_walk using DX hl,DX hb,wpAny_forIn_list _ (fun rest b s'=>b.1=none/\s'=⟨hp,g,d,tk,os⟩/\∃(vs ws:List Value)(r':Bool),rest=vs.zip ws /\
   LexR A.in1 ⟨hp,g,d,tk,os⟩ vs ws r'/\vs.length+bh.size=ws.length+items.size/\R (.ok (.ret (.bool r'))) ⟨hp,g,d,tk,os⟩) _
  case turn=>
   rintro⟨y,x⟩ rest b s' ⟨eW,rfl,vs,ws,r',hz,ml,ao,hR⟩
   cases ml with
   |nn=>rw[Is]at hz;cases hz
   |nc=>rw[Is]at hz;cases hz
   |cn=>rw[List.zip_nil_right]at hz;cases hz
   |eq he hr=>
    rw[CW]at hz
    injection hz with mn fS
    injection mn with hy hx
    subst hy hx
    simp only[pp]at ao
    refine δ (he prog w _ _ ?_)
    wp_walk
    exact⟨rfl,rfl,_,_,_,fS,hr,by lia,hR⟩
   |lt he hr=>
    rw[CW]at hz
    injection hz with mn fS
    injection mn with hy hx
    subst hy hx
    refine δ (he prog w _ _ ?_)
    have sT:=hr prog w
    wp_walk using sT
    exact⟨_,rfl,by simpa using hR⟩
  case fin=>
   rintro⟨b1,b2⟩ s' ⟨eW,rfl,vs,ws,r',hz,ml,ao,hR⟩
   simp only at eW
   subst eW
   have hv:r'=decide (items.size<bh.size):=by
    cases ml with
    |nn=>simp only[FV]at ao;exact(decide_eq_false (by lia)).symm
    |nc=>simp only[FV,pp]at ao;exact(decide_eq_true (by lia)).symm
    |cn=>simp only[FV,pp]at ao;exact(decide_eq_false (by lia)).symm
    |eq _ _=>rw[CW]at hz;cases hz
    |lt _ _=>rw[CW]at hz;cases hz
   rw[hv]at hR
   wp_walk
   exact⟨_,rfl,by simpa [Builtin.Tuple.tupleCompareSizes] using hR⟩
  case h=>exact⟨rfl,rfl,items.toList,bh.toList,r,rfl,hL,by simp;lia,h⟩
theorem RcLt.tuples{A:Around}{s:Shared}{l b:Addr}{items bh:Array Value}{r:Bool}(hl:s.heap.IsTuple l items)(hb:s.heap.IsTuple b bh)(hL:LexR A.in1 s items.toList bh.toList r)(hu:A.units<cLine):RcLt A s (.ref l) (.ref b) r:=fun prog w E Q h=>by
 obtain⟨⟨cls,dd,data,sl⟩,ho,hc,n,hd⟩:=id hl;obtain⟨⟨AQ,mj,data2,iB⟩,iC,iD,n2,fc⟩:=id hb;simp only at hc hd iD fc;subst hc hd iD fc;exact richCompare_meets_room (op:=.Lt) ⟨_,ho,rfl⟩ ⟨_,iC,rfl⟩ PySem.F.slot_tuple_lt PySem.F.entry_tuple_lt (PySem.F.args_tuple_lt_2 _ _) (zZ l b items bh n n2 dd mj sl iB r)
  ⟨ho,iC,hL,show Value.bool r≠Value.notImplemented/\Q (.bool r) s from⟨(fun x=>nomatch x),h⟩⟩ hu
end
mutual
theorem Z5:∀{d:D},d.oi=true->d.pl=true
 | .int _,_=>rfl
 | .tup ds,h=>by simp only[D.pl];exact Rs (by simpa only [D.oi] using h)
 | .non,p=>by simp[D.oi]at p
 | .bl _,p=>by simp[D.oi]at p
 | .str _,p=>by simp[D.oi]at p
 | .lst _,p=>by simp[D.oi]at p
 | .dk _ _,p=>by simp[D.oi]at p
 | .dt _ _,p=>by simp[D.oi]at p
 | .dn _ _,p=>by simp[D.oi]at p
 | .scr _,p=>by simp[D.oi]at p
 | .exc _ _,p=>by simp[D.oi]at p
theorem Rs:∀{ds:List D},ois ds=true->pls ds=true
 | [],_=>rfl
 |d::ds,h=>by simp only[ois,ng]at h;simp only[pls,Z5 h.1,Rs h.2,EM]
end
section
variable {X:Cx}{pins:List (Addr×Obj)}{σ:St}{H:Hp}{s:Shared}
theorem Rr(I:Inv X pins σ H s)(hu:A.units+n<cLine)(lt:∀{d e:D}{x y:V}{u v:Value}{b:Bool},d.oi=true->e.oi=true->d.dep<=n->RD X.K H d x->RD X.K H e y->RelV x u->RelV y v->d5 d e=some b->RcLt A s u v b) :
  ∀{ds es:List D}{xs ys:List V}{us vs:List Value}{b:Bool},ois ds=true->ois es=true->h7 ds<=n->RDs X.K H ds xs->RDs X.K H es ys->Vals xs us->Vals ys vs->j5 ds es=some b->LexR A s us vs b
 | [],[],_,_,_,_,b,_,_,_,r1,r2,q1,q2,h=>by simp only[RDs]at r1 r2;subst r1;subst r2;cases q1;cases q2;simp only[j5,Option.some.injEq]at h;subst h;exact .nn
 | [],e::es,_,_,_,_,b,_,_,_,r1,r2,q1,q2,h=>by simp only[RDs]at r1 r2;subst r1;obtain⟨y,ys,rfl,_,_⟩:=r2;cases q1;cases q2;simp only[j5,Option.some.injEq]at h;subst h;exact .nc
 |d::ds,[],_,_,_,_,b,_,_,_,r1,r2,q1,q2,h=>by simp only[RDs]at r1 r2;subst r2;obtain⟨y,ys,rfl,_,_⟩:=r1;cases q1;cases q2;simp only[j5,Option.some.injEq]at h;subst h;exact .cn
 |d::ds,e::es,_,_,_,_,b,p1,p2,hd,r1,r2,q1,q2,h=>by
  simp only[RDs]at r1 r2;obtain⟨x,xs,rfl,rx,gG⟩:=r1;obtain⟨y,ys,rfl,ry,gH⟩:=r2;simp only[ois,ng]at p1 p2;simp only[h7]at hd;cases q1 with
  |cons a1 a2=>
   cases q2 with
   |cons b1 b2=>
    have eq:=Eo (A:=A) I n (Z5 p1.1) (Z5 p2.1) (by lia) hu rx ry a1 b1
    simp only[j5]at h
    split at h
    . rename_i w;rw[w]at eq;exact .eq eq (Rr I hu lt p1.2 p2.2 (by lia) gG gH a2 b2 h)
    . rename_i w;rw[show eqD d e=false by simpa using w]at eq;exact .lt eq (lt p1.1 p2.1 (by lia) rx ry a1 b1 h)
theorem Wz(h:d5 d e=some b):(∃i j,d=.int i/\e=.int j/\b=decide (i<j))\/∃ds es,d=.tup ds/\e=.tup es/\j5 ds es=some b:=by
 cases d with
 |int i=>cases e with
  |int j=>exact .inl ⟨_,_,rfl,rfl,(Option.some.inj h).symm⟩
  |_=>exact nomatch h
 |tup ds=>cases e with
  |tup es=>exact .inr ⟨_,_,rfl,rfl,h⟩
  |_=>exact nomatch h
 |_=>exact nomatch h
theorem vm(I:Inv X pins σ H s):∀(n:Nat){A:Around}{d e:D}{x y:V}{u v:Value}{b:Bool},A.units+n<cLine->d.oi=true->e.oi=true->d.dep<=n->RD X.K H d x->RD X.K H e y->RelV x u->RelV y v->d5 d e=some b->RcLt A s u v b:=by
 intro n;induction n with
 |zero=>
  intro A d e x y u v b hu p1 p2 hd rx ry ru rv h
  rcases Wz h with⟨i,j,rfl,rfl,rfl⟩ |⟨ds,es,rfl,rfl,h⟩
  . cases rx.int;cases ry.int;obtain⟨t,rfl⟩:=ru;obtain⟨t',rfl⟩:=rv;exact fun prog w E Q q=>HT.rcLt_int A s _ _ _ _ prog w E Q q
  . simp only[D.dep]at hd;lia
 |succ n ih=>
  intro A d e x y u v b hu p1 p2 hd rx ry ru rv h
  rcases Wz h with⟨i,j,rfl,rfl,rfl⟩ |⟨ds,es,rfl,rfl,h⟩
  . cases rx.int;cases ry.int;obtain⟨t,rfl⟩:=ru;obtain⟨t',rfl⟩:=rv;exact fun prog w E Q q=>HT.rcLt_int A s _ _ _ _ prog w E Q q
  . obtain⟨a,xs,rfl,ha,ra⟩:=rx.tup;obtain⟨c,ys,rfl,hc,rc⟩:=ry.tup;cases ru;cases rv;obtain⟨its,r1,t1⟩:=I.tupA ha;obtain⟨ax,r2,t2⟩:=I.tupA hc;simp only[D.dep]at hd;simp only[D.oi]at p1 p2;have oJ:A.in1.units+n<cLine:=by show A.units+1+n<cLine;lia
    exact RcLt.tuples t1 t2 (Rr I oJ (fun {d e x y u v b} q1 q2 q3 q4 q5 q6 q7 q8=>ih oJ q1 q2 q3 q4 q5 q6 q7 q8) p1 p2 (by lia) ra rc r1 r2 h) (by lia)
end
end L2
namespace L2
open PySem PySem.Spec PyProof.Rows
section
variable {prog:Program}{w:World}{A:Around}{E:Value->Shared->Prop}{s:Shared}
theorem zY(ho:s.heap.get? a=some (seqObj "list" vs.toArray n))(hs:vs.length<2)
  (h:P (.done (.ret .none)) { s with heap:=sortedHeap s.heap a vs ((pairsOf vs).map (·.2)) }):wpAny (model prog w) A (Builtin.«list.sort» ⟨[.ref a],[]⟩) P E s:=by
 rw[list_sort_plain]
 have ha:a<s.heap.objs.size:=Ξ ho
 refine δ (listItems_at ho rfl ?_)
 refine δ (listUpdate_at ho rfl ?_)
 obtain⟨e1,oK⟩:∃e1,(s.heap.update a (Obj.mapSeq fun _=>#[])).get? a=some (seqObj "list" #[] e1):=⟨_,get?_update_seq ho (fun _=>#[])⟩
 refine δ (seqEpoch_at oK rfl ?_)
 refine δ (wpAny_newTuple ?_)
 refine δ (wpAny_newList ?_)
 refine EJ ?_
 have oM:(((s.heap.update a (Obj.mapSeq fun _=>#[])).push (seqObj "tuple" vs.toArray 0)).push (seqObj "list" #[] 0)).get? a=some (seqObj "list" #[] e1):=by rw[Heap.get?_push_ne _ _ _ (by rw[size_push',GL];exact CY (Nat.lt_succ_of_lt ha)),Heap.get?_push_ne _ _ _ (by rw[GL];exact CY ha)];exact oK
 show wpAny (model prog w) A _ P E { s with heap:=((s.heap.update a (Obj.mapSeq fun _=>#[])).push (seqObj "tuple" vs.toArray 0)).push (seqObj "list" #[] 0) }
 dsimp only
 have hsz:vs.toArray.size=vs.length:=by simp
 have h2:vs.toArray.size<2:=by rw[hsz];exact hs
 rw[ζ h2,ζ h2]
 refine δ (π ?_)
 rw[StateT.run_pure]
 refine δ (π ?_)
 dsimp only
 refine δ (seqEpoch_at oM rfl ?_)
 refine δ (listUpdate_at oM rfl ?_ (hsz2:=by rw[Array.size_map];show(pairsOf vs).size<=_;rw[pairsOf_size,Ib];lia))
 simp only[bne_self_eq_false,CM,DR]
 exact π h
theorem zcl(hl:s.heap.IsList l vs.toArray)(hs:vs.length<2)
  (h:Q (.ref (s.heap.objs.size+1)) { s with heap:=sortedAll s.heap vs ((pairsOf vs).map (·.2)) }):wpAny (model prog w) A (call (.builtin "sorted") [.ref l]) Q E s:=by
 refine Calls.call_function_entry kind_sorted plain_sorted entry_sorted (args_sorted1 _) ?_
 unfold Builtin.«sorted»
 refine δ (m:=checkCount "sorted" 1 1 _) (π ?_)
 refine δ (collect_list hl ?_ (by rw[Ib];omega))
 refine δ (wpAny_newList ?_ (by rw[Ib];omega))
 have hsz:((s.heap.push (seqObj "list" #[] 0)).update s.heap.objs.size (Obj.mapSeq (·++vs.toArray))).objs.size=s.heap.objs.size+1:=by rw[GL,size_push']
 have ij:(((s.heap.push (seqObj "list" #[] 0)).update s.heap.objs.size (Obj.mapSeq (·++vs.toArray))).push (seqObj "list" vs.toArray 0)).get? (s.heap.objs.size+1)=some (seqObj "list" vs.toArray 0):=by rw[<-hsz];exact Ω _ rfl
 show wpAny _ _ _ _ _ { s with heap:=((s.heap.push (seqObj "list" #[] 0)).update s.heap.objs.size (Obj.mapSeq (·++vs.toArray))).push (seqObj "list" vs.toArray 0) }
 rw[hsz]
 refine δ (EJ (wpAny_call_entry slot_list_sort ⟨_,ij,rfl⟩ entry_list_sort (zY ij hs ⟨_,rfl,?_⟩) (args_list_sort _)))
 exact π ⟨_,rfl,h⟩
end
noncomputable def isI:D->Bool
 | .int _=>true
 |_=>false
noncomputable def D8:D->Bool
 | .tup (.int _::_)=>true
 |_=>false
noncomputable def K8:D->Bool
 | .tup (.tup _::_)=>true
 |_=>false
theorem RDs.pick{K:Frag}{H:Hp}{ds:List D}{ys:List V}(r:RDs K H ds ys):∀{is:List Nat},(∀i∈is,i<ys.length)->RDs K H (is.map fun i=>ds.getD i (.int 0)) (is.map fun i=>ys.getD i .non)
 | [],_=>by simp[RDs]
 |i::is,h=>by
  have hi:=h i io;have hy:ys[i]?=some ys[i]:=by simp[hi]
  obtain⟨d,h1,h2⟩:=r.get hy;simp only[gq];refine .cons ?_ (RDs.pick r fun j hj=>h j (dg _ hj));rw[CI,CI,h1,hy];exact h2
section
variable {X:Cx}{pins:List (Addr×Obj)}{σ:St}{H:Hp}{s:Shared}
theorem Vals.pick(r:Vals ys its):∀{is:List Nat},(∀i∈is,i<ys.length)->Vals (is.map fun i=>ys.getD i .non) (is.map fun i=>its.getD i Value.none)
 | [],_=>.nil
 |i::is,h=>by
  have hi:=h i io;have hy:ys[i]?=some ys[i]:=by simp[hi]
  obtain⟨u,h1,h2⟩:=r.get hy;simp only[gq];refine .cons ?_ (Vals.pick r fun j hj=>h j (dg _ hj));rw[CI,CI,h1,hy];exact h2
theorem Ui(I:Inv X pins σ H s)(hu:A.units+20<cLine)(q:Q r s) :
  ∀{ds es:List D}{xs ys:List V}{us vs:List Value}(i:Nat),(b=true->i=0->(∃k r,ds=.int k::r)/\∃k r,es=.int k::r)->ois ds=true->ois es=true->h7 ds<=20->RDs X.K H ds xs->RDs X.K H es ys->Vals xs us->Vals ys vs->j5 ds es=some r ->
   fin=decide (us.length<vs.length)->PySem.W.KatLex X.prog X.w A b fin Q (us.zip vs) i s
 | [],[],_,_,_,_,i,_,_,_,_,r1,r2,q1,q2,h,hf=>by simp only[RDs]at r1 r2;subst r1;subst r2;cases q1;cases q2;simp only[j5,Option.some.injEq]at h;subst h;simp at hf;subst hf;exact q
 | [],e::es,_,_,_,_,i,_,_,_,_,r1,r2,q1,q2,h,hf=>by simp only[RDs]at r1 r2;subst r1;obtain⟨y,ys,rfl,_,_⟩:=r2;cases q1;cases q2;simp only[j5,Option.some.injEq]at h;subst h;simp at hf;subst hf;exact q
 |d::ds,[],_,_,_,_,i,_,_,_,_,r1,r2,q1,q2,h,hf=>by simp only[RDs]at r1 r2;subst r2;obtain⟨y,ys,rfl,_,_⟩:=r1;cases q1;cases q2;simp only[j5,Option.some.injEq]at h;subst h;simp at hf;subst hf;exact q
 |d::ds,e::es,_,_,_,_,i,hb,p1,p2,hd,r1,r2,q1,q2,h,hf=>by
  simp only[RDs]at r1 r2;obtain⟨x,xs,rfl,rx,gG⟩:=r1;obtain⟨y,ys,rfl,ry,gH⟩:=r2;simp only[ois,ng]at p1 p2;simp only[h7]at hd;cases q1 with
  |cons a1 a2=>
   cases q2 with
   |cons b1 b2=>
    have eq:=Eo (A:=A) I 20 (Z5 p1.1) (Z5 p2.1) (by lia) hu rx ry a1 b1
    rw[CW]
    refine PySem.W.kat_cons (eq X.prog X.w _ _ ?_)
    simp only[j5]at h
    simp only[pp,Nat.add_lt_add_iff_right]at hf
    split at h
    . rename_i w;rw[w];exact PySem.W.kat_yes (Ui I hu q (i+1) (fun _ z=>by lia) p1.2 p2.2 (by lia) gG gH a2 b2 h hf)
    . rename_i w;rw[show eqD d e=false by simpa using w];refine PySem.W.kat_no ?_;by_cases gI:(b&&i==0)=true
      . rw[gI];simp only[ng,Im]at gI;obtain⟨⟨k1,s1,e1⟩,k2,s2,e2⟩:=hb gI.1 gI.2;cases e1;cases e2;cases rx.int;cases ry.int;obtain⟨t,rfl⟩:=a1;obtain⟨t',rfl⟩:=b1;refine oneLt_int ?_;simp only[d5,Option.some.injEq]at h;rw[h];exact q
      . rw[show(b&&i==0)=false by simpa using gI];exact PySem.W.kat_one _ _ (vm I 20 hu p1.1 p2.1 (by lia) rx ry a1 b1 h X.prog X.w _ _ q)
theorem Rq(I:Inv X pins σ H s)(T:Bool):∀{ds:List D}{xs:List V}{us:List Value},(∀d∈ds,(if T=true then K8 d else D8 d)=true)->RDs X.K H ds xs->Vals xs us ->
  ∃fs:List Value,PySem.W.KatTups s.heap us fs/\fs.length=ds.length/\∀v∈fs,PySem.W.Looks M s.heap (typeOf v) (.type (if T=true then "tuple" else "int"))
 | [],_,_,_,r,q=>by simp only[RDs]at r;subst r;cases q;exact⟨[],trivial,rfl,fun v hv=>by cases hv⟩
 |d::ds,_,_,h,r,q=>by
  simp only[RDs]at r;obtain⟨x,xs,rfl,rx,gG⟩:=r;cases q with
  |cons q1 q2=>
   obtain⟨fs,h1,h2,h3⟩:=Rq (M:=M) I T (fun d hd=>h d (dg _ hd)) gG q2
   have hd:=h d io
   cases T with
   |false=>
    rw[ξ θ]at hd
    cases d<;>simp only[D8]at hd<;>first |cases hd |skip
    rename_i es
    cases es with
    |nil=>simp at hd
    |cons e es=>
     cases e<;>simp at hd
     obtain⟨a,ys,rfl,ha,ra⟩:=rx.tup
     cases q1
     obtain⟨its,rv,t⟩:=I.tupA ha
     simp only[RDs]at ra
     obtain⟨y,ys,rfl,ry,gH⟩:=ra
     cases ry.int
     cases rv with
     |cons v1 v2=>
      obtain⟨tk,rfl⟩:=v1
      obtain⟨o,ho,hc,n,mq⟩:=t
      refine⟨_::fs,PySem.W.KatTups.cons ho hc mq rfl h1,by simp[h2],fun v hv=>?_⟩
      rcases gD.mp hv with rfl |hv
      . exact .now
      . exact h3 v hv
   |true=>
    rw[ζ rfl]at hd
    cases d<;>simp only[K8]at hd<;>first |cases hd |skip
    rename_i es
    cases es with
    |nil=>simp at hd
    |cons e es=>
     cases e<;>simp at hd
     obtain⟨a,ys,rfl,ha,ra⟩:=rx.tup
     cases q1
     obtain⟨its,rv,t⟩:=I.tupA ha
     simp only[RDs]at ra
     obtain⟨y,ys,rfl,ry,gH⟩:=ra
     obtain⟨a2,BC,rfl,fH,BE⟩:=ry.tup
     cases rv with
     |cons v1 v2=>
      cases v1
      obtain⟨ax,BF,o2,iC,iD,_⟩:=I.tupA fH
      obtain⟨o,ho,hc,n,mq⟩:=t
      refine⟨_::fs,PySem.W.KatTups.cons ho hc mq rfl h1,by simp[h2],fun v hv=>?_⟩
      rcases gD.mp hv with rfl |hv
      . have lk:PySem.W.Looks M s.heap (typeOf (.ref a2)) o2.cls:=(PySem.W.Looks.ld iC).andThen .now;rw[iD]at lk;exact lk
      . exact h3 v hv
theorem Vals.getD(r:Vals ys its)(h:i<ys.length):RelV (ys.getD i .non) (its.getD i Value.none):=by
 have hy:ys[i]?=some ys[i]:=by simp[h]
 obtain⟨u,h1,h2⟩:=r.get hy;rw[CI,CI,h1,hy];exact h2
theorem RDs.getD(r:RDs X.K H ds ys)(h:i<ys.length):RD X.K H (ds.getD i (.int 0)) (ys.getD i .non):=by
 have hy:ys[i]?=some ys[i]:=by simp[h]
 obtain⟨d,h1,h2⟩:=r.get hy;rw[CI,CI,h1,hy];exact h2
theorem N9{α:Type}{l:List α}{i:Nat}{d:α}(h:i<l.length):l.getD i d∈l:=by rw[CI,CH h];exact List.getElem_mem h
end
noncomputable def Y2(n:Nat)(x:Int):Nat:=if x<0 then(x+(n:Int)).toNat else min x.toNat n
def x6{α:Type}(xs:List α)(x:Int)(y:α):List α:=xs.take (Y2 xs.length x)++y::xs.drop (Y2 xs.length x)
def Uh:V->List V->Hp->VK->Prop:=fun o vs H Q=>∃l xs i y,o=.ref l/\vs=[.int i,y]/\H l=some (.lst xs)/\-(2 ^ 63)<=i/\i<2 ^ 63/\xs.length<sizeLine/\Q .non (upd H l (.lst (x6 xs i y)))
theorem Vals.ins(r:Vals xs its)(ru:RelV y u)(i:Int):Vals (x6 xs i y) (x6 its i u):=by unfold x6;rw[r.length];exact(r.take _).append (.cons ru (r.drop _))
theorem zcm(xs:List α)(i:Int)(y:α):(x6 xs i y).length=xs.length+1:=by unfold x6;rw[χ,CU,pp,DD];omega
section
variable {X:Cx}{K:Frag}
theorem zo:MtM X "list.insert" Uh:=by intro pins s σ H x vs v us Q I rx rv h;obtain⟨l,xs,i,y,rfl,rfl,hH,h1,h2,hz,q⟩:=h;cases rx;obtain⟨u,w,rfl,ru,ce⟩:=rv.two;obtain⟨t,rfl⟩:=ru;obtain⟨z,its,n,r,hl,e⟩:=I.lstM hH;refine call_meets PySem.F.slot_list_insert ⟨_,e,rfl⟩ PySem.F.entry_list_insert (PySem.F.args_list_insert_3 _ _ _) (PySem.AutoSeq1.list_insert_list_int_val_1 l its.toArray n i t w (by simp[fitsIndex_both h1 h2]) (by rw[CJ];lia)) ⟨e,?_⟩;refine⟨.non,_,I.lset (its':=x6 its i w) hH e ?_ (r.ins ce i) (by rw[zcm];lia),rfl,q⟩;show((its.toArray.extract 0 (Y2 its.toArray.size i)).push w++its.toArray.extract (Y2 its.toArray.size i))=(x6 its i w).toArray;unfold x6;apply Array.toList_inj.mp;simp;exact DU (by simp)
def Y1:D->List D->Option D
 | .lst ds,[.int i,d]=>if -(2 ^ 63)<=i/\i<2 ^ 63/\ds.length<100000 then some (.lst (x6 ds i d)) else none
 |_,_=>none
theorem RDs.ins(r:RDs K H ds xs)(ry:RD K H d y)(i:Int):RDs K H (x6 ds i d) (x6 xs i y):=by unfold x6;rw[<-r.length];exact(r.take _).append (.cons ry (r.drop _))
theorem vk:R8 K Y1 Uh:=by
 intro H0 H a d d' ds vs Q s h0 ob r hm k;unfold Y1 at hm;split at hm<;>first |cases hm |skip
 split at hm<;>cases hm;rename_i es i e hl;simp only[OB]at ob;obtain⟨xs,hx,rx⟩:=ob;obtain⟨y,z,rfl,q1,q2⟩:=r.duo;cases q1.int;refine⟨a,xs,_,z,rfl,rfl,hx,hl.1,hl.2.1,by rw[<-rx.length];exact Q3 hl.2.2,k _ _ ?_⟩;simp only[OB];exact⟨_,k9,rx.ins q2 _⟩
noncomputable def Y0:D->List D->Option D
 | .lst ds,[.lst es]=>if ds.length+es.length<=100000 then some (.lst (ds++es)) else none
 |_,_=>none
theorem vj:R8 K Y0 Va:=by
 intro H0 H a d d' ds vs Q s h0 ob r hm k;unfold Y0 at hm;split at hm<;>first |cases hm |skip
 split at hm<;>cases hm;rename_i es gs hl;simp only[OB]at ob;obtain⟨xs,hx,rx⟩:=ob;obtain⟨y,rfl,q1⟩:=r.uno;obtain⟨b,ys,rfl,hb,rb⟩:=q1.lst;refine⟨a,b,xs,ys,rfl,rfl,hx,s _ _ hb,by rw[<-rx.length,<-rb.length];exact R5 hl,k _ _ ?_⟩;simp only[OB];exact⟨_,k9,rx.append rb⟩
noncomputable def K7(n:Int)(ns:List Int):Int:=ns.foldl (fun a b=>if b > a then b else a) n
theorem Ax:∀(ns:List Int)(n:Int),K7 n ns∈n::ns/\∀a∈n::ns,a<=K7 n ns
 | [],n=>by simp[K7]
 |b::ns,n=>by
  have ih:=Ax ns (if b > n then b else n);show K7 (if b > n then b else n) ns∈_/\∀a∈_,a<=K7 (if b > n then b else n) ns;generalize K7 (if b > n then b else n) ns=M at ih;obtain⟨h1,h2⟩:=ih;constructor
  . rcases gD.mp h1 with z |z
    . rw[z];split<;>simp
    . simp[z]
  . intro a ha;have h3:=h2 _ io;rcases gD.mp ha with rfl |ha
    . split at h3<;>lia
    . rcases gD.mp ha with rfl |ha
      . split at h3<;>lia
      . exact h2 a (dg _ ha)
end
section
abbrev HD:=Ex->DS->SR
end
noncomputable def SR.noE:SR->SR
 | .er _=>.st
 |r=>r
theorem SK.noE{K:Frag}{EX:XW}{fr:Bool}{Hc Hb:Hp}{De:Ends}{r:SR}(h:SK K EX fr Hc Hb De r.noE):SK K F0 fr Hc Hb De r:=by
 cases r with
 |nx ρ=>exact h
 |bk ρ=>exact h
 |ct ρ=>exact h
 |rt d=>exact h
 |er x=>exact h.elim
 |st=>exact h.elim
end L2
namespace L2
open PySem PySem.Spec PyProof.Rows
open PySem.Calls
end L2
namespace L2
open PySem PySem.Spec PyProof.Rows
section
open PySem.AutoSeq1 (wpAny_loadPart')
end
end L2
namespace L2
open PySem PySem.Spec PyProof.Rows
section
open PySem.AutoSeq1 (wpAny_loadPart')
end
end L2
namespace L2
open PySem PySem.Spec PyProof.Rows
end L2
namespace L2
open PySem PySem.Spec PyProof.Rows
open PySem.Calls
open Builtin Builtin.ObjectAttr
section
open PySem.AutoSeq1 (wpAny_loadPart')
end
end L2
namespace L2
open PySem PySem.Spec PyProof.Rows
noncomputable def Z4:D->D->Option D
 | .bl a,.bl b=>some (.bl (!(a==b)))
 | .int _,.bl _=>some (.bl true)
 |_,_=>none
noncomputable def Pj:R2:=fun x y H Q=>(∃a b,x=.bl a/\y=.bl b/\Q (.bl (!(a==b))) H)\/∃i b,x=.int i/\y=.bl b/\Q (.bl true) H
section
variable {X:Cx}{K:Frag}
theorem Ug:OpR X (compareOp .IsNot) Pj:=by
 intro pins s σ H x y v u Q I rx ry h;rcases h with⟨a,b,rfl,rfl,q⟩ |⟨i,b,rfl,rfl,q⟩
 . cases rx;cases ry;exact isnot_bool (Sn I q rfl)
 . obtain⟨t,rfl⟩:=rx;cases ry;exact π (Sn I q rfl)
theorem Uf:OpD K false Z4 Pj:=by
 intro H0 H x y d e z Q s rx ry ho k;unfold Z4 at ho;split at ho<;>cases ho
 . cases rx.bl;cases ry.bl;exact .inl ⟨_,_,rfl,rfl,k _ H (.pure s (.mkBl _))⟩
 . cases rx.int;cases ry.bl;exact .inr ⟨_,_,rfl,rfl,k _ H (.pure s (.mkBl _))⟩
end
section
variable {prog:Program}{w:World}{A:Around}{R:Result->Shared->Prop}{I:Addr}{fp wr:List Addr}{n:Nat}{P:Nat->Value->Prop}{St:Nat->Heap->Prop}
theorem y0a(kw:List (Str×Value))(W:Walks prog w A.in1 I fp wr n P St)(bt:Nat->Nat->Bool)(cm:CmpOf prog w A.in1 .Gt P bt)(S:Addr)(nf:S∉fp) :
  ∀(k j:Nat)(s:Shared)(vb:Value)(c:Nat),n - (j+1)=k->j+1<=n->St (j+1) s.heap->P (argBest bt j) vb->s.heap.get? S=some { cls:=.type "list",dict:=none,data:=.seq #[vb,vb] c,slots:=#[] } ->
  (∀v h' tk,P (argBest bt (n - 1)) v->(∀b o,b∉wr->b≠S->s.heap.get? b=some o->h'.get? b=some o)->R (.ok (.ret v)) { s with heap:=h',toks:=tk })->codeAny (model prog w) A (.builtin "max.loop" ⟨[.ref I,.none,.ref S],kw⟩) R s:=by
 have nw:S∉wr:=fun h=>nf (W.sub _ h)
 have nm:(toString "max"++toString ".loop":String)="max.loop":=by decide
 intro k
 induction k with
 |zero=>
  intro j s vb c ek ej st pb eS fin
  have jn:j+1=n:=by omega
  refine codeAny_builtin HR ?_
  rw[Ip EF _]
  show wpAny _ A.in1 (seqItems? (.ref S) >>= _) _ _ _
  refine δ (wpAny_seqItems eS rfl ?_)
  show wpAny _ A.in1 (tryCatch (pyNext (.ref I)) _ >>= _) _ _ _
  refine δ (wpAny_tryCatch (W.done s _ _ (jn ▸ st) fun h' tk kp=>?_))
  have eF:=kp S _ nw eS
  show wpAny _ A.in1 (updateSeq S (fun _=>#[]) >>= _) _ _ _
  refine δ ?_
  refine wpAny_updateSeq eF rfl (δ (wpAny_letGo (π ?_)))
  exact fin vb _ tk (by rw[<-jn];exact pb) fun b o cA dP e=>(DV _ _ (GF dP)).trans (kp b o cA e)
 |succ k ih=>
  intro j s vb c ek ej st pb eS fin
  have jl:j+1<n:=by omega
  refine codeAny_builtin HR ?_
  rw[Ip EF _]
  show wpAny _ A.in1 (seqItems? (.ref S) >>= _) _ _ _
  refine δ (wpAny_seqItems eS rfl ?_)
  show wpAny _ A.in1 (tryCatch (pyNext (.ref I)) _ >>= _) _ _ _
  refine δ (wpAny_tryCatch (W.item (j+1) s _ _ jl st fun v h' tk pv st' kp=>?_))
  have eF:=kp S _ nw eS
  show wpAny _ A.in1 (tryCatch (holding [v,v] (richCompare .Gt v vb >>= _)) _ >>= _) _ _ _
  refine δ (wpAny_tryCatch (EJ (δ (cm (j+1) (argBest bt j) v vb _ _ _ pv pb ?_))))
  refine δ (EJ (FO ?_))
  refine δ (wpAny_letGo (π ?_))
  cases hb:bt (j+1) (argBest bt j) with
  |true=>
   rw[ζ rfl]
   refine δ ?_
   refine wpAny_updateSeq eF rfl (δ (wpAny_letGo ?_))
   rw[nm]
   refine π ⟨plainId_quiet EF _,ih (j+1) _ v _ (by omega) jl (W.frame _ _ _ st' fun b mv o e=>?_) (by simp only[argBest,hb,EE];exact pv) (EA _ eF rfl) fun v' eU dY fg eG=>?_⟩
   . exact(DV _ _ (fun z:S=b=>nf (by rw[z];exact mv))).trans e
   . exact fin v' eU dY fg fun b o cA dP e=>eG b o cA dP ((DV _ _ (GF dP)).trans (kp b o cA e))
  |false=>
   rw[ξ θ]
   refine δ (wpAny_letGo ?_)
   rw[nm]
   exact π ⟨plainId_quiet EF _,ih (j+1) _ vb c (by omega) jl st' (by simp only[argBest,hb,CM,DR];exact pb) eF fun v' eU dY fg eG=>fin v' eU dY fg fun b o cA dP e=>eG b o cA dP (kp b o cA e)⟩
theorem yA(kw:List (Str×Value))(W:Walks prog w A.in1 I fp wr n P St)(bt:Nat->Nat->Bool)(cm:CmpOf prog w A.in1 .Gt P bt)(S:Addr)(nf:S∉fp)(n0:0<n)(st:St 0 s.heap)
  (eS:s.heap.get? S=some { cls:=.type "list",dict:=none,data:=.seq #[] c,slots:=#[] }) (fin:∀v h' tk,P (argBest bt (n - 1)) v->(∀b o,b∉wr->b≠S->s.heap.get? b=some o->h'.get? b=some o)->R (.ok (.ret v)) { s with heap:=h',toks:=tk }) :
  codeAny (model prog w) A (.builtin "max.loop" ⟨[.ref I,.none,.ref S],kw⟩) R s:=by
 have nw:S∉wr:=fun h=>nf (W.sub _ h)
 have nm:(toString "max"++toString ".loop":String)="max.loop":=by decide
 refine codeAny_builtin HR ?_
 rw[Ip EF _]
 show wpAny _ A.in1 (seqItems? (.ref S) >>= _) _ _ _
 refine δ (wpAny_seqItems eS rfl ?_)
 show wpAny _ A.in1 (tryCatch (pyNext (.ref I)) _ >>= _) _ _ _
 refine δ (wpAny_tryCatch (W.item 0 s _ _ n0 st fun v h' tk pv st' kp=>?_))
 have eF:=kp S _ nw eS
 show wpAny _ A.in1 (updateSeq S (fun _=>#[v,v]) >>= _) _ _ _
 refine δ ?_
 refine wpAny_updateSeq eF rfl ?_
 rw[nm]
 refine π ⟨plainId_quiet EF _,y0a kw W bt cm S nf _ 0 _ v _ rfl n0 (W.frame _ _ _ st' fun b mv o e=>?_) pv (EA _ eF rfl) fun v' eU dY fg eG=>?_⟩
 . exact(DV _ _ (fun z:S=b=>nf (by rw[z];exact mv))).trans e
 . exact fin v' eU dY fg fun b o cA dP e=>eG b o cA dP ((DV _ _ (GF dP)).trans (kp b o cA e))
theorem xl(q:Str)(dv:Value)(W:Walks prog w A.in1 I fp wr n P St)(S:Addr)(nf:S∉fp)(n0:n=0)(st:St 0 s.heap)
  (eS:s.heap.get? S=some { cls:=.type "list",dict:=none,data:=.seq #[] c,slots:=#[] }) (fin:∀h' tk,(∀b o,b∉wr->b≠S->s.heap.get? b=some o->h'.get? b=some o)->R (.ok (.ret dv)) { s with heap:=h',toks:=tk }) :
  codeAny (model prog w) A (.builtin "max.loop" ⟨[.ref I,.none,.ref S],[(q,dv)]⟩) R s:=by
 refine codeAny_builtin HR ?_
 rw[Ip EF _]
 show wpAny _ A.in1 (seqItems? (.ref S) >>= _) _ _ _
 refine δ (wpAny_seqItems eS rfl ?_)
 show wpAny _ A.in1 (tryCatch (pyNext (.ref I)) _ >>= _) _ _ _
 refine δ (wpAny_tryCatch (W.done s _ _ (n0 ▸ st) fun h' tk kp=>?_))
 show wpAny _ A.in1 (rule _ >>= _) _ _ _
 exact δ (wpAny_rule (π (fin h' tk fun b o hb _ e=>kp b o hb e)))
end
theorem xk(a v:Value):argsOk "max" ⟨[a],[(Str.ofString "default",v)]⟩:=by unfold argsOk;kernel_rfl
section
variable {prog:Program}{w:World}{A:Around}{E:Value->Shared->Prop}{s:Shared}
theorem xj
  (h:wpAny (model prog w) A.in1 (pyIter x) (fun it aT=>∃I fp wr n P St bt,it=.ref I/\Walks prog w A.in1 I fp wr n P St/\St 0 aT.heap/\(∀b∈fp,b<aT.heap.objs.size)/\CmpOf prog w A.in1 .Gt P bt /\
   ∀v h' tk,((0<n/\P (argBest bt (n - 1)) v)\/(n=0/\v=dv))->(∀b o,b∉wr->aT.heap.get? b=some o->h'.get? b=some o)->Q v { aT with heap:=h',toks:=tk }) E s) :
  wpAny (model prog w) A (call (.builtin "max") [x] [(Str.ofString "default",dv)]) Q E s:=by
 have nm:(toString "max"++toString ".loop":String)="max.loop":=by decide
 refine kmk_tree PySem.F.kind_max PySem.F.plain_max PySem.F.entry_max (xk _ _) ?_
 show wpAny _ A.in1 (Builtin.Builtins.bindParams "max" ["key","default"] 0 ⟨[],[(Str.ofString "default",dv)]⟩ >>= _) _ _ s
 refine δ (wpAny_of_eq (show Builtin.Builtins.bindParams "max" ["key","default"] 0 ⟨[],[(Str.ofString "default",dv)]⟩=pure [none,some dv] from rfl) ?_)
 refine δ (π ?_)
 refine δ (EZ h (fun it aT g=>?_) fun _ _ e=>e)
 obtain⟨I,fp,wr,n,P,St,bt,rfl,W,st,bd,cm,hQ⟩:=g
 refine δ (wpAny_newObj_type ?_)
 have nf:aT.heap.objs.size∉fp:=fun hm=>FH _ (bd _ hm)
 rw[nm]
 refine π ⟨plainId_quiet EF _,?_⟩
 by_cases n0:0<n
 . exact yA _ W bt cm aT.heap.objs.size nf n0 (W.frame _ _ _ st fun b _ o e=>Φ _ e) (Ω _ rfl) fun v h' tk pv kp=>
    hQ v h' tk (.inl ⟨n0,pv⟩) fun b o cA e=>kp b o cA (CY (Ξ e)) (Φ _ e)
 . exact xl _ dv W aT.heap.objs.size nf (by lia) (W.frame _ _ _ st fun b _ o e=>Φ _ e) (Ω _ rfl) fun h' tk kp=>
    hQ dv h' tk (.inr ⟨by lia,rfl⟩) fun b o cA e=>kp b o cA (CY (Ξ e)) (Φ _ e)
variable {h₀:Heap}{L:Addr}{m:Str->Option Value}{lu:List (Addr×Obj)}
theorem xi(hh:A.handled=none)(F:Fr h₀ L s.heap m)(N:News h₀ L s.heap lu)(hl:s.heap.IsList l vs.toArray)(hi:IntsAre vs ns)
  (h:∀v h' tk,Fr h₀ L h' m->News h₀ L h' lu->((ns=[]/\v=dv)\/∃M t,v=.int M t/\M∈ns/\∀a,a∈ns->a<=M)->Q v { s with heap:=h',toks:=tk }) :
  wpAny (model prog w) A (call (.builtin "max") [.ref l] [(Str.ofString "default",dv)]) Q E s:=by
 obtain⟨xs,e⟩:=hi.allInts.items
 have en:ns=xs.toList.map (·.1):=by rw[<-hi.numsOf,<-nums_intItems,<-e]
 have el:ns.length=xs.size:=by rw[en,bI,CN]
 rw[e]at hl
 refine xj (iter_intList hl fun aT e st bd lI=>?_)
 subst e
 refine⟨_,_,_,_,_,_,_,rfl,Walks.list (A:=A.in1) hh _ l lI (intItems xs),st,bd,CmpOf.ints_gt (numAt xs) (fun _ _=>intItems_at),fun v h' tk pv kp=>?_⟩
 have eG:=old_kept kp
 refine h v h' tk (F.grownK eG) (N.grown eG) ?_
 rcases pv with⟨n0,pv⟩ |⟨n0,rfl⟩
 . right;have BG:0<xs.size:=by simpa [intItems] using n0
   have fg:(intItems xs)[argBest (fun i j=>decide (numAt xs i > numAt xs j)) (xs.size - 1)]?=some v:=by simpa [intItems] using pv
   obtain⟨t,rfl⟩:=intItems_at fg;obtain⟨h1,h2⟩:=argBest_gt (numAt xs) (xs.size - 1);refine⟨_,t,rfl,?_,fun a ha=>?_⟩
   . rw[en,numAt_eq];exact N9 (by rw[bI,CN];lia)
   . rw[en]at ha;obtain⟨j,hj,rfl⟩:=mem_getD ha;rw[bI,CN]at hj;rw[<-numAt_eq];exact h2 j (by lia)
 . left;have:xs.size=0:=by simpa [intItems] using n0
   exact⟨EQ.mp (by lia),rfl⟩
end
def mxD(d:Int):List Int->Int
 | []=>d
 |n::ns=>K7 n ns
def T9:List D->Option D
 | [.lst ds,.int d]=>(n5 ds).map fun ns=>.int (mxD d ns)
 |_=>none
def Hk:List V->Hp->VK->Prop:=fun xs H Q=>∃p ns d,xs=[.ref p,.int d]/\H p=some (.lst (ns.map V.int))/\Q (.int (mxD d ns)) H
theorem TEd.mono'{K:Frag}{EX:XW}{fr:Bool}{f:DE->R D}{σ:St}{H:Hp}{Q Q':VK}(h:TEd K EX fr f σ H Q)(hq:∀v H',Q v H'->Q' v H'):TEd K EX fr f σ H Q':=by obtain⟨sx,ρ,H0,s,e,h⟩:=h;exact⟨sx,ρ,H0,s,e,h.mono fun a k v H' o=>hq _ _ (k v H' o)⟩
section
variable {X:Cx}{EX:XW}{e d:Expr}{p kp pos:Pos}{x:Str}{t1 t2:TE}{f1 f2:DE->R D}
theorem xh(hc:X.calm=true)(hg:Gl X x)(hm:X.mg x=none)(hv:bootBuiltins x=some (.builtin "max"))(ha:PE X e t1)(hd:PE X d t2)(hn:x≠"__name__":=by decide)(bH:(x==("__debug__":Str))=false:=by decide)
  (hs:starEach [e] X.env=(false,eval e X.env)::starEach [] X.env:=by rfl) :
  PE X (.Call (.Name x p) [e] [⟨some (Str.ofString "default"),d,kp⟩] pos) (tCB Hk (F1 t1 (F1 t2 S4))):=by
 intro pins s σ H Q I h
 refine Ia (P9 I hg hm hv ?_ hn bH)
 refine callWith_kw ?_ (by rw[hs];rfl) (by rw[hs];rfl)
 refine thn (Q0 ha pa_nil hs pos pins s σ H (fun vs H1=>t2 σ H1 fun u H2=>Hk (vs++[u]) H2 Q) I h) fun us s1 ⟨vs,H1,I1,r1,q1⟩=>?_
 refine kws_cons (thn (hd pins s1 σ H1 _ I1 q1) fun u s2 ⟨y,H2,I2,r2,q2⟩=>kws_nil ?_)
 obtain⟨a,ns,i,e1,ea,q⟩:=q2
 obtain⟨rfl,rfl⟩:vs=[.ref a]/\y=.int i:=by
  cases vs with
  |nil=>cases e1
  |cons b r=>
   cases r with
   |nil=>cases e1;exact⟨rfl,rfl⟩
   |cons c r=>cases r<;>cases e1
 obtain⟨u1,rfl,ru⟩:=J5 r1
 cases ru
 obtain⟨t,rfl⟩:=r2
 obtain⟨its,rv,pl,_⟩:=I2.list (.of ea)
 obtain⟨m,mw,_⟩:=id I2.loc
 refine xi (I2.ok.hd hc) (Att.fr_all mw) (Wl (g:=Att.noObjs s2.heap) (L:=X.env.locals)) pl.isList (Yp rv) fun v h' tk F N hM=>?_
 rcases hM with⟨rfl,rfl⟩ |⟨M,t,rfl,hM,cT⟩
 . exact⟨.int i,H2,I2.frn mw F N,⟨_,rfl⟩,q⟩
 . cases ns with
   |nil=>cases hM
   |cons n ns=>
    obtain⟨a1,a2⟩:=Ax ns n
    have e:M=K7 n ns:=FW (a2 M hM) (cT _ a1)
    exact⟨.int M,H2,I2.frn mw F N,⟨t,rfl⟩,by rw[e];exact q⟩
theorem xg{K:Frag}:J2 K false T9 Hk:=by
 intro H0 H xs ds z Q s r ho k;unfold T9 at ho;split at ho<;>first |cases ho |skip
 rename_i es i;cases hq:n5 es with
 |none=>rw[hq]at ho;cases ho
 |some ns=>
  rw[hq]at ho
  cases ho
  simp only[RDs]at r
  obtain⟨x1,r1,rfl,q1,x2,r2,rfl,q2,rfl⟩:=r
  obtain⟨a,ys,rfl,ha,ra⟩:=q1.lst
  have e:=Fx hq ra
  subst e
  cases q2.int
  exact⟨a,ns,i,rfl,s _ _ ha,k _ H (.pure s (.mkInt _))⟩
theorem vi(hc:X.calm=true)(hg:Gl X x)(hm:X.mg x=none)(hv:bootBuiltins x=some (.builtin "max"))(ha:QE X EX false e f1)(hd:QE X EX false d f2)(hn:x≠"__name__":=by decide)(bH:(x==("__debug__":Str))=false:=by decide)
  (hs:starEach [e] X.env=(false,eval e X.env)::starEach [] X.env:=by rfl) :
  QE X EX false (.Call (.Name x p) [e] [⟨some (Str.ofString "default"),d,kp⟩] pos) (eCB T9 (a8 f1 (a8 f2 b7))):=
 ⟨(xh hc hg hm hv ha.h hd.h hn bH hs).imp fun _ _ _ q=>(Jm (Gw xg q)).mono' fun _ _ q=>(Jm q).mono' fun _ _ q=>Pq q⟩
end
noncomputable def SR.thn(r:SR)(g:DS->SR):SR:=match r with
 | .nx au=>g au
 |r=>r
noncomputable def SR.out(fr:Bool)(r:SR):R D:=match r with
 | .rt d=>.ok d
 | .nx _=>if fr=true then .st else .ok .non
 | .er x=>.er x
 |_=>.st
theorem zvb(g1 g2:DS->SR)(ρ:DS):c7 g1 g2 ρ=(g1 ρ).thn g2:=rfl
theorem zvc(ρ:DS)(g:DS->SR):(SR.nx ρ).thn g=g ρ:=rfl
theorem zvd(d:D)(g:DS->SR):(SR.rt d).thn g=.rt d:=rfl
theorem zve(x:Ex)(g:DS->SR):(SR.er x).thn g=.er x:=rfl
theorem zvf(g:DS->SR):(SR.st).thn g=.st:=rfl
theorem zr8(c:Prop)[Decidable c](a b:SR)(g:DS->SR):(if c then a else b).thn g=if c then a.thn g else b.thn g:=by split<;>rfl
theorem y0b(fr:Bool)(n k:Nat)(g:DS->SR)(ds:List D):mOf fr n k g ds=if ds.length=n then(g (ds.map .im++List.replicate k .em)).out fr else .st:=rfl
theorem zvg(fr:Bool)(d:D):(SR.rt d).out fr=.ok d:=rfl
theorem zvh(ρ:DS):(SR.nx ρ).out false=.ok .non:=rfl
theorem zvi(fr:Bool)(x:Ex):(SR.er x).out fr=.er x:=rfl
theorem zvj(fr:Bool):(SR.st).out fr=.st:=rfl
theorem zr9(fr:Bool)(c:Prop)[Decidable c](a b:SR):(if c then a else b).out fr=if c then a.out fr else b.out fr:=by split<;>rfl
theorem zvk(m:List Bool)(f:DE->R D)(ρ:DS):g7 m f ρ=(f (vis m ρ)).toS fun d=>.rt d:=rfl
theorem zvl(fr:Bool)(i:Nat)(m:List Bool)(f:DE->R D)(ρ:DS):d8 fr i m f ρ=(f (vis m ρ)).toS fun d=>.nx (G3 fr i d (j9 (keeps fr d) m ρ)):=rfl
theorem y0c(t:DE->R Bool)(g1 g2:DS->SR)(ρ:DS):sIf t g1 g2 ρ=(t (see ρ)).toS fun b=>if b=true then g1 ρ else g2 ρ:=rfl
theorem v3(a:α)(k:α->SR):R.toS (.ok a) k=k a:=rfl
theorem zvm(k:α->SR):R.toS (.st:R α) k=.st:=rfl
theorem zra(c:Prop)[Decidable c](a b:R α)(k:α->SR):R.toS (if c then a else b) k=if c then R.toS a k else R.toS b k:=by split<;>rfl
theorem Jt(a:α):(R.ok a).noE=.ok a:=rfl
theorem y0d(m:List Bool):vis m []=[]:=by cases m<;>rfl
theorem y0e(s:Sl)(r:DS):vis [] (s::r)=s.see false::vis [] r:=rfl
theorem y0f(b:Bool)(m:List Bool)(s:Sl)(r:DS):vis (b::m) (s::r)=s.see b::vis m r:=rfl
theorem Ag:see []=[]:=rfl
theorem Af(s:Sl)(r:DS):see (s::r)=s.see true::see r:=rfl
theorem zvn(b:Bool):Sl.see b .em=none:=rfl
theorem Ar(b:Bool)(d:D):Sl.see b (.im d)=some d:=rfl
theorem Ba(d:D):Sl.see true (.ow d)=some d:=rfl
theorem zrb(d:D):Sl.see false (.ow d)=none:=rfl
theorem zvo(m:List Bool)(ρ:DS):j9 true m ρ=ρ:=rfl
theorem zmq(fr:Bool)(i:Int):keeps fr (.int i)=true:=by cases fr<;>rfl
theorem zmr(fr:Bool)(ds:List D):keeps fr (.tup ds)=i9 ds:=by cases fr<;>simp only[keeps,D.noL,D.shal,EE,CM,DR]
theorem Mg(ds:List D):keeps true (.lst ds)=i9 ds:=rfl
theorem zvp:i9 []=true:=by simp only[i9]
theorem zvq(d:D)(r:List D):i9 (d::r)=(d.noL&&i9 r):=by simp only[i9]
theorem Wm(i:Int):(D.int i).noL=true:=by simp only[D.noL]
theorem zrc(ds:List D):(D.tup ds).noL=i9 ds:=by simp only[D.noL]
theorem y0g(i:Nat)(d:D)(ρ:DS):G3 false i d ρ=ρ.set i (.im d):=rfl
theorem y0h(i:Nat)(d:D)(ρ:DS):G3 true i d ρ=ρ.set i (.ow d):=rfl
theorem y0i(ρ:DE):sel [] ρ=[]:=rfl
theorem y0j(j:Nat)(r:List Nat)(ρ:DE):sel (j::r) ρ=(ρ[j]?).getD none::sel r ρ:=rfl
theorem y3k(d:D)(r:DE):a7 0 (some d::r)=.ok d:=rfl
theorem y3l(i:Nat)(d:Option D)(r:DE):a7 (i+1) (d::r)=a7 i r:=rfl
theorem y0k(g:Int->Int->D)(i j:Int):dI g (.int i) (.int j)=some (g i j):=rfl
theorem Jj(C:Int->Int->Prop)[∀i j,Decidable (C i j)](g:Int->Int->D)(i j:Int):dIC C g (.int i) (.int j)=if C i j then some (g i j) else none:=rfl
theorem y0l(b:Bool):asB (.bl b)=some b:=rfl
theorem zor(b:Bool):o9 (.bl b)=some b:=rfl
theorem Aw(i j:Int):(i==j)=decide (i=j):=by rw[FX];simp
theorem zvr(i j:Int):dEq (.int i) (.int j)=some (.bl (decide (i=j))):=by unfold dEq;rw[ζ (by simp[D.pl,D.dep])];simp only[eqD,Aw]
theorem zvs(i j:Int):dNe (.int i) (.int j)=some (.bl (!decide (i=j))):=by unfold dNe;rw[ζ (by simp[D.pl,D.dep])];simp only[eqD,Aw]
theorem zvt(a b c e:Int):dNe (.tup [.int a,.int b]) (.tup [.int c,.int e])=some (.bl (!(decide (a=c)&&decide (b=e)))):=by unfold dNe;rw[ζ (by simp[D.pl,D.dep,pls,h7])];simp only[eqD,n6,Aw,Bool.and_true]
theorem Eu(a:D)(r:List D):dIx (.tup (a::r)) (.int 0)=some a:=by simp only[dIx,dOr,x4,y38]
theorem Js(a b:D)(r:List D):dIx (.tup (a::b::r)) (.int 1)=some b:=by simp only[dIx,dOr,x4,y39]
theorem vh{ds:List D}{j:Nat}{d:D}(h:ds[j]?=some d):dIx (.lst ds) (.int (j:Int))=some d:=by simp only[dIx,dOr,x4,Kt h]
theorem xZ(ns:List D):j8 [.lst ns]=some (.int ns.length):=rfl
theorem zvv(ns:List D):j8 [.tup ns]=some (.int ns.length):=rfl
theorem y0m(b c:Bool):(if b=true then R.ok true else R.ok c)=R.ok (b||c):=by cases b<;>rfl
theorem zvw(b c:Bool):(if b=true then R.ok c else R.ok false)=R.ok (b&&c):=by cases b<;>rfl
theorem zvx(b c:Bool):(if b=true then R.ok (D.bl true) else R.ok (D.bl c))=R.ok (D.bl (b||c)):=by cases b<;>rfl
theorem zrd(b c:Bool):(if b=true then R.ok (D.bl c) else R.ok (D.bl false))=R.ok (D.bl (b&&c)):=by cases b<;>rfl
theorem zvy(i:Int):k7 "int" (.int i)=some (.bl true):=by simp[k7,B9,E9,E1]
theorem zvz(i:Int):k7 "bool" (.int i)=some (.bl false):=by simp[k7,B9,E9,E1]
theorem Jr(ds:List D):k7 "tuple" (.tup ds)=some (.bl true):=by simp[k7,B9,E9,E1]
theorem zw0(ds:List D):k7 "list" (.lst ds)=some (.bl true):=by simp[k7,B9,E9,E1]
noncomputable def SR.itr(r:SR)(k:DS->SR):SR:=match r with
 | .nx ay=>k ay
 | .ct ay=>k ay
 | .bk ay=>.nx ay
 | .rt d=>.rt d
 | .er x=>.er x
 | .st=>.st
theorem Et(ρ:DS)(k:DS->SR):(SR.nx ρ).itr k=k ρ:=rfl
theorem X0{bn:D->Option (List D)}{f:DE->R D}{cs:DE}{α:Type}{en:α->D}{bs:α->List D}{g:α->D}(xs:List α)(hb:∀x∈xs,bn (en x)=some (bs x))(hf:∀x∈xs,f ((bs x).map some++cs)=.ok (g x)):J1 bn K9 f cs (xs.map en)=.ok (xs.map g):=by
 induction xs with
 |nil=>rfl
 |cons x xs ih=>
  simp only[gq,J1,hb x (by simp),K9,R.of_some,R.bind_ok,Jt,EE,hf x (by simp),ih (fun y hy=>hb y (by simp[hy])) (fun y hy=>hf y (by simp[hy]))]
theorem K1{bn:D->Option (List D)}{t:DE->R Bool}{f:DE->R D}{cs:DE}{α:Type}{en:α->D}{bs:α->List D}{p:α->Bool}{g:α->D}(xs:List α)(hb:∀x∈xs,bn (en x)=some (bs x))(ht:∀x∈xs,t ((bs x).map some++cs)=.ok (p x))(hf:∀x∈xs,p x=true->f ((bs x).map some++cs)=.ok (g x)):J1 bn t f cs (xs.map en)=.ok ((xs.filter p).map g):=by
 induction xs with
 |nil=>rfl
 |cons x xs ih=>
  have sU:=ih (fun y hy=>hb y (by simp[hy])) (fun y hy=>ht y (by simp[hy])) (fun y hy=>hf y (by simp[hy]))
  simp only[gq,J1,hb x (by simp),ht x (by simp),R.of_some,R.bind_ok,Jt,sU]
  cases e:p x with
  |true=>simp only[EE,hf x (by simp) e,Jt,R.bind_ok,GC,e,gq]
  |false=>simp only[CM,DR,GC,e]
theorem F7{tg:Tg}{g:DS->SR}{α:Type}{en:α->D}(P:List α->DS->Prop)(xs:List α)(ρ:DS)(h0:P xs ρ)(hs:∀x r ρ,P (x::r) ρ->∃cu ay,S9 tg (en x) ρ=some cu/\(g cu=.nx ay\/g cu=.ct ay)/\P r ay):∃au,B0 tg g (xs.map en) ρ=.nx au/\P [] au:=by
 induction xs generalizing ρ with
 |nil=>exact⟨ρ,rfl,h0⟩
 |cons x r ih=>
  obtain⟨cu,ay,e1,e2,q⟩:=hs x r ρ h0
  obtain⟨au,e',p'⟩:=ih ay q
  refine⟨au,?_,p'⟩
  rcases e2 with e2 |e2<;>simp only[gq,B0,e1,e2,e']
noncomputable def L(ns:List Int):D:=.lst (ns.map .int)
theorem Q2(f:α->D)(xs:List α)(h:∀x∈xs,(f x).noL=true):i9 (xs.map f)=true:=by
 induction xs with
 |nil=>simp only[DH,i9]
 |cons a r ih=>simp only[gq,i9,h a (by simp),ih fun x hx=>h x (by simp[hx]),EM]
theorem zw1(ns:List Int):keeps true (L ns)=true:=by unfold L;rw[Mg];exact Q2 _ _ fun x _=>Wm x
theorem y0n(ns:List Int):j8 [L ns]=some (.int ns.length):=by unfold L;rw[xZ,bI]
theorem zn(ns:List Int):items (L ns)=some (ns.map .int):=rfl
theorem Oc(h0:0<=x)(h1:x.toNat<ns.length):dIx (L ns) (.int x)=some (.int (ns.getD x.toNat 0)):=by
 have e:(ns.map D.int)[x.toNat]?=some (.int (ns.getD x.toNat 0)):=by rw[DB,CH h1,CI,CH h1];rfl
 have:=vh e;rwa [show((x.toNat:Nat):Int)=x by lia]at this
theorem Ob{ns:List Int}{k:Nat}(h1:k<ns.length):dIx (L ns) (.int (k:Int))=some (.int (ns.getD k 0)):=Oc (x:=(k:Int)) (by lia) (by simpa using h1)
theorem Do(h:ns.length<100000):v5 (L ns) [.int x]=some (L (ns++[x])):=by simp only[L,v5,bI,h,EE,DA,gq,DH]
theorem vg{n:Nat}{x:Int}(h0:0<=x)(h1:x<n):ixN n x=some x.toNat:=by unfold ixN;rw[ζ h0,ζ h1]
theorem map_set(f:α->β)(xs:List α)(j:Nat)(a:α):(xs.map f).set j (f a)=(xs.set j a).map f:=by rw[List.map_set]
theorem y0q(h0:0<=x)(h1:x<ns.length):D9 (L ns) (.int x) (.int y)=some (L (ns.set x.toNat y)):=by simp only[L,D9,bI,vg h0 h1,CZ,map_set]
theorem y0r(h0:0<=x)(h1:x<=ns.length)(h:ns.length<100000):Y1 (L ns) [.int x,.int y]=some (L (ns.take x.toNat++y::ns.drop x.toNat)):=by simp only[L,Y1,bI];rw[ζ (by refine⟨by lia,?_,h⟩;have:ns.length<2 ^ 63:=(by lia);lia)];congr 2;simp only[x6,Y2,bI,ξ (show ¬x<0 by lia),DA,List.map_take,gq,List.map_drop];rw[Nat.min_eq_left (by lia)]
theorem y3m(ns:List Int)(lo hi:Option Int):dSl (L ns) lo hi=some (L (m5 ns lo hi)):=by simp only[L,dSl,m5,bI,List.map_take,List.map_drop]
theorem zw3(ns:List Int)(lo hi:Option Int):dSl (.scr ns) lo hi=some (L (m5 ns lo hi)):=rfl
theorem Vv{tg:Tg}{g:DS->SR}(n:Nat)(en:Nat->D)(P:Nat->DS->Prop)(ρ:DS)(h0:P 0 ρ)
  (hs:∀i,i<n->∀ρ,P i ρ->∃cu ay,S9 tg (en i) ρ=some cu/\(g cu=.nx ay\/g cu=.ct ay)/\P (i+1) ay) :
  ∃au,B0 tg g ((List.range n).map en) ρ=.nx au/\P n au:=by
 have key:∀k s ρ,s+k=n->P s ρ->∃au,B0 tg g ((List.range' s k).map en) ρ=.nx au/\P n au:=by
  intro k;induction k with
  |zero=>intro s ρ e h;exact⟨ρ,rfl,by rwa [<-e]⟩
  |succ k ih=>
   intro s ρ e h
   obtain⟨cu,ay,e1,e2,q⟩:=hs s (by lia) ρ h
   obtain⟨au,e',p'⟩:=ih (s+1) ay (by lia) q
   refine⟨au,?_,p'⟩
   rw[List.range'_succ,gq]
   rcases e2 with e2 |e2<;>simp only[B0,e1,e2,e']
 rw[List.range_eq_range']
 exact key n 0 ρ (by lia) h0
theorem Vu(n:Nat)(g:Nat->D):((zD 0 ((List.range n).map g).length).zip ((List.range n).map g)).map (fun p=>D.tup [p.1,p.2])=(List.range n).map fun (i:Nat)=>D.tup [.int (i:Int),g i]:=by
 simp only[zD,bI,HW];have:∀(l:List Nat),((l.map fun (i:Nat)=>D.int (0+i)).zip (l.map g)).map (fun p=>D.tup [p.1,p.2])=l.map fun (i:Nat)=>D.tup [.int (i:Int),g i]:=fun l=>by
  induction l with
  |nil=>rfl
  |cons a r ih=>simp only[Int.zero_add]at ih⊢;simp only[gq,CW,ih]
 exact this _
theorem Rp(xs:List α)(d:α):xs=(List.range xs.length).map fun i=>xs.getD i d:=by
 apply List.ext_getElem?;intro i;by_cases h:i<xs.length
 . rw[DB,List.getElem?_range h,CZ,CI,CH h];rfl
 . rw[EL (by lia),EL (by simp;lia)]
theorem y0s(ns:List Int):isT "list" (L ns)=true:=by simp only[L,isT,beq_self_eq_true]
theorem zw4(m:List Bool)(ρ:DS):j9 false m ρ=frz m ρ:=rfl
theorem y0t(ρ:DS):frz [] ρ=ρ:=by cases ρ<;>rfl
theorem y0u(m:List Bool):frz m []=[]:=by cases m<;>rfl
theorem y0v(b:Bool)(m:List Bool)(s:Sl)(r:DS):frz (b::m) (s::r)=s.frz b::frz m r:=rfl
theorem zw5(b:Bool)(d:D):Sl.frz b (.im d)=.im d:=rfl
theorem zre(d:D):Sl.frz false (.ow d)=.ow d:=rfl
theorem zrf(d:D):Sl.frz true (.ow d)=.im d:=rfl
theorem y0w(h:-(2 ^ 64)<j/\j<2 ^ 64):Cn (.int i) (.int j)=some (.int (i * j)):=by unfold Cn;rw[Jj,ζ (show CMul i j from Or.inr h)]
theorem y9(h:0<j):v7 (.int i) (.int j)=some (.int (i % j)):=by unfold v7;rw[Jj,ζ h]
theorem Dn(h:0<j/\j<1073741824):O4 (.int i) (.int j)=some (.int (i / j)):=by unfold O4;rw[Jj,ζ (show O6 i j from h)]
theorem zrg(ds:List D):items (.lst ds)=some ds:=rfl
theorem zrh(ds:List D):items (.tup ds)=some ds:=rfl
theorem zjr(ds:List D):keeps false (.lst ds)=false:=by simp only[keeps,D.noL,CM,DR]
noncomputable def T2(p:Int×Int):D:=.tup [.int p.1,.int p.2]
noncomputable def T3(p:Int×Int×Int):D:=.tup [.int p.1,.int p.2.1,.int p.2.2]
theorem Fv(h:ois l'=true)(p:l.Perm l'):u8 l=u8 l':=
 Bj (Ft ((O2 l).trans p) h) (((O2 l).trans p).trans (O2 l').symm) (X1 (Ft p h)) (X1 h)
noncomputable def insB{α:Type}(lt:α->α->Bool)(d:α):List α->List α
 | []=>[d]
 |e::r=>if lt e d=true then e::insB lt d r else d::e::r
def sortB{α:Type}(lt:α->α->Bool):List α->List α
 | []=>[]
 |d::r=>insB lt d (sortB lt r)
section
variable {α:Type}(f:α->D)
theorem Vt(d:α):∀l:List α,F9 (f d) (l.map f)=(insB (fun a b=>ltT (f a) (f b)) d l).map f
 | []=>rfl
 |e::r=>by
  simp only[gq,F9,insB];split
  . rw[gq,Vt d r]
  . rfl
theorem W9:∀l:List α,u8 (l.map f)=(sortB (fun a b=>ltT (f a) (f b)) l).map f
 | []=>rfl
 |d::r=>by simp only[gq,u8,sortB,W9 r,Vt]
variable (lt:α->α->Bool)
theorem Wx(d:α):∀l:List α,(insB lt d l).Perm (d::l)
 | []=>.refl _
 |e::r=>by
  unfold insB;split
  . exact((Wx d r).cons e).trans (.swap d e r)
  . exact .refl _
theorem X3:∀l:List α,(sortB lt l).Perm l
 | []=>.refl _
 |d::r=>(Wx lt d (sortB lt r)).trans ((X3 r).cons d)
end
def so2(ls:List (Int×Int)):List (Int×Int):=sortB (fun a b=>ltT (T2 a) (T2 b)) ls
def so3(ls:List (Int×Int×Int)):List (Int×Int×Int):=sortB (fun a b=>ltT (T3 a) (T3 b)) ls
def soI(ls:List Int):List Int:=sortB (fun a b=>ltT (.int a) (.int b)) ls
theorem Av(ls:List (Int×Int)):u8 (ls.map T2)=(so2 ls).map T2:=W9 _ _
theorem Kg(ls:List (Int×Int×Int)):u8 (ls.map T3)=(so3 ls).map T3:=W9 _ _
theorem Fe(ls:List Int):u8 (ls.map D.int)=(soI ls).map D.int:=W9 _ _
theorem l8(ls:List (Int×Int)):(so2 ls).Perm ls:=X3 _ _
theorem Q1(ls:List (Int×Int×Int)):(so3 ls).Perm ls:=X3 _ _
theorem Fs(ls:List Int):(soI ls).Perm ls:=X3 _ _
theorem V0(xs:List α)(f:α->D)(p:D->Bool)(h:∀x,p (f x)=true):(xs.map f).all p=true:=by rw[DQ];intro d hd;obtain⟨x,_,rfl⟩:=CP.mp hd;exact h x
theorem J7(xs:List α)(f:α->D)(h:∀x,(f x).oi=true):ois (xs.map f)=true:=
 ois_mem.mpr fun d hd=>by obtain⟨x,_,rfl⟩:=CP.mp hd;exact h x
theorem V6(xs:List α)(f:α->D)(n:Nat)(h:∀x,(f x).dep<=n):h7 (xs.map f)<=n:=by
 induction xs with
 |nil=>simp only[DH,h7,DG]
 |cons a r ih=>simp only[gq,h7];have:=h a;lia
theorem Am(xs:List α)(f:α->D)(h:∀x,(f x).pl=true):pls (xs.map f)=true:=by
 induction xs with
 |nil=>simp only[DH,pls]
 |cons a r ih=>simp only[gq,pls,h a,ih,EM]
theorem T8(p:Int×Int):(T2 p).oi=true:=by simp[T2,D.oi,ois]
theorem Pi(p:Int×Int×Int):(T3 p).oi=true:=by simp[T3,D.oi,ois]
theorem Oa(p:Int):(D.int p).oi=true:=by simp[D.oi]
theorem U9(p:Int×Int):(T2 p).dep<=1:=by simp[T2,D.dep,h7]
theorem vf(p:Int×Int×Int):(T3 p).dep<=1:=by simp[T3,D.dep,h7]
theorem G8(p:Int×Int):(T2 p).pl=true:=by simp[T2,D.pl,pls]
theorem V2(p:Int×Int):(T2 p).noL=true:=by simp[T2,D.noL,i9]
theorem ve(p:Int×Int×Int):(T3 p).noL=true:=by simp[T3,D.noL,i9]
theorem Ro(p q:Int×Int):(d5 (T2 p) (T2 q)).isSome=true:=by simp only[T2,d5,j5];repeat (first |rfl |split)
theorem vd(p q:Int×Int×Int):(d5 (T3 p) (T3 q)).isSome=true:=by simp only[T3,d5,j5];repeat (first |rfl |split)
theorem qZ(h:T3 p=T3 q):p=q:=by obtain⟨a,b,c⟩:=p;obtain⟨a',b',c'⟩:=q;simp only[T3,D.tup.injEq,List.cons.injEq,D.int.injEq,HE]at h;simp only[Prod.mk.injEq];exact h
theorem Al(h:T2 p=T2 q):p=q:=by obtain⟨a,b⟩:=p;obtain⟨a',b'⟩:=q;simp only[T2,D.tup.injEq,List.cons.injEq,D.int.injEq,HE]at h;simp only[Prod.mk.injEq];exact h
theorem K0{α β:Type}{f:α->β}(hf:∀x y,f x=f y->x=y):∀{a b:List α},a.map f=b.map f->a=b
 | [],[],_=>rfl
 | [],_::_,h=>by simp at h
 |_::_,[],h=>by simp at h
 |x::a,y::b,h=>by simp only[gq,List.cons.injEq]at h;rw[hf _ _ h.1,K0 hf h.2]
theorem Vs(p:a.Perm b):so3 a=so3 b:=by have:=Fv (J7 b T3 Pi) (p.map T3);rw[Kg,Kg]at this;exact K0 (fun _ _=>qZ) this
theorem w8(p:a.Perm b):so2 a=so2 b:=by have:=Fv (J7 b T2 T8) (p.map T2);rw[Av,Av]at this;exact K0 (fun _ _=>Al) this
theorem Ji(h1:∀y∈ys,y<=m)(h2:m∈ys\/(ys=[]/\d=m)):mxD d ys=m:=by
 cases ys with
 |nil=>
  rcases h2 with h2 |h2
  . cases h2
  . exact h2.2
 |cons n ns=>
  rcases h2 with h2 |h2
  . obtain⟨a,b⟩:=Ax ns n;exact FW (h1 _ a) (b _ h2)
  . cases h2.1
theorem y0y(ds:List D):isT "list" (.lst ds)=true:=by simp only[isT,beq_self_eq_true]
theorem zwb(ds:List D):Z6 [.tup ds]=some (.lst ds):=rfl
theorem zri(ds:List D):z7 [.lst ds]=some (.tup ds):=rfl
theorem Fu(ls:List (Int×Int)):i9 (ls.map T2)=true:=Q2 _ _ fun x _=>V2 x
theorem zmu(ls:List (Int×Int×Int)):i9 (ls.map T3)=true:=Q2 _ _ fun x _=>ve x
theorem Rn(h:ls.length<100000):v5 (.lst (ls.map T2)) [.tup [.int a,.int b]]=some (.lst ((ls++[(a,b)]).map T2)):=by simp only[v5,bI,h,EE,DA,gq,DH];rfl
theorem Jh(p q:Int×Int):eqD (T2 p) (T2 q)=decide (p=q):=by obtain⟨a,b⟩:=p;obtain⟨c,d⟩:=q;simp only[T2,eqD,n6,Aw,Bool.and_true,Prod.mk.injEq,Bool.decide_and]
theorem Ec(p:Int×Int)(ls:List (Int×Int)):dIn false (T2 p) (.tup (ls.map T2))=some (.bl (decide (p∈ls))):=by
 have h1:=V6 ls T2 1 U9;have e:(ls.map T2).any (fun e=>eqD e (T2 p))=decide (p∈ls):=by
  rw[List.any_map,FX,List.any_eq_true,mV];constructor
  . rintro⟨x,hx,h⟩;simp only[Function.comp,Jh,mV]at h;rw[<-h];exact hx
  . intro h;exact⟨p,h,by simp only[Function.comp,Jh,HN]⟩
 unfold dIn dOr L6;simp only[G8,Am ls T2 G8,true_and,ζ (show h7 (ls.map T2)<=20 by lia),e,CM,DR]
theorem Ph(x:Int)(t:Int×Int×Int):dIn false (.int x) (T3 t)=some (.bl (decide (x=t.1)||(decide (x=t.2.1)||decide (x=t.2.2)))):=by unfold dIn dOr L6;simp only[T3,D.pl,pls,h7,D.dep,EM,Nat.max_self,true_and,DG,EE,HG,List.any_nil,Bool.or_false,eqD,Aw,CM,DR];simp only[show ∀a b:Int,decide (a=b)=decide (b=a) from fun a b=>by rw[FX];simp[eq_comm]]
theorem zwd(t:Int×Int×Int):L5 [T3 t]=some (.int (t.1+(t.2.1+(t.2.2+0)))):=by simp only[T3,L5,n5,CZ,FI,List.sum_nil]
theorem zwe(t:Int×Int):L5 [T2 t]=some (.int (t.1+(t.2+0))):=by simp only[T2,L5,n5,CZ,FI,List.sum_nil]
theorem zwf(t:Int×Int):k7 "tuple" (T2 t)=some (.bl true):=Jr _
theorem zwg(t:Int×Int):j8 [T2 t]=some (.int 2):=rfl
theorem y0z(t:Int×Int):dIx (T2 t) (.int 0)=some (.int t.1):=Eu _ _
theorem y10(t:Int×Int):dIx (T2 t) (.int 1)=some (.int t.2):=Js _ _ _
theorem Rl(a b:List (Int×Int))(h:a.length+b.length<=100000):v6 (.lst (a.map T2)) (.lst (b.map T2))=some (.lst ((a++b).map T2)):=by simp only[v6,bI,h,EE,DA]
theorem Ww:∀{ds:List D}{ns:List Int},n5 ds=some ns->ds=ns.map D.int
 | [],ns,h=>by simp only[n5,Option.some.injEq]at h;subst h;rfl
 |d::ds,ns,h=>by
  cases d<;>simp only[n5]at h<;>first | (cases h;done) |skip
  cases hr:n5 ds with
  |none=>rw[hr]at h;cases h
  |some r=>rw[hr]at h;cases h;rw[Ww hr];rfl
theorem Ue:∀{xs:List V}{us:List Value},xs.length=us.length->(∀(i:Nat) x u,xs[i]?=some x->us[i]?=some u->RelV x u)->Vals xs us
 | [],[],_,_=>.nil
 | [],_::_,h,_=>by simp at h
 |_::_,[],h,_=>by simp at h
 |x::xs,u::us,h,k=>.cons (k 0 x u rfl rfl) (Ue (by simpa using h) fun i y v a b=>k (i+1) y v (by simpa using a) (by simpa using b))
def tLR(ta:TA):TE:=fun σ H Q=>ta σ H fun vs H1=>∃j:Int,vs=[.int j]/\0<=j/\j<=100000/\∀l,H1 l=none->Q (.ref l) (upd H1 l (.lst ((List.range j.toNat).map fun (k:Nat)=>V.int (k:Int))))
section
variable {X:Cx}{σ:St}{H:Hp}{Q:VK}
theorem zct(hc:X.calm=true)(mx:Gl X "list")(my:X.mg "list"=none)(hg:Gl X "range")(hm:X.mg "range"=none)(ha:PA X [a] ta)(hs:starEach [a] X.env=[(false,eval a X.env)]:=by rfl)
  (iE:starEach [.Call (.Name "range" p') [a] [] aP] X.env=(false,eval (.Call (.Name "range" p') [a] [] aP) X.env)::starEach [] X.env:=by rfl) (hpl:(backTo pos (starEach [] X.env)).any (·.1)=false:=by rfl) :
  PE X (.Call (.Name "list" p) [.Call (.Name "range" p') [a] [] aP] [] pos) (tLR ta):=by
 intro pins s σ H Q I h
 refine Ia (P9 I mx my boot_list ?_)
 refine GP ?_ iE hpl
 rw[iE]
 show wpAny _ _ (spliced ((false,eval (.Call (.Name "range" p') [a] [] aP) X.env)::backTo pos (starEach [] X.env))) _ _ s
 refine Calls.spliced_cons ?_
 refine Call_ (P9 I hg hm boot_range (GP (thn (ha aP pins s σ H _ I h) fun us s1 ⟨vs,H1,I1,r1,q1⟩=>?_) hs rfl))
 obtain⟨j,e,j0,j1,q⟩:=q1
 subst e
 cases r1 with
 |cons r rr=>
  cases rr
  obtain⟨t,rfl⟩:=r
  refine call_range_1 ?_
  refine Calls.spliced_nil ?_
  obtain⟨hp,mz⟩:∃hp,hp=s1.heap.push { cls:=.type "range",data:=.fields #[.int 0 s1.toks,.int j t,.int 1 (s1.toks+1)] }:=⟨_,rfl⟩
  have I2:Inv X pins σ H1 { s1 with heap:=hp,toks:=s1.toks+1+1 }:=I1.kept fun b o e=>by rw[mz];exact Φ _ e
  have hr:IsRange hp s1.heap.objs.size 0 j 1 s1.toks t (s1.toks+1):=by rw[mz];exact IsRange.new ..
  rw[<-mz]
  refine call_list_range (n:=j.toNat) (I2.ok.hd hc) hr (small_one (by lia) (by lia) (by lia) (by lia)) (by rw[rangeSize_one];split<;>lia) (by lia) fun h' tk acc c' kp hl bW=>?_
  have hz:((List.range j.toNat).map fun (k:Nat)=>V.int (k:Int)).length<=sizeLine:=by rw[bI,HW];exact R5 (by lia)
  have rv:Vals ((List.range j.toNat).map fun (k:Nat)=>V.int (k:Int)) acc.toList:=by
   refine Ue (by rw[bI,HW,CN];exact bW.1.symm) fun i x u hx hu=>?_
   rw[FS]at hu;obtain⟨t',rfl⟩:=bW.2 i u hu;rw[DB]at hx;cases hr:(List.range j.toNat)[i]? with
   |none=>rw[hr]at hx;cases hx
   |some k=>
    rw[hr]at hx
    cases hx
    have:=List.getElem?_range (i:=i) (n:=j.toNat) (by apply tB;intro hn;rw[EL (by rw[HW];lia)]at hr;cases hr)
    rw[this]at hr;cases hr
    exact⟨t',by simp⟩
  exact⟨.ref hp.objs.size,_,I2.laid (t':=tk) kp (η _) (show ObjOk X.prog X.w _ h' _ (.lst _) from⟨hz,acc.toList,c',rv,by simpa using hl⟩),rfl,q _ (I2.hok.fresh (η _))⟩
end
def eLR(fs:DE->R (List D)):DE->R D:=fun ρ=>(fs ρ).bind fun ds=>match ds with
 | [.int j]=>if 0<=j/\j<=100000 then .ok (L ((List.range j.toNat).map fun (k:Nat)=>(k:Int))) else .st
 |_=>.st
section
variable {X:Cx}{EX:XW}{σ:St}{H:Hp}{Q:VK}
theorem y3n{K:Frag}{fs:DE->R (List D)}(h:TEd K EX true (eLR fs) σ H Q):tLR (TAd K EX fs) σ H Q:=by
 obtain⟨sx,ρ,H0,s,e,h⟩:=h;unfold eLR at h;rw[Rk.bind]at h;refine TAd.go sx s e h fun ds h vs H1 ar s1 e1 r1=>?_
 split at h
 . rename_i j;split at h
   . rename_i hj;obtain⟨x,rfl,q1⟩:=r1.uno;cases q1.int;refine⟨j,rfl,hj.1,hj.2,fun l hl=>h _ _ (Out.after s1 e1 (.new e1.2.1 hl fun H' hH=>?_))⟩;simp only[OB,L];refine⟨_,hH,?_⟩;rw[show(List.range j.toNat).map (fun (k:Nat)=>V.int (k:Int))=((List.range j.toNat).map fun (k:Nat)=>(k:Int)).map V.int by rw[DI];rfl];exact RDs.ofInts _
   . exact h.elim
 . exact h.elim
theorem y3o(hc:X.calm=true)(mx:Gl X "list")(my:X.mg "list"=none)(hg:Gl X "range")(hm:X.mg "range"=none)(ha:QA X EX [a] fs)(hs:starEach [a] X.env=[(false,eval a X.env)]:=by rfl)
 (iE:starEach [.Call (.Name "range" p') [a] [] aP] X.env=(false,eval (.Call (.Name "range" p') [a] [] aP) X.env)::starEach [] X.env:=by rfl) (hpl:(backTo pos (starEach [] X.env)).any (·.1)=false:=by rfl) :
 QE X EX true (.Call (.Name "list" p) [.Call (.Name "range" p') [a] [] aP] [] pos) (eLR fs):=⟨(zct hc mx my hg hm ha.h hs iE hpl).imp fun _ _ _ q=>y3n q⟩
end
noncomputable def hid(as:List Addr)(H:Hp):Hp:=fun b=>if b∈as then none else H b
theorem qY(h:a∈as):hid as H a=none:=ζ h
theorem Fd(h:a∉as):hid as H a=H a:=ξ h
theorem Fc{α:Type}{l:List α}{i j:Nat}{x y:α}(h:(l.set i x)[j]?=some y):(i=j/\x=y)\/(i≠j/\l[j]?=some y):=by
 by_cases e:i=j
 . subst e;by_cases hl:i<l.length
   . rw[FM hl]at h;exact .inl ⟨rfl,Option.some.inj h⟩
   . rw[EL (by rw[HJ];lia)]at h;cases h
 . rw[FJ e]at h;exact .inr ⟨e,h⟩
mutual
noncomputable def nkD:D->Option NK
 | .int n=>some (.i n)
 | .tup ds=>(F8 ds).map .t
 |_=>none
noncomputable def F8:List D->Option (List NK)
 | []=>some []
 |d::ds=>match nkD d,F8 ds with
  |some k,some ks=>some (k::ks)
  |_,_=>none
end
mutual
theorem Ak{K:Frag}{H:Hp}:∀{d:D}{k:NK}{x:V},nkD d=some k->RD K H d x->NKr H k x
 | .int n,k,x,e,r=>by simp only[nkD,Option.some.injEq]at e;subst e;cases r.int;simp only[NKr]
 | .tup ds,k,x,e,r=>by simp only[nkD,HS]at e;obtain⟨ks,e,rfl⟩:=e;obtain⟨a,xs,rfl,ha,ra⟩:=r.tup;simp only[NKr];exact⟨a,xs,rfl,ha,Ud e ra⟩
 | .non,_,_,e,_=>by simp[nkD]at e
 | .bl _,_,_,e,_=>by simp[nkD]at e
 | .str _,_,_,e,_=>by simp[nkD]at e
 | .lst _,_,_,e,_=>by simp[nkD]at e
 | .dk _ _,_,_,e,_=>by simp[nkD]at e
 | .dt _ _,_,_,e,_=>by simp[nkD]at e
 | .dn _ _,_,_,e,_=>by simp[nkD]at e
 | .scr _,_,_,e,_=>by simp[nkD]at e
 | .exc _ _,_,_,e,_=>by simp[nkD]at e
theorem Ud{K:Frag}{H:Hp}:∀{ds:List D}{ks:List NK}{xs:List V},F8 ds=some ks->RDs K H ds xs->NKrs H ks xs
 | [],ks,xs,e,r=>by simp only[F8,Option.some.injEq]at e;subst e;simp only[RDs]at r;subst r;simp only[NKrs]
 |d::ds,ks,xs,e,r=>by
  simp only[RDs]at r;obtain⟨x,r,rfl,r1,r2⟩:=r;simp only[F8]at e;split at e
  . rename_i k BH e1 e2;cases e;simp only[NKrs];exact⟨x,_,rfl,Ak e1 r1,Ud e2 r2⟩
  . cases e
end
noncomputable def putQ(qs:List (NK×Addr))(k:NK)(b:Addr):List (NK×Addr):=if k∈qs.map (·.1) then qs else qs++[(k,b)]
noncomputable def z3(qs:List (NK×Addr))(vs:List Value):List (NK×Addr×Value):=(qs.zip vs).map fun q=>(q.1.1,q.1.2,q.2)
theorem Eb:∀(qs:List (NK×Addr))(vs:List Value),qs.length=vs.length->(z3 qs vs).map (·.1)=qs.map (·.1)
 | [],_,_=>rfl
 |q::qs,[],h=>by simp at h
 |q::qs,v::vs,h=>by have:=Eb qs vs (by simpa using h);simp only[z3,CW,gq]at this⊢;rw[this]
theorem Rj(qs:List (NK×Addr))(vs:List Value)(h:qs.length=vs.length):(z3 qs vs).length=qs.length:=by simp only[z3,bI,EN];lia
theorem Uc(xs:List (NK×Addr×α))(k:NK):((xs.find? fun x=>decide (x.1=k)).map (·.2)).isSome=decide (k∈xs.map (·.1)):=by
 rw[Ir,FX,List.find?_isSome,mV,CP];constructor
 . rintro⟨x,hx,e⟩;exact⟨x,hx,by simpa using e⟩
 . rintro⟨x,hx,e⟩;exact⟨x,hx,by simpa using e⟩
theorem qX(qs:List (NK×Addr))(vs:List Value)(h:qs.length=vs.length)(k:NK)(b:Addr)(u:Value):storedH (z3 qs vs) k b u=z3 (putQ qs k b) (m7 (qs.map (·.1)) vs k u)/\(putQ qs k b).length=(m7 (qs.map (·.1)) vs k u).length:=by
 unfold storedH putQ m7;have e:=Uc (z3 qs vs) k;rw[Eb qs vs h]at e;rw[show(atKey (z3 qs vs) k).isSome=decide (k∈qs.map (·.1)) from e];by_cases hk:k∈qs.map (·.1)
 . rw[ζ (decide_eq_true hk),ζ hk,ζ hk];have go:∀(qs:List (NK×Addr))(vs:List Value),qs.length=vs.length->(z3 qs vs).map (putAt k u)=z3 qs (List.zipWith (fun k' d'=>if k'=k then u else d') (qs.map (·.1)) vs)/\qs.length=(List.zipWith (fun k' d'=>if k'=k then u else d') (qs.map (·.1)) vs).length:=by
    intro qs;induction qs with
    |nil=>intro vs _;exact⟨rfl,rfl⟩
    |cons q qs ih=>
     intro vs h
     cases vs with
     |nil=>simp at h
     |cons v vs=>
      obtain⟨i1,i2⟩:=ih vs (by simpa using h)
      simp only[z3,CW,gq,HV,pp]at i1 i2⊢
      refine⟨?_,by lia⟩
      rw[i1]
      congr 1
      unfold putAt
      by_cases z:q.1=k
      . simp only[ζ z]
      . simp only[ξ z]
   exact go qs vs h
 . rw[ξ (by simpa using hk),ξ hk,ξ hk];refine⟨?_,by simp;lia⟩;unfold z3;rw[List.zip_append h,DA];rfl
section
variable {X:Cx}{pins:List (Addr×Obj)}{σ:St}{H:Hp}{s:Shared}
theorem zm{ks:List NK}{k:NK}{v:V}{u:Value}(ru:RelV v u){xs:List V}{vs:List Value}(r:Vals xs vs):Vals (m7 ks xs k v) (m7 ks vs k u):=by
 unfold m7;split
 . have go:∀(ks:List NK)(xs:List V)(vs:List Value),Vals xs vs->Vals (List.zipWith (fun k' d'=>if k'=k then v else d') ks xs) (List.zipWith (fun k' d'=>if k'=k then u else d') ks vs):=by
    intro ks
    induction ks with
    |nil=>intro xs vs _;exact .nil
    |cons k' ks ih=>
     intro xs vs r
     cases r with
     |nil=>exact .nil
     |cons a1 a2=>
      simp only[HV]
      refine .cons ?_ (ih _ _ a2)
      split
      . exact ru
      . exact a1
   exact go ks xs vs r
 . exact r.append (.cons ru .nil)
theorem Au(I:Inv X pins σ H s)(e:H a=some (.ext (dnP a qs xs ob)))(n:DN H a qs):s.heap.get? a=some ob/\∃vs,Vals xs vs/\qs.length=vs.length/\Heap.DictOfH (deepKind X.prog X.w) s.heap a (z3 qs vs):=by obtain⟨p,_,_⟩:=(show ObjOk X.prog X.w H s.heap a (.ext (dnP a qs xs ob)) from I.hok a _ e);obtain⟨p3,vs,es,ep,p1,p2,p4,p5,p6⟩:=p;refine⟨p3,vs,p1,p2,ob,es,ep,p3,p4,p5,p6,fun x hx=>?_,by rw[Eb qs vs p2];exact n.1⟩;obtain⟨q,hq,rfl⟩:=CP.mp hx;have oN:=(List.of_mem_zip hq).1;exact⟨U1 I (n.2.1 _ oN).1 rfl,(n.2.1 _ oN).2⟩
end
def Pg:S5:=fun o i v H Q=>∃(a:Addr)(qs:List (NK×Addr))(xs:List V)(k:NK)(b:Addr)(ob:Obj),o=.ref a/\i=.ref b/\H a=some (.ext (dnP a qs xs ob))/\DN H a qs/\NKr H k (.ref b)/\k.dep<=8/\qs.length<sizeLine/\∀dQ,Q (upd H a (.ext (dnP a (putQ qs k b) (m7 (qs.map (·.1)) xs k v) dQ)))
theorem Pf(hu:X.A.units+64<cLine):Cz X Pg:=by
 intro pins s σ H o i v ov iv u Q I ro ri rv h;obtain⟨a,qs,xs,k,b,ob,rfl,rfl,e,n,hk,hd,hl,q⟩:=h;cases ro;cases ri;obtain⟨_,vs,p1,p2,dd⟩:=Au I e n;have hz:(z3 qs vs).length<=sizeLine:=by rw[Rj qs vs p2];lia
 refine wpAny_setItem_heap (knd:=deepKind X.prog X.w) (hsz:=hz) (by show X.A.units+1+8<cLine;lia) ⟨U1 I hk rfl,hd⟩ dd fun h' dO hs=>?_
 obtain⟨e1,e2⟩:=qX qs vs p2 k b u;rw[e1]at dO;obtain⟨o',es,ep,d1,d2,d3,d4,_⟩:=dO;refine⟨_,?_,q o'⟩;exact Fk I (by rw[e];exact True.intro) hs ⟨o',d1⟩ ⟨⟨d1,_,es,ep,zm rv p1,e2,d2,d3,d4⟩,⟨o',d1⟩,dnP.stay⟩
def dSetN:D->D->D->Option D
 | .dn ks ds,.tup es,v=>match nkD (.tup es) with
  |some k=>if ks.length<100000/\k.dep<=8 then some (.dn (D5 ks k) (m7 ks ds k v)) else none
  |none=>none
 |_,_,_=>none
theorem Ub{K:Frag}:Gu K dSetN Pg:=by
 intro H0 H a d d' dk dv y v Q s h0 ob rk rv hm k;cases d<;>simp only[dSetN]at hm<;>first |cases hm |skip
 cases dk<;>simp only[dSetN]at hm<;>first |cases hm |skip
 rename_i ks ds es;split at hm
 . rename_i kk dA;split at hm
   . rename_i hl;cases hm;simp only[OB]at ob;obtain⟨qs,xs,sV,hx,hk,n,rx⟩:=ob;have sW:=rk;obtain⟨b,ys,rfl,hb,rb⟩:=rk.tup;have nk:=Ak dA sW;have ao:qs.length=ks.length:=by rw[<-hk,bI]
     have mono:∀a ys,H0 a=some (.tup ys)->H a=some (.tup ys):=fun c ys q=>s _ _ q
     refine⟨a,qs,xs,kk,b,sV,rfl,rfl,hx,n.tk mono,NKr.mono mono nk,hl.2,by rw[ao];exact Q3 hl.1,fun dQ=>k _ ?_⟩;simp only[OB];refine⟨_,_,dQ,k9,?_,?_,by rw[hk];exact Kj kk rv rx⟩
     . unfold putQ D5;rw[hk];split
       . exact hk
       . rw[DA,hk];rfl
     . obtain⟨n1,n2,n3,n4⟩:=n;unfold putQ;split
       . exact⟨n1,n2,n3,n4⟩
       . rename_i hn;refine⟨?_,fun q hq=>?_,n3,?_⟩
         . rw[DA,gq,DH];exact ER.mpr ⟨n1,by simp,fun x hx y hy e=>hn (by rw[gV.mp hy]at e;have e':x=kk:=e;rw[<-e'];exact hx)⟩
         . rcases CK.mp hq with z |z
           . exact n2 q z
           . rw[gV.mp z];exact⟨nk,hl.2⟩
         . have:=Q3 hl.1;rw[χ,FC];lia
   . cases hm
 . cases hm
section
variable {X:Cx}{EX:XW}{fr:Bool}{m:List Bool}{pos:Pos}{e:Expr}{fk fv:DE->R D}
theorem qW(hu:X.A.units+64<cLine)(ho:PE X o (n8 i))(hk:QE X EX false ix fk)(hv:QE X EX false e fv)
 (ha:∀v,assign (.Subscript o ix am) X.env v=(do
  let ov <-holding [v] (eval o X.env)
  let iv <-holding [v,ov] (eval ix X.env)
  standAt am
  holding [v,ov,iv] (setItem ov iv v)
  release [v,ov,iv] []):=by intro _;rfl) (hs:swapsWithSole [.Subscript o ix am] e pos.line X.env=pure false:=by rfl) (hw:swappedStores [.Subscript o ix am] e X.env=pure none:=by rfl)
 (h1:(assignEach [.Subscript o ix am] X.env).map (·.2)=[assign (.Subscript o ix am) X.env]:=by rfl):QS X EX fr (.Assign [.Subscript o ix am] e pos) (G6 dSetN i m fk fv):=⟨(Jo hv.h (Jp ho hk.h (Pf hu) ha) hs hw h1).imp fun _ _ _ q=>Ho Ub q⟩
noncomputable def Dm:DE->R D:=fun _=>.ok (.dn [] [])
theorem pe_dnewN:PE X (.Dict [] [] pos) (fun _ H Q=>∀p ob,H p=none->(p==sysModules)=false->Q (.ref p) (upd H p (.ext (dnP p [] [] ob)))):=fun pins s σ H Q I h=>
 wpAny_Dict_empty ⟨.ref s.heap.objs.size,_,I.laid (a:=s.heap.objs.size) (o:=.ext (dnP s.heap.objs.size [] [] { cls:=.type "dict",data:=.dict #[] })) (t':=s.toks) (fun _ _ q=>Φ _ q) (η _) ⟨⟨Ω _ rfl,[],#[],0,.nil,rfl,⟨rfl,rfl,rfl⟩,rfl,rfl⟩,⟨_,Ω _ rfl⟩,dnP.stay⟩,rfl,h _ _ (I.hok.fresh (η _)) (Ii.mpr (GF (CY I.big)))⟩
theorem Ri:QE X EX true (.Dict [] [] pos) Dm:=⟨pe_dnewN.imp fun σ H Q ⟨sx,ρ,H0,s,e,h⟩ p ob hp hq=>h _ _ (.new s hp fun H' hH=>by simp only[OB];exact⟨[],[],ob,hH,rfl,⟨GZ,fun q hq=>(by simp at hq),hq,DG _⟩,.nil⟩)⟩
end
section
open PySem.SeqAt
open PySem.AutoSeq1 (wpAny_loadPart')
open PySem.MeetsSeq PySem.MeetsSeq2 PySem.MeetsSeq3
end
noncomputable def TuI(ns:List Int):D:=.tup (ns.map .int)
theorem Li:∀ns:List Int,ois (ns.map D.int)=true/\h7 (ns.map D.int)=0
 | []=>by simp[ois,h7]
 |n::ns=>by have:=Li ns;simp only[gq,ois,h7,D.oi,D.dep,this.1,this.2,EM,Nat.max_self,and_self]
theorem qV(ns:List Int):(TuI ns).oi=true:=by simp only[TuI,D.oi];exact(Li ns).1
theorem Wv:∀a b:List Int,∃r,j5 (a.map D.int) (b.map D.int)=some r
 | [],[]=>⟨_,rfl⟩
 | [],_::_=>⟨_,rfl⟩
 |_::_,[]=>⟨_,rfl⟩
 |x::a,y::b=>by
  simp only[gq,j5];split
  . exact Wv a b
  . exact⟨_,rfl⟩
end L2
namespace L2
open PySem PySem.Spec PyProof.Rows
noncomputable def o6(es:Array DictEntry)(ep:Nat):Obj:={ cls:=.type "dict",data:=.dict es ep }
section
open PySem.SeqAt
open PySem.AutoSeq1 (wpAny_loadPart')
end
mutual
noncomputable def B8:NK->D
 | .i n=>.int n
 | .t ks=>.tup (J6 ks)
noncomputable def J6:List NK->List D
 | []=>[]
 |k::ks=>B8 k::J6 ks
end
mutual
theorem Pe{K:Frag}{H:Hp}:∀{k:NK}{x:V},NKr H k x->RD K H (B8 k) x
 | .i n,x,h=>by simp only[NKr]at h;subst h;simp only[B8,RD]
 | .t ks,x,h=>by simp only[NKr]at h;obtain⟨a,xs,rfl,ha,hs⟩:=h;simp only[B8,RD];exact⟨a,xs,rfl,ha,Rh hs⟩
theorem Rh{K:Frag}{H:Hp}:∀{ks:List NK}{xs:List V},NKrs H ks xs->RDs K H (J6 ks) xs
 | [],xs,h=>by simp only[NKrs]at h;subst h;simp only[J6,RDs]
 |k::ks,xs,h=>by simp only[NKrs]at h;obtain⟨x,r,rfl,h1,h2⟩:=h;simp only[J6,RDs];exact⟨x,r,rfl,Pe h1,Rh h2⟩
end
end L2
namespace L2
open PySem PySem.Spec PyProof.Rows
noncomputable def M7(a b:Value):Obj:={ cls:=.type "tuple",data:=.seq #[a,b] }
noncomputable def qU(l:Addr)(i:Nat):Obj:={ cls:=.type "tuple_iterator",data:=.fields #[.ref l,.int i 0] }
section
open PySem.SeqAt
open PySem.AutoSeq1 (wpAny_loadPart')
end
end L2
namespace L2
open PySem PySem.Spec PyProof.Rows
section
theorem G7{h:Heap}{c e:Addr}{f:Obj->Obj}(n:c≠e):(h.update e f).get? c=h.get? c:=Ix _ _ _ _ n
end
section
open PySem.SeqAt
open PySem.AutoSeq1 (wpAny_loadPart')
end
end L2
namespace L2
open PySem PySem.Spec PyProof.Rows
section
open PySem.SeqAt
open PySem.AutoSeq1 (wpAny_loadPart')
end
section
open PySem.SeqAt
open PySem.AutoSeq1 (wpAny_loadPart')
end
end L2
namespace L2
open PySem PySem.Spec PyProof.Rows
noncomputable def C5(d:Addr):Obj:={ cls:=.type "dict_items",data:=.fields #[.ref d] }
noncomputable def n9(f0:Value)(d:Addr)(i n ep:Nat)(ok ov:Value):Obj:={ cls:=.type "dict_itemiterator",data:=.fields #[f0,.bool false,.ref d,.int i 0,.int n 0,.int ep 0,ok,ov] }
def itH(hp:Heap)(it:Addr)(i:Nat)(k v:Value):Heap:=
 (((((hp.update it (Obj.mapFields (·.setIfInBounds (2+1) (rawInt ((i:Int)+1))))).push (M7 k v)).update it (Obj.mapFields (·.setIfInBounds 6 k))).update it (Obj.mapFields (·.setIfInBounds (6+1) v))).update it (Obj.mapFields (·.setIfInBounds 0 (rawInt hp.objs.size)))).update it (Obj.mapFields (·.setIfInBounds 1 (.bool false)))
theorem qT(hl:hp.get? it=some (n9 .none d i n ep ok ov)) :
  (itH hp it i k v).get? it=some (n9 (rawInt hp.objs.size) d (i+1) n ep k v)/\(itH hp it i k v).get? hp.objs.size=some (M7 k v)/\∀c o,c≠it->hp.get? c=some o->(itH hp it i k v).get? c=some o:=by
 have e1:(hp.update it (Obj.mapFields (·.setIfInBounds (2+1) (rawInt ((i:Int)+1))))).get? it=some (n9 .none d (i+1) n ep ok ov):=by rw[EA _ hl rfl];simp[n9,Obj.mapFields,rawInt]
 have s1:(hp.update it (Obj.mapFields (·.setIfInBounds (2+1) (rawInt ((i:Int)+1))))).objs.size=hp.objs.size:=GL ..
 have k1:∀c o,c≠it->hp.get? c=some o->(hp.update it (Obj.mapFields (·.setIfInBounds (2+1) (rawInt ((i:Int)+1))))).get? c=some o:=fun c o n e=>by rw[G7 n];exact e
 have ne:hp.objs.size≠it:=Nat.ne_of_gt (Ξ hl)
 unfold itH
 generalize hp.update it (Obj.mapFields (·.setIfInBounds (2+1) (rawInt ((i:Int)+1))))=H1 at *
 have e2:(H1.push (M7 k v)).get? it=some (n9 .none d (i+1) n ep ok ov):=Φ _ e1
 have t2:(H1.push (M7 k v)).get? hp.objs.size=some (M7 k v):=by rw[<-s1];exact Ω _ rfl
 have e3:((H1.push (M7 k v)).update it (Obj.mapFields (·.setIfInBounds 6 k))).get? it=some (n9 .none d (i+1) n ep k ov):=by rw[EA _ e2 rfl];rfl
 have e4:(((H1.push (M7 k v)).update it (Obj.mapFields (·.setIfInBounds 6 k))).update it (Obj.mapFields (·.setIfInBounds (6+1) v))).get? it=some (n9 .none d (i+1) n ep k v):=by rw[EA _ e3 rfl];rfl
 have e5:((((H1.push (M7 k v)).update it (Obj.mapFields (·.setIfInBounds 6 k))).update it (Obj.mapFields (·.setIfInBounds (6+1) v))).update it (Obj.mapFields (·.setIfInBounds 0 (rawInt hp.objs.size)))).get? it=some (n9 (rawInt hp.objs.size) d (i+1) n ep k v):=by rw[EA _ e4 rfl];rfl
 refine⟨by rw[EA _ e5 rfl];rfl,by rw[G7 ne,G7 ne,G7 ne,G7 ne];exact t2,fun c o n e=>?_⟩
 rw[G7 n,G7 n,G7 n,G7 n]
 exact Φ _ (k1 c o n e)
section
open PySem.SeqAt
open PySem.AutoSeq1 (wpAny_loadPart')
theorem wZ(d:Addr)(es:Array DictEntry)(ep:Nat)(hd:(d==sysModules)=false) :
  Meets (Builtin.«dict.items» ⟨[.ref d],[]⟩) (fun _ R s=>s.heap.get? d=some (o6 es ep)/\R (.ok (.ret (.ref s.heap.objs.size))) { s with heap:=s.heap.push (C5 d) }):=
 .of_wp fun prog w A R s h=>by
  obtain⟨hp,g,dr,tk,os⟩:=s;obtain⟨hl,h⟩:=h;unfold o6 at hl
  wp_walk using DX hl
  exact⟨_,rfl,h⟩
theorem yy(v d:Addr)(es:Array DictEntry)(ep:Nat) :
  Meets (Builtin.«dict_items.__iter__» ⟨[.ref v],[]⟩) (fun _ R s=>s.heap.get? v=some (C5 d)/\s.heap.get? d=some (o6 es ep)/\R (.ok (.ret (.ref s.heap.objs.size))) { s with heap:=s.heap.push (n9 .none d 0 es.size ep .none .none) }):=
 .of_wp fun prog w A R s h=>by
  obtain⟨hp,g,dr,tk,os⟩:=s;obtain⟨hl,hd,h⟩:=h;unfold o6 at hd;unfold C5 at hl
  wp_walk using DX hl,DX hd
  exact⟨_,rfl,h⟩
theorem yx(it d:Addr)(es:Array DictEntry)(ep i:Nat)(ok ov:Value)(hi:i<es.size) :
  Meets (Builtin.«dict_itemiterator.__next__» ⟨[.ref it],[]⟩) (fun _ R s=>s.heap.get? it=some (n9 .none d i es.size ep ok ov)/\s.heap.get? d=some (o6 es ep) /\
   R (.ok (.ret (.ref s.heap.objs.size))) { s with heap:=itH s.heap it i es[i].key es[i].val }):=
 .of_wp fun prog w A R s h=>by
  obtain⟨hp,g,dr,tk,os⟩:=s;obtain⟨hl,hd,h⟩:=h;unfold o6 at hd;unfold n9 at hl;have hsz:(((es.size:Int) != (es.size:Int))=true)=False:=by simp
  have sX:(((ep:Int) != (ep:Int))=true)=False:=by simp
  have mC:(if(i:Int)<0 then none else es[((i:Nat):Int).toNat]?)=some es[i]:=by rw[ξ (by lia)];simp[hi]
  wp_walk using DX hl,DX hd
  rw[mC]
  wp_walk using DX hl,DX hd
  have nJ:Builtin.Dict_items.ownsTuple ((Manifest.find? "dict_itemiterator").elim "dict_itemiterator" fun x=>x.tpName)=true:=by decide +kernel
  refine⟨_,rfl,?_⟩;rw[ζ nJ,ξ (by decide +kernel),GL];exact h
theorem wY(it d:Addr)(es:Array DictEntry)(ep i:Nat)(ok ov:Value)(hi:es.size<=i) :
  Meets (Builtin.«dict_itemiterator.__next__» ⟨[.ref it],[]⟩) (fun A R s=>s.heap.get? it=some (n9 .none d i es.size ep ok ov)/\s.heap.get? d=some (o6 es ep)/\A.in1.handled=none /\
   ∀h' e,(∀c o,c≠it->s.heap.get? c=some o->h'.get? c=some o)->(∃o,h'.get? e=some o/\o.cls=.type "StopIteration")->R (.error (.ref e)) { s with heap:=h' }):=
 .of_wp fun prog w A R s h=>by
  obtain⟨hp,g,dr,tk,os⟩:=s;obtain⟨hl,hd,hh,h⟩:=h;unfold o6 at hd;unfold n9 at hl;have hsz:(((es.size:Int) != (es.size:Int))=true)=False:=by simp
  have sX:(((ep:Int) != (ep:Int))=true)=False:=by simp
  have mC:(if(i:Int)<0 then none else es[((i:Nat):Int).toNat]?)=none:=by rw[ξ (by omega)];simp[hi]
  wp_walk using DX hl,DX hd
  rw[mC]
  wp_walk using DX hl,DX hd
  unfold raiseNew;refine δ (wpAny_handled ?_);rw[hh];refine δ (π (wpAny_throw (h _ _ (fun c o hc e=>?_) ⟨_,Ω _ rfl,rfl⟩)));refine Φ _ (Φ _ ?_);rw[Ix _ _ _ _ hc];exact e
end
end L2
namespace L2
open PySem PySem.Spec PyProof.Rows
section
variable {prog:Program}{w:World}{A:Around}{E:Value->Shared->Prop}{s:Shared}{d it v:Addr}{es:Array DictEntry}{ep i:Nat}{ok ov:Value}
theorem zcx:entryFor table "dict_itemiterator.__iter__"=some Builtin.«dict_keyiterator.__iter__»:=entryFor_alias (id':="dict_keyiterator.__iter__") (by kernel_rfl) rfl (by decide +kernel) (by kernel_rfl)
theorem zX(bW:s.heap.get? it=some (n9 .none d i es.size ep ok ov))(h:Q (.ref it) s):wpAny (model prog w) A (pyIter (.ref it)) Q E s:=by refine wpAny_pyIter_slot ⟨_,bW,rfl⟩ F.slot_dict_itemiterator_iter (wpAny_call_entry F.slot_dict_itemiterator_iter ⟨_,bW,rfl⟩ zcx ?_ (F.args_dict_itemiterator_iter_1 _));show wpAny _ _ (ret (.ref it)) _ _ s;exact π ⟨_,rfl,"dict_itemiterator",_,⟨_,bW,rfl⟩,EO.lookup,h⟩
theorem zW(hv:s.heap.get? v=some (C5 d))(hm:s.heap.get? d=some (o6 es ep))(hQ:Q (.ref s.heap.objs.size) { s with heap:=s.heap.push (n9 .none d 0 es.size ep .none .none) }) :
  wpAny (model prog w) A (pyIter (.ref v)) Q E s:=
 wpAny_pyIter_slot ⟨_,hv,rfl⟩ F.slot_dict_items_iter (call_meets F.slot_dict_items_iter ⟨_,hv,rfl⟩ F.entry_dict_items_iter (F.args_dict_items_iter_1 _) (yy v d es ep)
  ⟨hv,hm,⟨"dict_itemiterator",_,⟨_,Ω _ rfl,rfl⟩,EO.lookup,hQ⟩⟩)
theorem zV(bW:s.heap.get? it=some (n9 .none d i es.size ep ok ov))(hm:s.heap.get? d=some (o6 es ep))(hi:i<es.size)
  (hQ:Q (some (.ref s.heap.objs.size)) { s with heap:=itH s.heap it i es[i].key es[i].val }):wpAny (model prog w) A (pyNext (.ref it)) Q E s:=by
 unfold pyNext
 exact δ (wpAny_attempt (wpAny_callSpecial?_slot (name:=Str.ofString "__next__") ⟨_,bW,rfl⟩ EO
  (call_meets EO ⟨_,bW,rfl⟩ F.entry_dict_itemiterator_next (F.args_dict_itemiterator_next_1 _) (yx it d es ep i ok ov hi) ⟨bW,hm,π hQ⟩)))
theorem zl(hh:A.handled=none)(bW:s.heap.get? it=some (n9 .none d i es.size ep ok ov))(hm:s.heap.get? d=some (o6 es ep))(hi:es.size<=i)
  (hQ:∀h',(∀c o,c≠it->s.heap.get? c=some o->h'.get? c=some o)->Q none { s with heap:=h' }):wpAny (model prog w) A (pyNext (.ref it)) Q E s:=by
 unfold pyNext
 refine δ (wpAny_attempt (wpAny_callSpecial?_slot (name:=Str.ofString "__next__") ⟨_,bW,rfl⟩ EO
  (call_meets EO ⟨_,bW,rfl⟩ F.entry_dict_itemiterator_next (F.args_dict_itemiterator_next_1 _) (wY it d es ep i ok ov hi) ⟨bW,hm,hh,fun h' e kp he=>?_⟩)))
 obtain⟨o,ho,hc⟩:=he
 exact δ (wpAny_isInstance (T:="StopIteration") (b:=true) ⟨o,ho,hc⟩ isSubtype_stop (π (hQ h' kp)))
end
theorem Jg(I:Inv X pins σ H s)(e:H a=some (.ext (dnP a qs xs ob)))(n:DN H a qs) :
  ∃vs es ep,ob=o6 es ep/\s.heap.get? a=some (o6 es ep)/\Vals xs vs/\qs.length=vs.length/\es.toList=(z3 qs vs).map dnE:=by
 obtain⟨g0,vs,p1,p2,o,es,ep,d1,d2,d3,d4,_⟩:=Au I e n
 rw[g0]at d1;cases d1
 have eo:ob=o6 es ep:=by obtain⟨cl,di,da,sl⟩:=ob;obtain⟨q1,q2,q3⟩:=d2;simp only at q1 q2 q3 d3;subst q1 q2 q3 d3;rfl
 exact⟨vs,es,ep,eo,by rw[g0,eo],p1,p2,d4⟩
theorem Vr(h:o6 es ep=o6 eP eQ):es=eP/\ep=eQ:=by unfold o6 at h;injection h with _ _ h;injection h with h1 h2;exact⟨h1,h2⟩
theorem zU{P:Program}{w:World}{K:Frag}{bz:List Expr}{k:Nat}{pos:Pos}{it d:Addr}{qs:List (NK×Addr)}{ys:List V}{es:Array DictEntry}{ep:Nat}(hl:qs.length=ys.length)(dE:es.size=qs.length) :
  Turn P w K (.Tuple bz k pos) (ItP (fun H=>H d=some (.ext (dnP d qs ys (o6 es ep)))/\DN H d qs) ((qs.map fun q=>V.ref q.2).zip ys)) [it] it
   (fun i h=>∃ok ov,h.get? it=some (n9 .none d i es.size ep ok ov)) where
 mem:=by simp
 obj:=fun i h ⟨ok,ov,hz⟩ c hc=>by
  have aN:c=it:=by simpa using hc
  subst aN;exact⟨_,hz,fun v e=>by cases e⟩
 keep:=fun i h h' ⟨ok,ov,hz⟩ kp=>⟨ok,ov,kp it (by simp) _ hz⟩
 item:=by
  intro X hP hw hK hc i pins s σ H E I hf st hg;subst hP hw hK;obtain⟨⟨hS,n⟩,aC⟩:=hg;obtain⟨ok,ov,hz⟩:=st;obtain⟨vs,eP,eQ,eo,ed,p1,p2,d4⟩:=Jg I hS n;obtain⟨rfl,rfl⟩:=Vr eo;rw[EN,bI]at aC;have hi:i<es.size:=by lia
  have oO:i<qs.length:=by lia
  obtain⟨y,ey⟩:∃y,ys[i]?=some y:=⟨ys[i]'(by lia),by simp⟩;obtain⟨u,hu,ru⟩:=p1.get ey;have gJ:(z3 qs vs)[i]?=some (qs[i].1,qs[i].2,u):=by unfold z3;have sY:(qs.zip vs)[i]?=some (qs[i],u):=FT.mpr ⟨CH oO,hu⟩;rw[DB,sY];rfl
  have he:es[i]=dnE (qs[i].1,qs[i].2,u):=by
   have h1:es.toList[i]?=some (dnE (qs[i].1,qs[i].2,u)):=by rw[d4,DB,gJ];rfl
   rw[FS,Array.getElem?_eq_getElem hi]at h1;exact Option.some.inj h1
  obtain⟨f1,f2,f3⟩:=qT (k:=es[i].key) (v:=es[i].val) hz;refine zV hz ed hi ⟨.ref s.heap.objs.size,rfl,?_⟩;generalize itH s.heap it i es[i].key es[i].val=HF at f1 f2 f3;rw[he]at f1 f2;refine wpAny_letOwnedTupleGo_items f1 fun h' sZ tf=>?_
  have nT:s.heap.objs.size≠it:=Nat.ne_of_gt (Ξ hz);have up:∀{c o},c≠it->HF.get? c=some o->h'.get? c=some o:=fun n e=>tf.extBut _ _ n e
  have ht:IsTp h' s.heap.objs.size ([Value.ref qs[i].2,u]:List Value).toArray:=.mk' (up nT f2);have sub:∀c∈[it],v9 X pins H c:=hf;have I2:=I.turnedT (tk:=s.toks) (h':=h') (xs:=[V.ref qs[i].2,y]) (its:=[Value.ref qs[i].2,u]) sub (fun c o fB e=>by
   have aN:c≠it:=by simpa using fB
   exact up aN (f3 c o aN e)) (η _) ht (.cons rfl (.cons ru .nil)) Sh
  have HT:H s.heap.objs.size=none:=I.hok.fresh (η _);refine⟨.ref s.heap.objs.size,upd H s.heap.objs.size (.tup [V.ref qs[i].2,y]),I2,rfl,⟨s.heap.objs.size,_,_,rfl,HT,rfl,?_⟩,⟨_,_,sZ⟩,fun c aN=>?_⟩
  . rw[FT];exact⟨by rw[DB,CH oO];rfl,ey⟩
  . rw[e9]
    . exact(hf c aN).1
    . intro e;have fX:c=it:=by simpa using aN
      rw[fX]at e;exact nT e.symm
 done:=by
  intro X hP hw hK hc i pins s σ H E I hf st hg;subst hP hw hK;obtain⟨⟨hS,n⟩,cT⟩:=hg;obtain⟨ok,ov,hz⟩:=st;obtain⟨vs,eP,eQ,eo,ed,p1,p2,d4⟩:=Jg I hS n;obtain⟨rfl,rfl⟩:=Vr eo;rw[EN,bI]at cT;refine zl (I.ok.hd hc) hz ed (by lia) fun h' kp=>⟨rfl,?_⟩
  exact I.turnedN (tk:=s.toks) (wr:=[it]) hf fun c o fB e=>kp c o (by simpa using fB) e
 self:=fun A i s Q E ⟨ok,ov,st⟩ h=>zX st h
def qS(td:TE):TI:=fun σ H R=>td σ H fun x H1=>∃(a:Addr)(qs:List (NK×Addr))(ys:List V)(ob:Obj),x=.ref a/\H1 a=some (.ext (dnP a qs ys ob))/\DN H1 a qs/\qs.length=ys.length /\
 R (ItP (fun H=>H a=some (.ext (dnP a qs ys ob))/\DN H a qs) ((qs.map fun q=>V.ref q.2).zip ys)) H1
section
variable {X:Cx}{o:Expr}{td:TE}{aF ah am:Pos}{bz:List Expr}{k:Nat}
theorem yw(ho:PE X o td)(aL:attributeBase o "items" X.env (eval o X.env)=eval o X.env:=by rfl)(aM:(aF.endLine==ah.line)=true:=by rfl) :
  PI X (.Tuple bz k am) (.Call (.Attribute o "items" aF) [] [] ah) (qS td):=by
 intro pins s σ H R I h
 refine wpAny_Call_method0_late aL aM (thn (ho pins s σ H _ I h) fun u s1 ⟨x,H1,I1,r1,a,qs,ys,ob,ex,e,n,fj,q⟩=>?_)
 subst ex
 cases r1
 obtain⟨vs,es,ep,rfl,ed,p1,p2,d4⟩:=Jg I1 e n
 have hsz:es.size=qs.length:=by rw[<-CN,d4,bI,Rj qs vs p2]
 refine⟨"dict","dict.items",PySem.F.plainAttrs_dict,PySem.F.slot_dict_items,PySem.F.type_dict_items,⟨_,ed,rfl⟩,fun b eb=>?_,Calls.callWith_builtin rfl (PySem.evalArgs_none ?_)⟩
 . cases eb;exact⟨_,ed,rfl⟩
 . refine call_meets F.slot_dict_items ⟨_,ed,rfl⟩ F.entry_dict_items (F.args_dict_items_1 _) (wZ a es ep n.2.2.1) ⟨ed,?_⟩;have kp:∀c o,s1.heap.get? c=some o->(s1.heap.push (C5 a)).get? c=some o:=fun c o e=>Φ _ e
   refine zW (s:={ s1 with heap:=s1.heap.push (C5 a) }) (Ω _ rfl) (kp _ _ ed) ?_;have I2:Inv X pins σ H1 { s1 with heap:=s1.heap.push (C5 a) }:=I1.kept (t':=s1.toks) kp;have tj:∀c o,(s1.heap.push (C5 a)).get? c=some o->((s1.heap.push (C5 a)).push (n9 .none a 0 es.size ep .none .none)).get? c=some o:=fun c o e=>Φ _ e
   have I3:=I2.kept (t':=s1.toks) tj;refine⟨(s1.heap.push (C5 a)).objs.size,[(s1.heap.push (C5 a)).objs.size],_,_,H1,rfl,I3,zU fj hsz,⟨_,_,Ω _ rfl⟩,fun c hc=>?_,q⟩;have aN:c=(s1.heap.push (C5 a)).objs.size:=by simpa using hc
   rw[aN];exact I2.fpOk (η _) (I2.hok.fresh (η _))
end
def R4(f:DE->R D):DE->R (List D):=fun ρ=>(f ρ).bind fun d=>match d with
 | .dn ks ds=>if ks.length=ds.length then .ok ((ks.zip ds).map fun p=>D.tup [B8 p.1,p.2]) else .st
 |_=>.st
theorem Ua{K:Frag}{H0:Hp}:∀{qs:List (NK×Addr)},(∀q∈qs,NKr H0 q.1 (.ref q.2))->RDs K H0 (qs.map fun q=>B8 q.1) (qs.map fun q=>V.ref q.2)
 | [],_=>.nil
 |q::qs,h=>.cons (Pe (h q (by simp))) (Ua fun p hp=>h p (by simp[hp]))
theorem Tz(ho:QE X EX false o f)(aL:attributeBase o "items" X.env (eval o X.env)=eval o X.env:=by rfl)(aM:(aF.endLine==ah.line)=true:=by rfl) :
  QI X EX false (.Tuple bz k am) (.Call (.Attribute o "items" aF) [] [] ah) (R4 f):=⟨(yw ho.h aL aM).imp fun σ H Q ⟨sx,ρ,H0,s,e,h⟩=>by
 unfold R4 at h
 rw[Rk.bind]at h
 refine TEd.go sx s e h fun d h v H1 ar s1 e1 r1=>?_
 split at h
 . rename_i ks ds;split at h
   . rename_i hl;simp only[RD]at r1;obtain⟨a,qs,ys,ob,rfl,h1,hk,n,ra⟩:=r1;have mono:∀b zs,ar b=some (.tup zs)->H1 b=some (.tup zs):=fun b zs q=>e1.2.1 _ _ q
     have hq:qs.length=ys.length:=by rw[<-ra.length,<-hl,<-hk,bI]
     refine⟨a,qs,ys,ob,rfl,e1.2.1 _ _ h1,n.tk mono,hq,h _ H1 ar s1 e1 ?_⟩;rw[show(ks.zip ds).map (fun p=>D.tup [B8 p.1,p.2])=((qs.map fun q=>B8 q.1).zip ds).map fun p=>D.tup [p.1,p.2] by rw[<-hk,List.zip_map_left,List.zip_map_left,DI,DI];rfl];exact Rx (fun H s=>⟨s _ _ h1,n.tk fun b zs q=>s _ _ q⟩) (Ua fun q hq=>(n.2.1 q hq).1) ra
   . exact h.elim
 . exact h.elim⟩
noncomputable def valN{α:Type}(ks:List NK)(xs:List α)(k:NK):Option α:=((ks.zip xs).find? fun p=>decide (p.1=k)).map (·.2)
section
open HT
open PySem.SeqAt
open PySem.AutoSeq1 (wpAny_loadPart')
open PySem.MeetsSeq PySem.MeetsSeq2 PySem.MeetsSeq3
end
end L2
namespace L2
open PySem PySem.Spec PyProof.Rows
noncomputable def eNo:DE->R D:=fun _=>.st
theorem wX:QE X EX fr e eNo:=⟨fun _ _ _ _ _ _ ⟨_,_,_,_,_,z⟩=>z.elim⟩
structure FnAt(K:Frag)(x:Str)(st:Stmt)(f:Addr):Prop where
 ns:PySem.W.nsIn K mainGlobals x=some (some (.ref f))
 fn:∃fd,Fun K x x st f fd
section
variable {P:Program}{w:World}{K:Frag}{mg:Str->Option Value}{base h:Heap}{x:Str}{st:Stmt}{f:Addr}{ps:List Str}{k:Nat}{sp:Sp}
theorem fat{oc:Value}{od an:Option Addr}{osl:Array (Option Value)}{kV doc pm cdv ct:Value}(a:PySem.W.nsIn K mainGlobals x=some (some (.ref f)))(l:K.lookup f=some ⟨oc,od,.func (PySem.W.fnOf x x (N7 st) (D7 st) (d7 st) .none kV doc pm an cdv ct),osl⟩)
 (c:codeIn K cdv x=true) (k:keepIn K (.ref f)=true):FnAt K x st f:=⟨a,_,vQ l c k⟩
def BP:List Str->(List Value->Prop)->Prop
 | [],P=>P []
 |_::r,P=>∀u,BP r fun us=>P (u::us)
theorem BP.all(h:BP ps Q)(us:List Value)(hl:us.length=ps.length):Q us:=by
 induction ps generalizing Q us with
 |nil=>rw[List.eq_nil_of_length_eq_zero hl];exact h
 |cons p r ih=>
  cases us with
  |nil=>cases hl
  |cons u us=>exact ih (h u) us (Nat.succ.inj hl)
theorem got(X:K.In h)(G:h.Ns mainGlobals mg)(A:FnAt K x st f)(ok:∀{fd},Fun K x x st f fd->FnOk P w K mg base (CX1 P w) k f fd ps sp)
  (hb:∀(kV doc pm:Value)(an:Option Addr)(cdv ct:Value),BP ps fun us=>bindArgs (PySem.W.fnOf x x (N7 st) (D7 st) (d7 st) .none kV doc pm an cdv ct) ⟨us,[]⟩=pure (ps.zip us):=by (repeat intro _);exact rfl):g8 P w K mg base x ps k sp:=by
 obtain⟨fd,F⟩:=A.fn
 exact⟨f,fd,ok F,F.binds fun kV doc pm an cdv ct=>(hb kV doc pm an cdv ct).all,PySem.W.mg_of X G A.ns,F.kp⟩
theorem qR(X:K.In h)(G:h.Ns mainGlobals mg)(mD:mg x=some (.ref fa))(A:FnAt K x st f)(hb:∀(s:Shared)(v kV doc pm:Value)(an:Option Addr)(cdv ct:Value),BindsTo s (PySem.W.fnOf x x (N7 st) (D7 st) (d7 st) .none kV doc pm an cdv ct) ⟨[v],[]⟩ [(z,v)])
  (ok:∀base:Heap,K.In base->base.Ns mainGlobals mg->∀{fd},Fun K x x st f fd->FnOk P w K mg base (CX1 P w) k f fd ps sp) :
  ∃fd:FuncData,(∀(s:Shared)(v:Value),BindsTo s fd ⟨[v],[]⟩ [(z,v)])/\∀base:Heap,K.In base->base.Ns mainGlobals mg->FnOk P w K mg base (CX1 P w) k fa fd ps sp:=by
 have e:=mD.symm.trans (PySem.W.mg_of X G A.ns)
 cases e
 obtain⟨fd,F⟩:=A.fn
 have F':=F
 obtain⟨oc,od,kV,doc,pm,an,cdv,ct,osl,rfl,lk,bU⟩:=F'.ex
 exact⟨_,fun s v=>hb s v _ _ _ _ _ _,fun base kb nb=>ok base kb nb F⟩
theorem fsc(a:sc.kind=.function:=by rfl)(b:sc.isCoroutine=false:=by rfl)(c:sc.isGenerator=false:=by rfl)(d:N.Nodup:=by decide +kernel)(e:N.take ps.length=ps:=by rfl)
 (f:∀x∈ps,sc.names.lookup x=some .local\/sc.names.lookup x=some .cell:=by decide +kernel) (g:∀y∈sc.names,y.2≠.free:=by decide +kernel):FnScope N ps sc:=⟨a,b,c,d,e,f,g⟩
end
section
variable {X:Cx}{EX:XW}{fr cr:Bool}{a b e:Expr}{f g:DE->R D}{pos p:Pos}{m:List Bool}{j:Nat}
theorem qI(hr:Room j X.A)(ha:QE X EX false a f)(hb:QE X EX false b g)(hs:Ks b:=by exact fun _ _=>rfl):QE X EX false (.Subscript a b pos) (eOp dIx f g):=Y5 (y3h hr.units) km ha hb hs
theorem qL(hm:X.mg "len"=none)(ha:QE X EX false e f)(hg:Gl X "len":=by rfl)(he:starEach [e] X.env=(false,eval e X.env)::starEach [] X.env:=by rfl)(hpl:(backTo pos (starEach [] X.env)).any (·.1)=false:=by rfl) :
 QE X EX false (.Call (.Name "len" p) [e] [] pos) (eCB j8 (a8 f b7)):=D3 vt vq hg hm PySem.boot_len (a9 ha b9 he) (he:=he) (hpl:=hpl)
theorem sA(i:Nat)(hN:X.N.Nodup)(he:QE X EX cr e f)(hi:X.N[i]?=some x:=by rfl)(hx:Loc X.env.scope x:=by first |exact .inl rfl |exact .inr rfl)(hs:swapsWith e (some (.Name x aP)) pos.line X.env=pure false:=by rfl)(hf:X.fn x=true\/X.env.scope.names.lookup x=some .local:=by exact .inl rfl) :
 QS X EX fr (.Assign [.Name x aP] e pos) (d8 cr i m f):=y08 hN hi hx he hs hf
theorem tE(hr:Room j X.A)(ha:QE X EX false a f)(hb:QE X EX false b g)(hm:behindInMarks .Eq b=false):QT X EX (.Compare a [.Eq] [b] pos) (d6 asB (eOp dEq f g)):=k6 (E8 hr.units) E7 ha hb hm
theorem tN(hr:Room j X.A)(ha:QE X EX false a f)(hb:QE X EX false b g)(hm:behindInMarks .NotEq b=false):QT X EX (.Compare a [.NotEq] [b] pos) (d6 asB (eOp dNe f g)):=k6 (kA hr.units) kz ha hb hm
end
section
open PySem.AutoSeq1 (wpAny_loadPart')
abbrev enO(i:Addr):Obj:={ cls:=.type "enumerate",data:=.fields #[.none,.bool false,.ref i,rawInt 0,.none,.none] }
abbrev eH(h:Heap)(l:Addr):Heap:=(h.push (qU l 0)).push (enO h.objs.size)
end
end L2
namespace L2
open PySem PySem.Spec PyProof.Rows
section
variable {prog:Program}{w:World}{A:Around}{E:Value->Shared->Prop}{s:Shared}{κ:SortKind}{a₀:Array Keyed}{rk:Keyed->Nat}
noncomputable def tk(rk:Keyed->Nat)(xs:Array Keyed)(i:Nat):Nat:=match xs[i]? with
 |some p=>rk p
 |none=>0
def y8(prog:Program)(w:World)(A:Around)(E:Value->Shared->Prop)(s:Shared)(κ:SortKind)(a₀:Array Keyed)(rk:Keyed->Nat):Prop:=
 ∀x y,x∈a₀->y∈a₀->∀(st:SortSt)(Q:Option Bool->SortSt->Prop),kindOf st=κ->Q (some (decide (rk x<rk y))) st->wpS (model prog w) A E s (lt' x y) Q st
structure TBs(κ:SortKind)(a₀:Array Keyed)(st:SortSt):Prop where
 perm:(arrOf st).Perm a₀
 kind:kindOf st=κ
 ok:failedOf st=none
def TSo(rk:Keyed->Nat)(xs:Array Keyed)(lo hi:Nat):Prop:=∀i j,lo<=i->i<=j->j<hi->tk rk xs i<=tk rk xs j
theorem j7(h:i<xs.size):tk rk xs i=rk xs[i]:=by unfold tk;rw[getElem?_pos xs i h]
theorem Fq(h:xs[i]?=ys[j]?):tk rk xs i=tk rk ys j:=by unfold tk;rw[h]
theorem TBs.size{st:SortSt}(B:TBs κ a₀ st):(arrOf st).size=a₀.size:=B.perm.size_eq
theorem TBs.mem{st:SortSt}(B:TBs κ a₀ st){x:Keyed}(h:x∈arrOf st):x∈a₀:=HH.mpr ((HA.mp B.perm).mem_iff.mp (HH.mp h))
theorem TBs.set{st:SortSt}(B:TBs κ a₀ st){xs:Array Keyed}(hp:xs.Perm (arrOf st)):TBs κ a₀ (setArr st xs):=⟨hp.trans B.perm,B.kind,B.ok⟩
theorem k8{st:SortSt}{xs:Array Keyed}{i:Nat}{Q:Keyed->SortSt->Prop}(h:i<xs.size)(q:Q xs[i] st):wpS (model prog w) A E s (elem' xs i) Q st:=by rw[elem'_eq,getElem?_pos xs i h];exact Ψ q
theorem R3(hc:y8 prog w A E s κ a₀ rk){st:SortSt}(B:TBs κ a₀ st){i j:Nat}(hi:i<a₀.size)(hj:j<a₀.size){Q:Option Bool->SortSt->Prop}
  (h:Q (some (decide (tk rk (arrOf st) i<tk rk (arrOf st) j))) st):wpS (model prog w) A E s (ltAt' i j) Q st:=by
 rw[ltAt'_eq]
 have cB:i<(arrOf st).size:=by rw[B.size];exact hi
 have eB:j<(arrOf st).size:=by rw[B.size];exact hj
 rw[j7 cB,j7 eB]at h
 refine ω (wpS_get (ω (k8 cB (ω (k8 eB ?_)))))
 exact hc _ _ (B.mem (Array.getElem_mem _)) (B.mem (Array.getElem_mem _)) st Q B.kind h
theorem Mb(hj:j<=xs.size)(k:Nat):tk rk (mirror xs i j ((j - i) / 2)) k=if i<=k/\k<j then tk rk xs (i+j - 1 - k) else tk rk xs k:=by
 by_cases h:i<=k/\k<j<;>simp only[h,EE,DR]<;>refine Fq ?_<;>rw[getElem?_mirror_all hj]
 . rw[ζ h]
 . rw[ξ h]
theorem zk(hs:dR<xs.size)(hd:d<=dR)(k:Nat) :
  tk rk (bubble xs dR d) k=if k=dR - d then tk rk xs dR else if dR - d<k/\k<=dR then tk rk xs (k - 1) else tk rk xs k:=by
 have e:=getElem?_bubble hs d hd k
 by_cases h1:k=dR - d
 . rw[ζ h1]at e⊢;exact Fq e
 . rw[ξ h1]at e⊢;by_cases h2:dR - d<k/\k<=dR
   . rw[ζ h2]at e⊢;exact Fq e
   . rw[ξ h2]at e⊢;exact Fq e
theorem Lh(hj:j<=xs.size)(ha:∀k,i<=k->k<j->tk rk xs k=tk rk xs (j - 1))(k:Nat):tk rk (mirror xs i j ((j - i) / 2)) k=tk rk xs k:=by
 rw[Mb hj];by_cases h:i<=k/\k<j
 . rw[ζ h,ha (i+j - 1 - k) (by omega) (by omega),ha k h.1 h.2]
 . rw[ξ h]
theorem TSo.step{xs:Array Keyed}{lo n:Nat}(h:TSo rk xs lo (lo+n))(h1:1<=n)(hn:tk rk xs (lo+n - 1)<=tk rk xs (lo+n)):TSo rk xs lo (lo+(n+1)):=fun i j h0 eX h2=>by
 by_cases hj:j=lo+n
 . subst hj;by_cases hi:i=lo+n
   . rw[hi];exact η _
   . exact CL (h i (lo+n - 1) h0 (by lia) (by lia)) hn
 . exact h i j h0 eX (by lia)
theorem TSo.one(lo:Nat):TSo rk xs lo (lo+1):=fun i j h0 h1 h2=>by
 obtain rfl:i=j:=by lia
 exact η _
structure TL(st st':SortSt)(lo:Nat):Prop where
 low:∀k,k<lo->(arrOf st')[k]?=(arrOf st)[k]?
 pend:pendingOf st'=pendingOf st
theorem TL.refl(st:SortSt)(lo:Nat):TL st st lo:=⟨fun _ _=>rfl,rfl⟩
theorem TL.trans{a b c:SortSt}{lo:Nat}(h:TL a b lo)(k:TL b c lo):TL a c lo:=⟨fun i hi=>(k.low i hi).trans (h.low i hi),k.pend.trans h.pend⟩
theorem TL.mirror{st:SortSt}{lo i j:Nat}(hi:lo<=i)(hj:j<=(arrOf st).size):TL st (setArr st (mirror (arrOf st) i j ((j - i) / 2))) lo:=
 ⟨fun k hk=>by show(PyProof.Rows.mirror (arrOf st) i j ((j - i) / 2))[k]?=_;rw[getElem?_mirror_all hj,ξ (by lia)],rfl⟩
theorem Dl{st:SortSt}{i j:Nat}{Q:Unit->SortSt->Prop}(h:Q () (setArr st (mirror (arrOf st) i j ((j - i) / 2)))):wpS (model prog w) A E s (reverseSlice' i j) Q st:=by rw[reverseSlice'_eq];exact wpS_modify h
theorem TSo.ups'{xs:Array Keyed}{lo a:Nat}(h:TSo rk xs lo (lo+a))(ha:1<=a):∀{n:Nat},a<=n->(∀i,a<=i->i<n->tk rk xs (lo+i - 1)<=tk rk xs (lo+i))->TSo rk xs lo (lo+n)
 | 0,z,_=>by lia
 |n+1,z,up=>by
  by_cases e:a=n+1
  . rw[<-e];exact h
  . exact(TSo.ups' h ha (n:=n) (by lia) fun i a b=>up i a (by lia)).step (by lia) (up n (by lia) (by lia))
theorem TSo.ups{xs:Array Keyed}{lo n:Nat}(h:TSo rk xs lo (lo+1))(hn:1<=n)(up:∀i,1<=i->i<n->tk rk xs (lo+i - 1)<=tk rk xs (lo+i)):TSo rk xs lo (lo+n):=h.ups' (η _) hn up
theorem U8{σ:Type}{r:String}{Q:Unit->σ->Prop}{st:σ}(h:Q () st):wpS (model prog w) A E s (liftM (rule r):StateT σ Sem Unit) Q st:=wpS_lift (wpAny_rule ⟨rfl,h⟩)
theorem jD(mk:Nat->β)(st:σ)(down:Nat->Bool)(bu:a<=b)
  (go:∀x n (Q:ForInStep β->σ->Prop),a<=n->n<b->Q (if down n=true then .done (mk n) else .yield (mk (n+1))) st->wpS (model prog w) A E s (f x (mk n)) Q st)
  (h:∀n,a<=n->n<=b->(∀i,a<=i->i<n->down i=false)->(n<b->down n=true)->Q (mk n) st):wpS (model prog w) A E s (forIn [a:b] (mk a) f) Q st:=by
 refine EU (I:=fun x c u=>u=st/\c=mk x/\∀i,a<=i->i<x->down i=false) (fun x c u hx hb hI=>?_) (fun c u hI=>?_) ⟨rfl,rfl,fun i y z=>by lia⟩
 . obtain⟨rfl,rfl,up⟩:=hI;refine go x x _ hx hb ?_;cases hd:down x
   . exact⟨rfl,rfl,fun i y z=>by
      by_cases e:i=x
      . rw[e];exact hd
      . exact up i y (by lia)⟩
   . exact h x hx (FY hb) up fun _=>hd
 . obtain⟨rfl,rfl,up⟩:=hI;rw[Nat.max_eq_right bu]at up⊢;exact h b bu (η _) up fun z=>absurd z (FH _)
theorem Rg(mk:Nat->Nat->β)(st:σ)(dF:Nat->Nat->Nat)(p:Nat->Bool)(nK:∀l r,l<r->l<=dF l r/\dF l r<r)
  (go:∀x l r (Q:ForInStep β->σ->Prop),l0<=l->l<r->r<=r0->Q (.yield (if p (dF l r)=true then mk (dF l r+1) r else mk l (dF l r))) st->wpS (model prog w) A E s (f x (mk l r)) Q st)
  (stop:∀x l (Q:ForInStep β->σ->Prop),l<=r0->Q (.done (mk l l)) st->wpS (model prog w) A E s (f x (mk l l)) Q st)
  (mono:∀i j,l0<=i->i<=j->j<r0->p j=true->p i=true) (hl:l0<=r0) (hN:r0<=l0+N)
  (h:∀k,l0<=k->k<=r0->(∀i,l0<=i->i<k->p i=true)->(∀i,k<=i->i<r0->p i=false)->Q (mk k k) st):wpS (model prog w) A E s (forIn [0:N] (mk l0 r0) f) Q st:=by
 have key:∀l r,l0<=l->l<=r->r<=r0->(∀i,l0<=i->i<l->p i=true)->(∀i,r<=i->i<r0->p i=false)->l=r->Q (mk l r) st:=fun l r a b c d e z=>by subst z;exact h l a c d e
 refine EU (I:=fun x c u=>u=st/\∃l r,(l0<=l/\l<=r/\r<=r0/\r+x<=l+N)/\c=mk l r/\(∀i,l0<=i->i<l->p i=true)/\∀i,r<=i->i<r0->p i=false)
  (fun x c u _ hb hI=>?_) (fun c u hI=>?_) ⟨rfl,l0,r0,⟨η _,hl,η _,by lia⟩,rfl,fun i a b=>by lia,fun i a b=>by lia⟩
 . obtain⟨rfl,l,r,⟨b1,b2,b3,b4⟩,rfl,lt,gt⟩:=hI;by_cases e:l=r
   . subst e;exact stop x l _ b3 (key l l b1 b2 b3 lt gt rfl)
   . have hm:=nK l r (by lia);refine go x l r _ b1 (by lia) b3 ?_;cases hp:p (dF l r)
     . exact⟨rfl,l,dF l r,⟨b1,hm.1,by lia,by lia⟩,rfl,lt,fun i a b=>by
        cases hi:p i
        . rfl
        . rw[mono (dF l r) i (by lia) a b hi]at hp;cases hp⟩
     . exact⟨rfl,dF l r+1,r,⟨by lia,by lia,b3,by lia⟩,rfl,fun i a b=>mono i (dF l r) a (by lia) (by lia) hp,gt⟩
 . obtain⟨rfl,l,r,⟨b1,b2,b3,b4⟩,rfl,lt,gt⟩:=hI;exact key l r b1 b2 b3 lt gt (by simp only[HU]at b4;lia)
theorem Ty{α:Type}{Q:α->SortSt->Prop}{st:SortSt}{p:Prop}[Decidable p]{t g:StateT SortSt Sem α}(R:SortSt->Prop)(hg:∀u,R u->wpS (model prog w) A E s g Q u)(ht:p->(∀u,R u->wpS (model prog w) A E s g Q u)->wpS (model prog w) A E s t Q st)(hn:¬p->R st):wpS (model prog w) A E s (if p then t else g) Q st:=by
 split
 . exact ht ‹_› hg
 . exact hg _ (hn ‹_›)
theorem wW(hc:y8 prog w A E s κ a₀ rk){st:SortSt}(B:TBs κ a₀ st){lo ci:Nat}(hz:lo+ci<=a₀.size)(h1:1<=ci){Q:Option Nat->SortSt->Prop}
  (h:∀n st',1<=n->n<=ci->TBs κ a₀ st'->TL st st' lo->TSo rk (arrOf st') lo (lo+n)->Q (some n) st'):wpS (model prog w) A E s (countRun' lo ci) Q st:=by
 rw[countRun'_eq]
 refine ω (jD (fun n=>(none,n)) st (fun n=>decide (tk rk (arrOf st) (lo+n)<tk rk (arrOf st) (lo+n - 1))) h1 (fun x n Q a b q=>ω (R3 hc B (by lia) (by lia) ?_)) fun n mE fA up dn=>?_)
 . by_cases hl:tk rk (arrOf st) (lo+n)<tk rk (arrOf st) (lo+n - 1)
   . simp only[hl,HN,EE]at q⊢;exact Ψ q
   . simp only[hl,HQ,CM,DR]at q⊢;exact Ψ q
 have hs:=TSo.ups (n:=n) (TSo.one (rk:=rk) (xs:=arrOf st) lo) mE fun i a b=>by have:=up i a b;simp only[CS]at this;lia
 have hd:n<ci->tk rk (arrOf st) (lo+n)<tk rk (arrOf st) (lo+n - 1):=fun z=>by simpa using dn z
 dsimp only
 by_cases oP:n=ci
 . rw[ζ (by simp[oP])];exact Ψ (h n _ mE fA B (.refl _ _) hs)
 rw[ξ (by simp[oP])]
 have cZ:=hd (by lia)
 have g9:∀(xs:Array Keyed),TSo rk xs lo (lo+n)->¬tk rk xs lo<tk rk xs (lo+n - 1)->∀k,lo<=k->k<lo+n->tk rk xs k=tk rk xs (lo+n - 1):=fun xs hs hr k h0 h1=>by
  have a:=hs lo k (η _) h0 h1;have b:=hs k (lo+n - 1) h0 (by lia) (by lia)
  lia
 have mF:∀(xs:Array Keyed),(∀k,lo<=k->k<lo+n->tk rk xs k=tk rk xs (lo+n - 1))->tk rk xs (lo+n)<tk rk xs (lo+n - 1)->∀i j,lo<=i->i<=j->j<lo+(n+1)->tk rk xs j<=tk rk xs i:=fun xs fl hd i j h0 h1 h2=>by
  by_cases hj:j=lo+n
  . subst hj;by_cases hi:i=lo+n
    . rw[hi];exact η _
    . rw[fl i h0 (by lia)];lia
  . rw[fl i h0 (by lia),fl j (by lia) (by lia)];exact η _
 refine Ty (fun u=>TBs κ a₀ u/\TL st u lo/\∀i j,lo<=i->i<=j->j<lo+(n+1)->tk rk (arrOf u) j<=tk rk (arrOf u) i) (fun BI z=>?_) (fun hn J=>?_) fun hn=>⟨B,.refl _ _,mF _ (g9 _ hs (by rw[show lo+n - 1=lo by lia];exact FH _)) cZ⟩
 rotate_left
 . refine ω (R3 hc B (by lia) (by lia) ?_);by_cases hr:tk rk (arrOf st) lo<tk rk (arrOf st) (lo+n - 1)
   . rw[decide_eq_true hr];dsimp only;rw[ζ rfl];exact Ψ (h n _ mE fA B (.refl _ _) hs)
   rw[decide_eq_false hr];dsimp only;rw[ξ θ];have oQ:lo+n<=(arrOf st).size:=by rw[B.size];lia
   have fl:=g9 _ hs hr;have ea:=Lh oQ fl;exact ω (Dl (J _ ⟨B.set (mirror_perm _ _ _ _),.mirror (η _) oQ,fun i j h0 h1 h2=>by show tk rk (mirror (arrOf st) _ _ _) j<=tk rk (mirror (arrOf st) _ _ _) i;rw[ea,ea];exact mF _ fl cZ i j h0 h1 h2⟩))
 clear g9 mF hd cZ hs up dn
 obtain⟨B1,L1,ni⟩:=z
 refine ω (U8 ?_)
 refine ω (Iq (EU (I:=fun x c aD=>TBs κ a₀ aD/\TL st aD lo/\∃q,c=(none,x,q)/\q+1<=x/\(∀i j,lo<=i->i<=j->j<lo+x->tk rk (arrOf aD) j<=tk rk (arrOf aD) i)/\∀k,lo+x - (q+1)<=k->k<lo+x->tk rk (arrOf aD) k=tk rk (arrOf aD) (lo+x - 1))
  (Q:=fun c aD=>TBs κ a₀ aD/\TL st aD lo/\∃x q,c=(none,x,q)/\1<=x/\x<=ci/\q+1<=x/\(∀i j,lo<=i->i<=j->j<lo+x->tk rk (arrOf aD) j<=tk rk (arrOf aD) i)/\∀k,lo+x - (q+1)<=k->k<lo+x->tk rk (arrOf aD) k=tk rk (arrOf aD) (lo+x - 1)) ?step ?fin ⟨B1,L1,0,rfl,by lia,ni,fun k h0 h1=>by rw[show k=lo+(n+1) - 1 by lia]⟩) ?post)
 case fin=>
  rintro c aD ⟨B2,L2,q,rfl,hq,dS,al⟩
  rw[show max (n+1) ci=ci by lia]at *
  exact⟨B2,L2,ci,q,rfl,h1,η _,hq,dS,al⟩
 case post=>
  rintro c aD ⟨B2,L2,x,q,rfl,oR,iF,hq,dS,al⟩
  have gK:lo+x<=(arrOf aD).size:=by rw[B2.size];lia
  dsimp only
  refine Ty (fun u=>TBs κ a₀ u/\TL st u lo/\∀i j,lo<=i->i<=j->j<lo+x->tk rk (arrOf u) j<=tk rk (arrOf u) i) (fun du z=>?_) (fun mG J=>?_) fun _=>⟨B2,L2,dS⟩
  rotate_left
  . have ea:=Lh gK al;exact ω (Dl (J _ ⟨B2.set (mirror_perm _ _ _ _),L2.trans (.mirror (by lia) gK),fun i j h0 h1 h2=>by show tk rk (mirror (arrOf aD) _ _ _) j<=tk rk (mirror (arrOf aD) _ _ _) i;rw[ea,ea];exact dS i j h0 h1 h2⟩))
  obtain⟨B3,L3,tm⟩:=z
  have gJ:lo+x<=(arrOf du).size:=by rw[B3.size];lia
  refine ω (Dl ?_)
  obtain⟨cK,e4⟩:∃cK,cK=setArr du (mirror (arrOf du) lo (lo+x) ((lo+x - lo) / 2)):=⟨_,rfl⟩
  have B4:TBs κ a₀ cK:=e4 ▸ B3.set (mirror_perm _ _ _ _)
  have L4:TL st cK lo:=e4 ▸ L3.trans (.mirror (η _) gJ)
  have s0:TSo rk (arrOf cK) lo (lo+x):=fun i j h0 h1 h2=>by rw[e4];show tk rk (mirror (arrOf du) lo (lo+x) _) i<=tk rk (mirror (arrOf du) lo (lo+x) _) j;rw[Mb gJ,Mb gJ,ζ (by lia),ζ (by lia)];exact tm _ _ (by lia) (by lia) (by lia)
  rw[<-e4]
  clear e4
  refine ω (jD (fun n=>(none,n)) cK (fun n=>decide (tk rk (arrOf cK) (lo+n)<tk rk (arrOf cK) (lo+n - 1))) iF (fun y m Q a b q=>ω (R3 hc B4 (by lia) (by lia) ?_)) fun m tw mH up _=>?_)
  . by_cases hl:tk rk (arrOf cK) (lo+m)<tk rk (arrOf cK) (lo+m - 1)
    . simp only[hl,HN,EE]at q⊢;exact Ψ q
    . simp only[hl,HQ,CM,DR]at q⊢;exact Ψ q
  . dsimp only;refine Ψ (h m _ (by lia) mH B4 L4 (s0.ups' oR tw fun i a b=>?_));have:=up i a b;simp only[CS]at this
    lia
 case step=>
  rintro x c aD BJ BK ⟨B2,L2,q,rfl,hq,dS,al⟩
  have gK:lo+x<=(arrOf aD).size:=by rw[B2.size];lia
  dsimp only
  refine ω (R3 hc B2 (by lia) (by lia) ?_)
  have ext:∀(xs:Array Keyed),(∀i j,lo<=i->i<=j->j<lo+x->tk rk xs j<=tk rk xs i)->tk rk xs (lo+x)<=tk rk xs (lo+x - 1)->∀i j,lo<=i->i<=j->j<lo+(x+1)->tk rk xs j<=tk rk xs i:=fun xs nx hx i j h0 h1 h2=>by
   by_cases hj:j=lo+x
   . subst hj;by_cases hi:i=lo+x
     . rw[hi];exact η _
     . exact CL hx (nx i (lo+x - 1) h0 (by lia) (by lia))
   . exact nx i j h0 h1 (by lia)
  by_cases hl:tk rk (arrOf aD) (lo+x)<tk rk (arrOf aD) (lo+x - 1)
  . simp only[hl,HN,EE];by_cases mG:q > 0
    . rw[ζ mG];have ea:=Lh gK al;refine ω (Dl (Ψ ⟨B2.set (mirror_perm _ _ _ _),L2.trans (.mirror (by lia) gK),0,rfl,by lia,ext _ (fun i j h0 h1 h2=>?_) ?_,fun k h0 h1=>by rw[show k=lo+(x+1) - 1 by lia]⟩))
      . show tk rk (mirror (arrOf aD) _ _ _) j<=tk rk (mirror (arrOf aD) _ _ _) i;rw[ea,ea];exact dS i j h0 h1 h2
      . show tk rk (mirror (arrOf aD) _ _ _) _<=tk rk (mirror (arrOf aD) _ _ _) _;rw[ea,ea];exact FY hl
    . rw[ξ mG];exact Ψ ⟨B2,L2,0,rfl,by lia,ext _ dS (FY hl),fun k h0 h1=>by rw[show k=lo+(x+1) - 1 by lia]⟩
  . simp only[hl,HQ,CM,DR];refine ω (R3 hc B2 (by lia) (by lia) ?_);by_cases hg:tk rk (arrOf aD) (lo+x - 1)<tk rk (arrOf aD) (lo+x)
    . simp only[hg,HN,EE];exact Ψ ⟨B2,L2,x,q,rfl,by lia,by lia,hq,dS,al⟩
    . simp only[hg,HQ,CM,DR];refine Ψ ⟨B2,L2,q+1,rfl,by lia,ext _ dS (by lia),fun k h0 h1=>?_⟩;rw[show lo+(x+1) - 1=lo+x by lia];by_cases hk:k=lo+x
      . rw[hk]
      . rw[al k (by lia) (by lia)];lia
theorem TSo.down{xs:Array Keyed}{lo k l:Nat}(hz:lo+k<xs.size)(hl:l<=k)(hs:TSo rk xs lo (lo+k))(below:∀i,i<l->tk rk xs (lo+i)<=tk rk xs (lo+k))(above:∀i,l<=i->i<k->tk rk xs (lo+k)<tk rk xs (lo+i)) :
  TSo rk (bubble xs (lo+k) (lo+k - (lo+l))) lo (lo+(k+1)):=fun i j h0 gL hj=>by
 obtain⟨i,rfl⟩:∃i',i=lo+i':=⟨i - lo,by lia⟩
 obtain⟨j,rfl⟩:∃j',j=lo+j':=⟨j - lo,by lia⟩
 have val:∀m,m<=k->tk rk (bubble xs (lo+k) (lo+k - (lo+l))) (lo+m)=if m<l then tk rk xs (lo+m) else if m=l then tk rk xs (lo+k) else tk rk xs (lo+(m - 1)):=fun m hm=>by
  rw[zk hz (by lia)];by_cases a:m<l
  . rw[ξ (by lia),ξ (by lia),ζ a]
  . by_cases b:m=l
    . rw[ζ (by lia),ξ a,ζ b]
    . rw[ξ (by lia),ζ (by lia),ξ a,ξ b,show lo+m - 1=lo+(m - 1) by lia]
 have st:∀a b,a<=b->b<k->tk rk xs (lo+a)<=tk rk xs (lo+b):=fun a b u v=>hs _ _ (by lia) (by lia) (by lia)
 rw[val i (by lia),val j (by lia)]
 by_cases a:j<l
 . rw[ζ a,ζ (by lia)];exact st i j (by lia) (by lia)
 . rw[ξ a];by_cases b:i<l
   . rw[ζ b];by_cases c:j=l
     . rw[ζ c];exact below i b
     . rw[ξ c];exact st i (j - 1) (by lia) (by lia)
   . rw[ξ b];by_cases c:i=l
     . rw[ζ c];by_cases d:j=l
       . rw[ζ d];exact η _
       . rw[ξ d];exact FY (above _ (by lia) (by lia))
     . rw[ξ c,ξ (by lia)];exact st _ _ (by lia) (by lia)
theorem y11(hc:y8 prog w A E s κ a₀ rk){st:SortSt}(B:TBs κ a₀ st){lo n ok:Nat}(hz:lo+n<=a₀.size)(h1:1<=ok)(hok:ok<=n)(hs:TSo rk (arrOf st) lo (lo+ok)){Q:Bool->SortSt->Prop}
  (h:∀u,TBs κ a₀ u->TL st u lo->TSo rk (arrOf u) lo (lo+n)->Q true u):wpS (model prog w) A E s (binarySort' lo n ok) Q st:=by
 rw[binarySort'_eq,Nat.max_eq_left h1]
 refine ω (Iq (EU (I:=fun k c u=>c=(none,())/\TBs κ a₀ u/\TL st u lo/\TSo rk (arrOf u) lo (lo+k))
  (Q:=fun c u=>c=(none,())/\TBs κ a₀ u/\TL st u lo/\TSo rk (arrOf u) lo (lo+n)) (fun k c u ha hb hI=>?_) (fun c u hI=>by rwa [Nat.max_eq_right hok]at hI) ⟨rfl,B,.refl _ _,hs⟩) fun c u hI=>?_)
 . obtain⟨rfl,B1,L1,hs⟩:=hI;have oS:lo+k<(arrOf u).size:=by rw[B1.size];lia
   refine ω (Rg (fun l r=>(none,l,r)) u (fun l r=>(l+r) / 2) (fun i=>decide (tk rk (arrOf u) (lo+i)<=tk rk (arrOf u) (lo+k))) (fun l r _=>by lia) (fun x l r Q a b c q=>?_) (fun x l Q _ q=>?_) (fun i j _ a b c=>?_) (DG _) (by lia) fun l _ hl lt gt=>?_)
   . dsimp only;rw[ξ (by lia)];refine ω (R3 hc B1 (by lia) (by lia) ?_);by_cases z:tk rk (arrOf u) (lo+k)<tk rk (arrOf u) (lo+(l+r) / 2)
     . simp only[z,Nat.not_le.mpr z,HN,HQ,CM,EE,DR]at q⊢;exact Ψ q
     . simp only[z,Nat.not_lt.mp z,HN,HQ,CM,EE,DR]at q⊢;exact Ψ q
   . dsimp only;rw[ζ (η _)];exact Ψ q
   . simp only[mV]at c⊢;exact CL (hs _ _ (by lia) (by lia) (by lia)) c
   . dsimp only;rw[moveDown'_eq];refine ω (wpS_modify (Ψ ⟨rfl,B1.set (bubble_perm _ _ _),L1.trans ⟨fun j hj=>?_,rfl⟩,?_⟩))
     . show(bubble (arrOf u) (lo+k) (lo+k - (lo+l)))[j]?=_;rw[getElem?_bubble oS _ (by lia),ξ (by lia),ξ (by lia)]
     . exact TSo.down oS hl hs (fun i a=>by simpa using lt i (DG _) a) fun i a b=>by simpa using gt i a b
 . obtain⟨rfl,B1,L1,hs⟩:=hI;exact Ψ (h u B1 L1 hs)
end
section
variable {prog:Program}{w:World}{A:Around}{E:Value->Shared->Prop}{s:Shared}{κ:SortKind}{a₀:Array Keyed}{rk:Keyed->Nat}
theorem Pd(mk:Nat->Nat->β)(st:σ)(q:Nat->Bool)(q0:q 0=true)(hM:0<M)(hN:M<=N)
  (go:∀x last aw (Q:ForInStep β->σ->Prop),0<aw->aw<M->Q (if q aw=true then .yield (mk aw (2 * aw+1)) else .done (mk last aw)) st->wpS (model prog w) A E s (f x (mk last aw)) Q st)
  (stop:∀x last aw (Q:ForInStep β->σ->Prop),M<=aw->Q (.done (mk last aw)) st->wpS (model prog w) A E s (f x (mk last aw)) Q st)
  (h:∀last aw,last<aw->last<M->q last=true->(aw<M->q aw=false)->Q (mk last aw) st):wpS (model prog w) A E s (forIn [0:N] (mk 0 1) f) Q st:=by
 refine EU (I:=fun x c u=>u=st/\∃last aw,c=mk last aw/\x<aw/\last<aw/\last<M/\q last=true) (fun x c u _ _ hI=>?_) (fun c u hI=>?_) ⟨rfl,0,1,rfl,by lia,by lia,hM,q0⟩
 . obtain⟨rfl,last,aw,rfl,b1,b2,b3,b4⟩:=hI;by_cases hm:aw<M
   . refine go x last aw _ (by lia) hm ?_;cases hq:q aw
     . exact h last aw b2 b3 b4 fun _=>hq
     . exact⟨rfl,aw,2 * aw+1,rfl,by lia,by lia,hm,hq⟩
   . exact stop x last aw _ (by lia) (h last aw b2 b3 b4 fun z=>absurd z hm)
 . obtain⟨rfl,last,aw,rfl,b1,b2,b3,b4⟩:=hI;exact h last aw b2 b3 b4 fun z=>by lia
noncomputable def gal:Bool->Keyed->Array Keyed->Nat->Nat->Nat->StateT SortSt Sem (Option Nat):=sortPriv% PySem.Builtin.gallop
def bey(rk:Keyed->Nat)(left:Bool)(key:Keyed)(arr:Array Keyed)(base i:Nat):Bool:=if left=true then decide (tk rk arr (base+i)<rk key) else !decide (rk key<tk rk arr (base+i))
theorem y12(hc:y8 prog w A E s κ a₀ rk){st:SortSt}(hk:kindOf st=κ){left:Bool}{key:Keyed}{arr:Array Keyed}{base i:Nat}(kin:key∈a₀)(cV:∀x∈arr,x∈a₀)(hz:base+i<arr.size){Q:Option Bool->SortSt->Prop}
  (h:Q (some (bey rk left key arr base i)) st):wpS (model prog w) A E s (elem' arr (base+i) >>= fun x=>if left=true then lt' x key else lt' key x >>= fun r=>pure (r.map fun b=>!b)) Q st:=by
 refine ω (k8 hz ?_)
 unfold bey at h
 rw[j7 hz]at h
 cases left with
 |true=>
  rw[ζ rfl]at h⊢
  exact hc _ _ (cV _ (Array.getElem_mem _)) kin st Q hk h
 |false=>
  rw[ξ θ]at h⊢
  exact ω (hc _ _ kin (cV _ (Array.getElem_mem _)) st _ hk (Ψ h))
theorem T7(hc:y8 prog w A E s κ a₀ rk){st:SortSt}(hk:kindOf st=κ){left:Bool}{key:Keyed}{arr:Array Keyed}{base n hint:Nat}(kin:key∈a₀)(cV:∀x∈arr,x∈a₀)(hz:base+n<=arr.size)(hh:hint<n)
  (mono:∀i j,i<=j->j<n->bey rk left key arr base j=true->bey rk left key arr base i=true) {Q:Option Nat->SortSt->Prop}
  (h:∀k,k<=n->(∀i,i<k->bey rk left key arr base i=true)->(∀i,k<=i->i<n->bey rk left key arr base i=false)->Q (some k) st):wpS (model prog w) A E s (gal left key arr base n hint) Q st:=by
 have lz:∀i j,i<=j->j<n->bey rk left key arr base i=false->bey rk left key arr base j=false:=fun i j a b c=>by
  cases e:bey rk left key arr base j
  . rfl
  . rw[mono i j a b e]at c;cases c
 have ask:∀i (Q:Option Bool->SortSt->Prop),i<n->Q (some (bey rk left key arr base i)) st->wpS (model prog w) A E s (elem' arr (base+i) >>= fun x=>if left=true then lt' x key else lt' key x >>= fun r=>pure (r.map fun b=>!b)) Q st:=fun i Q hi q=>y12 hc hk kin cV (by omega) q
 unfold gal
 refine ω (ask hint _ hh ?_)
 dsimp only
 rcases hr:bey rk left key arr base hint with _ |_
 case' true=>
  rw[ζ rfl]
  refine ω (Pd (fun l o=>(none,l,o)) st (fun o=>bey rk left key arr base (hint+o)) (M:=n - hint) hr (by omega) (by omega) (fun x last aw Q a b q=>?_) (fun x last aw Q a q=>?_) fun last aw a b c d=>?_)
  . dsimp only;rw[ξ (by omega)];refine ω (ask _ _ (by omega) ?_);dsimp only;cases e:bey rk left key arr base (hint+aw)<;>rw[e]at q<;>exact Ψ q
  . dsimp only;rw[ζ (by omega)];exact Ψ q
  dsimp only
  obtain⟨lo,hi,gM,gN,b1,b2,b3,b4⟩:∃lo hi,lo=hint+last+1/\hi=hint+min aw (n - hint)/\lo<=hi/\hi<=n/\(∀i,i<lo->bey rk left key arr base i=true)/\∀i,hi<=i->i<n->bey rk left key arr base i=false:=
   ⟨_,_,rfl,rfl,by omega,by omega,fun i z=>mono i (hint+last) (by omega) (by omega) c,fun i y z=>lz (hint+aw) i (by omega) z (d (by omega))⟩
  rw[<-gM,<-gN]
  clear gM gN c d
 case' false=>
  rw[ξ θ]
  refine ω (Pd (fun l o=>(none,l,o)) st (fun o=>!bey rk left key arr base (hint - o)) (M:=hint+1) (by rw[Nat.sub_zero,hr];rfl) (by omega) (by omega) (fun x last aw Q a b q=>?_) (fun x last aw Q a q=>?_) fun last aw a b c d=>?_)
  . dsimp only;rw[ξ (by omega)];refine ω (ask _ _ (by omega) ?_);dsimp only;cases e:bey rk left key arr base (hint - aw)<;>rw[e]at q<;>exact Ψ q
  . dsimp only;rw[ζ (by omega)];exact Ψ q
  dsimp only
  obtain⟨lo,hi,gM,gN,b1,b2,b3,b4⟩:∃lo hi,lo=hint+1 - min aw (hint+1)/\hi=hint - last/\lo<=hi/\hi<=n/\(∀i,i<lo->bey rk left key arr base i=true)/\∀i,hi<=i->i<n->bey rk left key arr base i=false:=
   ⟨_,_,rfl,rfl,by omega,by omega,fun i z=>mono i (hint - aw) (by omega) (by omega) (by simpa using d (by omega)),fun i y z=>lz (hint - last) i (by omega) z (by simpa using c)⟩
  rw[<-gM,<-gN]
  clear gM gN c d
 all_goals
  refine ω (Rg (fun l r=>(none,l,r)) st (fun l r=>l+(r - l) / 2) (bey rk left key arr base) (fun l r _=>by omega) (fun x l r Q a b c q=>?_) (fun x l Q _ q=>?_) (fun i j _ a b c=>mono i j a (by omega) c) b1 (by omega) fun k _ hk lt gt=>?_)
  . dsimp only;rw[ξ (by omega)];refine ω (ask _ _ (by omega) ?_);dsimp only;cases e:bey rk left key arr base (l+(r - l) / 2)<;>rw[e]at q<;>exact Ψ q
  . dsimp only;rw[ζ (η _)];exact Ψ q
  . dsimp only;refine Ψ (h k (by omega) (fun i z=>?_) fun i y z=>?_)
    . by_cases e:i<lo
      . exact b3 i e
      . exact lt i (by omega) z
    . by_cases e:i<hi
      . exact gt i y e
      . exact b4 i (by omega) z
end
section
variable {R:Keyed->Keyed->Prop}
def AscR(R:Keyed->Keyed->Prop)(l:List Keyed):Prop:=l.Pairwise R
structure MR(R:Keyed->Keyed->Prop)(A B out:List Keyed)(ia ib:Nat):Prop where
 perm:out.Perm (A.take ia++B.take ib)
 asc:AscR R out
 la:∀x∈out,∀y∈A.drop ia,R x y
 lb:∀x∈out,∀y∈B.drop ib,R x y
theorem AscR.drop(h:AscR R l)(n:Nat):AscR R (l.drop n):=h.sublist (List.drop_sublist _ _)
theorem AscR.take(h:AscR R l)(n:Nat):AscR R (l.take n):=h.sublist (List.take_sublist _ _)
theorem drop_take(l:List Keyed)(n k:Nat):l.drop n=(l.drop n).take k++l.drop (n+k):=by rw[<-List.drop_drop,FR]
theorem zj(l:List Keyed)(n k:Nat):l.take (n+k)=l.take n++(l.drop n).take k:=by rw[List.take_add]
variable {A B out:List Keyed}{ia ib k:Nat}
theorem MR.appA(M:MR R A B out ia ib)(hA:AscR R A)(h:∀x∈(A.drop ia).take k,∀y∈B.drop ib,R x y):MR R A B (out++(A.drop ia).take k) (ia+k) ib:=by
 have dd:=drop_take A ia k;have sA:=hA.drop ia;rw[dd]at sA;have pw:=GY.mp sA;refine⟨?_,GY.mpr ⟨M.asc,pw.1,fun x hx y hy=>M.la x hx y (FZ hy)⟩,fun x hx y hy=>?_,fun x hx y hy=>?_⟩
 . rw[zj];refine(M.perm.append_right _).trans ?_;rw[ES,ES];exact FB.append_left _
 . rcases CK.mp hx with z |z
   . exact M.la x z y (by rw[dd];exact CQ _ hy)
   . exact pw.2.2 x z y hy
 . rcases CK.mp hx with z |z
   . exact M.lb x z y hy
   . exact h x z y hy
theorem MR.swap(M:MR R A B out ia ib):MR R B A out ib ia:=⟨M.perm.trans FB,M.asc,M.lb,M.la⟩
theorem MR.appB(M:MR R A B out ia ib)(hB:AscR R B)(h:∀x∈(B.drop ib).take k,∀y∈A.drop ia,R x y):MR R A B (out++(B.drop ib).take k) ia (ib+k):=(M.swap.appA hB h).swap
theorem MR.fin(M:MR R A B out ia ib)(hA:AscR R A)(h:∀x∈A.drop ia,∀y∈B.drop ib,R x y)(hB:AscR R B):(out++A.drop ia++B.drop ib).Perm (A++B)/\AscR R (out++A.drop ia++B.drop ib):=by have m1:=M.appA (k:=A.length) hA (fun x hx=>h x (FZ hx));have e1:(A.drop ia).take A.length=A.drop ia:=DU (by rw[DD];lia);rw[e1]at m1;have d1:A.drop (ia+A.length)=[]:=List.drop_eq_nil_of_le (by lia);have m2:=m1.appB (k:=B.length) hB (fun x _ y hy=>by rw[d1]at hy;cases hy);have e2:(B.drop ib).take B.length=B.drop ib:=DU (by rw[DD];lia);rw[e2]at m2;refine⟨m2.perm.trans ?_,m2.asc⟩;rw[DU (by lia),DU (by lia)]
variable {rk:Keyed->Nat}
abbrev Asc(rk:Keyed->Nat)(l:List Keyed):Prop:=AscR (fun x y=>rk x<=rk y) l
abbrev MI(rk:Keyed->Nat)(A B out:List Keyed)(ia ib:Nat):Prop:=MR (fun x y=>rk x<=rk y) A B out ia ib
variable {a b:Array Keyed}{outA:Array Keyed}
theorem x9(h:Asc rk a.toList)(gL:i<=j)(hj:j<a.size):tk rk a i<=tk rk a j:=by
 rw[j7 (by lia),j7 hj];rcases Nat.lt_or_ge i j with z |z
 . have:=DT.mp h i j (by simpa using (by lia:i<a.size)) (by simpa using hj) z;simpa using this
 . obtain rfl:i=j:=by lia
   exact η _
theorem Tx(h:∀j,n<=j->j<a.size->r<=tk rk a j):∀y∈a.toList.drop n,r<=rk y:=fun y hy=>by
 obtain⟨i,hi,e⟩:=DF.mp hy;rw[GV]at e;have cB:n+i<a.size:=by simp at hi;lia
 have:=h (n+i) (by lia) cB;rw[j7 cB]at this;rw[<-e];simpa using this
theorem Tw(h:∀i,i<k->n+i<a.size->tk rk a (n+i)<=r):∀y∈(a.toList.drop n).take k,rk y<=r:=fun y hy=>by
 obtain⟨i,hi,e⟩:=DF.mp hy;rw[GU,GV]at e;simp only[CU,DD,CN]at hi;have cB:n+i<a.size:=by omega
 have:=h i (by omega) cB;rw[j7 cB]at this;rw[<-e];simpa using this
abbrev MA(rk:Keyed->Nat)(a b out:Array Keyed)(ia ib:Nat):Prop:=MI rk a.toList b.toList out.toList ia ib
theorem Hj(n k:Nat):(a.extract n (n+k)).toList=(a.toList.drop n).take k:=by rw[GA,EV,Nat.add_sub_cancel_left]
theorem Fb(n:Nat):(a.extract n a.size).toList=a.toList.drop n:=by rw[GA,EV];refine DU ?_;simp
theorem Pc(h:n<a.size):(a.toList.drop n).take 1=[a[n]]:=by rw[EY (by simpa using h)];simp
theorem MI.extA(M:MA rk a b outA ia ib)(hA:Asc rk a.toList)(h1:∀i,i<k->ia+i<a.size->tk rk a (ia+i)<=r)(h2:∀j,ib<=j->j<b.size->r<=tk rk b j):MA rk a b (outA++a.extract ia (ia+k)) (ia+k) ib:=by show MI rk a.toList b.toList (outA++a.extract ia (ia+k)).toList (ia+k) ib;rw[DW,Hj];exact MR.appA M hA fun x hx y hy=>CL (Tw h1 x hx) (Tx h2 y hy)
theorem MI.pushA(M:MA rk a b outA ia ib)(hA:Asc rk a.toList)(hi:ia<a.size)(h2:∀j,ib<=j->j<b.size->tk rk a ia<=tk rk b j):MA rk a b (outA.push a[ia]) (ia+1) ib:=by have m:=M.extA (k:=1) (r:=tk rk a ia) hA (fun i z _=>by rw[show i=0 by lia];exact η _) h2;show MI rk a.toList b.toList (outA.push a[ia]).toList (ia+1) ib;rw[Array.toList_push,<-Pc hi,<-Hj,<-DW];exact m
theorem MI.swapA(M:MA rk a b outA ia ib):MA rk b a outA ib ia:=MR.swap M
theorem MI.done(M:MA rk a b outA ia ib)(hA:Asc rk a.toList)(hB:Asc rk b.toList)(h:a.size<=ia\/b.size<=ib) :
  (outA++a.extract ia a.size++b.extract ib b.size).toList.Perm (a.toList++b.toList)/\Asc rk (outA++a.extract ia a.size++b.extract ib b.size).toList:=by
 rw[DW,DW,Fb,Fb]
 refine MR.fin M hA (fun x hx y hy=>?_) hB
 rcases h with z |z
 . rw[List.drop_eq_nil_of_le (by simpa using z)]at hx;cases hx
 . rw[List.drop_eq_nil_of_le (by simpa using z)]at hy;cases hy
theorem MI.last(M:MA rk a b outA ia ib)(hA:Asc rk a.toList)(hB:Asc rk b.toList)(h:∀x∈b.toList.drop ib,∀y∈a.toList.drop ia,rk x<=rk y) :
  (outA++b.extract ib b.size++a.extract ia a.size).toList.Perm (a.toList++b.toList)/\Asc rk (outA++b.extract ib b.size++a.extract ia a.size).toList:=by
 rw[DW,DW,Fb,Fb]
 have:=MR.fin M.swap hB h hA
 exact⟨this.1.trans FB,this.2⟩
end
section
variable {prog:Program}{w:World}{A:Around}{E:Value->Shared->Prop}{s:Shared}{κ:SortKind}{a₀:Array Keyed}{rk:Keyed->Nat}
noncomputable def mlo:Array Keyed->Array Keyed->StateT SortSt Sem (Array Keyed):=sortPriv% PySem.Builtin.mergeLo
structure GS(st u:SortSt):Prop where
 kind:kindOf u=kindOf st
 arr:arrOf u=arrOf st
 pend:pendingOf u=pendingOf st
 ok:failedOf u=failedOf st
theorem GS.refl(st:SortSt):GS st st:=⟨rfl,rfl,rfl,rfl⟩
theorem GS.g{st u:SortSt}(h:GS st u)(n:Nat):GS st (SortSt.mk' (kindOf u) (arrOf u) (pendingOf u) n (failedOf u)):=⟨h.kind,h.arr,h.pend,h.ok⟩
section
variable {α:Type}{Q:α->SortSt->Prop}{st:SortSt}
theorem o7{τ:Sort _}{F:τ}{B:τ->StateT SortSt Sem α}(h:wpS (model prog w) A E s (B F) Q st):wpS (model prog w) A E s (have jp:=F;B jp) Q st:=h
theorem Vq{β:Type}{g:β->StateT SortSt Sem α}{p:Prop}[Decidable p]{x y:β}(h:∀m,wpS (model prog w) A E s (g m) Q st):wpS (model prog w) A E s (if p then g x else g y) Q st:=by
 split
 . exact h _
 . exact h _
theorem Fa(g:β->γ->StateT SortSt Sem α)(R:β->γ->Prop)(hF:∀o i,R o i->wpS (model prog w) A E s (g o i) Q st)(h:(∀o i,R o i->wpS (model prog w) A E s (g o i) Q st)->wpS (model prog w) A E s t Q st):wpS (model prog w) A E s t Q st:=h hF
end
theorem y3p(hc:y8 prog w A E s κ a₀ rk){st:SortSt}(hk:kindOf st=κ){a b:Array Keyed}(cV:∀x∈a,x∈a₀)(bin:∀x∈b,x∈a₀)(hA:Asc rk a.toList)(hB:Asc rk b.toList)(na:0<a.size)(nb:0<b.size)
  (first:∀j,j<a.size->tk rk b 0<=tk rk a j) (last:∀j,j<b.size->tk rk b j<=tk rk a (a.size - 1)) {Q:Array Keyed->SortSt->Prop}
  (h:∀out u,GS st u->out.toList.Perm (a.toList++b.toList)/\Asc rk out.toList->Q out u):wpS (model prog w) A E s (mlo a b) Q st:=by
 have M0:MA rk a b #[b[0]] 0 1:=(MI.pushA (outA:=#[]) (ia:=0) (ib:=0) (show MA rk b a #[] 0 0 from⟨.refl _,.nil,fun x hx=>absurd hx FD,fun x hx=>absurd hx FD⟩) hB nb fun j _ hj=>first j hj).swapA
 have dL:∀{out:Array Keyed}{ia ib:Nat},MA rk a b out ia ib->ia+1=a.size->(out++b.extract ib b.size++a.extract ia a.size).toList.Perm (a.toList++b.toList)/\Asc rk (out++b.extract ib b.size++a.extract ia a.size).toList:=fun {out ia ib} M e=>by
  refine M.last hA hB fun x hx y hy=>?_
  refine Tx (fun j h1 h2=>?_) y hy;obtain⟨i,hi,ex⟩:=DF.mp (Ie hx);have cB:i<b.size:=by simpa using hi
  have:=last i cB;rw[j7 cB]at this;rw[show j=a.size - 1 by lia,<-ex];simpa using this
 unfold mlo
 refine ω (U8 ?_)
 iterate 3 refine o7 ?_
 refine ω (k8 nb ?_)
 iterate 3 refine o7 ?_
 by_cases e1:1=b.size
 . rw[ζ (by simp[<-e1])];exact Ψ (h _ st (.refl _) (M0.done hA hB (.inr (by lia))))
 rw[ξ (by simpa using e1)]
 by_cases e2:0+1=a.size
 . rw[ζ (by simp[<-e2])];exact Ψ (h _ st (.refl _) (dL M0 e2))
 rw[ξ (by simpa using e2)]
 refine ω (wpS_get ?_)
 refine o7 ?_
 refine ω (Iq (EU (I:=fun x c u=>GS st u/\∃out ia ib g,c=(none,out,ia,ib,g)/\MA rk a b out ia ib/\ia+1<a.size/\ib<b.size/\x+1<=ia+ib)
  (Q:=fun c u=>GS st u/\∃r t,c=(some r,t)/\r.toList.Perm (a.toList++b.toList)/\Asc rk r.toList) ?step ?fin ⟨.refl _,_,0,1,_,rfl,M0,by lia,by lia,by lia⟩) ?post)
 case fin=>
  rintro c u ⟨_,out,ia,ib,g,rfl,_,h1,h2,h3⟩
  simp only[HU]at h3
  lia
 case post=>
  rintro c u ⟨G,r,t,rfl,f⟩
  exact Ψ (h r u G f)
 case step=>
  rintro x c u _ _ ⟨G,out,ia,ib,g,rfl,M,h1,h2,h3⟩
  iterate 9 refine o7 ?_
  dsimp -zetaHave only
  refine ω (Iq (EU (I:=fun y c v=>v=u/\∃out ia ib ac bc,c=(none,out,ia,ib,ac,bc)/\MA rk a b out ia ib/\ia+1<a.size/\ib<b.size/\x+1+y<=ia+ib)
   (Q:=fun c v=>v=u/\((∃r t,c=(some r,t)/\r.toList.Perm (a.toList++b.toList)/\Asc rk r.toList)\/∃out ia ib ac bc,c=(none,out,ia,ib,ac,bc)/\MA rk a b out ia ib/\ia+1<a.size/\ib<b.size/\x+2<=ia+ib))
   ?walk ?wfin ⟨rfl,out,ia,ib,0,0,rfl,M,h1,h2,by lia⟩) ?wpost)
  case wfin=>
   rintro c v ⟨rfl,out,ia,ib,ac,bc,rfl,M,h1,h2,h3⟩
   simp only[HU]at h3
   exact⟨rfl,.inr ⟨out,ia,ib,ac,bc,rfl,M,h1,h2,by lia⟩⟩
  case walk=>
   rintro y c v _ _ ⟨rfl,out,ia,ib,ac,bc,rfl,M,h1,h2,h3⟩
   iterate 9 refine o7 ?_
   dsimp -zetaHave only
   refine ω (k8 h2 (ω (k8 (show ia<a.size by lia) (ω (hc _ _ (bin _ (Array.getElem_mem _)) (cV _ (Array.getElem_mem _)) _ _ (G.kind.trans hk) ?_)))))
   rw[<-j7 (rk:=rk),<-j7 (rk:=rk)]
   by_cases l:tk rk b ib<tk rk a ia
   . rw[decide_eq_true l];dsimp -zetaHave only;rw[ζ rfl];have M':=(MI.pushA M.swapA hB h2 fun j z1 z2=>CL (FY l) (x9 hA z1 z2)).swapA;refine ω (k8 h2 ?_)
     iterate 4 refine o7 ?_
     by_cases f1:ib+1=b.size
     . rw[ζ (by simpa using f1)];exact Ψ ⟨rfl,.inl ⟨_,_,rfl,M'.done hA hB (.inr (by lia))⟩⟩
     rw[ξ (by simpa using f1)];split
     . exact Ψ ⟨rfl,.inr ⟨_,_,_,_,_,rfl,M',h1,by lia,by lia⟩⟩
     . exact Ψ ⟨rfl,_,_,_,_,_,rfl,M',h1,by lia,by lia⟩
   . rw[decide_eq_false l];dsimp -zetaHave only;rw[ξ θ];have M':=MI.pushA M hA (by lia) fun j z1 z2=>CL (Nat.not_lt.mp l) (x9 hB z1 z2)
     refine ω (k8 (show ia<a.size by lia) ?_)
     iterate 4 refine o7 ?_
     by_cases f1:ia+1+1=a.size
     . rw[ζ (by simpa using f1)];exact Ψ ⟨rfl,.inl ⟨_,_,rfl,dL M' f1⟩⟩
     rw[ξ (by simpa using f1)];split
     . exact Ψ ⟨rfl,.inr ⟨_,_,_,_,_,rfl,M',by lia,h2,by lia⟩⟩
     . exact Ψ ⟨rfl,_,_,_,_,_,rfl,M',by lia,h2,by lia⟩
  case wpost=>
   rintro c v ⟨rfl,⟨r,t,rfl,f⟩ |⟨out,ia,ib,ac,bc,rfl,M,h1,h2,h3⟩⟩
   . exact Ψ ⟨G,r,_,rfl,f⟩
   iterate 10 refine o7 ?_
   dsimp -zetaHave only
   refine ω (U8 ?_)
   refine o7 ?_
   refine ω (Iq (EU (I:=fun _ c v=>GS st v/\∃out ia ib mg ac bc,c=(none,out,ia,ib,mg,ac,bc)/\MA rk a b out ia ib/\ia+1<a.size/\ib<b.size/\x+2<=ia+ib)
    (Q:=fun c v=>GS st v/\((∃r t,c=(some r,t)/\r.toList.Perm (a.toList++b.toList)/\Asc rk r.toList)\/∃out ia ib mg ac bc,c=(none,out,ia,ib,mg,ac,bc)/\MA rk a b out ia ib/\ia+1<a.size/\ib<b.size/\x+2<=ia+ib))
    ?jump (fun c v hI=>⟨hI.1,.inr hI.2⟩) ⟨G,out,ia,ib,_,ac,bc,rfl,M,h1,h2,h3⟩) ?jpost)
   case jpost=>
    rintro c v2 ⟨G2,⟨r,t,rfl,f⟩ |⟨out,ia,ib,mg,ac,bc,rfl,M,h1,h2,h3⟩⟩
    . exact Ψ ⟨G2,r,_,rfl,f⟩
    . exact ω (wpS_modify (Ψ ⟨G2.g _,out,ia,ib,_,rfl,M,h1,h2,by lia⟩))
   case jump=>
    clear M h1 h2 h3 out ia ib ac bc
    rintro y c v2 _ _ ⟨G2,out,ia,ib,mg,ac,bc,rfl,M,h1,h2,h3⟩
    extract_lets s1 o1 s2 i1 s3 b1 s4 m1 s5 a1 c1 cC jp tz
    have N:MA rk a b o1 i1 b1/\i1+1<a.size/\b1<b.size/\x+2<=i1+b1:=⟨M,h1,h2,h3⟩
    have tD:cC=b1+1:=rfl
    clear M h1 h2 h3
    clear_value o1 i1 b1 m1 a1 c1 cC
    obtain⟨M,h1,h2,h3⟩:=N
    refine Vq (g:=jp ⟨⟩) fun m=>?_
    refine ω (wpS_modify ?_)
    refine ω (k8 h2 ?_)
    refine ω (T7 hc (by exact G2.kind.trans hk) (bin _ (Array.getElem_mem _)) cV (by lia) (by lia) (fun i j z1 z2 z3=>?_) fun k iG lt gt=>?_)
    . unfold bey at z3⊢;rw[ξ θ]at z3⊢;have:=x9 hA (show i1+i<=i1+j by lia) (by lia);simp only[ET,CS]at z3⊢
      lia
    dsimp -zetaHave only
    have cb:i1+k<a.size->tk rk b b1<=tk rk a (i1+k):=fun z=>by
     have:=gt k (η _) (by lia);unfold bey at this;rw[ξ θ,<-j7 (rk:=rk)]at this;simp only[Bool.not_eq_false',mV]at this
     lia
    have ca:∀i,i<k->i1+i<a.size->tk rk a (i1+i)<=tk rk b b1:=fun i z _=>by
     have:=lt i z;unfold bey at this;rw[ξ θ,<-j7 (rk:=rk)]at this;simp only[ET,CS]at this
     lia
    have M1:=MI.extA (k:=k) M hA ca fun j z1 z2=>x9 hB z1 z2
    clear ca lt gt
    extract_lets tF jq o2 i2
    refine Fa (jq ⟨⟩) (fun dH cP=>MA rk a b dH cP b1/\cP+1<a.size/\tk rk b b1<=tk rk a cP/\x+2<=cP+b1) (fun dH cP z=>?_) fun J=>?_
    rotate_left
    . have ei:i2=i1+k:=rfl;split
      . by_cases f1:i2+1=a.size
        . rw[ζ (by simpa using f1)];exact Ψ ⟨G2.g _,.inl ⟨_,_,rfl,dL M1 f1⟩⟩
        rw[ξ (by simpa using f1)];by_cases f2:i2=a.size
        . rw[ζ (by simpa using f2)];exact Ψ ⟨G2.g _,.inl ⟨_,_,rfl,M1.done hA hB (.inl (by lia))⟩⟩
        rw[ξ (by simpa using f2)];exact J _ _ ⟨M1,by lia,cb (by lia),by lia⟩
      . exact J o1 i1 ⟨M,h1,by have:=cb (by lia);rwa [show i1+k=i1 by lia]at this,h3⟩
    clear M M1 cb h1 h3 o2 i2
    obtain⟨M2,q1,r1,p1⟩:=z
    refine ω (k8 h2 ?_)
    extract_lets o3 oU
    have M3:=(MI.pushA M2.swapA hB h2 fun j z1 z2=>CL r1 (x9 hA z1 z2)).swapA
    rw[<-tD]at M3
    have M3:MA rk a b o3 cP cC:=M3
    clear_value o3
    by_cases f3:cC=b.size
    . rw[ζ (by simpa using f3)];exact Ψ ⟨G2.g _,.inl ⟨_,_,rfl,M3.done hA hB (.inr (by lia))⟩⟩
    rw[ξ (by simpa using f3)]
    have fI:cP<a.size:=by lia
    refine ω (k8 fI ?_)
    refine ω (T7 hc (by exact G2.kind.trans hk) (cV _ (Array.getElem_mem _)) bin (by lia) (by lia) (fun i j z1 z2 z3=>?_) fun k2 iG lt gt=>?_)
    . unfold bey at z3⊢;rw[ζ rfl]at z3⊢;have:=x9 hB (show cC+i<=cC+j by lia) (by lia);simp only[mV]at z3⊢
      lia
    dsimp -zetaHave only
    have cb:cC+k2<b.size->tk rk a cP<=tk rk b (cC+k2):=fun z=>by
     have:=gt k2 (η _) (by lia);unfold bey at this;rw[ζ rfl,<-j7 (rk:=rk)]at this;simp only[CS]at this
     lia
    have ca:∀i,i<k2->cC+i<b.size->tk rk b (cC+i)<=tk rk a cP:=fun i z _=>by
     have:=lt i z;unfold bey at this;rw[ζ rfl,<-j7 (rk:=rk)]at this;simp only[mV]at this
     lia
    have M4:=(MI.extA (k:=k2) M3.swapA hB ca fun j z1 z2=>x9 hA z1 z2).swapA
    clear ca lt gt
    extract_lets tG jr o4 mI
    refine Fa (jr ⟨⟩) (fun dZ ib=>MA rk a b dZ cP ib/\ib<b.size/\tk rk a cP<=tk rk b ib/\x+2<=cP+ib) (fun dZ ib z=>?_) fun J=>?_
    rotate_left
    . have ei:mI=cC+k2:=rfl;split
      . by_cases f4:mI=b.size
        . rw[ζ (by simpa using f4)];exact Ψ ⟨G2.g _,.inl ⟨_,_,rfl,M4.done hA hB (.inr (by lia))⟩⟩
        rw[ξ (by simpa using f4)];exact J _ _ ⟨M4,by lia,cb (by lia),by lia⟩
      . exact J o3 cC ⟨M3,by lia,by have:=cb (by lia);rwa [show cC+k2=cC by lia]at this,by lia⟩
    clear M4 M3 cb o4 mI
    obtain⟨M5,b2,c2,p2⟩:=z
    refine ω (k8 fI ?_)
    extract_lets o5
    have M6:=MI.pushA M5 hA fI fun j z1 z2=>CL c2 (x9 hB z1 z2)
    by_cases f5:cP+1+1=a.size
    . rw[ζ (show(oU+1==a.size)=true by simpa using f5)];exact Ψ ⟨G2.g _,.inl ⟨_,_,rfl,dL M6 f5⟩⟩
    rw[ξ (show ¬(oU+1==a.size)=true by simpa using f5)]
    split
    . exact Ψ ⟨G2.g _,.inr ⟨_,_,_,_,_,_,rfl,M6,by lia,b2,by lia⟩⟩
    . exact Ψ ⟨G2.g _,_,_,_,_,_,_,rfl,M6,by lia,b2,by lia⟩
end
section
variable {rk:Keyed->Nat}{a b outA:Array Keyed}{na nb:Nat}
abbrev MH(rk:Keyed->Nat)(a b out:Array Keyed)(na nb:Nat):Prop:=MR (fun x y=>rk y<=rk x) a.toList.reverse b.toList.reverse out.toList (a.size - na) (b.size - nb)
theorem Kf(h:Asc rk a.toList):AscR (fun x y=>rk y<=rk x) a.toList.reverse:=List.pairwise_reverse.mpr h
theorem W3(h:na<=a.size):a.toList.reverse.drop (a.size - na)=(a.toList.take na).reverse:=by rw[List.drop_reverse,CN,show a.size - (a.size - na)=na by omega]
theorem Tv(h:∀j,j<na->j<a.size->tk rk a j<=r):∀y∈a.toList.take na,rk y<=r:=by have:=Tw (rk:=rk) (a:=a) (n:=0) (k:=na) (r:=r) (fun i z1 z2=>by rw[GG];exact h i z1 (by lia));rwa [List.drop_zero]at this
theorem MR.extH(M:MH rk a b outA na nb)(hA:Asc rk a.toList)(hp:p<=na)(hn:na<=a.size)(hb:nb<=b.size)(h1:∀i,p<=i->i<na->r<=tk rk a i)(h2:∀j,j<nb->tk rk b j<=r):MH rk a b (outA++(a.extract p na).reverse) p nb:=by
 have e:((a.extract p na).reverse).toList=(a.toList.reverse.drop (a.size - na)).take (na - p):=by rw[W3 hn,Ig,GA,EV,List.take_reverse,CU,CN,List.drop_take];rw[show min na a.size - (na - p)=p by lia]
 show MR _ _ _ (outA++(a.extract p na).reverse).toList (a.size - p) (b.size - nb);rw[DW,e,show a.size - p=a.size - na+(na - p) by lia];refine MR.appA M (Kf hA) fun x hx y hy=>?_
 rw[<-e,Ig,List.mem_reverse,GA,EV]at hx;rw[W3 hb,List.mem_reverse]at hy;refine CL (Tv (fun j z _=>h2 j z) y hy) ?_;obtain⟨i,hi,ex⟩:=DF.mp hx;rw[GU,GV]at ex;simp only[CU,DD,CN]at hi;have:=h1 (p+i) (by lia) (by lia);rw[j7 (show p+i<a.size by lia)]at this;rw[<-ex];simpa using this
theorem MR.pushH(M:MH rk a b outA na nb)(hA:Asc rk a.toList)(h0:0<na)(hn:na<=a.size)(hb:nb<=b.size)(h2:∀j,j<nb->tk rk b j<=tk rk a (na - 1)):MH rk a b (outA.push a[na - 1]) (na - 1) nb:=by
 have m:=MR.extH M hA (p:=na - 1) (r:=tk rk a (na - 1)) (by omega) hn hb (fun i z1 z2=>by rw[show i=na - 1 by omega];exact η _) h2;have e:(a.extract (na - 1) na).reverse.toList=[a[na - 1]]:=by rw[Ig,show a.extract (na - 1) na=a.extract (na - 1) (na - 1+1) by rw[Nat.sub_add_cancel h0],Hj,Pc (by omega)];rfl
 show MR _ _ _ (outA.push a[na - 1]).toList _ _;rw[Array.toList_push,<-e,<-DW];exact m
theorem MR.finH(M:MH rk a b outA na nb)(hA:Asc rk a.toList)(hB:Asc rk b.toList)(hn:na<=a.size)(hb:nb<=b.size)(h:∀x∈b.toList.take nb,∀y∈a.toList.take na,rk y<=rk x) :
  (a.extract 0 na++b.extract 0 nb++outA.reverse).toList.Perm (a.toList++b.toList)/\Asc rk (a.extract 0 na++b.extract 0 nb++outA.reverse).toList:=by
 have f:=MR.fin M.swap (Kf hB) (fun x hx y hy=>?_) (Kf hA)
 . rw[W3 hn,W3 hb]at f;have e:(a.extract 0 na++b.extract 0 nb++outA.reverse).toList=(outA.toList++(b.toList.take nb).reverse++(a.toList.take na).reverse).reverse:=by
    have ea:∀(c:Array Keyed)(k:Nat),(c.extract 0 k).toList=c.toList.take k:=fun c k=>by rw[GA,EV,List.drop_zero,Nat.sub_zero]
    rw[DW,DW,ea,ea,Ig];simp
   rw[e];refine⟨(List.reverse_perm _).trans (f.1.trans ?_),List.pairwise_reverse.mpr f.2⟩;exact((List.reverse_perm _).append (List.reverse_perm _)).trans FB
 . rw[W3 hb,List.mem_reverse]at hx;rw[W3 hn,List.mem_reverse]at hy;exact h x hx y hy
end
section
variable {prog:Program}{w:World}{A:Around}{E:Value->Shared->Prop}{s:Shared}{κ:SortKind}{a₀:Array Keyed}{rk:Keyed->Nat}
noncomputable def mhi:Array Keyed->Array Keyed->StateT SortSt Sem (Array Keyed):=sortPriv% PySem.Builtin.mergeHi
theorem y3q(hc:y8 prog w A E s κ a₀ rk){st:SortSt}(hk:kindOf st=κ){a b:Array Keyed}(cV:∀x∈a,x∈a₀)(bin:∀x∈b,x∈a₀)(hA:Asc rk a.toList)(hB:Asc rk b.toList)(tH:0<a.size)(BL:0<b.size)
  (first:∀j,j<a.size->tk rk b 0<=tk rk a j) (last:∀j,j<b.size->tk rk b j<=tk rk a (a.size - 1)) {Q:Array Keyed->SortSt->Prop}
  (h:∀out u,GS st u->out.toList.Perm (a.toList++b.toList)/\Asc rk out.toList->Q out u):wpS (model prog w) A E s (mhi a b) Q st:=by
 have M0:MH rk a b #[a[a.size - 1]] (a.size - 1) b.size:=MR.pushH (outA:=#[]) (na:=a.size) (nb:=b.size)
  (show MH rk a b #[] a.size b.size from⟨by simp,.nil,fun x hx=>absurd hx FD,fun x hx=>absurd hx FD⟩) hA tH (η _) (η _) last
 have dn:∀{out:Array Keyed}{na nb:Nat},MH rk a b out na nb->na<=a.size->nb<=b.size->(na=0\/nb=0)->(a.extract 0 na++b.extract 0 nb++out.reverse).toList.Perm (a.toList++b.toList)/\Asc rk (a.extract 0 na++b.extract 0 nb++out.reverse).toList:=fun {out na nb} M h1 h2 e=>by
  refine MR.finH M hA hB h1 h2 fun x hx y hy=>?_
  rcases e with rfl |rfl
  . rw[List.take_zero]at hy;cases hy
  . rw[List.take_zero]at hx;cases hx
 have fb:∀{out:Array Keyed}{na nb:Nat},MH rk a b out na nb->na<=a.size->nb<=b.size->nb=1->(b.extract 0 nb++a.extract 0 na++out.reverse).toList.Perm (a.toList++b.toList)/\Asc rk (b.extract 0 nb++a.extract 0 na++out.reverse).toList:=fun {out na nb} M h1 h2 e=>by
  have f:=MR.finH (a:=b) (b:=a) M.swap hB hA h2 h1 fun x hx y hy=>?_
  . exact⟨f.1.trans FB,f.2⟩
  . obtain⟨i,hi,ex⟩:=DF.mp (FZ hx);have cB:i<a.size:=by simpa using hi
    have q:=first i cB
    rw[j7 cB]at q;rw[<-ex];refine CL (Tv (r:=tk rk b 0) (fun j z1 z2=>by rw[show j=0 by lia];exact η _) y hy) (by simpa using q)
 unfold mhi
 refine ω (U8 ?_)
 iterate 3 refine o7 ?_
 refine ω (k8 (show a.size - 1<a.size by lia) ?_)
 iterate 3 refine o7 ?_
 by_cases e1:a.size - 1=0
 . rw[ζ (by simpa using e1)];exact Ψ (h _ st (.refl _) (dn M0 (by lia) (η _) (.inl e1)))
 rw[ξ (by simpa using e1)]
 by_cases e2:b.size=1
 . rw[ζ (by simpa using e2)];exact Ψ (h _ st (.refl _) (fb M0 (by lia) (η _) e2))
 rw[ξ (by simpa using e2)]
 refine ω (wpS_get ?_)
 refine o7 ?_
 refine ω (Iq (EU (I:=fun x c u=>GS st u/\∃na nb out g,c=(none,na,nb,out,g)/\MH rk a b out na nb/\(0<na/\na<=a.size)/\(1<nb/\nb<=b.size)/\na+nb+x+1<=a.size+b.size)
  (Q:=fun c u=>GS st u/\∃r t,c=(some r,t)/\r.toList.Perm (a.toList++b.toList)/\Asc rk r.toList) ?step ?fin ⟨.refl _,_,_,_,_,rfl,M0,by lia,by lia,by lia⟩) ?post)
 case fin=>
  rintro c u ⟨_,na,nb,out,g,rfl,_,h1,h2,h3⟩
  simp only[HU]at h3
  lia
 case post=>
  rintro c u ⟨G,r,t,rfl,f⟩
  exact Ψ (h r u G f)
 case step=>
  rintro x c u _ _ ⟨G,na,nb,out,g,rfl,M,h1,h2,h3⟩
  iterate 9 refine o7 ?_
  dsimp -zetaHave only
  refine ω (Iq (EU (I:=fun y c v=>v=u/\∃na nb out ac bc,c=(none,na,nb,out,ac,bc)/\MH rk a b out na nb/\(0<na/\na<=a.size)/\(1<nb/\nb<=b.size)/\na+nb+x+1+y<=a.size+b.size)
   (Q:=fun c v=>v=u/\((∃r t,c=(some r,t)/\r.toList.Perm (a.toList++b.toList)/\Asc rk r.toList)\/∃na nb out ac bc,c=(none,na,nb,out,ac,bc)/\MH rk a b out na nb/\(0<na/\na<=a.size)/\(1<nb/\nb<=b.size)/\na+nb+x+2<=a.size+b.size))
   ?walk ?wfin ⟨rfl,na,nb,out,0,0,rfl,M,h1,h2,by lia⟩) ?wpost)
  case wfin=>
   rintro c v ⟨rfl,na,nb,out,ac,bc,rfl,M,h1,h2,h3⟩
   simp only[HU]at h3
   exact⟨rfl,.inr ⟨na,nb,out,ac,bc,rfl,M,h1,h2,by lia⟩⟩
  case walk=>
   rintro y c v _ _ ⟨rfl,na,nb,out,ac,bc,rfl,M,h1,h2,h3⟩
   iterate 9 refine o7 ?_
   dsimp -zetaHave only
   refine ω (k8 (show nb - 1<b.size by lia) (ω (k8 (show na - 1<a.size by lia) (ω (hc _ _ (bin _ (Array.getElem_mem _)) (cV _ (Array.getElem_mem _)) _ _ (G.kind.trans hk) ?_)))))
   rw[<-j7 (rk:=rk),<-j7 (rk:=rk)]
   by_cases l:tk rk b (nb - 1)<tk rk a (na - 1)
   . rw[decide_eq_true l];dsimp -zetaHave only;rw[ζ rfl];have M':=MR.pushH M hA h1.1 h1.2 h2.2 fun j z=>CL (x9 hB (show j<=nb - 1 by lia) (by lia)) (FY l)
     refine ω (k8 (show na - 1<a.size by lia) ?_)
     iterate 4 refine o7 ?_
     by_cases f1:na - 1=0
     . rw[ζ (by simpa using f1)];exact Ψ ⟨rfl,.inl ⟨_,_,rfl,dn M' (by lia) h2.2 (.inl f1)⟩⟩
     rw[ξ (by simpa using f1)];split
     . exact Ψ ⟨rfl,.inr ⟨_,_,_,_,_,rfl,M',by lia,h2,by lia⟩⟩
     . exact Ψ ⟨rfl,_,_,_,_,_,rfl,M',by lia,h2,by lia⟩
   . rw[decide_eq_false l];dsimp -zetaHave only;rw[ξ θ];have M':MH rk a b (out.push b[nb - 1]) na (nb - 1):=(MR.pushH (a:=b) (b:=a) M.swap hB (by lia) h2.2 h1.2 fun j z=>CL (x9 hA (show j<=na - 1 by lia) (by lia)) (Nat.not_lt.mp l)).swap;refine ω (k8 (show nb - 1<b.size by lia) ?_)
     iterate 4 refine o7 ?_
     by_cases f1:nb - 1=1
     . rw[ζ (by simpa using f1)];exact Ψ ⟨rfl,.inl ⟨_,_,rfl,fb M' h1.2 (by lia) f1⟩⟩
     rw[ξ (by simpa using f1)];split
     . exact Ψ ⟨rfl,.inr ⟨_,_,_,_,_,rfl,M',h1,by lia,by lia⟩⟩
     . exact Ψ ⟨rfl,_,_,_,_,_,rfl,M',h1,by lia,by lia⟩
  case wpost=>
   rintro c v ⟨rfl,⟨r,t,rfl,f⟩ |⟨na,nb,out,ac,bc,rfl,M,h1,h2,h3⟩⟩
   . exact Ψ ⟨G,r,_,rfl,f⟩
   iterate 10 refine o7 ?_
   dsimp -zetaHave only
   refine ω (U8 ?_)
   refine o7 ?_
   refine ω (Iq (EU (I:=fun _ c v=>GS st v/\∃na nb out mg ac bc,c=(none,na,nb,out,mg,ac,bc)/\MH rk a b out na nb/\(0<na/\na<=a.size)/\(1<nb/\nb<=b.size)/\na+nb+x+2<=a.size+b.size)
    (Q:=fun c v=>GS st v/\((∃r t,c=(some r,t)/\r.toList.Perm (a.toList++b.toList)/\Asc rk r.toList)\/∃na nb out mg ac bc,c=(none,na,nb,out,mg,ac,bc)/\MH rk a b out na nb/\(0<na/\na<=a.size)/\(1<nb/\nb<=b.size)/\na+nb+x+2<=a.size+b.size))
    ?jump (fun c v hI=>⟨hI.1,.inr hI.2⟩) ⟨G,na,nb,out,_,ac,bc,rfl,M,h1,h2,h3⟩) ?jpost)
   case jpost=>
    rintro c v2 ⟨G2,⟨r,t,rfl,f⟩ |⟨na,nb,out,mg,ac,bc,rfl,M,h1,h2,h3⟩⟩
    . exact Ψ ⟨G2,r,_,rfl,f⟩
    . exact ω (wpS_modify (Ψ ⟨G2.g _,na,nb,out,_,rfl,M,h1,h2,by lia⟩))
   case jump=>
    clear M h1 h2 h3 out na nb ac bc
    rintro y c v2 _ _ ⟨G2,na,nb,out,mg,ac,bc,rfl,M,h1,h2,h3⟩
    extract_lets s1 n1 s2 b1 s3 o1 s4 m1 s5 a1 c1 eI jp tz
    have N:MH rk a b o1 n1 b1/\(0<n1/\n1<=a.size)/\(1<b1/\b1<=b.size)/\n1+b1+x+2<=a.size+b.size:=⟨M,h1,h2,h3⟩
    have eb:eI=b1 - 1:=rfl
    clear M h1 h2 h3
    clear_value o1 n1 b1 m1 a1 c1 eI
    obtain⟨M,h1,h2,h3⟩:=N
    have gO:b1 - 1<b.size:=by lia
    refine Vq (g:=jp ⟨⟩) fun m=>?_
    refine ω (wpS_modify ?_)
    refine ω (k8 gO ?_)
    refine ω (T7 hc (by exact G2.kind.trans hk) (bin _ (Array.getElem_mem _)) cV (by lia) (by lia) (fun i j z1 z2 z3=>?_) fun p hp lt gt=>?_)
    . unfold bey at z3⊢;rw[ξ θ]at z3⊢;have:=x9 hA (show 0+i<=0+j by lia) (by lia);simp only[ET,CS]at z3⊢
      lia
    dsimp -zetaHave only
    have ca:∀i,p<=i->i<n1->tk rk b (b1 - 1)<=tk rk a i:=fun i z1 z2=>by
     have:=gt i z1 z2;unfold bey at this;rw[ξ θ,<-j7 (rk:=rk),GG]at this;simp only[Bool.not_eq_false',mV]at this
     lia
    have cb:∀i,i<p->tk rk a i<=tk rk b (b1 - 1):=fun i z=>by
     have:=lt i z;unfold bey at this;rw[ξ θ,<-j7 (rk:=rk),GG]at this;simp only[ET,CS]at this
     lia
    have M1:=MR.extH M hA (p:=p) hp h1.2 h2.2 ca fun j z=>x9 hB (show j<=b1 - 1 by lia) (by lia)
    clear ca lt gt
    extract_lets k tF jq o2 n2
    refine Fa (jq ⟨⟩) (fun cf dH=>MH rk a b dH cf b1/\(0<cf/\cf<=a.size)/\(∀i,i<cf->tk rk a i<=tk rk b (b1 - 1))/\cf+b1+x+2<=a.size+b.size) (fun cf dH z=>?_) fun J=>?_
    rotate_left
    . have ek:k=n1 - p:=rfl;split
      . by_cases f1:p=0
        . rw[ζ (by simpa using f1)];exact Ψ ⟨G2.g _,.inl ⟨_,_,rfl,dn M1 (by lia) h2.2 (.inl f1)⟩⟩
        rw[ξ (by simpa using f1)];exact J _ _ ⟨M1,by lia,cb,by lia⟩
      . exact J n1 o1 ⟨M,h1,fun i z=>cb i (by lia),h3⟩
    clear M M1 cb h1 h3 o2 n2
    obtain⟨M2,q1,r1,p1⟩:=z
    rw[<-eb]at gO r1
    refine ω (k8 gO ?_)
    extract_lets o3 oV
    have M3:MH rk a b (dH.push b[b1 - 1]) cf (b1 - 1):=(MR.pushH (a:=b) (b:=a) M2.swap hB (by lia) h2.2 q1.2 (eb ▸ r1)).swap
    have M3:MH rk a b o3 cf eI:=by subst eb;exact M3
    clear_value o3
    by_cases f3:eI=1
    . rw[ζ (by simpa using f3)];exact Ψ ⟨G2.g _,.inl ⟨_,_,rfl,fb M3 q1.2 (by lia) f3⟩⟩
    rw[ξ (by simpa using f3)]
    have fI:cf - 1<a.size:=by lia
    refine ω (k8 fI ?_)
    refine ω (T7 hc (by exact G2.kind.trans hk) (cV _ (Array.getElem_mem _)) bin (by lia) (by lia) (fun i j z1 z2 z3=>?_) fun p2 eT lt gt=>?_)
    . unfold bey at z3⊢;rw[ζ rfl]at z3⊢;have:=x9 hB (show 0+i<=0+j by lia) (by lia);simp only[mV]at z3⊢
      lia
    dsimp -zetaHave only
    have ca:∀i,p2<=i->i<eI->tk rk a (cf - 1)<=tk rk b i:=fun i z1 z2=>by
     have:=gt i z1 z2;unfold bey at this;rw[ζ rfl,<-j7 (rk:=rk),GG]at this;simp only[CS]at this
     lia
    have cb:∀i,i<p2->tk rk b i<=tk rk a (cf - 1):=fun i z=>by
     have:=lt i z;unfold bey at this;rw[ζ rfl,<-j7 (rk:=rk),GG]at this;simp only[mV]at this
     lia
    have M4:MH rk a b (o3++(b.extract p2 eI).reverse) cf p2:=(MR.extH (a:=b) (b:=a) M3.swap hB (p:=p2) eT (by lia) q1.2 ca fun j z=>x9 hA (show j<=cf - 1 by lia) (by lia)).swap
    clear ca lt gt
    extract_lets k2 tG jr o4 tI
    refine Fa (jr ⟨⟩) (fun nb dZ=>MH rk a b dZ cf nb/\(1<nb/\nb<=b.size)/\(∀i,i<nb->tk rk b i<=tk rk a (cf - 1))/\cf+nb+x+2<=a.size+b.size) (fun nb dZ z=>?_) fun J=>?_
    rotate_left
    . have ek:k2=eI - p2:=rfl;split
      . by_cases f4:p2=1
        . rw[ζ (by simpa using f4)];exact Ψ ⟨G2.g _,.inl ⟨_,_,rfl,fb M4 q1.2 (by lia) f4⟩⟩
        rw[ξ (by simpa using f4)];by_cases f5:p2=0
        . rw[ζ (by simpa using f5)];exact Ψ ⟨G2.g _,.inl ⟨_,_,rfl,dn M4 q1.2 (by lia) (.inr f5)⟩⟩
        rw[ξ (by simpa using f5)];exact J _ _ ⟨M4,by lia,cb,by lia⟩
      . exact J eI o3 ⟨M3,by lia,fun i z=>cb i (by lia),by lia⟩
    clear M4 M3 cb o4 tI
    obtain⟨M5,b2,c2,p2⟩:=z
    refine ω (k8 fI ?_)
    extract_lets o5
    have M6:=MR.pushH M5 hA q1.1 q1.2 b2.2 c2
    by_cases f6:cf - 1=0
    . rw[ζ (show(oV==0)=true by simpa using f6)];exact Ψ ⟨G2.g _,.inl ⟨_,_,rfl,dn M6 (by lia) b2.2 (.inl f6)⟩⟩
    rw[ξ (show ¬(oV==0)=true by simpa using f6)]
    split
    . exact Ψ ⟨G2.g _,.inr ⟨_,_,_,_,_,_,rfl,M6,by lia,b2,by lia⟩⟩
    . exact Ψ ⟨G2.g _,_,_,_,_,_,_,rfl,M6,by lia,b2,by lia⟩
end
section
variable {rk:Keyed->Nat}
theorem Rf(c:Nat):∀(m:List Keyed)(n:Nat)(ys:Array Keyed),c+n+m.length<=ys.size ->
  ((m.zipIdx n).foldl (fun a (q:Keyed×Nat)=>a.setIfInBounds (c+q.2) q.1) ys).toList=ys.toList.take (c+n)++m++ys.toList.drop (c+n+m.length)
 | [],n,ys,_=>by simp
 |p::m,n,ys,h=>by
  simp only[pp]at h;rw[List.zipIdx_cons,List.foldl_cons,Rf c m (n+1) _ (by rw[Array.size_setIfInBounds];lia),Array.toList_setIfInBounds];have hl:c+n<ys.toList.length:=by rw[CN];lia
  rw[show c+(n+1)=c+n+1 by lia,List.take_set,List.drop_set_of_lt (by lia),List.take_succ_eq_append_getElem hl,List.set_append_right _ _ (by rw[CU];lia)];rw[CU,show c+n - min (c+n) ys.toList.length=0 by lia,List.set_cons_zero,pp,show c+n+1+m.length=c+n+(m.length+1) by lia];simp
structure Seg(xs:Array Keyed)(pre X post:List Keyed):Prop where
 eq:xs.toList=pre++X++post
variable {xs:Array Keyed}{pre X post:List Keyed}
theorem Seg.size(S:Seg xs pre X post):xs.size=pre.length+X.length+post.length:=by rw[<-CN,S.eq,χ,χ]
theorem Seg.at(S:Seg xs pre X post)(h:i<X.length):∃hh:pre.length+i<xs.size,xs[pre.length+i]=X[i]:=by refine⟨by rw[S.size];lia,?_⟩;rw[<-Array.getElem_toList];simp only[S.eq];rw[List.getElem_append_left (by rw[χ];lia),List.getElem_append_right (by lia)];simp
theorem Seg.tk(S:Seg xs pre X post)(h:i<X.length):tk rk xs (pre.length+i)=rk X[i]:=by obtain⟨hh,e⟩:=S.at h;rw[j7 hh,e]
theorem Asc.at(h:Asc rk l)(gL:i<=j)(hj:j<l.length):rk l[i]<=rk l[j]:=by
 rcases Nat.lt_or_ge i j with z |z
 . exact DT.mp h i j (by lia) hj z
 . obtain rfl:i=j:=by lia
   exact η _
theorem Seg.ext(S:Seg xs pre X post)(k m:Nat)(h:k<=m)(hm:m<=X.length):(xs.extract (pre.length+k) (pre.length+m)).toList=(X.drop k).take (m - k):=by
 rw[GA,EV,S.eq,ES,<-List.drop_drop,List.drop_left,List.drop_append_of_le_length (by lia),show pre.length+m - (pre.length+k)=m - k by lia,
  List.take_append_of_le_length (by rw[DD];lia)]
end
section
variable {prog:Program}{w:World}{A:Around}{E:Value->Shared->Prop}{s:Shared}{κ:SortKind}{a₀:Array Keyed}{rk:Keyed->Nat}
theorem jC(e:a.toList=l)(h:i<l.length):tk rk a i=rk l[i]:=by subst e;rw[j7 (by simpa using h)];simp
theorem y13{σ:Type}{M:Model}{v st:σ}{Q:PUnit->σ->Prop}(h:Q ⟨⟩ v):wpS M A E s (set v:StateT σ Sem PUnit) Q st:=by unfold wpS;rw[StateT.run_set];exact π ⟨rfl,h⟩
theorem y3r(hc:y8 prog w A E s κ a₀ rk){st:SortSt}(B:TBs κ a₀ st){L R:List (Nat×Nat×Nat)}{pw pw':Nat}{pre X Y post:List Keyed}(hP:(pendingOf st).toList=L++(pre.length,X.length,pw)::(pre.length+X.length,Y.length,pw')::R)
  (hx:(arrOf st).toList=pre++X++(Y++post)) (aX:Asc rk X) (aY:Asc rk Y) (nX:0<X.length) (nY:0<Y.length) {Q:Bool->SortSt->Prop}
  (h:∀u Z,TBs κ a₀ u->(pendingOf u).toList=L++(pre.length,X.length+Y.length,pw)::R->(arrOf u).toList=pre++Z++post->Asc rk Z->Z.length=X.length+Y.length->Q true u):wpS (model prog w) A E s (mergeAt' L.length) Q st:=by
 have S1:Seg (arrOf st) pre X (Y++post):=⟨hx⟩
 have S2:Seg (arrOf st) (pre++X) Y post:=⟨by rw[hx,<-ES]⟩
 have l2:(pre++X).length=pre.length+X.length:=χ
 have p1:(pendingOf st)[L.length]?=some (pre.length,X.length,pw):=by rw[<-FS,hP];simp
 have p2:(pendingOf st)[L.length+1]?=some (pre.length+X.length,Y.length,pw'):=by rw[<-FS,hP];simp
 have pn:(((pendingOf st).setIfInBounds L.length (pre.length,X.length+Y.length,pw)).eraseIdxIfInBounds (L.length+1)).toList=L++(pre.length,X.length+Y.length,pw)::R:=by rw[Array.toList_eraseIdxIfInBounds,Array.toList_setIfInBounds,hP];simp[List.eraseIdx_append_of_length_le]
 unfold mergeAt'
 refine ω (wpS_get ?_)
 dsimp only
 rw[p1,p2]
 dsimp only
 refine ω (y13 ?_)
 have z0:pre.length+X.length<(arrOf st).size:=by rw[S1.size,χ];lia
 refine ω (k8 z0 ?_)
 have kin:∀x∈arrOf st,x∈a₀:=fun x hx=>B.mem hx
 have hX:=S1.size
 rw[χ]at hX
 have vX:∀{i:Nat}(hi:i<X.length),tk rk (arrOf st) (pre.length+i)=rk X[i]:=fun hi=>S1.tk hi
 have vY:∀{i:Nat}(hi:i<Y.length),tk rk (arrOf st) (pre.length+X.length+i)=rk Y[i]:=fun {i} hi=>by have:=S2.tk (rk:=rk) hi;rwa [l2]at this
 have ky:rk (arrOf st)[pre.length+X.length]=rk Y[0]:=by rw[<-j7 (rk:=rk) z0];exact vY nY
 refine ω (T7 hc (by exact B.kind) (kin _ (Array.getElem_mem _)) kin (by lia) nX (fun i j z1 z2 z3=>?_) fun k iG lt gt=>?_)
 . unfold bey at z3⊢;rw[ξ θ]at z3⊢;rw[vX (by lia)]at z3⊢;have:=aX.at z1 z2;simp only[ET,CS]at z3⊢
   lia
 dsimp only
 have ca:∀i (hi:i<X.length),i<k->rk X[i]<=rk Y[0]:=fun i hi z=>by
  have:=lt i z;unfold bey at this;rw[ξ θ,vX hi,ky]at this;simp only[ET,CS]at this
  lia
 have cb:∀i (hi:i<X.length),k<=i->rk Y[0]<rk X[i]:=fun i hi z=>by have:=gt i z hi;unfold bey at this;rw[ξ θ,vX hi,ky]at this;simpa using this
 have fT:(∀i (hi:i<X.length) j (hj:j<Y.length),rk X[i]<=rk Y[j])->Asc rk (X++Y):=fun q=>by refine GY.mpr ⟨aX,aY,fun x hx y hy=>?_⟩;obtain⟨i,hi,rfl⟩:=DF.mp hx;obtain⟨j,hj,rfl⟩:=DF.mp hy;exact q i hi j hj
 by_cases e1:X.length - k=0
 . rw[ζ (by simpa using e1)];exact Ψ (h _ (X++Y) ⟨B.perm,B.kind,B.ok⟩ pn (by show(arrOf st).toList=_;rw[hx];simp) (fT fun i hi j hj=>CL (ca i hi (by lia)) (aY.at (DG _) hj)) χ)
 rw[ξ (by simpa using e1)]
 have z1:pre.length+k+(X.length - k) - 1<(arrOf st).size:=by lia
 refine ω (k8 z1 ?_)
 have kx:rk (arrOf st)[pre.length+k+(X.length - k) - 1]=rk X[X.length - 1]:=by rw[<-j7 (rk:=rk) z1,show pre.length+k+(X.length - k) - 1=pre.length+(X.length - 1) by lia];exact vX (by lia)
 refine ω (T7 hc (by exact B.kind) (kin _ (Array.getElem_mem _)) kin (by lia) (by lia) (fun i j z1 z2 z3=>?_) fun m hm lt2 tJ=>?_)
 . unfold bey at z3⊢;rw[ζ rfl]at z3⊢;rw[vY (by lia)]at z3⊢;have:=aY.at z1 z2;simp only[mV]at z3⊢
   lia
 dsimp only
 have da:∀j (hj:j<Y.length),j<m->rk Y[j]<rk X[X.length - 1]:=fun j hj z=>by have:=lt2 j z;unfold bey at this;rw[ζ rfl,vY hj,kx]at this;simpa using this
 have db:∀j (hj:j<Y.length),m<=j->rk X[X.length - 1]<=rk Y[j]:=fun j hj z=>by
  have:=tJ j z hj;unfold bey at this;rw[ζ rfl,vY hj,kx]at this;simp only[CS]at this
  lia
 by_cases e2:m=0
 . rw[ζ (by simpa using e2)];exact Ψ (h _ (X++Y) ⟨B.perm,B.kind,B.ok⟩ pn (by show(arrOf st).toList=_;rw[hx];simp) (fT fun i hi j hj=>CL (aX.at (show i<=X.length - 1 by lia) (by lia)) (db j hj (by lia))) χ)
 rw[ξ (by simpa using e2)]
 have ex:((arrOf st).extract (pre.length+k) (pre.length+X.length)).toList=X.drop k:=by rw[S1.ext k X.length iG (η _)];exact DU (by rw[DD];lia)
 have ey:((arrOf st).extract (pre.length+X.length) (pre.length+X.length+m)).toList=Y.take m:=by have:=S2.ext 0 m (DG _) hm;rwa [l2,Nat.add_zero,List.drop_zero,Nat.sub_zero]at this
 generalize oR:(arrOf st).extract (pre.length+k) (pre.length+X.length)=x1 at *
 generalize BM:(arrOf st).extract (pre.length+X.length) (pre.length+X.length+m)=y1 at *
 have lx:x1.size=X.length - k:=by rw[<-CN,ex,DD]
 have ly:y1.size=m:=by rw[<-CN,ey,CU];lia
 have tx:∀i,i<X.length - k->∃hi:k+i<X.length,tk rk x1 i=rk X[k+i]:=fun i hi=>⟨by lia,by rw[jC ex (by rw[DD];exact hi),GV]⟩
 have ty:∀i,i<m->∃hi:i<Y.length,tk rk y1 i=rk Y[i]:=fun i hi=>⟨by lia,by rw[jC ey (by rw[CU];lia),GU]⟩
 have oW:∀x∈x1,x∈a₀:=fun x hx=>kin x (HH.mpr (by rw[HH,ex]at hx;rw[S1.eq];exact DC _ (CQ _ (Ie hx))))
 have oX:∀x∈y1,x∈a₀:=fun x hx=>kin x (HH.mpr (by rw[HH,ey]at hx;rw[S2.eq];exact DC _ (CQ _ (FZ hx))))
 have first:∀j,j<x1.size->tk rk y1 0<=tk rk x1 j:=fun j hj=>by obtain⟨h1,e1⟩:=tx j (by lia);obtain⟨h2,e2⟩:=ty 0 (by lia);rw[e1,e2];exact FY (cb _ h1 (by lia))
 have last:∀j,j<y1.size->tk rk y1 j<=tk rk x1 (x1.size - 1):=fun j hj=>by
  obtain⟨h1,e1⟩:=tx (x1.size - 1) (by lia);obtain⟨h2,e2⟩:=ty j (by lia);rw[e1,e2];have:=da j h2 (by lia);simp only[show k+(x1.size - 1)=X.length - 1 by lia]
  lia
 have A1:Asc rk x1.toList:=by rw[ex];exact aX.drop k
 have A2:Asc rk y1.toList:=by rw[ey];exact aY.take m
 have done:∀(out:Array Keyed)(u:SortSt),GS (SortSt.mk' (kindOf st) (arrOf st) (((pendingOf st).setIfInBounds L.length (pre.length,X.length+Y.length,pw)).eraseIdxIfInBounds (L.length+1)) (gallopOf st) (failedOf st)) u->out.toList.Perm (x1.toList++y1.toList)/\Asc rk out.toList ->
   Q (failedOf (SortSt.mk' (kindOf u) (List.foldl (fun a (q:Keyed×Nat)=>a.setIfInBounds (pre.length+k+q.2) q.1) (arrOf u) out.toList.zipIdx) (pendingOf u) (gallopOf u) (failedOf u))).isNone (SortSt.mk' (kindOf u) (List.foldl (fun a (q:Keyed×Nat)=>a.setIfInBounds (pre.length+k+q.2) q.1) (arrOf u) out.toList.zipIdx) (pendingOf u) (gallopOf u) (failedOf u)):=fun out u G f=>by
  have eu:arrOf u=arrOf st:=G.arr
  have lo:out.toList.length=X.length - k+m:=by rw[f.1.length_eq,χ,ex,ey,DD,CU];lia
  have en:=Rf (pre.length+k) out.toList 0 (arrOf u) (by rw[eu];lia)
  rw[Nat.add_zero,eu,hx,lo]at en
  have t1:(pre++X++(Y++post)).take (pre.length+k)=pre++X.take k:=by rw[ES,List.take_length_add_append,List.take_append_of_le_length iG]
  have t2:(pre++X++(Y++post)).drop (pre.length+k+(X.length - k+m))=Y.drop m++post:=by rw[show pre.length+k+(X.length - k+m)=(pre++X).length+m by rw[l2];lia,List.drop_length_add_append,List.drop_append_of_le_length hm]
  rw[t1,t2]at en
  have ok:failedOf u=none:=G.ok.trans B.ok
  have pz:(X.take k++out.toList++Y.drop m).Perm (X++Y):=by refine((f.1.append_left (X.take k)).append_right (Y.drop m)).trans ?_;rw[ex,ey,<-ES,FR,ES,FR]
  rw[show(failedOf (SortSt.mk' (kindOf u) (List.foldl (fun a (q:Keyed×Nat)=>a.setIfInBounds (pre.length+k+q.2) q.1) (arrOf u) out.toList.zipIdx) (pendingOf u) (gallopOf u) (failedOf u))).isNone=true by show(failedOf u).isNone=true;rw[ok];rfl]
  refine h _ (X.take k++out.toList++Y.drop m) ⟨?_,G.kind.trans B.kind,ok⟩ (by show(pendingOf u).toList=_;rw[G.pend];exact pn) (by show(List.foldl _ (arrOf u) _).toList=_;rw[eu,en];simp) ?_ (by rw[pz.length_eq,χ])
  . refine HA.mpr ?_;show(List.foldl _ (arrOf u) _).toList.Perm _;rw[eu,en];refine List.Perm.trans ?_ (HA.mp B.perm);rw[hx];have e1:pre++X.take k++out.toList++(Y.drop m++post)=pre++((X.take k++out.toList++Y.drop m)++post):=by simp
    have e2:pre++X++(Y++post)=pre++((X++Y)++post):=by simp
    rw[e1,e2];exact(pz.append_right _).append_left _
  . have lA:∀y∈out.toList,(∃(i:Nat)(hi:i<X.length),k<=i/\y=X[i])\/∃(j:Nat)(hj:j<Y.length),j<m/\y=Y[j]:=fun y hy=>by
     rcases CK.mp (f.1.mem_iff.mp hy) with z |z
     . rw[ex]at z;obtain⟨i,hi,rfl⟩:=DF.mp z;rw[DD]at hi;exact .inl ⟨k+i,by lia,by lia,GV⟩
     . rw[ey]at z;obtain⟨i,hi,rfl⟩:=DF.mp z;rw[CU]at hi;exact .inr ⟨i,by lia,by lia,GU⟩
    refine GY.mpr ⟨GY.mpr ⟨aX.take k,f.2,fun x hx y hy=>?_⟩,aY.drop m,fun x hx y hy=>?_⟩
    . obtain⟨i,hi,rfl⟩:=DF.mp hx;rw[CU]at hi;rw[GU];rcases lA y hy with⟨j,hj,z,rfl⟩ |⟨j,hj,z,rfl⟩
      . exact aX.at (by lia) hj
      . exact CL (ca i (by lia) (by lia)) (aY.at (DG _) hj)
    . obtain⟨j,hj,rfl⟩:=DF.mp hy;rw[DD]at hj;rw[GV];rcases CK.mp hx with z |z
      . obtain⟨i,hi,rfl⟩:=DF.mp z;rw[CU]at hi;rw[GU];exact CL (ca i (by lia) (by lia)) (aY.at (DG _) (by lia))
      . rcases lA x z with⟨i,hi,_,rfl⟩ |⟨i,hi,q,rfl⟩
        . exact CL (aX.at (show i<=X.length - 1 by lia) (by lia)) (db _ (by lia) (by lia))
        . exact aY.at (by lia) (by lia)
 by_cases e3:X.length - k<=m
 . rw[ζ e3];exact ω (y3p hc (by exact B.kind) oW oX A1 A2 (by lia) (by lia) first last fun out u G f=>ω (wpS_modify (ω (wpS_get (Ψ (done out u G f))))))
 . rw[ξ e3];exact ω (y3q hc (by exact B.kind) oW oX A1 A2 (by lia) (by lia) first last fun out u G f=>ω (wpS_modify (ω (wpS_get (Ψ (done out u G f))))))
end
section
variable {rk:Keyed->Nat}
noncomputable def pend:Nat->List (List Keyed×Nat)->List (Nat×Nat×Nat)
 |_,[]=>[]
 |lo,(X,pw)::S=>(lo,X.length,pw)::pend (lo+X.length) S
noncomputable def g9(S:List (List Keyed×Nat)):List Keyed:=(S.map (·.1)).flatten
theorem F6(S T:List (List Keyed×Nat)):g9 (S++T)=g9 S++g9 T:=by simp[g9]
theorem x3(X:List Keyed)(pw:Nat)(S:List (List Keyed×Nat)):g9 ((X,pw)::S)=X++g9 S:=by simp[g9]
theorem W2:∀(lo:Nat)(S T:List (List Keyed×Nat)),pend lo (S++T)=pend lo S++pend (lo+(g9 S).length) T
 |lo,[],T=>by simp[pend,g9]
 |lo,(X,pw)::S,T=>by rw[GD,pend,pend,W2,x3,χ,GD,Nat.add_assoc]
theorem W1:∀(lo:Nat)(S:List (List Keyed×Nat)),(pend lo S).length=S.length
 |_,[]=>rfl
 |lo,(X,pw)::S=>by rw[pend,pp,W1,pp]
structure Runs(rk:Keyed->Nat)(u:SortSt)(S:List (List Keyed×Nat))(rest:List Keyed):Prop where
 arr:(arrOf u).toList=g9 S++rest
 pend:(pendingOf u).toList=L2.pend 0 S
 asc:∀X∈S,Asc rk X.1/\0<X.1.length
variable {prog:Program}{w:World}{A:Around}{E:Value->Shared->Prop}{s:Shared}{κ:SortKind}{a₀:Array Keyed}
theorem qQ(hc:y8 prog w A E s κ a₀ rk){u:SortSt}(B:TBs κ a₀ u){S T:List (List Keyed×Nat)}{X Y:List Keyed}{pw pw':Nat}{rest:List Keyed}(H:Runs rk u (S++(X,pw)::(Y,pw')::T) rest){Q:Bool->SortSt->Prop}
  (h:∀v Z,TBs κ a₀ v->Runs rk v (S++(Z,pw)::T) rest->Z.length=X.length+Y.length->Q true v):wpS (model prog w) A E s (mergeAt' S.length) Q u:=by
 have aX:=H.asc (X,pw) (by simp)
 have aY:=H.asc (Y,pw') (by simp)
 have hl:(pend 0 S).length=S.length:=W1 0 S
 rw[<-hl]
 refine y3r hc B (L:=pend 0 S) (R:=pend ((g9 S).length+X.length+Y.length) T) (pw:=pw) (pw':=pw') (pre:=g9 S) (X:=X) (Y:=Y) (post:=g9 T++rest) ?_ ?_ aX.1 aY.1 aX.2 aY.2 fun v Z B' hp ha aZ lZ=>?_
 . rw[H.pend,W2,GG,pend,pend]
 . rw[H.arr,F6,x3,x3];simp
 . refine h v Z B' ⟨?_,?_,fun W hW=>?_⟩ lZ
   . rw[ha,F6,x3];simp
   . rw[hp,W2,GG,pend,lZ,Nat.add_assoc]
   . rcases CK.mp hW with z |z
     . exact H.asc W (DC _ z)
     . rcases gD.mp z with rfl |z
       . exact⟨aZ,by show 0<Z.length;rw[lZ];exact CV aX.2 (Nat.le_add_right _ _)⟩
       . exact H.asc W (CQ _ (.tail _ (.tail _ z)))
theorem qP{xs:Array Keyed}{lo n:Nat}(h:TSo rk xs lo (lo+n))(hz:lo+n<=xs.size):Asc rk ((xs.toList.drop lo).take n):=by
 refine DT.mpr fun i j hi hj gL=>?_
 simp only[CU,DD,CN]at hi hj;have:=h (lo+i) (lo+j) (by lia) (by lia) (by lia);rw[j7 (by lia),j7 (by lia)]at this;simpa using this
theorem Runs.few{u:SortSt}{rest:List Keyed}:∀{S:List (List Keyed×Nat)},(∀X∈S,Asc rk X.1/\0<X.1.length)->S.length<=(g9 S).length
 | [],_=>DG _
 | (X,pw)::S,h=>by
  have:=Runs.few (u:=u) (rest:=rest) (S:=S) fun Y hY=>h Y (.tail _ hY)
  have:=(h (X,pw) (.head _)).2;rw[x3,χ,pp];simp only at this
  lia
theorem qO(h:i+1<S.length):∃S1 X pw Y pw' T,S=S1++(X,pw)::(Y,pw')::T/\S1.length=i:=by refine⟨S.take i,S[i].1,S[i].2,S[i+1].1,S[i+1].2,S.drop (i+2),?_,by rw[CU];lia⟩;have e1:=EY (show i<S.length by lia);have e2:=EY h;show S=S.take i++S[i]::S[i+1]::S.drop (i+1+1);rw[<-e2,<-e1,FR]
theorem Pb(hc:y8 prog w A E s κ a₀ rk){u:SortSt}(B:TBs κ a₀ u){S:List (List Keyed×Nat)}{rest:List Keyed}(H:Runs rk u S rest){i:Nat}(hi:i+1<S.length){Q:Bool->SortSt->Prop}
  (h:∀v S',TBs κ a₀ v->Runs rk v S' rest->(g9 S').length=(g9 S).length->S'.length+1=S.length->Q true v):wpS (model prog w) A E s (mergeAt' i) Q u:=by
 obtain⟨S1,X,pw,Y,pw',T,rfl,rfl⟩:=qO hi
 refine qQ hc B H fun v Z B' H' lZ=>h v _ B' H' ?_ ?_
 . rw[F6,F6,x3,x3,x3];simp only[χ];lia
 . simp only[χ,pp];lia
theorem Runs.push(H:Runs rk v S (Z++r))(a:Asc rk Z)(z:0<Z.length):Runs rk (setPending v ((pendingOf v).push ((g9 S).length,Z.length,0))) (S++[(Z,0)]) r:=by
 refine⟨?_,?_,fun X hX=>?_⟩
 . show(arrOf v).toList=_;rw[H.arr,F6,x3];simp[g9]
 . show((pendingOf v).push _).toList=_;rw[Array.toList_push,H.pend,W2,GG];rfl
 . rcases CK.mp hX with q |q
   . exact H.asc X q
   . rw[gV]at q;subst q;exact⟨a,z⟩
theorem Tt(f:β->β):∀(l:List β)(x:β),(l++[x]).modify l.length f=l++[f x]
 | [],_=>rfl
 |a::l,x=>by rw[GD,pp,List.modify_succ_cons,Tt f l x,GD]
theorem Runs.repow(H:Runs rk v S r)(hS:S≠[])(P:Nat):∃S',Runs rk (setPending v ((pendingOf v).modify ((pendingOf v).size - 1) fun x=>(x.1,x.2.1,P))) S' r/\g9 S'=g9 S:=by
 obtain⟨S0,⟨X,pw⟩,rfl⟩:∃S0 t,S=S0++[t]:=⟨S.dropLast,S.getLast hS,(List.dropLast_concat_getLast hS).symm⟩;have sz:(pendingOf v).size=S0.length+1:=by rw[<-CN,H.pend,W1];simp
 refine⟨S0++[(X,P)],⟨?_,?_,fun Y hY=>?_⟩,by rw[F6,F6,x3,x3]⟩
 . show(arrOf v).toList=_;rw[H.arr,F6,F6,x3,x3]
 . show((pendingOf v).modify _ _).toList=_;rw[Array.toList_modify,H.pend,sz,W2,W2,Nat.add_sub_cancel,<-W1 0 S0];exact Tt _ _ _
 . rcases CK.mp hY with q |q
   . exact H.asc Y (DC _ q)
   . rw[gV]at q;subst q;exact H.asc (X,pw) (by simp)
theorem y14[Decidable c](h:n=m)(h2:¬n<=1):(if c then n - 2 - 1 else n - 2)+1<m:=by split<;>omega
theorem wV{α:Type}{Q:α->SortSt->Prop}{C:Nat->SortSt->Prop}{p:Nat->Prop}{dp:∀n,Decidable (p n)}{t g:Nat->StateT SortSt Sem α}(R:Nat->SortSt->Prop)(hg:∀m u,R m u->wpS (model prog w) A E s (g m) Q u)(ht:∀n u,C n u->p n->(∀m u,R m u->wpS (model prog w) A E s (g m) Q u)->wpS (model prog w) A E s (t n) Q u)(hn:∀n u,C n u->¬p n->R n u):∀n u,C n u->wpS (model prog w) A E s (if p n then t n else g n) Q u:=by
 intro n u c;by_cases h:p n
 . rw[ζ h];exact ht n u c h hg
 . rw[ξ h];exact hg _ _ (hn n u c h)
theorem qN(hc:y8 prog w A E s κ a₀ rk){st:SortSt}(B:TBs κ a₀ st)(h2:2<=a₀.size)(hp:pendingOf st=#[]){Q:Unit->SortSt->Prop}(h:∀u,TBs κ a₀ u->Asc rk (arrOf u).toList->Q () u):wpS (model prog w) A E s sortRuns' Q st:=by
 rw[sortRuns'_eq];refine ω (wpS_get ?_);dsimp only;rw[B.size];refine ω (Iq (EU (I:=fun x c u=>TBs κ a₀ u/\∃lo S rest,c=(none,lo)/\Runs rk u S rest/\(g9 S).length=lo/\lo<=a₀.size/\(x<=lo\/lo=a₀.size))
  (Q:=fun c u=>TBs κ a₀ u/\∃S rest,c=(none,a₀.size)/\Runs rk u S rest/\(g9 S).length=a₀.size) ?step ?fin ⟨B,0,[],(arrOf st).toList,rfl,⟨rfl,by rw[hp];rfl,fun X hX=>absurd hX FD⟩,rfl,DG _,.inl (η _)⟩) ?post)
 case fin=>
  rintro c u ⟨B1,lo,S,rest,rfl,H,e,l1,l2⟩
  simp only[HU]at l2
  obtain rfl:lo=a₀.size:=by lia
  exact⟨B1,S,rest,rfl,H,e⟩
 case post=>
  rintro c u ⟨B1,S,rest,rfl,H,e⟩
  dsimp only
  refine ω (Iq (EU (I:=fun x c v=>c=(none,())/\TBs κ a₀ v/\∃S rest,Runs rk v S rest/\(g9 S).length=a₀.size/\S.length+x<=a₀.size)
   (Q:=fun c v=>c=(none,())/\TBs κ a₀ v/\∃S rest,Runs rk v S rest/\(g9 S).length=a₀.size/\S.length<=1) (fun x c v _ _ hI=>?_) (fun c v hI=>?_) ⟨rfl,B1,S,rest,H,e,by have:=Runs.few (u:=u) (rest:=rest) H.asc;lia⟩) fun c v hI=>?_)
  . obtain⟨rfl,B2,S,rest,H,e,l⟩:=hI;have sz:(pendingOf v).size=S.length:=by rw[<-CN,H.pend,W1]
    refine ω (wpS_get ?_);by_cases q:(pendingOf v).size<=1
    . rw[ζ q];exact Ψ ⟨rfl,B2,S,rest,H,e,by lia⟩
    . rw[ξ q];refine ω (Pb hc B2 H (y14 sz q) fun u2 S' B3 H' e' l'=>?_);exact Ψ ⟨rfl,B3,S',rest,H',e'.trans e,by lia⟩
  . obtain⟨rfl,B2,S,rest,H,e,l⟩:=hI;exact⟨rfl,B2,S,rest,H,e,by simp only[HU]at l;lia⟩
  . obtain⟨rfl,B2,S,rest,H,e,l⟩:=hI;refine Ψ (h v B2 ?_);have hr:rest=[]:=by have:=EH List.length H.arr;rw[CN,B2.size,χ,e]at this;exact EQ.mp (by lia)
    rw[H.arr,hr,ED]
    match S,l,H.asc with
    | [],_,_=>exact .nil
    | [(X,pw)],_,a=>rw[x3];simpa [g9] using (a _ (.head _)).1
    |_::_::_,l,_=>simp at l
 case step=>
  rintro x c u _ _ ⟨B1,lo,S,rest,rfl,H,e,l1,l2⟩
  dsimp only
  by_cases q:lo ≥ a₀.size
  . rw[ζ q];obtain rfl:lo=a₀.size:=by lia
    exact Ψ ⟨B1,S,rest,rfl,H,e⟩
  rw[ξ q]
  refine ω (wW hc B1 (by lia) (by lia) fun n u1 n1 n2 B2 L2 so=>?_)
  dsimp only
  generalize minRun' a₀.size a₀.size 0=mr
  have hh:=And.intro n1 (And.intro n2 (And.intro B2 (And.intro L2 so)))
  clear n1 n2 B2 L2 so
  revert n u1
  refine wV (fun m u2=>1<=m/\lo+m<=a₀.size/\TSo rk (arrOf u2) lo (lo+m)/\TBs κ a₀ u2/\TL u u2 lo) (fun m u2 hR=>?_) (fun n u1 ⟨n1,n2,B2,L2,so⟩ hn k=>?_) fun n u1 ⟨n1,n2,B2,L2,so⟩ hn=>⟨n1,by lia,so,B2,L2⟩
  rotate_left
  . refine ω (U8 ?_);refine ω (y11 hc B2 (n:=min (a₀.size - lo) mr) (by lia) n1 (by lia) so fun u2 B3 L3 so2=>?_);rw[ξ (by simp)];exact k _ _ ⟨by lia,by lia,so2,B3,L2.trans L3⟩
  . obtain⟨m1,m2,so3,B3,L4⟩:=hR;have hz:lo+m<=(arrOf u2).size:=by rw[B3.size];exact m2
    obtain⟨Z,eZ⟩:∃Z,Z=((arrOf u2).toList.drop lo).take m:=⟨_,rfl⟩;have aZ:Asc rk Z:=eZ ▸ qP so3 hz;have lZ:Z.length=m:=by rw[eZ,CU,DD,CN];lia
    have H2:Runs rk u2 S (Z++(arrOf u2).toList.drop (lo+m)):=by
     refine⟨?_,by rw[L4.pend];exact H.pend,H.asc⟩;have t:(arrOf u2).toList.take lo=g9 S:=by
      have:(arrOf u2).toList.take lo=(arrOf u).toList.take lo:=by
       refine List.ext_getElem? fun i=>?_
       rw[List.getElem?_take,List.getElem?_take];by_cases z:i<lo
       . rw[ζ z,ζ z,FS,FS];exact L4.low i z
       . rw[ξ z,ξ z]
      rw[this,H.arr,<-e,List.take_left]
     rw[<-t,eZ,<-drop_take,FR]
    generalize (arrOf u2).toList.drop (lo+m)=r2 at H2;refine ω (wpS_get ?_);have fin:∀(v:SortSt)(S':List (List Keyed×Nat)),TBs κ a₀ v->Runs rk v S' (Z++r2)->(g9 S').length=lo ->
      TBs κ a₀ (setPending v ((pendingOf v).push (lo,m,0)))/\∃gP oY rest,((none:Option Unit),lo+m)=(none,gP)/\Runs rk (setPending v ((pendingOf v).push (lo,m,0))) oY rest/\(g9 oY).length=gP/\gP<=a₀.size/\(x+1<=gP\/gP=a₀.size):=fun v S' Bv Hv ev=>by
     have:=Hv.push aZ (by lia)
     rw[ev,lZ]at this
     exact⟨⟨Bv.perm,Bv.kind,Bv.ok⟩,lo+m,_,r2,rfl,this,by rw[F6,x3,χ,ev,χ,lZ];simp[g9],m2,.inl (by lia)⟩
    cases hb:(pendingOf u2).back? with
    |none=>exact ω (wpS_modify (Ψ (fin u2 S B3 H2 e)))
    |some t=>
     obtain⟨s1,mJ,p1⟩:=t
     dsimp only
     have hS:S≠[]:=fun z=>by have:=H2.pend;rw[z]at this;rw[Array.toList_eq_nil_iff.mp this]at hb;cases hb
     refine ω (Iq (EU (I:=fun _ c v=>c=(none,())/\TBs κ a₀ v/\∃S',Runs rk v S' (Z++r2)/\(g9 S').length=lo/\S'≠[])
      (Q:=fun c v=>c=(none,())/\TBs κ a₀ v/\∃S',Runs rk v S' (Z++r2)/\(g9 S').length=lo/\S'≠[]) (fun y c v _ _ hI=>?_) (fun c v hI=>hI) ⟨rfl,B3,S,H2,e,hS⟩) fun c v hI=>?_)
     . obtain⟨rfl,Bv,S',Hv,ev,nv⟩:=hI;refine ω (wpS_get ?_);have sz:(pendingOf v).size=S'.length:=by rw[<-CN,Hv.pend,W1]
       cases hq:(if(pendingOf v).size > 1 then(pendingOf v)[(pendingOf v).size - 2]? else none) with
       |none=>exact Ψ ⟨rfl,Bv,S',Hv,ev,nv⟩
       |some t=>
        obtain⟨q1,q2,pS⟩:=t
        dsimp only
        have hs:(pendingOf v).size > 1:=by
         by_cases z:(pendingOf v).size > 1
         . exact z
         . rw[ξ z]at hq;cases hq
        split
        . exact Ψ ⟨rfl,Bv,S',Hv,ev,nv⟩
        . refine ω (Pb hc Bv Hv (by lia) fun v2 S2 B5 H5 e5 l5=>?_);rw[ξ (by simp)];exact Ψ ⟨rfl,B5,S2,H5,e5.trans ev,fun z=>by rw[z]at l5;simp at l5;lia⟩
     . obtain⟨rfl,Bv,S',Hv,ev,nv⟩:=hI;dsimp only;obtain⟨S2,H5,e5⟩:=Hv.repow nv (power' a₀.size (2 * s1+mJ) (2 * s1+mJ+mJ+m) a₀.size);exact ω (wpS_modify (ω (wpS_modify (Ψ (fin _ S2 ⟨Bv.perm,Bv.kind,Bv.ok⟩ H5 (by rw[e5];exact ev))))))
end
section
variable {prog:Program}{w:World}{E:Value->Shared->Prop}{s:Shared}{A:Around}
noncomputable def w6(h:Heap)(a:Addr)(vs:List Value):Heap:=((h.update a (Obj.mapSeq fun _=>#[])).push (seqObj "tuple" vs.toArray 0)).push (seqObj "list" #[] 0)
theorem Yj(ho:h.get? a=some (seqObj "list" vs.toArray n)) :
  ∃k,(h.update a (Obj.mapSeq fun _=>#[])).get? a=some (seqObj "list" #[] k)/\(w6 h a vs).get? a=some (seqObj "list" #[] k):=
 ⟨_,get?_update_seq ho fun _=>#[],Φ _ (Φ _ (get?_update_seq ho fun _=>#[]))⟩
theorem yv(ho:s.heap.get? a=some (seqObj "list" vs.toArray n))(h2:2<=vs.length)(hz:vs.length<=sizeLine)
  (gQ:∀(Q:SortKind->Shared->Prop),Q κ { s with heap:=w6 s.heap a vs }->wpAny (model prog w) A (keyKind' vs.toArray) Q E { s with heap:=w6 s.heap a vs })
  (hc:y8 prog w A E { s with heap:=w6 s.heap a vs } κ (pairsOf vs) rk)
  (h:∀out:Array Keyed,out.Perm (pairsOf vs)->Asc rk out.toList->P (.done (.ret .none)) { s with heap:=sortedHeap s.heap a vs (out.map (·.2)) }):wpAny (model prog w) A (Builtin.«list.sort» ⟨[.ref a],[]⟩) P E s:=by
 obtain⟨k,k1,k2⟩:=Yj ho
 have nn:¬vs.toArray.size<2:=by rw[CJ];lia
 rw[list_sort_plain]
 refine δ (listItems_at ho rfl (δ (listUpdate_at ho rfl (δ (seqEpoch_at k1 rfl (δ (wpAny_newTuple (δ (wpAny_newList (EJ ?_) (DG _))) hz)))) (by rw[CJ];exact hz) (DG _))))
 show wpAny (model prog w) A _ P E { s with heap:=w6 s.heap a vs }
 rw[ξ nn,ξ nn]
 refine δ (gQ _ (δ (EZ (qN (st:=SortSt.mk' κ (pairsOf vs) #[] 7 none) hc ⟨.refl _,rfl,rfl⟩ (by rw[pairsOf_size];exact h2) rfl (Q:=fun _ u=>TBs κ (pairsOf vs) u/\Asc rk (arrOf u).toList) fun u B a=>⟨B,a⟩) ?_ fun _ _ x=>x)))
 rintro⟨⟨⟩,u⟩ s' ⟨rfl,B,hA⟩
 refine δ (seqEpoch_at k2 rfl (δ (listUpdate_at k2 rfl ?_ (DG _) (by rw[Array.size_map,B.size,pairsOf_size];exact Nat.le_succ_of_le hz))))
 rw[B.ok,bne_self_eq_false]
 exact π (h _ B.perm hA)
noncomputable def x8(h:Heap)(vs:List Value):Heap:=((h.push (seqObj "list" #[] 0)).update h.objs.size (Obj.mapSeq (·++vs.toArray))).push (seqObj "list" vs.toArray 0)
theorem Ma(h:Heap)(vs:List Value):(x8 h vs).get? (h.objs.size+1)=some (seqObj "list" vs.toArray 0):=by
 have e:((h.push (seqObj "list" #[] 0)).update h.objs.size (Obj.mapSeq (·++vs.toArray))).objs.size=h.objs.size+1:=(GL _ _ _).trans (size_push' _ _);unfold x8
 conv=>lhs;arg 2;rw[<-e]
 exact Ω _ rfl
theorem zT(q:h.get? b=some o):(w6 (x8 h vs) (h.objs.size+1) vs).get? b=some o:=by have lt:b<h.objs.size:=Ξ q;refine Φ _ (Φ _ ?_);rw[Ix _ _ _ _ (CY (Nat.lt_add_right 1 lt))];refine Φ _ ?_;rw[Ix _ _ _ _ (CY lt)];exact Φ _ q
theorem zS(hl:s.heap.IsList l vs.toArray)(h2:2<=vs.length)(hz:vs.length<=sizeLine)
  (gQ:∀(Q:SortKind->Shared->Prop),Q κ { s with heap:=w6 (x8 s.heap vs) (s.heap.objs.size+1) vs }->wpAny (model prog w) A.in1.in1 (keyKind' vs.toArray) Q (fun _ _=>False) { s with heap:=w6 (x8 s.heap vs) (s.heap.objs.size+1) vs })
  (hc:y8 prog w A.in1.in1 (fun _ _=>False) { s with heap:=w6 (x8 s.heap vs) (s.heap.objs.size+1) vs } κ (pairsOf vs) rk)
  (h:∀out:Array Keyed,out.Perm (pairsOf vs)->Asc rk out.toList->Q (.ref (s.heap.objs.size+1)) { s with heap:=sortedAll s.heap vs (out.map (·.2)) }):wpAny (model prog w) A (call (.builtin "sorted") [.ref l]) Q E s:=by
 have e:((s.heap.push (seqObj "list" #[] 0)).update s.heap.objs.size (Obj.mapSeq (·++vs.toArray))).objs.size=s.heap.objs.size+1:=(GL _ _ _).trans (size_push' _ _)
 have b:=yv (s:={ s with heap:=x8 s.heap vs }) (E:=fun _ _=>False) (P:=fun f s'=>∃x,f=.done (.ret x)/\Q (.ref (s.heap.objs.size+1)) s') (Ma s.heap vs) h2 hz gQ hc fun out p a=>⟨_,rfl,h out p a⟩
 apply Calls.call_function_entry kind_sorted plain_sorted entry_sorted (args_sorted1 (.ref l))
 unfold Builtin.«sorted»
 refine δ (m:=checkCount "sorted" 1 1 _) (π (δ (collect_list hl (δ (wpAny_newList ?_ hz)) hz)))
 show wpAny _ _ _ _ _ { s with heap:=x8 s.heap vs }
 rw[e]
 refine δ (EJ (wpAny_call_entry slot_list_sort ⟨_,Ma s.heap vs,rfl⟩ entry_list_sort (EZ b (fun f s' q=>?_) fun _ _ x=>x.elim) (args_list_sort _)))
 obtain⟨x,rfl,q⟩:=q
 exact⟨_,rfl,π ⟨_,rfl,q⟩⟩
end
def rkD(ds:List D)(d:D):Nat:=ds.countP fun e=>ltT e d
theorem Re(h:ois ds=true)(hd:d∈ds)(he:e∈ds):decide (rkD ds d<rkD ds e)=ltT d e:=by
 have ho:∀x∈ds,x.oi=true:=fun x hx=>ois_mem.mp h x hx
 have up:∀{d e:D},d∈ds->e∈ds->ltT d e=true->rkD ds d<rkD ds e:=fun {d e} hd he q=>by
  unfold rkD;have le:∀l:List D,(∀x∈l,x∈ds)->l.countP (fun x=>ltT x d)<=l.countP (fun x=>ltT x e):=fun l hl=>
   List.countP_mono_left fun x hx tK=>Dp (ho x (hl x hx)) (ho d hd) (ho e he) tK q
  obtain⟨l1,l2,rfl⟩:=List.append_of_mem hd;have a:=le l1 fun x hx=>by simp[hx]
  have b:=le l2 fun x hx=>by simp[hx]
  simp only[List.countP_append,List.countP_cons,q,Jk (ho d hd)];simp
  lia
 cases q:ltT d e with
 |true=>simpa using up hd he q
 |false=>
  cases q':ltT e d with
  |true=>have:=up he hd q';simp;lia
  |false=>obtain rfl:=Ee (ho d hd) (ho e he) q q';simp
theorem Bi{d:D}(h:d.oi=true):(∃a,d=.int a)\/∃ds,d=.tup ds/\ois ds=true:=by
 cases d with
 |int a=>exact .inl ⟨a,rfl⟩
 |tup ds=>exact .inr ⟨ds,rfl,by simpa only [D.oi] using h⟩
 |_=>exact nomatch h
theorem wU{K:Frag}{H:Hp}{n:Nat}(ih:∀{d e:D}{x:V},d.dep<=n->d.oi=true->e.oi=true->RD K H d x->RD K H e x->d=e):∀{ds es:List D}{xs:List V},h7 ds<=n->ois ds=true->ois es=true->RDs K H ds xs->RDs K H es xs->ds=es:=by
 intro ds;induction ds with
 |nil=>
  intro es xs _ _ _ r1 r2
  have l:=r2.length
  rw[<-r1.length]at l
  exact(EQ.mp l).symm
 |cons d ds tL=>
  intro es xs hd o1 o2 r1 r2
  cases es with
  |nil=>
   have l:=r1.length
   rw[<-r2.length]at l
   cases l
  |cons e es=>
   simp only[RDs]at r1 r2
   obtain⟨x,ys,h1,p1,q1⟩:=r1
   obtain⟨y,zs,h2,p2,q2⟩:=r2
   rw[h1]at h2;cases h2
   simp only[ois,ng]at o1 o2
   simp only[h7]at hd
   rw[ih (CL (Nat.le_max_left _ _) hd) o1.1 o2.1 p1 p2,tL (CL (Nat.le_max_right _ _) hd) o1.2 o2.2 q1 q2]
theorem qM{K:Frag}{H:Hp}:∀(n:Nat){d e:D}{x:V},d.dep<=n->d.oi=true->e.oi=true->RD K H d x->RD K H e x->d=e:=by
 intro n;induction n with
 |zero=>
  intro d e x hd o1 o2 r1 r2
  rcases Bi o1 with⟨a,rfl⟩ |⟨ds,rfl,_⟩
  . have h1:=r1.int;rcases Bi o2 with⟨b,rfl⟩ |⟨es,rfl,_⟩
    . have h2:=r2.int;rw[h1]at h2;cases h2;rfl
    . obtain⟨_,_,h2,_⟩:=r2.tup;rw[h1]at h2;cases h2
  . simp only[D.dep]at hd;exact absurd hd (Nat.not_succ_le_zero _)
 |succ n ih=>
  intro d e x hd o1 o2 r1 r2
  rcases Bi o1 with⟨a,rfl⟩ |⟨ds,rfl,p1⟩
  . have h1:=r1.int;rcases Bi o2 with⟨b,rfl⟩ |⟨es,rfl,_⟩
    . have h2:=r2.int;rw[h1]at h2;cases h2;rfl
    . obtain⟨_,_,h2,_⟩:=r2.tup;rw[h1]at h2;cases h2
  . obtain⟨a,ys,h1,q1,w1⟩:=r1.tup;rcases Bi o2 with⟨b,rfl⟩ |⟨es,rfl,p2⟩
    . have h2:=r2.int;rw[h1]at h2;cases h2
    . obtain⟨b,zs,h2,q2,w2⟩:=r2.tup;rw[h1]at h2;cases h2;rw[q1]at q2;cases q2;simp only[D.dep]at hd;rw[wU ih (Nat.le_of_succ_le_succ hd) p1 p2 w1 w2]
theorem y15{K:Frag}{H:Hp}{d e:D}{x:V}(o1:d.oi=true)(o2:e.oi=true)(r1:RD K H d x)(r2:RD K H e x):d=e:=qM d.dep (η _) o1 o2 r1 r2
theorem zeg(p:l.Perm m):∀{xs:List α},m=xs.map f->∃ys:List α,ys.Perm xs/\l=ys.map f:=by
 induction p with
 |nil=>intro xs h;exact⟨xs,.refl _,h⟩
 |cons a p ih=>
  intro xs h
  cases xs with
  |nil=>cases h
  |cons x xs=>
   simp only[gq,List.cons.injEq]at h
   obtain⟨ys,p',e⟩:=ih h.2
   exact⟨x::ys,p'.cons x,by rw[e,h.1];rfl⟩
 |swap a b l=>
  intro xs h
  match xs,h with
  |x::y::xs,h=>
   simp only[gq,List.cons.injEq]at h
   exact⟨y::x::xs,.swap _ _ _,by rw[h.1,h.2.1,h.2.2];rfl⟩
 |trans p q tM tO=>
  intro xs h
  obtain⟨ys,p',e⟩:=tO h
  obtain⟨zs,q',e'⟩:=tM e
  exact⟨zs,q'.trans p',e'⟩
theorem Yi(l:List D):(List.range l.length).map (fun i=>l.getD i (.int 0))=l:=by
 apply List.ext_getElem?;intro i;rw[DB];by_cases hi:i<l.length
 . rw[List.getElem?_range hi];simp[hi]
 . rw[EL (by simpa using hi),EL (by simpa using hi)];rfl
noncomputable def atOf(its:List Value)(v:Value):Nat:=Classical.epsilon fun i=>i<its.length/\its.getD i Value.none=v
theorem Ke(h:i<its.length):atOf its (its.getD i Value.none)<its.length/\its.getD (atOf its (its.getD i Value.none)) Value.none=its.getD i Value.none:=by have hh:∃j,j<its.length/\its.getD j Value.none=its.getD i Value.none:=⟨i,h,rfl⟩;exact Classical.epsilon_spec hh
def At(ds:List D):Bool:=ois ds&&decide (h7 ds<=20)&&ds.all (fun d=>ds.all fun e=>(d5 d e).isSome)&&(ds.all isI||ds.all D8||ds.all K8)
def p9:List D->Option D
 | [.lst ds]=>if At ds=true then some (.lst (u8 ds)) else none
 |_=>none
def Rc(K:Frag):List V->Hp->VK->Prop:=fun xs H Q=>∃p ys ds,xs=[.ref p]/\H p=some (.lst ys)/\RDs K H ds ys/\At ds=true/\∀(l:Addr)(is:List Nat),H l=none->(∀i∈is,i<ys.length)->u8 ds=is.map (fun i=>ds.getD i (.int 0))->Q (.ref l) (upd H l (.lst (is.map fun i=>ys.getD i .non)))
theorem N8{K:Frag}:J2 K true p9 (Rc K):=by
 intro H0 H xs ds z Q s r ho k;unfold p9 at ho;split at ho<;>first |cases ho |skip
 split at ho<;>cases ho;rename_i es hok;obtain⟨x,rfl,q1⟩:=r.uno;obtain⟨p,ys,rfl,hp,ry⟩:=q1.lst;refine⟨p,ys,es,rfl,s _ _ hp,ry.mono s,hok,fun l is hl hi he=>k _ _ (.new s hl fun H' hH=>?_)⟩;simp only[OB];refine⟨_,hH,?_⟩;rw[he];exact ry.pick hi
section
variable {X:Cx}{pins:List (Addr×Obj)}{σ:St}{H:Hp}{s:Shared}
theorem wT(hx:(∃k,x=.int k)\/∃a,x=.ref a)(hy:(∃k,y=.int k)\/∃a,y=.ref a)(r1:RelV x v)(r2:RelV y v):x=y:=by
 rcases hx with⟨k,rfl⟩ |⟨a,rfl⟩<;>rcases hy with⟨j,rfl⟩ |⟨b,rfl⟩<;>simp only[RelV]at r1 r2
 . obtain⟨t,rfl⟩:=r1;obtain⟨u,h⟩:=r2;cases h;rfl
 . obtain⟨t,rfl⟩:=r1;cases r2
 . obtain⟨t,rfl⟩:=r2;cases r1
 . subst r1;cases r2;rfl
theorem jB{K:Frag}{d:D}{x:V}(o:d.oi=true)(r:RD K H d x):(∃k,x=.int k)\/∃a,x=.ref a:=by
 cases d<;>simp only[D.oi]at o<;>first |cases o |skip
 . exact .inl ⟨_,r.int⟩
 . obtain⟨a,_,h,_⟩:=r.tup;exact .inr ⟨a,h⟩
theorem Zf(vs:List Value):(pairsOf vs).toList=(List.range vs.length).map fun i=>((vs.getD i Value.none,vs.getD i Value.none):Keyed):=by
 unfold pairsOf;rw[Array.toList_zip];apply List.ext_getElem
 . simp
 . intro i h1 h2;simp at h1;simp[h1]
theorem Wu(h:x∈pairsOf vs):∃i,i<vs.length/\x=(vs.getD i Value.none,vs.getD i Value.none):=by rw[HH,Zf]at h;obtain⟨i,hi,e⟩:=CP.mp h;exact⟨i,FQ.mp hi,e.symm⟩
theorem Yh:∀(vs:List Value),(∀i,i<vs.length->∃n t,vs.getD i Value.none=.int n t)->∃ns,IntsAre vs ns
 | [],_=>⟨[],.nil⟩
 |v::vs,h=>by
  obtain⟨n,t,e⟩:=h 0 (by simp);obtain⟨ns,r⟩:=Yh vs fun i hi=>by simpa using h (i+1) (by simpa using hi)
  have e':v=.int n t:=by simpa using e
  subst e';exact⟨n::ns,.cons n t r⟩
theorem wS(ia:IntsAre vs ns)(h:2<=vs.length):keyKind' vs.toArray=pure oneType':=by
 match vs,ia,h with
 |v1::v2::vs,ia,_=>exact keyKind_ints ia
theorem N4(hc:X.calm=true)(hu:X.A.units+64<cLine):CallR X (.builtin "sorted") (Rc X.K):=by
 intro pins s σ H xs us Q I r h;obtain⟨p,ys,ds,rfl,hp,rd,hok,k⟩:=h;obtain⟨u,rfl,ru⟩:=J5 r;cases ru;obtain⟨its,rv,pl,hz⟩:=I.list (.of hp);obtain⟨m,hn,_⟩:=id I.loc;have F:=Att.fr_all hn;have N:=Wl (g:=Att.noObjs s.heap) (h:=s.heap) (L:=X.env.locals);unfold At at hok;simp only[ng,HL,mV]at hok;obtain⟨⟨⟨eJ,AR⟩,nL⟩,cH⟩:=hok;have oZ:=rd.length;have fz:=rv.length;have fin:∀{gS:Array Value}{is:List Nat},(∀i∈is,i<ys.length)->u8 ds=is.map (fun i=>ds.getD i (.int 0))->gS=(is.map fun i=>its.getD i Value.none).toArray->EP X pins σ Q (.ref (s.heap.objs.size+1)) { s with heap:=sortedAll s.heap its gS }:=fun {gS is} hi he hv=>by
  have ao:(is.map fun i=>ys.getD i .non).length<=sizeLine:=by
   have e1:is.length=ds.length:=by have:=EH List.length he;rw[bI,(O2 ds).length_eq]at this;exact this.symm
   rw[bI,e1,oZ];exact hz
  obtain⟨e,dC⟩:=sortedAll_at s.heap its gS;have kp:∀b o,s.heap.get? b=some o->(sortedAll s.heap its gS).get? b=some o:=fun b o q=>sortedAll_old q
  have hN:=N.kept_cons F kp (Nat.le_succ _) dC;obtain⟨HD,I'⟩:=I.frnew (tk:=s.toks) (o:=.lst (is.map fun i=>ys.getD i .non)) hn (F.kept kp) hN (Heap.get?_none_of_le (Nat.le_succ _)) ⟨ao,_,e,rv.pick hi,by subst hv;exact(hN _ (.head _)).1⟩;exact⟨.ref _,_,I',rfl,k _ is HD hi he⟩
 by_cases h2:2<=its.length
 . have kp:∀b o,s.heap.get? b=some o->(w6 (x8 s.heap its) (s.heap.objs.size+1) its).get? b=some o:=fun b o q=>zT q
   have I':Inv X pins σ H { s with heap:=w6 (x8 s.heap its) (s.heap.objs.size+1) its }:=I.frn (tk:=s.toks) hn (F.kept kp) fun q hq=>(N.kept_cons F kp (Nat.le_succ _) (Yj (Ma s.heap its)).choose_spec.2) q (.tail _ hq)
   have tP:X.A.in1.in1.units+20<cLine:=by show X.A.units+1+1+20<cLine;lia
   have main:∀κ:SortKind,(∀(Q:SortKind->Shared->Prop),Q κ { s with heap:=w6 (x8 s.heap its) (s.heap.objs.size+1) its }->wpAny (model X.prog X.w) X.A.in1.in1 (keyKind' its.toArray) Q (fun _ _=>False) { s with heap:=w6 (x8 s.heap its) (s.heap.objs.size+1) its }) ->
     (∀(E:Value->Shared->Prop)(C:Bool->Shared->Prop)(i j:Nat),i<ys.length->j<ys.length->C (ltI ds i j) { s with heap:=w6 (x8 s.heap its) (s.heap.objs.size+1) its }->wpAny (model X.prog X.w) X.A.in1.in1 (keyLt' κ (its.getD i Value.none) (its.getD j Value.none)) C E { s with heap:=w6 (x8 s.heap its) (s.heap.objs.size+1) its }) ->
     wpAny (model X.prog X.w) X.A (call (.builtin "sorted") [.ref p]) (EP X pins σ Q) X.xe s:=by
    intro κ gQ aC
    refine zS (rk:=fun q=>rkD ds (ds.getD (atOf its q.1) (.int 0))) pl.isList h2 (by lia) gQ ?_ fun out tQ hA=>?_
    . intro x y hx hy st Q' hk q;obtain⟨i,hi,rfl⟩:=Wu hx;obtain⟨j,hj,rfl⟩:=Wu hy;have ai:=Ke hi;have aj:=Ke hj;dsimp only at q;rw[Re eJ (N9 (by lia)) (N9 (by lia))]at q;rw[lt'_eq];refine ω (wpS_get (ω (wpS_lift (wpAny_attempt ?_))));rw[hk];dsimp only;generalize atOf its (its.getD i Value.none)=i' at *;generalize atOf its (its.getD j Value.none)=j' at *;rw[<-ai.2,<-aj.2];exact aC _ _ i' j' (by lia) (by lia) ⟨rfl,Ψ q⟩
    . have e0:(pairsOf its).toList=(List.range its.length).map fun i=>((its.getD i Value.none,its.getD i Value.none):Keyed):=Zf its
      obtain⟨is,pc,pf⟩:=zeg (HA.mp tQ) e0;have gT:∀i∈is,i<its.length:=fun i hi=>FQ.mp (pc.mem_iff.mp hi)
      have pm:(is.map fun i=>ds.getD i (.int 0)).Perm ds:=by refine(pc.map _).trans ?_;rw[show its.length=ds.length by lia,Yi]
      refine fin (is:=is) (fun i hi=>by have:=gT i hi;lia) (Bj (Ft (O2 _) eJ) ((O2 _).trans pm.symm) (X1 eJ) ?_) ?_
      . rw[pf]at hA;refine GQ.mpr ((GQ.mp hA).imp_of_mem fun {a b} ha hb bu=>?_);have same:∀i,i<its.length->ds.getD (atOf its (its.getD i Value.none)) (.int 0)=ds.getD i (.int 0):=fun i hi=>by have q:=Ke hi;have v1:=rv.getD (i:=atOf its (its.getD i Value.none)) (by lia);have v2:=rv.getD (i:=i) (by lia);have r1:=rd.getD (i:=atOf its (its.getD i Value.none)) (by lia);have r2:=rd.getD (i:=i) (by lia);have o1:=Kh (i:=atOf its (its.getD i Value.none)) eJ;have o2:=Kh (i:=i) eJ;rw[q.2]at v1;rw[wT (jB o1 r1) (jB o2 r2) v1 v2]at r1;exact y15 o1 o2 r1 r2
        dsimp only at bu;rw[same a (gT a ha),same b (gT b hb)]at bu;have z:=Re eJ (d:=ds.getD b (.int 0)) (e:=ds.getD a (.int 0)) (N9 (by have:=gT b hb;lia)) (N9 (by have:=gT a ha;lia));rw[<-z,CS]
        lia
      . rw[<-Array.toList_inj,Array.toList_map,pf,DI];rfl
   by_cases hI:ds.all isI=true
   . have fY:∀i,i<ys.length->∃n t,ds.getD i (.int 0)=.int n/\its.getD i Value.none=.int n t:=fun i hi=>by
      have r1:=rd.getD hi
      have v1:=rv.getD hi
      have m1:isI (ds.getD i (.int 0))=true:=DQ.mp hI _ (N9 (by lia))
      generalize ds.getD i (.int 0)=d at *
      cases d<;>simp only[isI]at m1<;>first |cases m1 |skip
      rw[r1.int]at v1
      obtain⟨t,e⟩:=v1
      exact⟨_,t,rfl,e⟩
     refine main oneType' (fun Q' q=>?_) fun E C i j hi hj hC=>?_
     . have ia:∃ns,IntsAre its ns:=Yh its fun i hi=>by obtain⟨n,t,_,e⟩:=fY i (by lia);exact⟨n,t,e⟩
       obtain⟨ns,ia⟩:=ia;rw[wS ia h2];exact π q
     . obtain⟨n,t,e1,e2⟩:=fY i hi;obtain⟨n',t',e3,e4⟩:=fY j hj;rw[e2,e4];refine PySem.W.kat_lt_int ?_;unfold ltI at hC;rw[e1,e3]at hC;simpa only [ltT] using hC
   . obtain⟨T,hT⟩:∃T:Bool,∀d∈ds,(if T=true then K8 d else D8 d)=true:=by
      rcases cH with (z |z) |z
      . exact absurd z hI
      . exact⟨false,fun d hd=>by rw[ξ θ];exact DQ.mp z d hd⟩
      . exact⟨true,fun d hd=>by rw[ζ rfl];exact DQ.mp z d hd⟩
     obtain⟨fs,t1,t2,t3⟩:=Rq (M:=model X.prog X.w) I' T hT rd rv
     refine main (tuples' ((.type (if T=true then "tuple" else "int"):Value) != Value.type "tuple")) (fun Q' q=>PySem.W.kat_kind t1 (by lia) t3 (by cases T<;>rfl) q) fun E C i j hi hj hC=>?_
     have r1:=rd.getD hi
     have r2:=rd.getD hj
     have v1:=rv.getD hi
     have v2:=rv.getD hj
     have m1:ds.getD i (.int 0)∈ds:=N9 (by lia)
     have m2:ds.getD j (.int 0)∈ds:=N9 (by lia)
     have o1:=(ois_mem.mp eJ) _ m1
     have o2:=(ois_mem.mp eJ) _ m2
     have d1:=Ln m1
     have f1:=hT _ m1
     have f2:=hT _ m2
     obtain⟨b,hb⟩:=Option.isSome_iff_exists.mp (DQ.mp (DQ.mp nL _ m1) _ m2)
     have tR:b=ltI ds i j:=Rv hb
     rw[<-tR]at hC
     generalize ds.getD i (.int 0)=da at *
     generalize ds.getD j (.int 0)=db at *
     have tp:∀{d:L2.D},(if T=true then K8 d else D8 d)=true->∃es,d=.tup es/\(T=false->∃k r,es=.int k::r):=fun {d} h=>by
      cases T with
      |false=>
       rw[ξ θ]at h
       cases d<;>simp only[D8]at h<;>first |cases h |skip
       rename_i es
       cases es with
       |nil=>simp at h
       |cons e es=>cases e<;>simp at h;exact⟨_,rfl,fun _=>⟨_,_,rfl⟩⟩
      |true=>
       rw[ζ rfl]at h
       cases d<;>simp only[K8]at h<;>first |cases h |skip
       exact⟨_,rfl,fun z=>nomatch z⟩
     obtain⟨ea,rfl,ka⟩:=tp f1
     obtain⟨eb,rfl,kb⟩:=tp f2
     obtain⟨a,xa,e1,ha,ra⟩:=r1.tup
     obtain⟨c,xc,e2,ef,rc⟩:=r2.tup
     rw[e1]at v1;rw[e2]at v2
     rw[show its.getD i Value.none=Value.ref a from v1,show its.getD j Value.none=Value.ref c from v2]
     obtain⟨ia,va,oa,tS,_,na,tT⟩:=I'.tupA ha
     obtain⟨ic,vc,oc,ik,_,nc,ff⟩:=I'.tupA ef
     simp only[L2.D.oi]at o1 o2
     simp only[L2.D.dep]at d1
     simp only[d5]at hb
     refine PySem.W.kat_lt tS tT ik ff (Ui I' tP hC 0 (fun tU _=>?_) o1 o2 (by lia) ra rc va vc hb (by simp))
     cases T with
     |false=>exact⟨ka rfl,kb rfl⟩
     |true=>exact absurd tU (by simp)
 . have tV:u8 ds=ds:=by
    match ds,oZ,fz with
    | [],_,_=>rfl
    | [d],_,_=>rfl
    |_::_::_,a,b=>simp at a;lia
   have pz:∀l:List Value,l.length<2->(pairsOf l).map (·.2)=(List.map (fun i=>l.getD i Value.none) (List.range l.length)).toArray:=fun l hl=>by
    match l,hl with
    | [],_=>simp[pairsOf]
    | [v],_=>simp[pairsOf]
    |_::_::_,z=>simp at z;lia
   refine zcl pl.isList (by lia) (fin (is:=List.range its.length) (fun i hi=>by simp at hi;lia) ?_ (pz its (by lia)))
   rw[tV,show its.length=ds.length by lia,Yi]
end
abbrev Kp(is:List Nat)(σ ae:St):Prop:=∀i∈is,ae[i]?=σ[i]?
noncomputable def Hi(is:List Nat)(De:Ends)(σ:St):Ends:={ De with nx:=fun ae H'=>Kp is σ ae->De.nx ae H',bk:=fun ae H'=>Kp is σ ae->De.bk ae H',ct:=fun ae H'=>Kp is σ ae->De.ct ae H' }
def TSk(K:Frag)(EX:XW)(is:List Nat)(g:DS->SR):TS:=fun De σ H=>TSd K EX false g (Hi is De σ) σ H
structure QK(X:Cx)(EX:XW)(is:List Nat)(st:Stmt)(g:DS->SR):Prop where
 h:PS X st (TSk X.K EX is g)
structure QKB(X:Cx)(EX:XW)(is:List Nat)(sts:List Stmt)(g:DS->SR):Prop where
 h:PSs X sts (TSk X.K EX is g)
def TGk(K:Frag)(is:List Nat)(tt:Tg):TG:=fun v σ H Q=>TGd K tt v σ H fun ae H'=>Kp is σ ae->Q ae H'
structure QGk(X:Cx)(is:List Nat)(tg:Expr)(tt:Tg):Prop where
 h:PG X tg (TGk X.K is tt)
theorem SK.mon{K:Frag}{EX:XW}{fr:Bool}{Hc Hb:Hp}{D1 D2:Ends}{r:SR}(h:SK K EX fr Hc Hb D1 r)(hn:∀σ H,D1.nx σ H->D2.nx σ H)(hb:∀σ H,D1.bk σ H->D2.bk σ H)(hc:∀σ H,D1.ct σ H->D2.ct σ H)(hr:∀v H,D1.rt v H->D2.rt v H):SK K EX fr Hc Hb D2 r:=by
 cases r with
 |nx ρ=>exact fun σ H H0 R=>hn σ H (h σ H H0 R)
 |bk ρ=>exact fun σ H H0 R=>hb σ H (h σ H H0 R)
 |ct ρ=>exact fun σ H H0 R=>hc σ H (h σ H H0 R)
 |rt d=>exact fun v H o=>hr v H (h v H o)
 |er x=>exact h
 |st=>exact h
theorem TSd.mon{K:Frag}{EX:XW}{fr:Bool}{D1 D2:Ends}{g:DS->SR}{σ:St}{H:Hp}(h:TSd K EX fr g D1 σ H)(hn:∀σ H,D1.nx σ H->D2.nx σ H)(hb:∀σ H,D1.bk σ H->D2.bk σ H)(hc:∀σ H,D1.ct σ H->D2.ct σ H)(hr:∀v H,D1.rt v H->D2.rt v H):TSd K EX fr g D2 σ H:=by obtain⟨Hc,Hb,H0,ρ,sb,R,h⟩:=h;exact⟨Hc,Hb,H0,ρ,sb,R,h.mon hn hb hc hr⟩
theorem Kp.trans(h:Kp is a b)(k:Kp is b c):Kp is a c:=fun i hi=>(k i hi).trans (h i hi)
theorem Kp.set(h:i∉is):Kp is σ (σ.set i v):=fun j hj=>FJ (fun e:i=j=>h (by rw[e];exact hj))
section
variable {X:Cx}{EX:XW}{is:List Nat}{st:Stmt}{sts:List Stmt}{c e:Expr}{f fv fk:DE->R D}{t:DE->R Bool}{g g1 g2:DS->SR}{pos:Pos}{m:List Bool}
theorem qK:QKB X EX is [] sNx:=⟨pss_nil.imp fun _ _ _ q=>(Gv q) fun _ _=>rfl⟩
theorem Jf(h:QK X EX is st g):QKB X EX is [st] g:=⟨Kw h.h⟩
theorem Ts(h1:QK X EX is st g1)(h2:QKB X EX is sts g2):QKB X EX is (st::sts) (c7 g1 g2):=⟨(Lr h1.h h2.h).imp fun De σ H q=>by
 have q:=Hq q;unfold Da at q⊢;refine TSd.mon q (fun cJ H1 n k=>?_) (fun _ _ b=>b) (fun _ _ b=>b) fun _ _ b=>b
 exact TSd.mon n (fun aS H2 n2 k2=>n2 (k.trans k2)) (fun aS H2 n2 k2=>n2 (k.trans k2)) (fun aS H2 n2 k2=>n2 (k.trans k2)) fun _ _ b=>b⟩
theorem y3s(hc:QT X EX c t)(ha:QKB X EX is x g1)(hb:QKB X EX is y g2):QK X EX is (.If c x y pos) (sIf t g1 g2):=⟨(Qg hc.h ha.h hb.h).imp fun _ _ _ q=>Pp q⟩
theorem Pa(mK:i∉is)(hN:X.N.Nodup)(hi:X.N[i]?=some x)(hx:Loc X.env.scope x)(he:QE X EX cr e f)(hs:swapsWith e (some (.Name x aP)) pos.line X.env=pure false:=by rfl)(hf:X.fn x=true\/X.env.scope.names.lookup x=some .local:=by exact .inl rfl) :
  QK X EX is (.Assign [.Name x aP] e pos) (d8 cr i m f):=⟨(Jn hN hi hx he.h hs hf).imp fun De σ H q=>by
 have q:=Dr q
 unfold B6 u9 at q⊢
 exact TEd.mono' q fun v H' n=>n (Kp.set mK)⟩
theorem qJ(hu:X.A.units+64<cLine)(ho:PE X o (n8 i))(hk:QE X EX false ix fk)(hv:QE X EX false e fv)
  (ha:∀v,assign (.Subscript o ix am) X.env v=(do
   let ov <-holding [v] (eval o X.env)
   let iv <-holding [v,ov] (eval ix X.env)
   standAt am
   holding [v,ov,iv] (setItem ov iv v)
   release [v,ov,iv] []):=by intro _;rfl) (hs:swapsWithSole [.Subscript o ix am] e pos.line X.env=pure false:=by rfl) (hw:swappedStores [.Subscript o ix am] e X.env=pure none:=by rfl)
  (h1:(assignEach [.Subscript o ix am] X.env).map (·.2)=[assign (.Subscript o ix am) X.env]:=by rfl):QK X EX is (.Assign [.Subscript o ix am] e pos) (G6 dSetN i m fk fv):=⟨(Jo hv.h (Jp ho hk.h (Pf hu) ha) hs hw h1).imp fun De σ H q=>by
 have q:=Ho Ub q
 unfold B6 Cy Hi Kp at q
 simp only[implies_true,true_implies]at q
 exact q⟩
theorem jA(mK:i∉is)(hN:X.N.Nodup)(hi:X.N[i]?=some x)(hx:Loc X.env.scope x)(hf:X.fn x=true\/X.env.scope.names.lookup x=some .local:=by exact .inl rfl):QGk X is (.Name x pos) (.n i):=⟨(Fm hN hi hx hf).imp fun _ σ _ _ q=>(jL q) (Kp.set mK)⟩
theorem Oz(hp:PassesOwn (model X.prog X.w) X.A X.env X.xe)(hc:X.calm=true)(hi:QI X EX kp tg iter fi)(hg:QGk X is tg tt)(hb:QKB X EX is body g)
  (hs:∀x,foldedSetIterable iter X.env x=pure x:=by intro _;rfl):QK X EX is (.For tg iter body [] pos) (r9 kp m fi tt g):=⟨(Ux hp hc hi.h hg.h hb.h hs).imp fun De σ H q=>by
 obtain⟨sx,ρ,H0,s,e,h⟩:=Pn q
 refine⟨sx,ρ,H0,s,e,h.mono fun ds z J H' aa s' e' it=>?_⟩
 obtain⟨W,⟨n,w0⟩,turn⟩:=z J H' aa s' e' it
 refine⟨fun i n cJ H1=>W i n cJ H1/\Kp is σ cJ,⟨n,w0,fun _ _=>rfl⟩,fun i n cJ H1 ⟨w,k⟩=>?_⟩
 rcases turn i n cJ H1 w with⟨a,b⟩ |⟨go,N,hN,step⟩
 . exact .inl ⟨a,b k⟩
 . refine .inr ⟨go,fun ae H'=>N ae H'/\Kp is σ ae,fun ae H' ⟨a,b⟩=>?_,fun x H2 y=>?_⟩
   . obtain⟨n',hl,w'⟩:=hN ae H' a;exact⟨n',hl,w',b⟩
   . obtain⟨Hc,Hb,H3,tW,d,tX,I,r,e3,q3⟩:=step x H2 y;refine⟨Hc,Hb,H3,tW,d,tX,I,r,e3,fun ae I' k2=>?_⟩;have kk:=k.trans k2;exact TSd.mon (q3 ae I') (fun dD H5 a k5=>⟨a,kk.trans k5⟩) (fun dD H5 a k5=>a (kk.trans k5)) (fun dD H5 a k5=>⟨a,kk.trans k5⟩) fun _ _ a=>a⟩
end
section
variable {K:Frag}{σ:St}{H:Hp}
theorem RS.hidden(R:RS K Hc Hb H0 ρ σ H)(q:ρ[i]?=some (.ow d))(h1:σ[i]?=some (some (.ref a)))(s':Same (hid [a] H) H')(e':Ext H0 (hid [a] H) aa H')(n':aa a=none)(ob:OB K aa H' a d'):RS K Hc Hb aa (ρ.set i (.ow d')) σ H':=by
 obtain⟨a',z1,z2,z3,z4⟩:=R.ow i d q;rw[h1]at z1;cases z1;have iH:Same Hb (hid [a] H):=fun b o hb=>by rw[Fd fun hm=>by rw[gV.mp hm,z3]at hb;cases hb];exact R.sb b o hb
 refine⟨iH.trans s',⟨R.ext.1.trans e'.1,e'.2.1,fun b hb hc=>e'.2.2 b (iH.ne hb) (R.ext.2.2 b hb hc)⟩,by simp[R.len],fun j e qj=>?_,fun j e qj=>?_,fun j k e1 e2 b q1 q2 s1 s2=>?_⟩
 . rcases Fc qj with⟨_,z⟩ |⟨_,qj⟩
   . cases z
   . obtain⟨v,v1,v2⟩:=R.im j e qj;exact⟨v,v1,v2.mono e'.1⟩
 . rcases Fc qj with⟨e0,z⟩ |⟨ne,qj⟩
   . subst e0;cases z;exact⟨a,h1,n',z3,ob⟩
   . obtain⟨b,b1,b2,b3,b4⟩:=R.ow j e qj;have na:b∉[a]:=fun hm=>ne (R.ap i j _ _ _ q qj h1 (by rw[b1,gV.mp hm]))
     obtain⟨o,ho,_⟩:=b4.some;have hh:hid [a] H b=some o:=by rw[Fd na];exact ho
     refine⟨b,b1,e'.2.2 b (by rw[hh];exact fun z=>nomatch z) b2,b3,?_⟩;exact(b4.at (by rw[ho];exact s' b o hh)).mono e'.1 (Same.refl _)
 . have back:∀(j:Nat) e,(ρ.set i (.ow d'))[j]?=some (.ow e)->∃e0,ρ[j]?=some (.ow e0):=fun j e qj=>by
    rcases Fc qj with⟨e0,_⟩ |⟨_,qj⟩
    . subst e0;exact⟨_,q⟩
    . exact⟨_,qj⟩
   obtain⟨x1,y1⟩:=back j e1 q1
   obtain⟨x2,y2⟩:=back k e2 q2
   exact R.ap j k _ _ b y1 y2 s1 s2
end
section
variable {X:Cx}{EX:XW}{is:List Nat}{st:Stmt}{sts:List Stmt}{e:Expr}{g g1 g2:DS->SR}{pos:Pos}{m:List Bool}
theorem y16{T id:String}{name:Str}{i:Nat}{x:Str}{xp aF ah:Pos}{es:List Expr}{fs:DE->R (List D)}{mt:D->List D->Option D}{rr:V->List V->Hp->VK->Prop}(pa:PlainAttrs T)(slot:Slot T name id)(dN:typeOf (.builtin id)=pure (.type "method_descriptor"))(hm:MtM X id rr)(od:R8 X.K mt rr)(hT:TyD X.K T)
  (ho:PE X (.Name x xp) (n8 i)) (ha:QA X EX (e::es) fs)
  (aL:attributeBase (.Name x xp) name X.env (eval (.Name x xp) X.env)=eval (.Name x xp) X.env:=by rfl)
  (cx:((backTo ah (starEach (e::es) X.env)).all (fun x=>!x.1)&&(backToKw ah (keywordEach [] X.env)).all (fun x=>x.1.isSome)
   && decide ((e::es).length+([]:List Keyword).length+(if([]:List Keyword).isEmpty then 0 else 1)<30))=true:=by rfl)
  (aM:(aF.endLine==ah.line)=true:=by rfl) (hs:starEach (e::es) X.env=(false,eval e X.env)::starEach es X.env:=by rfl) (bg:(backTo ah (starEach es X.env)).any (·.1)=false:=by rfl)
  (cN:swapsWith (.Call (.Attribute (.Name x xp) name aF) (e::es) [] ah) none pos.line X.env=pure false:=by rfl) :
  QK X EX is (.Expr (.Call (.Attribute (.Name x xp) name aF) (e::es) [] ah) pos) (B7 T mt i m fs):=⟨(Kv (Qc pa slot dN hm ho ha.h aL cx aM hs bg) cN).imp fun De σ H q=>by
 have q:=Po od hT q
 unfold U3 Hi Kp at q
 unfold U3
 simp only[implies_true,true_implies]at q
 exact q⟩
noncomputable def y17(is:List Nat)(i:Nat)(De:Ends)(σ:St):Ends:={ De with nx:=fun ae H'=>Kp is σ ae->∃v,ae[i]?=some (some v)/\De.rt v H',bk:=fun _ _=>False,ct:=fun _ _=>False,rt:=fun _ _=>False }
structure QKR(X:Cx)(EX:XW)(is:List Nat)(sts:List Stmt)(i:Nat)(g:DS->SR):Prop where
 h:PSs X sts (fun De σ H=>TSd X.K EX false g (y17 is i De σ) σ H)
theorem y18(hN:X.N[i]?=some x:=by rfl)(hv:Vis X.env.scope x:=by first |exact .inl rfl |exact .inr (.inl rfl) |exact .inr (.inr rfl))(hd:(x==("__debug__":Str))=false:=by decide)
  (bU:(x==("__classdict__":Str))=false:=by decide):QKR X EX is [.Return (some (.Name x p)) pos] i sNx:=⟨(Kw (Jq (pw i hN hv hd bU))).imp fun De σ H q=>by
 obtain⟨v,hv,r⟩:=(Gv q) fun _ _=>rfl
 show n8 i σ H De.rt
 unfold n8
 rw[hv]
 exact r⟩
theorem Rb(h1:QK X EX is st g1)(h2:QKR X EX is sts i g2):QKR X EX is (st::sts) i (c7 g1 g2):=⟨(Lr h1.h h2.h).imp fun De σ H q=>by
 have q:=Hq q;unfold Da at q⊢;refine TSd.mon q (fun cJ H1 n k=>?_) (fun _ _ b=>b.elim) (fun _ _ b=>b.elim) fun _ _ b=>b.elim
 exact TSd.mon n (fun aS H2 n2 k2=>n2 (k.trans k2)) (fun _ _ b=>b) (fun _ _ b=>b) fun _ _ b=>b⟩
end
def spW(K:Frag)(mW:List D->R (D×D)):Sp:=fun vs H Q _=>∃(d0 d1:D)(w:V)(a:Addr)(H0:Hp),vs=[w,.ref a]/\Same H0 H/\H0 a=none/\OB K H0 H a d1/\RD K H0 d0 w /\
 Rk (fun _=>False) (mW [d0,d1]) fun r=>∀H' aa p,Same (hid [a] H) H'->Ext H0 (hid [a] H) aa H'->aa a=none->OB K aa H' a r.1->p≠a->hid [a] H p=none->aa p=none->OB K aa H' p r.2->Q (.ref p) H'
noncomputable def Ce(k i:Nat)(g:DS->SR):List D->R (D×D)
 | [d0,d1]=>match g (.im d0::.ow d1::List.replicate k .em) with
  | .nx ρ=>match (ρ[1]?:Option Sl),(ρ[i]?:Option Sl) with
   |some (.ow d'),some (.ow r)=>.ok (d',r)
   |_,_=>.st
  |_=>.st
 |_=>.st
theorem qH{K:Frag}{H0 H:Hp}{d0 d1:D}{w:V}{a:Addr}(s:Same H0 H)(h0:H0 a=none)(ob:OB K H0 H a d1)(r:RD K H0 d0 w)(k:Nat) :
  RS K H0 (hid [a] H) H0 (.im d0::.ow d1::List.replicate k .em) (some w::some (.ref a)::List.replicate k none) H:=by
 have em:∀(i:Nat)(s:Sl),(List.replicate k Sl.em)[i]?=some s->s=.em:=fun i s q=>(List.mem_replicate.mp (EB q)).2
 have one:∀(i:Nat) e,(Sl.im d0::Sl.ow d1::List.replicate k Sl.em)[i]?=some (.ow e)->i=1/\d1=e:=fun i e q=>by
  match i,q with
  | 0,q=>cases q
  | 1,q=>cases q;exact⟨rfl,rfl⟩
  |i+2,q=>exact absurd (em i _ q) (fun z=>nomatch z)
 refine⟨fun b o h=>?_,⟨Same.refl _,s,fun a ha e=>e⟩,by simp,fun i e q=>?_,fun i e q=>?_,fun i j e e' b qi qj si sj=>?_⟩
 . unfold hid at h;split at h
   . cases h
   . exact h
 . match i,q with
   | 0,q=>cases q;exact⟨w,rfl,r⟩
   | 1,q=>cases q
   |i+2,q=>exact absurd (em i _ q) (fun z=>nomatch z)
 . obtain⟨rfl,rfl⟩:=one i e q;exact⟨a,rfl,h0,qY (gV.mpr rfl),ob⟩
 . obtain⟨rfl,_⟩:=one i e qi;obtain⟨rfl,_⟩:=one j e' qj;rfl
theorem fnW{P:Program}{w:World}{K:Frag}{mg:Str->Option Value}{base:Heap}{x qual:Str}{st:Stmt}{f:Addr}{fd:FuncData}{N ps:List Str}{k kk i:Nat}{g:DS->SR}(F:Fun K x qual st f fd)(S:FnScope N ps (d7 st))(fG:ps.length=2)(hN:N.length=2+kk)(hi:i≠1)
  (ck:∀(cdv:Value)(A:Around)(outer:List Env)(s:Shared)(H:Hp)(E:XK),Room k (A.deeper (envOfC qual (d7 st) s.heap.objs.size f cdv)) ->
   QKR (G4 (CX1 P w) P w K mg base N qual (d7 st) f cdv A outer s H E) F0 [1] (D7 st) i g):FnOk P w K mg base (CX1 P w) (k+1) f fd ps (spW K (Ce kk i g)):=by
 refine F.okX S (fun vs H Q E h=>?_) (fun cdv A outer s H vs Q E hr h=>?_)
 . obtain⟨d0,d1,w,a,H0,rfl,_⟩:=h;rw[fG];rfl
 . refine⟨_,(ck cdv A outer s H E hr).h,?_⟩;obtain⟨d0,d1,w,a,H0,rfl,s0,h0,ob,r,h⟩:=h;have e:start N [w,.ref a]=some w::some (.ref a)::List.replicate kk none:=by unfold start;rw[hN,show 2+kk - [w,V.ref a].length=kk by simp];rfl
   rw[e];refine⟨H0,hid [a] H,H0,Sl.im d0::Sl.ow d1::List.replicate kk Sl.em,F0.same _,qH s0 h0 ob r kk,?_⟩;unfold Ce at h;simp only at h;cases q:g (Sl.im d0::Sl.ow d1::List.replicate kk Sl.em) with
   |nx ρ=>
    rw[q]at h
    intro ae H' aa RR kp
    simp only at h
    split at h
    . rename_i d' r' q1 q2;obtain⟨a',z1,z2,z3,z4⟩:=RR.ow 1 d' q1;obtain⟨p,y1,y2,y3,y4⟩:=RR.ow i r' q2;have:=kp 1 (gV.mpr rfl);rw[z1]at this;cases this;refine⟨.ref p,y1,h H' aa p RR.sb RR.ext z2 z4 (fun z=>?_) y3 y2 y4⟩;subst z;exact hi (RR.ap i 1 _ _ p q2 q1 y1 z1)
    . exact h.elim
   |rt d=>rw[q]at h;exact h.elim
   |er x=>rw[q]at h;exact h.elim
   |bk ρ=>rw[q]at h;exact h.elim
   |ct ρ=>rw[q]at h;exact h.elim
   |st=>rw[q]at h;exact h.elim
def X9(i j:Nat)(m:List Bool)(mW:List D->R (D×D))(f0:DE->R D):DS->SR:=fun ρ=>(f0 (vis m ρ)).toS fun d0=>match (j9 (keeps false d0) m ρ)[j]? with
 |some (.ow d1)=>(match mW [d0,d1] with
  | .ok r=>.nx (((j9 (keeps false d0) m ρ).set j (.ow r.1)).set i (.ow r.2))
  |_=>.st)
 |_=>.st
section
variable {K:Frag}{EX:XW}{fr:Bool}{De:Ends}{σ:St}{H:Hp}{m:List Bool}
theorem y19(h:TSd K EX fr (X9 i j m mW f0) De σ H) :
  B6 (Ek (spW K mW) E (F1 (TEd K EX false f0) (F1 (n8 j) S4))) (u9 i) De σ H:=by
 obtain⟨Hc,Hb,H0,ρ,sb,R,h⟩:=h
 unfold X9 at h
 rw[SK.toS]at h
 refine R.te sb h fun d0 h v H' aO R' ap=>?_
 have rd:=ap.rd
 split at h
 . rename_i d1 q;obtain⟨a,z1,z2,z3,z4⟩:=R'.ow j d1 q;unfold F1 n8;rw[z1];refine⟨d0,d1,v,a,aO,rfl,R'.ext.2.1,z2,z4,rd,?_⟩;split at h
   . rename_i r qm;rw[qm];intro H2 ph p s2 e2 n2 tY iI hp n3 tZ;have RR:=R'.hidden q z1 s2 e2 n2 tY;have iH:Same Hb (hid [a] H'):=fun b o hb=>by rw[Fd fun hm=>by rw[gV.mp hm,z3]at hb;cases hb];exact R'.sb b o hb
     have AP:Apt K true Hb ph ((j9 (keeps false d0) m ρ).set j (.ow r.1)) σ H2 r.2 (.ref p):=by
      unfold Apt;rw[ζ rfl];refine⟨p,rfl,n3,iH.none hp,tZ,fun k e qk hk=>?_⟩;rcases Fc qk with⟨e0,_⟩ |⟨ne,qk⟩
      . subst e0;rw[z1]at hk;cases hk;exact iI rfl
      . obtain⟨b,b1,b2,b3,b4⟩:=R'.ow k e qk;rw[hk]at b1;cases b1;obtain⟨o,ho,_⟩:=b4.some;rw[Fd fun hm=>iI (gV.mp hm),ho]at hp;cases hp
     exact h _ H2 ph (RR.put AP i)
   . exact h.elim
 . exact h.elim
end
section
variable {X:Cx}{EX:XW}{fr:Bool}
theorem y1a(hN:X.N.Nodup)(hi:X.N[i]?=some x)(hx:Loc X.env.scope x)(G:g8 X.prog X.w X.K X.mg X.base fn ps kl (spW X.K mW))(hr:Room jj X.A)(hg:Gl X fn)(h0:QE X EX false e0 f0)(h1:PE X e1 (n8 j))(gF:kl<=jj:=by omega)(bH:(fn==("__debug__":Str))=false:=by decide)
  (he:starEach [e0,e1] X.env=(false,eval e0 X.env)::starEach [e1] X.env:=by rfl) (lY:starEach [e1] X.env=(false,eval e1 X.env)::starEach [] X.env:=by rfl) (hpl:(backTo cp (starEach [e1] X.env)).any (·.1)=false:=by rfl)
  (hs:swapsWith (.Call (.Name fn fp) [e0,e1] [] cp) (some (.Name x aP)) pos.line X.env=pure false:=by rfl) (hf:X.fn x=true\/X.env.scope.names.lookup x=some .local:=by first |exact .inl rfl |exact .inr rfl |assumption) :
  QS X EX fr (.Assign [.Name x aP] (.Call (.Name fn fp) [e0,e1] [] cp) pos) (X9 i j m mW f0):=
 ⟨(Jn hN hi hx (Up G (Co (X:=X)).on hr hg (Q0 h0.h (Q0 h1 pa_nil lY) he) gF bH he hpl) hs hf).imp fun _ _ _ q=>y19 q⟩
end
def dInN(neg:Bool):D->D->Option D
 | .tup es,.dn ks _=>match nkD (.tup es) with
  |some k=>if k.dep<=8 then some (.bl (if neg=true then !decide (k∈ks) else decide (k∈ks))) else none
  |none=>none
 |_,_=>none
def rInN(neg:Bool):R2:=fun y x H Q=>∃(a:Addr)(qs:List (NK×Addr))(xs:List V)(ob:Obj)(k:NK)(b:Addr),x=.ref a/\y=.ref b/\H a=some (.ext (dnP a qs xs ob))/\DN H a qs/\NKr H k (.ref b)/\k.dep<=8 /\
 Q (.bl (if neg=true then !decide (k∈qs.map (·.1)) else decide (k∈qs.map (·.1)))) H
section
variable {X:Cx}{K:Frag}
theorem y1b(qs:List (NK×Addr))(vs:List Value)(h:qs.length=vs.length)(k:NK):(atKey (z3 qs vs) k).isSome=decide (k∈qs.map (·.1)):=by have e:=Uc (z3 qs vs) k;rw[Eb qs vs h]at e;exact e
theorem Fp(hu:X.A.units+64<cLine):OpR X (compareOp .NotIn) (rInN true):=by intro pins s σ H x y v u Q I rx ry h;obtain⟨a,qs,xs,ob,k,b,rfl,rfl,e,n,hk,hd,q⟩:=h;cases rx;cases ry;obtain⟨_,vs,p1,p2,dd⟩:=Au I e n;refine wpAny_notIn_heap (knd:=deepKind X.prog X.w) (by show X.A.units+1+8<cLine;omega) ⟨U1 I hk rfl,hd⟩ n.2.2.1 dd ?_;rw[y1b qs vs p2];generalize decide (k∈qs.map (·.1))=c at q⊢;exact⟨.bl (!c),H,I.tok _,rfl,q⟩
theorem Ea:OpD K false (dInN neg) (rInN neg):=by
 intro H0 H x y d e z Q s rx ry ho k;cases d<;>simp only[dInN]at ho<;>first | (cases ho;done) |skip
 cases e<;>simp only[dInN]at ho<;>first | (cases ho;done) |skip
 rename_i es ks ds;split at ho<;>first | (cases ho;done) |skip
 rename_i kk dA;split at ho<;>first | (cases ho;done) |skip
 rename_i hd;cases ho;have nk:=Ak dA rx;obtain⟨b,ys,rfl,hb,rb⟩:=rx.tup;simp only[RD]at ry;obtain⟨a,qs,xs,ob,rfl,h1,hk,n,ra⟩:=ry;refine⟨a,qs,xs,ob,kk,b,rfl,rfl,s _ _ h1,n.tk fun b zs q=>s _ _ q,NKr.mono (fun b zs q=>s _ _ q) nk,hd,?_⟩;rw[hk];exact k _ H (.pure s (.mkBl _))
def dIxN:D->D->Option D
 | .dn ks ds,.tup es=>match nkD (.tup es) with
  |some k=>if k.dep<=8 then valN ks ds k else none
  |none=>none
 |_,_=>none
def rIxN:R2:=fun x y H Q=>∃(a:Addr)(qs:List (NK×Addr))(xs:List V)(ob:Obj)(k:NK)(b:Addr)(w:V),x=.ref a/\y=.ref b/\H a=some (.ext (dnP a qs xs ob))/\DN H a qs/\NKr H k (.ref b)/\k.dep<=8/\valN (qs.map (·.1)) xs k=some w/\Q w H
theorem Tr:∀{qs:List (NK×Addr)}{xs:List V}{vs:List Value}{w:V},Vals xs vs->qs.length=vs.length->valN (qs.map (·.1)) xs k=some w->∃p:Addr×Value,atKey (z3 qs vs) k=some p/\RelV w p.2
 | [],xs,vs,w,r,hl,h=>by unfold valN at h;rw[DH,Is]at h;cases h
 |q::qs,_,_,w,.nil,hl,h=>by simp at hl
 |q::qs,_,_,w,.cons (a:=x) (b:=v) (l₁:=xs) (l₂:=vs) r rr,hl,hw=>by
  by_cases h:q.1=k
  . unfold valN at hw;rw[gq,CW,HX (by simpa using h)]at hw;cases hw;refine⟨(q.2,v),?_,r⟩;show((z3 (q::qs) (v::vs)).find? fun x=>decide (x.1=k)).map (·.2)=_;unfold z3;rw[CW,gq,HX (by simpa using h)];rfl
  . unfold valN at hw;rw[gq,CW,GI (by simpa using h)]at hw;obtain⟨p,e,rp⟩:=Tr (qs:=qs) rr (by simpa using hl) hw;refine⟨p,?_,rp⟩;show((z3 (q::qs) (v::vs)).find? fun x=>decide (x.1=k)).map (·.2)=_;unfold z3;rw[CW,gq,GI (by simpa using h)];exact e
theorem Dk(hu:X.A.units+64<cLine):IxR X rIxN:=by intro value slice pins s σ H x y v u Q I rx ry h hs;obtain⟨a,qs,xs,ob,k,b,w,rfl,rfl,e,n,hk,hd,hv,q⟩:=h;cases rx;cases ry;obtain⟨_,vs,p1,p2,dd⟩:=Au I e n;obtain⟨p,hp,rp⟩:=Tr p1 p2 hv;exact tail_any (ops:=[.ref a,.ref b]) dd.typeIs PySem.F.slot_dict_getitem.lookup (wpAny_getItem_heap (knd:=deepKind X.prog X.w) (by show X.A.units+1+8<cLine;lia) ⟨U1 I hk rfl,hd⟩ dd hp ⟨w,H,I.tok _,rp,q⟩) hs
theorem Vp:∀{ks:List NK}{ds:List D}{xs:List V},RDs K H ds xs->valN ks ds k=some z->∃w,valN ks xs k=some w/\RD K H z w
 | [],ds,xs,r,h=>by unfold valN at h;rw[Is]at h;cases h
 |k'::ks,[],xs,r,h=>by unfold valN at h;rw[List.zip_nil_right]at h;cases h
 |k'::ks,d::ds,xs,r,hz=>by
  simp only[RDs]at r;obtain⟨x,r',rfl,r1,r2⟩:=r;by_cases h:k'=k
  . unfold valN at hz⊢;rw[CW,HX (by simpa using h)]at hz⊢;cases hz;exact⟨x,rfl,r1⟩
  . unfold valN at hz⊢;rw[CW,GI (by simpa using h)]at hz⊢;exact Vp r2 hz
theorem Dz:OpD K false dIxN rIxN:=by
 intro H0 H x y d e z Q s rx ry ho k;cases d<;>simp only[dIxN]at ho<;>first | (cases ho;done) |skip
 cases e<;>simp only[dIxN]at ho<;>first | (cases ho;done) |skip
 rename_i ks ds es;split at ho<;>first | (cases ho;done) |skip
 rename_i kk dA;split at ho<;>first | (cases ho;done) |skip
 rename_i hd;have nk:=Ak dA ry;obtain⟨b,ys,rfl,hb,rb⟩:=ry.tup;simp only[RD]at rx;obtain⟨a,qs,xs,ob,rfl,h1,hk,n,ra⟩:=rx;rw[<-hk]at ho;obtain⟨w,hw,ce⟩:=Vp ra ho;exact⟨a,qs,xs,ob,kk,b,w,rfl,rfl,s _ _ h1,n.tk fun b zs q=>s _ _ q,NKr.mono (fun b zs q=>s _ _ q) nk,hd,hw,k _ H (.pure s ce)⟩
end
def Ra(tk tv:TE):TE:=fun σ H Q=>∀(p:Addr)(ob:Obj),H p=none->(p==sysModules)=false->tk σ (upd H p (.ext (dnP p [] [] ob))) fun x H1=>tv σ H1 fun y H2=>
 ∃(k:NK)(b:Addr),x=.ref b/\H2 p=some (.ext (dnP p [] [] ob))/\NKr H2 k (.ref b)/\k.dep<=8/\∀dQ,Q (.ref p) (upd H2 p (.ext (dnP p [(k,b)] [y] dQ)))
def eDisp1(fk fv:DE->R D):DE->R D:=fun ρ=>(fk ρ).bind fun k=>(fv ρ).bind fun v=>R.of (match k with
 | .tup es=>match nkD (.tup es) with
  |some kk=>if kk.dep<=8 then some (.dn [kk] [v]) else none
  |none=>none
 |_=>none)
section
variable {X:Cx}{EX:XW}{σ:St}{H:Hp}{Q:VK}{k v:Expr}{pos:Pos}
theorem yu{tk tv:TE}(hu:X.A.units+64<cLine)(hk:PE X k tk)(hv:PE X v tv):PE X (.Dict [some k] [v] pos) (Ra tk tv):=by
 intro pins s σ H Q I q;have hn:=I.hok.fresh (η s.heap.objs.size);have iJ:(s.heap.objs.size==sysModules)=false:=Ii.mpr (GF (CY I.big));have I1:=I.laid (a:=s.heap.objs.size) (o:=.ext (dnP s.heap.objs.size [] [] { cls:=.type "dict",data:=.dict #[] })) (h':=s.heap.push { cls:=.type "dict",data:=.dict #[] }) (t':=s.toks) (fun _ _ q=>Φ _ q) (η _)
  ⟨⟨Ω _ rfl,[],#[],0,.nil,rfl,⟨rfl,rfl,rfl⟩,rfl,rfl⟩,⟨_,Ω _ rfl⟩,dnP.stay⟩
 have hp:PPs X pos [some k] [v] [(tk,tv)]:=yS hk hv xP;refine wpAny_Dict_any rfl rfl (by simp) (by simp) (thn (hp pins _ σ _ (fun ps H2=>match ps with
  | [(x,y)]=>∃(kk:NK)(b:Addr),x=.ref b/\H2 s.heap.objs.size=some (.ext (dnP s.heap.objs.size [] [] { cls:=.type "dict",data:=.dict #[] }))/\NKr H2 kk (.ref b)/\kk.dep<=8/\∀dQ,Q (.ref s.heap.objs.size) (upd H2 s.heap.objs.size (.ext (dnP s.heap.objs.size [(kk,b)] [y] dQ)))
  |_=>False) I1 (q _ { cls:=.type "dict",data:=.dict #[] } hn iJ)) fun ws s2 ⟨ps,H2,I2,rel,q2⟩=>?_)
 rcases rel with _ |⟨r,_ |_⟩
 . exact False.elim q2
 rotate_left
 . exact False.elim q2
 rename_i p1 p0 _;obtain⟨x,y⟩:=p1;obtain⟨ux,uy⟩:=p0;obtain⟨kk,b,ex,e2,nk,hd,q2⟩:=q2;obtain⟨r1,r2⟩:=r;dsimp only at ex r1 r2 q2;subst ex;cases r1;obtain⟨_,vs,p1,p2,dd⟩:=Au I2 e2 ⟨GZ,fun q hq=>(by simp at hq),iJ,DG _⟩;cases p1;unfold storeAll;rw[Ih];refine δ (δ (wpAny_dictSet_heap (knd:=deepKind X.prog X.w) (hsz:=DG _) (by show X.A.units+8<cLine;lia) ⟨U1 I2 nk rfl,hd⟩ dd fun h' dO hs=>π (π ?_)));obtain⟨o',es,ep,d1,d2,d3,d4,_⟩:=dO;refine⟨.ref s.heap.objs.size,_,?_,rfl,q2 o'⟩;exact Fk I2 (by rw[e2];exact True.intro) hs ⟨o',d1⟩ ⟨⟨d1,[uy],es,ep,.cons r2 .nil,rfl,d2,d3,d4⟩,⟨o',d1⟩,dnP.stay⟩
theorem wR{K:Frag}{fk fv:DE->R D}(h:TEd K EX true (eDisp1 fk fv) σ H Q):Ra (TEd K EX false fk) (TEd K EX false fv) σ H Q:=by
 obtain⟨sx,ρ,H0,s,e,h⟩:=h;intro p ob hp iJ;have sp:Same H (upd H p (.ext (dnP p [] [] ob))):=Same.upd_new hp;have ub:=s.none hp;unfold eDisp1 at h;rw[Rk.bind]at h;show TEd K EX false fk σ _ _;refine TEd.go (sx.trans sp) (s.trans sp) e h fun a h v1 H1 ar s1 e1 r1=>?_
 rw[Rk.bind]at h;refine TEd.go ((sx.trans sp).trans s1) e1.2.1 (e.mono e1.1) h fun x h v2 H2 bv s2 e2 r2=>?_
 have e12:=e1.trans s1 e2;have pi:=s1.trans s2;obtain⟨z,hz,h⟩:=h.of;cases a<;>first | (cases hz;done) |skip
 rename_i es;simp only at hz;split at hz<;>first | (cases hz;done) |skip
 rename_i kk dA;split at hz<;>first | (cases hz;done) |skip
 rename_i hd;cases hz;have nk:=Ak dA (r1.mono e2.1);obtain⟨b,ys,rfl,hb,rb⟩:=r1.tup;refine⟨kk,b,rfl,pi p _ k9,NKr.mono (fun b zs q=>e2.2.1 _ _ q) nk,hd,fun dQ=>h _ _ ?_⟩;have p6:bv p=none:=e12.2.2 p (by rw[k9];exact fun z=>nomatch z) ub;refine .fresh (fun c o q=>?_) ⟨e12.1,fun c o q=>?_,fun c q1 q2=>e12.2.2 c (sp.ne q1) q2⟩ hp p6 ?_
 . have hc:c≠p:=fun z=>by rw[z,hp]at q;cases q
   rw[e9 hc];exact pi c o (sp c o q)
 . have hc:c≠p:=fun z=>by rw[z,p6]at q;cases q
   rw[e9 hc];exact e12.2.1 c o q
 . simp only[OB];exact⟨[(kk,b)],[v2],dQ,k9,rfl,⟨by simp,fun q hq=>by rw[gV.mp hq];exact⟨nk,hd⟩,iJ,by rw[Ib];simp⟩,.one r2⟩
theorem wQ(hu:X.A.units+64<cLine)(hk:QE X EX false k fk)(hv:QE X EX false v fv):QE X EX true (.Dict [some k] [v] pos) (eDisp1 fk fv):=
 ⟨(yu hu hk.h hv.h).imp fun _ _ _ q=>wR q⟩
end
end L2
set_option maxHeartbeats 1000000
namespace L2
open PySem PySem.Spec PyProof.Rows
noncomputable def tTM(r:V->List V->Hp->VK->Prop)(to:TE)(t:TA):TE:=fun σ H Q=>to σ H fun x H1=>(∃a xs,x=.ref a/\H1 a=some (.tup xs))/\t σ H1 fun xs H2=>r x xs H2 Q
theorem y1c{X:Cx}{o e:Expr}{es:List Expr}{to:TE}{t:TA}{name:Str}{aF ah:Pos}{id:String}{r:V->List V->Hp->VK->Prop}(slot:Slot "tuple" name id)(dN:typeOf (.builtin id)=pure (.type "method_descriptor"))(hm:MtM X id r)(ho:PE X o to)(ha:PA X (e::es) t)
  (aL:attributeBase o name X.env (eval o X.env)=eval o X.env:=by rfl)
  (cx:((backTo ah (starEach (e::es) X.env)).all (fun x=>!x.1)&&(backToKw ah (keywordEach [] X.env)).all (fun x=>x.1.isSome)
   && decide ((e::es).length+([]:List Keyword).length+(if([]:List Keyword).isEmpty then 0 else 1)<30))=true:=by rfl)
  (aM:(aF.endLine==ah.line)=true:=by rfl) (hs:starEach (e::es) X.env=(false,eval e X.env)::starEach es X.env:=by rfl) (bg:(backTo ah (starEach es X.env)).any (·.1)=false:=by rfl) :
  PE X (.Call (.Attribute o name aF) (e::es) [] ah) (tTM r to t):=by
 intro pins s σ H Q I h
 refine wpAny_Call_method_late aL cx aM rfl (thn (ho pins s σ H _ I h) fun v s1 ⟨x,H1,I1,r1,ty,q1⟩=>?_)
 obtain⟨a,xs,rfl,hH⟩:=ty
 cases r1
 obtain⟨_,its,_,ob,e1,hc,_,hd⟩:=(show ObjOk X.prog X.w H1 s1.heap a (.tup xs) from I1.hok a _ hH)
 refine⟨"tuple",id,PySem.F.plainAttrs_tuple,slot,dN,⟨ob,e1,hc⟩,fun b z=>by cases z;exact⟨ob,e1,hd⟩,?_⟩
 have hA:=ha ah pins s1 σ H1 _ I1 q1
 rw[hs]at hA⊢
 refine Calls.callWith_builtin (by show(false||(backTo ah (starEach es X.env)).any (·.1))=false;rw[bg]<;>rfl) (Calls.evalArgs_plain ?_)
 exact thn hA fun us s2 ⟨vs,H2,I2,r2,q2⟩=>hm pins s2 σ H2 (.ref a) vs (.ref a) us Q I2 rfl r2 q2
end L2
set_option maxHeartbeats 400000
namespace L2
open PySem PySem.Spec PyProof.Rows
def jz(K:Frag):V->List V->Hp->VK->Prop:=fun x vs H Q=>∃(l:Addr)(ns:List Int)(k:Int),x=.ref l/\vs=[.int k]/\H l=some (.tup (ns.map V.int))/\k∈ns/\Q (.int ((ns.idxOf k:Nat):Int)) H
theorem qG:MtM X "tuple.index" (jz X.K):=by
 intro pins s σ H x vs v us Q I rx rv h;obtain⟨l,ns,k,rfl,rfl,hH,hk,q⟩:=h;cases rx;obtain⟨u,rfl,ru⟩:=rv.one;obtain⟨tk,rfl⟩:=ru;obtain⟨_,its,r,o,e,hc,⟨n,lC⟩,_⟩:=(show ObjOk X.prog X.w H s.heap l (.tup (ns.map V.int)) from I.hok l _ hH);obtain⟨cls,BN,BO,sl⟩:=o;dsimp only at hc lC;subst hc lC;refine wpAny_call_entry F.slot_tuple_index ⟨_,e,rfl⟩ F.entry_tuple_index ?_ (F.args_tuple_index_2 _ _);obtain⟨hp,g,d,t0,os⟩:=s;have uc:wpAny (model X.prog X.w) X.A.in1 (Builtin.Tuple.tupleItemsOf (.ref l)) (fun xs s'=>xs=its.toArray/\s'=⟨hp,g,d,t0,os⟩) X.xe ⟨hp,g,d,t0,os⟩:=by
  unfold Builtin.Tuple.tupleItemsOf
  wp_walk using AutoSeq1.wpAny_loadPart' e
  exact⟨rfl,rfl⟩
 unfold Builtin.«tuple.index»;refine δ (π ?_);refine δ (thn uc ?_);rintro _ _ ⟨rfl,rfl⟩;refine δ (π ?_);refine δ (π ?_);dsimp only;rw[Il,Std.Legacy.Range.forIn_eq_forIn_range'];have ao:its.length=ns.length:=by have:=r.length;rw[bI]at this;omega
 have mL:=GR hk;have fC:∀m (hm:m<ns.length),∃t,its.toArray[m]?=some (Value.int ns[m] t):=fun m hm=>by obtain⟨w,hw,ce⟩:=r.get (i:=m) (x:=.int ns[m]) (by rw[DB,CH hm];rfl);obtain⟨t,rfl⟩:=ce;exact⟨t,by simpa using hw⟩
 have lp:∀(m j:Nat),j+m=its.length->j<=ns.idxOf k->wpAny (model X.prog X.w) X.A.in1 (forIn (List.range' j m) ((none,()):Option PySem.Fin×Unit) fun (i:Nat) __s=>
   match its.toArray[i]? with
   |some y=>(do
    let __do_lift <-eqBool y (Value.int k tk)
    if __do_lift=true then do
      let __do_lift <-retInt ((i:Nat):Int)
      pure (ForInStep.done (some __do_lift,()))
     else pure (ForInStep.yield (none,())):Sem (ForInStep (Option PySem.Fin×Unit)))
   |x=>pure (ForInStep.yield (none,()))) (fun a s'=>a=(some (Fin.done (.ret (.int ((ns.idxOf k:Nat):Int) t0))),())/\s'=⟨hp,g,d,t0+1,os⟩) X.xe ⟨hp,g,d,t0,os⟩:=by
  intro m
  induction m with
  |zero=>intro j h1 h2;omega
  |succ m ih=>
   intro j h1 h2
   have hj:j<ns.length:=by omega
   obtain⟨t,et⟩:=fC j hj
   rw[List.range'_succ,Ih,et]
   dsimp only
   refine δ (δ (wpAny_eqBool_int ?_))
   by_cases c:ns[j]=k
   . have ej:ns.idxOf k=j:=by
      apply Nat.le_antisymm _ h2
      apply tB
      intro z
      have:=List.not_of_lt_findIdx (p:=(·==k)) (xs:=ns) (i:=j) (by unfold List.idxOf at z;omega)
      simp[c]at this
     rw[ζ (by simpa using c)]
     unfold retInt
     refine δ (δ (wpAny_mkInt (π (π (π ⟨?_,rfl⟩)))))
     rw[ej]
   . rw[ξ (by simpa using c)];refine π (ih (j+1) (by omega) ?_);have:ns.idxOf k≠j:=fun z=>c (by have:=List.getElem_idxOf mL;simpa only [z] using this)
     omega
 have ue:[:its.toArray.size].size=its.length:=by simp[Std.Legacy.Range.size]
 have L:=lp its.length 0 (by omega) (DG _);rw[<-ue]at L;refine δ (thn L ?_);rintro _ _ ⟨rfl,rfl⟩;exact π ⟨_,rfl,.int _,H,I.tok _,⟨_,rfl⟩,q⟩
def Dj:List D->D->Option D
 |ds,.int k=>match n5 ds with
  |some ns=>if k∈ns then some (.int ((ns.idxOf k:Nat):Int)) else none
  |none=>none
 |_,_=>none
def T6(fa fb:DE->R D):DE->R D:=fun ρ=>(fa ρ).bind fun x=>match x with
 | .tup ds=>(fb ρ).bind fun y=>R.of (Dj ds y)
 |_=>.st
theorem Oy{K:Frag}{H:Hp}:∀{ns:List Int}{xs:List V},RDs K H (ns.map D.int) xs->xs=ns.map V.int
 | [],xs,r=>by simpa only [DH,RDs] using r
 |n::ns,xs,r=>by simp only[gq,RDs]at r;obtain⟨x,r',rfl,r1,r2⟩:=r;simp only[RD]at r1;rw[r1,Oy r2];rfl
section
variable {X:Cx}{EX:XW}{σ:St}{H:Hp}{Q:VK}
theorem y1d{K:Frag}{fa fb:DE->R D}(h:TEd K EX false (T6 fa fb) σ H Q):tTM (jz K) (TEd K EX false fa) (F1 (TEd K EX false fb) S4) σ H Q:=by
 obtain⟨sx,ρ,H0,s,e,h⟩:=h;unfold T6 at h;rw[Rk.bind]at h;refine TEd.go sx s e h fun d h v H1 ar s1 e1 r1=>?_
 cases d<;>first | (exact h.elim) |skip
 rename_i ds;simp only at h;obtain⟨a,xs,rfl,ha,rs⟩:=r1.tup;refine⟨⟨a,xs,rfl,e1.2.1 _ _ ha⟩,?_⟩;rw[Rk.bind]at h;refine TEd.go (sx.trans s1) e1.2.1 (e.mono e1.1) h fun d2 h v2 H2 bv s2 e2 r2=>?_
 obtain⟨z,hz,h⟩:=h.of;unfold Dj at hz;split at hz<;>first | (cases hz;done) |skip
 rename_i k;split at hz<;>first | (cases hz;done) |skip
 rename_i ns eh;split at hz<;>first | (cases hz;done) |skip
 rename_i hk;cases hz;rw[Ww eh]at rs;have uf:=Oy rs;subst uf;have ev:v2=.int k:=by simpa only [RD] using r2
 subst ev;exact⟨a,ns,k,rfl,rfl,s2 _ _ (e1.2.1 _ _ ha),hk,h _ H2 (.val (s1.trans s2) (e1.trans s1 e2) (.mkInt _))⟩
variable {o e:Expr}{aF ah:Pos}{fa fb:DE->R D}
theorem Ox(ho:QE X EX false o fa)(ha:QE X EX false e fb)(aL:attributeBase o "index" X.env (eval o X.env)=eval o X.env:=by rfl)
  (cx:((backTo ah (starEach [e] X.env)).all (fun x=>!x.1)&&(backToKw ah (keywordEach [] X.env)).all (fun x=>x.1.isSome)
   && decide ([e].length+([]:List Keyword).length+(if([]:List Keyword).isEmpty then 0 else 1)<30))=true:=by rfl)
  (aM:(aF.endLine==ah.line)=true:=by rfl) (hs:starEach [e] X.env=(false,eval e X.env)::starEach [] X.env:=by rfl) (bg:(backTo ah (starEach [] X.env)).any (·.1)=false:=by rfl) :
  QE X EX false (.Call (.Attribute o "index" aF) [e] [] ah) (T6 fa fb):=
 ⟨(y1c PySem.F.slot_tuple_index PySem.F.type_tuple_index qG ho.h (Q0 ha.h pa_nil hs) aL cx aM hs bg).imp fun _ _ _ q=>y1d q⟩
end
open PySem.W in
noncomputable def Ez(tb:String->Option Builtin)(p:Program)(w:World)(m:Nat)(gU:Option Value):Nat->SharedT->Thread->Option SharedT
 | 0,_,_=>none
 |n+1,s,t=>match through t with
  |true=>some s
  |false=>match stepOk m gU t with
   |false=>none
   |true=>match stepT (denote tb) p w s t with
    |some (s',t')=>Ez tb p w m gU n s' t'
    |none=>none
open PySem.W in
theorem Yg:∀(n:Nat){s s':SharedT}{t:Thread},Ez tb p w m gU n s t=some s'->topRun tb p w m gU n s.abs t=some s'.abs
 | 0,_,_,_,h=>nomatch h
 |n+1,s,s',t,h=>by
  unfold Ez at h;unfold topRun;cases a:through t with
  |true=>rw[a]at h;cases h;rfl
  |false=>
   rw[a]at h
   cases b:stepOk m gU t with
   |false=>rw[b]at h;cases h
   |true=>
    rw[b]at h
    cases c:stepT (denote tb) p w s t with
    |none=>rw[c]at h;cases h
    |some z=>
     obtain⟨s2,t2⟩:=z
     rw[c]at h
     rw[stepT_spec c]
     exact Yg n h
open PySem.W in
noncomputable def Qz:List Obj->Nat->BT->BT
 | [],_,t=>t
 |o::l,i,t=>Qz l (i+1) (t.ins i o)
open PySem.W in
def bootS(w:World)(os:OsState):SharedT:=⟨Qz (boot_heap w.params).objs.toList 0 .nil,(boot_heap w.params).objs.size,(boot_heap w.params).life,Array.mk [],boot_drawn,boot_toks,os⟩
open PySem.W in
noncomputable def seenAt(p q:Program)(loose:List Str)(Xt:Shared->Bool){α:Type}(Yf:Shared->α)(w:World)(t:Shared):=
 (staticsOk (importedModules p.main.body) (boot_heap w.params) t.heap&&namesBound p t.heap&&gensDone t&&laidKept (boot_heap w.params) t.heap,openSeen q loose (importedModules p.main.body) Xt true t,Yf t)
open PySem.W in
def outAt(p q:Program)(loose:List Str)(Xt:Shared->Bool){α:Type}(Yf:Shared->α)(N:Nat)(w:World)(os:OsState):=
 (Ez treeTable p w (boot_heap w.params).objs.size ((boot_heap w.params).nsMap mainGlobals "__annotations__") N (bootS w os) (topStub p)).map fun s=>seenAt p q loose Xt Yf w s.abs
open PySem.W in
theorem yt:∀(w:World)(os:OsState),(bootS w os).abs=⟨boot_heap w.params,Array.mk [],boot_drawn,boot_toks,os⟩:=fun _ _=>by kernel_rfl
open PySem.W in
theorem wP:∀w:World,(boot_heap w.params).isNs mainGlobals=true:=fun _=>by kernel_rfl
open PySem.W in
theorem wO(e:opening p=plainProg p.main.scope.names)(hN:Nat.ble 600 N=true)
  (f:∀s,fenceModules? p s=some s) (h:∀w os,outAt p q loose Xt Yf N w os=some (true,openGood q loose,Ya w)):LeftO p q loose Xt Yf Ya N:=fun w=>by
 obtain⟨⟨hp,gs,d,k,os⟩,a,b⟩:=HS.mp (boot_open e hN f w)
 obtain⟨rfl,rfl,rfl,rfl⟩:hp=boot_heap w.params/\gs=Array.mk []/\d=boot_drawn/\k=boot_toks:=by simpa using b
 obtain⟨s,r,c⟩:=HS.mp (h w os)
 have r2:=Yg N r
 rw[yt]at r2
 obtain⟨l1,l2,l3⟩:_/\_/\_:=by simpa only [seenAt,Prod.mk.injEq] using c
 have t:topFrom treeTable p w N ⟨boot_heap w.params,Array.mk [],boot_drawn,boot_toks,os⟩=some s.abs:=by unfold topFrom;dsimp only;rw[wP,r2];show(match staticsOk (importedModules p.main.body) (boot_heap w.params) s.abs.heap&&namesBound p s.abs.heap&&gensDone s.abs&&laidKept (boot_heap w.params) s.abs.heap with |true=>_ |false=>_)=_;rw[l1]
 unfold openEnds
 rw[a]
 show(topFrom treeTable p w N _).map _=_
 rw[t]
 exact EH some (FA l2 l3)
abbrev vs(x:String)(t:Nat):Value:=.str (Str.ofString x) t
abbrev en(P:Params)(x:String)(t:Nat)(v:Value):DictEntry:=⟨PyData.keyHash P (Str.ofString x),.str (Str.ofString x) t,v⟩
abbrev oT(l:List Value):Obj:={ cls:=.type "tuple",data:=.seq l.toArray }
abbrev oD(l:List DictEntry)(n:Nat):Obj:={ cls:=.type "dict",data:=.dict l.toArray n }
abbrev oF(st:Stmt)(x q:String)(dV kV doc pm:Value)(an:Option Addr)(cd ct:Value):Obj:={ cls:=.type "function",data:=.func (PySem.W.fnOf (Str.ofString x) (Str.ofString q) (N7 st) (D7 st) (d7 st) dV kV doc pm an cd ct) }
end L2
namespace Bd
variable {n:Nat}{R:Nat->Int}
def gR(n c:Nat)(R:Nat->Int)(k:Nat):Int:=
 if k=c+1 then 1 else
 let o:=if k<=c then k else k - 1
 R o+(if o=c then 1 else 0)+(if o=(c+1) % n then 1 else 0)
end Bd
namespace Cu
abbrev P2:=Int×Int
abbrev P3:=Int×Int×Int
def sh(fC x:Int):Int:=if x > fC then x+1 else x
def sh2(c:Int)(p:P2):P2:=(sh c p.1,sh c p.2)
def sh3(c:Int)(p:P3):P3:=(sh c p.1,sh c p.2.1,sh c p.2.2)
def outer(p:P3):P2:=(p.1,p.2.2)
def u7(n c:Int):P2:=if c=n - 1 then(0,c) else(c,c+2)
def C9(n c:Int):P3:=if c=n - 1 then(0,c,n) else(c,c+1,c+2)
structure CInv(n:Int)(ls:List P2)(T:List P3):Prop where
 n3:3<=n
 tri:∀a c b,(a,c,b)∈T->0<=a/\a<c/\c<b/\b<=n - 1/\((a,c)∈ls\/c=a+1)/\((c,b)∈ls\/b=c+1)
 lin:∀a b,(a,b)∈ls->0<=a/\a+2<=b/\b<=n - 1/\¬(a=0/\b=n - 1)
 nc:∀a b c d,(a,b)∈ls->(c,d)∈ls->¬(a<c/\c<b/\b<d)
 nd:ls.Nodup
 prm:(T.map outer).Perm ((0,n - 1)::ls)
theorem y3t:CInv 3 [] [(0,1,2)] where
 n3:=by omega
 tri:=fun a c b h=>by simp only[gD,Prod.mk.injEq,FD,or_false]at h;omega
 lin:=fun a b h=>by simp at h
 nc:=fun a b c d h=>by simp at h
 nd:=GZ
 prm:=.refl _
theorem V5{c:Int}{ls:List P2}{x y:Int}(h:(x,y)∈ls.map (sh2 c)):∃a b,(a,b)∈ls/\x=sh c a/\y=sh c b:=by obtain⟨⟨a,b⟩,hm,e⟩:=CP.mp h;simp only[sh2,Prod.mk.injEq]at e;exact⟨a,b,hm,e.1.symm,e.2.symm⟩
theorem Tq{c:Int}{ls:List P2}{a b:Int}(h:(a,b)∈ls):(sh c a,sh c b)∈ls.map (sh2 c):=CP.mpr ⟨(a,b),h,rfl⟩
theorem Qy(h:sh c x=sh c y):x=y:=by unfold sh at h;split at h<;>split at h<;>lia
theorem CInv.grow(I:CInv n ls T)(c:Int)(h0:0<=c)(h1:c<n):CInv (n+1) (ls.map (sh2 c)++[u7 n c]) (T.map (sh3 c)++[C9 n c]) where
 n3:=by have:=I.n3;lia
 tri:=fun x y z h=>by
  have h3:=I.n3;rcases CK.mp h with h |h
  . obtain⟨⟨a,m,b⟩,hm,e⟩:=CP.mp h;simp only[sh3,Prod.mk.injEq]at e;obtain⟨rfl,rfl,rfl⟩:=e;obtain⟨g1,g2,g3,g4,g5,g6⟩:=I.tri a m b hm;have k1:0<=sh c a:=by unfold sh;split<;>lia
    have k2:sh c a<sh c m:=by unfold sh;split<;>split<;>lia
    have k3:sh c m<sh c b:=by unfold sh;split<;>split<;>lia
    have k4:sh c b<=n+1 - 1:=by unfold sh;split<;>lia
    have cR:∀u w,u+1=w->w<=n - 1->(sh c u,sh c w)∈ls.map (sh2 c)++[u7 n c]\/sh c w=sh c u+1:=fun u w e hw=>by
     by_cases q:u=c
     . left;refine CK.mpr (.inr ?_);have e1:sh c u=c:=by unfold sh;split<;>lia
       have e2:sh c w=c+2:=by unfold sh;split<;>lia
       rw[e1,e2];unfold u7;rw[ξ (by lia)];simp
     . right;unfold sh;split<;>split<;>lia
    refine⟨k1,k2,k3,k4,?_,?_⟩
    . rcases g5 with g5 |g5
      . exact .inl (CK.mpr (.inl (Tq g5)))
      . exact cR a m (by lia) (by lia)
    . rcases g6 with g6 |g6
      . exact .inl (CK.mpr (.inl (Tq g6)))
      . exact cR m b (by lia) (by lia)
  . simp only[gV]at h;unfold C9 at h;by_cases q:c=n - 1
    . rw[ζ q]at h;simp only[Prod.mk.injEq]at h;obtain⟨rfl,rfl,rfl⟩:=h;refine⟨by lia,by lia,by lia,by lia,.inl (CK.mpr (.inr ?_)),.inr (by lia)⟩;unfold u7;rw[ζ q];simp
    . rw[ξ q]at h;simp only[Prod.mk.injEq]at h;obtain⟨rfl,rfl,rfl⟩:=h;exact⟨by lia,by lia,by lia,by lia,.inr rfl,.inr (by lia)⟩
 lin:=fun x y h=>by
  have h3:=I.n3;rcases CK.mp h with h |h
  . obtain⟨a,b,hm,rfl,rfl⟩:=V5 h;obtain⟨g1,g2,g3,g4⟩:=I.lin a b hm;unfold sh;split<;>split<;>lia
  . simp only[gV]at h;unfold u7 at h;by_cases q:c=n - 1
    . rw[ζ q]at h;simp only[Prod.mk.injEq]at h;lia
    . rw[ξ q]at h;simp only[Prod.mk.injEq]at h;lia
 nc:=fun x y z w h h'=>by
  have h3:=I.n3;rcases CK.mp h with h |h<;>rcases CK.mp h' with h' |h'
  . obtain⟨a,b,hm,rfl,rfl⟩:=V5 h;obtain⟨a',b',mM,rfl,rfl⟩:=V5 h';have:=I.nc a b a' b' hm mM;unfold sh;split<;>split<;>split<;>split<;>lia
  . obtain⟨a,b,hm,rfl,rfl⟩:=V5 h;simp only[gV]at h';have:=I.lin a b hm;unfold u7 at h';by_cases q:c=n - 1
    . rw[ζ q]at h';simp only[Prod.mk.injEq]at h';unfold sh;split<;>split<;>lia
    . rw[ξ q]at h';simp only[Prod.mk.injEq]at h';unfold sh;split<;>split<;>lia
  . obtain⟨a,b,hm,rfl,rfl⟩:=V5 h';simp only[gV]at h;have:=I.lin a b hm;unfold u7 at h;by_cases q:c=n - 1
    . rw[ζ q]at h;simp only[Prod.mk.injEq]at h;unfold sh;split<;>split<;>lia
    . rw[ξ q]at h;simp only[Prod.mk.injEq]at h;unfold sh;split<;>split<;>lia
  . simp only[gV]at h h';rw[<-h']at h;simp only[Prod.mk.injEq]at h;lia
 nd:=by
  have h3:=I.n3;rw[ER];refine⟨?_,by simp,fun p hp q hq=>?_⟩
  . refine(GQ.mpr (I.nd.imp fun {p q} ag e=>ag ?_));simp only[sh2,Prod.mk.injEq]at e;exact FA (Qy e.1) (Qy e.2)
  . simp only[gV]at hq;subst hq;obtain⟨x,y⟩:=p;obtain⟨a,b,hm,rfl,rfl⟩:=V5 hp;have:=I.lin a b hm;intro e;unfold u7 at e;by_cases q:c=n - 1
    . rw[ζ q]at e;simp only[Prod.mk.injEq]at e;unfold sh at e;split at e<;>split at e<;>lia
    . rw[ξ q]at e;simp only[Prod.mk.injEq]at e;unfold sh at e;split at e<;>split at e<;>lia
 prm:=by
  have h3:=I.n3;have e1:(T.map (sh3 c)++[C9 n c]).map outer=(T.map outer).map (sh2 c)++[outer (C9 n c)]:=by simp only[DA,DI,gq,DH];rfl
  have p1:((T.map outer).map (sh2 c)++[outer (C9 n c)]).Perm (((0,n - 1)::ls).map (sh2 c)++[outer (C9 n c)]):=(I.prm.map (sh2 c)).append_right _;rw[e1];refine p1.trans ?_;have e0:sh c 0=0:=by unfold sh;split<;>lia
  rw[gq];by_cases q:c=n - 1
  . have e2:sh2 c (0,n - 1)=u7 n c:=by
     unfold u7 sh2;rw[ζ q];simp only[Prod.mk.injEq];exact⟨e0,by unfold sh;split<;>lia⟩
    have e3:outer (C9 n c)=(0,n+1 - 1):=by unfold C9 outer;rw[ζ q];simp
    rw[e2,e3]
    refine(FB (l₁:=_::_) (l₂:=[_])).trans ?_
    refine List.Perm.cons _ ?_
    exact(FB (l₁:=[u7 n c]) (l₂:=ls.map (sh2 c)))
  . have e2:sh2 c (0,n - 1)=(0,n+1 - 1):=by
     unfold sh2;simp only[Prod.mk.injEq];exact⟨e0,by unfold sh;split<;>lia⟩
    have e3:outer (C9 n c)=u7 n c:=by unfold C9 u7 outer;rw[ξ q,ξ q]
    rw[e2,e3];exact .refl _
end Cu
namespace Cu
open L2 (mxD Ji T2 T3 so3 Vs Q1)
def pk(x:Int)(p l:P2):Bool:=decide (l.1=x)&&(decide (l.2<=p.2)&&!(decide (l.1=p.1)&&decide (l.2=p.2)))
theorem qF:pk x p l=true↔l.1=x/\l.2<=p.2/\¬(l.1=p.1/\l.2=p.2):=by
 simp only[pk,ng,mV,ET,Bool.and_eq_false_iff,CS];constructor
 . rintro⟨h1,h2,h3⟩;exact⟨h1,h2,fun h=>by rcases h3 with z |z<;>lia⟩
 . rintro⟨h1,h2,h3⟩;refine⟨h1,h2,?_⟩;by_cases z:l.1=p.1
   . exact .inr fun w=>h3 ⟨z,w⟩
   . exact .inl z
def ends(x:Int)(p:P2)(ls:List P2):List Int:=(ls.filter (pk x p)).map (·.2)
theorem mem_ends:y∈ends x p ls↔(x,y)∈ls/\y<=p.2/\¬(x=p.1/\y=p.2):=by
 simp only[ends,CP,CT,qF];constructor
 . rintro⟨⟨a,b⟩,⟨h1,h2,h3,h4⟩,rfl⟩;simp only at h2 h3 h4⊢;subst h2;exact⟨h1,h3,h4⟩
 . rintro⟨h1,h2,h3⟩;exact⟨(x,y),⟨h1,rfl,h2,h3⟩,rfl⟩
section
variable {n:Int}{ls ls':List P2}{T:List P3}{a b c:Int}
theorem CInv.beh1(I:CInv n ls T)(p:ls'.Perm ls)(h:(a,c,b)∈T):mxD (a+1) (ends a (a,b) ls')=c:=by
 obtain⟨g1,g2,g3,g4,g5,g6⟩:=I.tri a c b h;have key:∀y∈ends a (a,b) ls',y<=c:=fun y hy=>by
  obtain⟨m1,m2,m3⟩:=mem_ends.mp hy;have m1:=p.mem_iff.mp m1;simp only at m2 m3;have:¬y=b:=fun z=>m3 (by simpa using z)
  rcases g6 with g6 |g6
  . have:=I.nc a y c b m1 g6;lia
  . lia
 refine Ji key ?_;rcases g5 with g5 |g5
 . left;exact mem_ends.mpr ⟨p.mem_iff.mpr g5,by simp only;lia,by simp only;lia⟩
 . by_cases z:ends a (a,b) ls'=[]
   . exact .inr ⟨z,by lia⟩
   . obtain⟨y,hy⟩:=EW _ z;have:=key y hy;obtain⟨m1,m2,m3⟩:=mem_ends.mp hy;have:=I.lin a y (p.mem_iff.mp m1);lia
theorem CInv.beh2(I:CInv n ls T)(p:ls'.Perm ls)(h:(a,c,b)∈T):mxD (c+1) (ends c (a,b) ls')=b:=by
 obtain⟨g1,g2,g3,g4,g5,g6⟩:=I.tri a c b h;refine Ji (fun y hy=>(mem_ends.mp hy).2.1) ?_;rcases g6 with g6 |g6
 . left;exact mem_ends.mpr ⟨p.mem_iff.mpr g6,by simp only;lia,by simp only;lia⟩
 . by_cases z:ends c (a,b) ls'=[]
   . exact .inr ⟨z,by lia⟩
   . obtain⟨y,hy⟩:=EW _ z;obtain⟨m1,m2,m3⟩:=mem_ends.mp hy;have:=I.lin c y (p.mem_iff.mp m1);simp only at m2;lia
def thr(T:List P3)(p:P2):P3:=(T.find? fun t=>decide (outer t=p)).getD (0,0,0)
theorem Qx(h:p∈T.map outer):thr T p∈T/\outer (thr T p)=p:=by
 obtain⟨t,ht,e⟩:=CP.mp h;unfold thr;cases hf:T.find? fun t=>decide (outer t=p) with
 |none=>
  have:=List.find?_eq_none.mp hf t ht
  simp[e]at this
 |some u=>
  have h1:=List.mem_of_find?_eq_some hf
  have h2:=List.find?_some hf
  exact⟨h1,by simpa using h2⟩
theorem CInv.thr_outer(I:CInv n ls T)(h:t∈T):thr T (outer t)=t:=by obtain⟨h1,h2⟩:=Qx (T:=T) (CP.mpr ⟨t,h,rfl⟩);obtain⟨a,c,b⟩:=t;generalize thr T (outer (a,c,b))=u at h1 h2;obtain⟨a',c',b'⟩:=u;simp only[outer,Prod.mk.injEq]at h2;obtain⟨rfl,rfl⟩:=h2;have e1:=I.beh1 (.refl _) h1;have e2:=I.beh1 (.refl _) h;rw[e1]at e2;rw[e2]
theorem CInv.tops(I:CInv n ls T)(p:ls'.Perm ls):(((0,n - 1)::ls').map (thr T)).Perm T:=by
 have q:((0,n - 1)::ls').Perm (T.map outer):=(p.cons _).trans I.prm.symm;refine(q.map (thr T)).trans ?_;rw[DI];have:T.map (thr T∘outer)=T:=by
  conv=>rhs;rw[<-List.map_id T]
  exact Ij fun t ht=>I.thr_outer ht
 rw[this]
theorem CInv.top_in(I:CInv n ls T)(p:ls'.Perm ls)(h:q∈(0,n - 1)::ls'):thr T q∈T/\outer (thr T q)=q:=
 Qx ((((p.cons _).trans I.prm.symm).mem_iff).mp h)
theorem CInv.len(I:CInv n ls T):T.length=ls.length+1:=by have:=I.prm.length_eq;simpa using this
end
def bth(x y:Int)(t:P3):Bool:=(decide (x=t.1)||(decide (x=t.2.1)||decide (x=t.2.2)))&&(decide (y=t.1)||(decide (y=t.2.1)||decide (y=t.2.2)))
theorem bth_iff:bth x y (a,c,b)=true↔(x=a\/x=c\/x=b)/\(y=a\/y=c\/y=b):=by simp only[bth,ng,HL,mV]
open Classical in
noncomputable def ee(n:Int)(ls:List P2)(x y:Int):Nat:=(if(x,y)∈ls then 2 else 0)+(if y=x+1/\0<=x/\y<=n - 1 then 1 else 0)+(if x=0/\y=n - 1 then 1 else 0)
def Cnt(n:Int)(ls:List P2)(T:List P3):Prop:=∀x y,x<y->(T.filter (bth x y)).length=ee n ls x y
end Cu
namespace Cu
open Bd (gR)
end Cu
namespace Cu
def b1n(b:Bool):Nat:=if b=true then 1 else 0
theorem wN(x y a c b:Int):b1n (bth x y (a,c,b))=if((x=a\/x=c\/x=b)/\(y=a\/y=c\/y=b)) then 1 else 0:=by
 unfold b1n;by_cases h:bth x y (a,c,b)=true
 . rw[ζ h,ζ (bth_iff.mp h)]
 . rw[ξ h,ξ (fun z=>h (bth_iff.mpr z))]
def e2(x y a b:Int):Nat:=if x=a/\y=b then 1 else 0
theorem y1e(iK:x<y)(h1:a<c)(h2:c<b):b1n (bth x y (a,c,b))=e2 x y a c+e2 x y c b+e2 x y a b:=by
 rw[wN];unfold e2;by_cases z1:x=a/\y=c
 . rw[ζ ⟨.inl z1.1,.inr (.inl z1.2)⟩,ζ z1,ξ (fun z=>by lia),ξ (fun z=>by lia)]
 . by_cases z2:x=c/\y=b
   . rw[ζ ⟨.inr (.inl z2.1),.inr (.inr z2.2)⟩,ξ z1,ζ z2,ξ (fun z=>by clear z1;lia)]
   . by_cases z3:x=a/\y=b
     . rw[ζ ⟨.inl z3.1,.inr (.inr z3.2)⟩,ξ z1,ξ z2,ζ z3]
     . rw[ξ (fun z=>by rcases z with⟨h |h |h,k |k |k⟩<;>first |exact z1 ⟨h,k⟩ |exact z2 ⟨h,k⟩ |exact z3 ⟨h,k⟩ | (clear z1 z2 z3;lia)),ξ z1,ξ z2,ξ z3]
theorem CInv.top_or(I:CInv n ls T)(h:(a,c,b)∈T):(a,b)∈ls\/(a=0/\b=n - 1):=by
 have:(a,b)∈(0,n - 1)::ls:=I.prm.mem_iff.mp (CP.mpr ⟨(a,c,b),h,rfl⟩);rcases gD.mp this with z |z
 . simp only[Prod.mk.injEq]at z;exact .inr z
 . exact .inl z
structure Cut(n:Int)(ls:List P2)(T:List P3):Prop where
 inv:CInv n ls T
 cnt:Cnt n ls T
theorem nc2(I:CInv n ls T)(h:(a,b)∈ls\/b=a+1)(hx:(x,y)∈ls):¬(a<x/\x<b/\b<y)/\¬(x<a/\a<y/\y<b):=by
 rcases h with h |h
 . exact⟨I.nc a b x y h hx,I.nc x y a b hx h⟩
 . lia
theorem nc3(I:CInv n ls T)(h:(a,b)∈ls\/(a=0/\b=n - 1))(hx:(x,y)∈ls):¬(a<x/\x<b/\b<y)/\¬(x<a/\a<y/\y<b):=by
 rcases h with h |h
 . exact⟨I.nc a b x y h hx,I.nc x y a b hx h⟩
 . have:=I.lin x y hx;omega
theorem y3u{p m q r x y:Int}(a2:p<m)(a3:m<q)(b3:q<r)(k1:¬(p<x/\x<m/\m<y)/\¬(x<p/\p<y/\y<m))(k2:¬(m<x/\x<q/\q<y)/\¬(x<m/\m<y/\y<q))(k3:¬(q<x/\x<r/\r<y)/\¬(x<q/\q<y/\y<r))(k4:¬(p<x/\x<r/\r<y)/\¬(x<p/\p<y/\y<r))(h2:¬(x=p/\y=q))(hl:x+2<=y) :
  ¬(m<x/\x<r/\r<y)/\¬(x<m/\m<y/\y<r):=by
 refine⟨fun⟨u,v,z⟩=>k4.1 ⟨EG a2 u,v,z⟩,fun⟨u,v,z⟩=>?_⟩
 rcases HY y q with f |f |f
 . exact k2.2 ⟨u,v,f⟩
 . subst f;rcases HY x p with e |e |e
   . exact k4.2 ⟨e,EG a2 v,z⟩
   . exact h2 ⟨e,rfl⟩
   . exact k1.1 ⟨e,u,v⟩
 . exact k3.2 ⟨EG u a3,f,z⟩
theorem y3v{p m q r x y:Int}(a2:p<m)(a3:m<q)(b2:r<p)(k1:¬(p<x/\x<m/\m<y)/\¬(x<p/\p<y/\y<m))(k2:¬(m<x/\x<q/\q<y)/\¬(x<m/\m<y/\y<q))(k3:¬(r<x/\x<p/\p<y)/\¬(x<r/\r<y/\y<p))(k4:¬(r<x/\x<q/\q<y)/\¬(x<r/\r<y/\y<q))(h2:¬(x=p/\y=q))(hl:x+2<=y) :
  ¬(r<x/\x<m/\m<y)/\¬(x<r/\r<y/\y<m):=by
 refine⟨fun⟨u,v,z⟩=>?_,fun⟨u,v,z⟩=>k4.2 ⟨u,v,EG z a3⟩⟩
 rcases HY x p with e |e |e
 . exact k3.1 ⟨u,e,EG a2 z⟩
 . subst e;rcases HY y q with f |f |f
   . exact k2.2 ⟨v,z,f⟩
   . exact h2 ⟨rfl,f⟩
   . exact k4.1 ⟨u,EG v a3,f⟩
 . exact k1.1 ⟨e,v,z⟩
structure Lns(n:Int)(ls:List P2):Prop where
 n3:3<=n
 lin:∀a b,(a,b)∈ls->0<=a/\a+2<=b/\b<=n - 1/\¬(a=0/\b=n - 1)
 nc:∀a b c d,(a,b)∈ls->(c,d)∈ls->¬(a<c/\c<b/\b<d)
 nd:ls.Nodup
structure Nx(t:P2)(ls:List P2)(nx:Int->Int):Prop where
 up:∀c,c<t.2->c<nx c/\nx c<=t.2
 or:∀c,c<t.2->((c,nx c)∈ls/\(c,nx c)≠t)\/nx c=c+1
 ge:∀c e,(c,e)∈ls->e<=t.2->(c,e)≠t->e<=nx c
inductive Ch (b:Int) (nx:Int->Int):Int->List Int->List P2->Prop
 |last:Ch b nx b [b] []
 |step {c:Int} {l:List Int} {es:List P2} (h:c<b) (r:Ch b nx (nx c) l es):Ch b nx c (c::l) ((c,nx c)::es)
section
variable {b:Int}{nx:Int->Int}{c:Int}{l:List Int}{es:List P2}
theorem Ch.ge(h:Ch b nx c l es)(hu:∀c,c<b->c<nx c/\nx c<=b):(∀x∈l,c<=x/\x<=b)/\l.Pairwise (·<·)/\c∈l/\b∈l:=by
 induction h with
 |last=>exact⟨fun x hx=>by simp at hx;lia,by simp,by simp,by simp⟩
 |step h r ih=>
  have u:=hu _ h
  refine⟨fun x hx=>?_,FP.mpr ⟨fun x hx=>?_,ih.2.1⟩,by simp,dg _ ih.2.2.2⟩
  . rcases gD.mp hx with rfl |hx
    . lia
    . have:=ih.1 x hx;lia
  . have:=ih.1 x hx;lia
theorem Ch.edge(h:Ch b nx c l es)(hu:∀c,c<b->c<nx c/\nx c<=b):(∀x y,(x,y)∈es↔x∈l/\x<b/\y=nx x)/\es.Nodup:=by
 induction h with
 |last=>exact⟨fun x y=>by simp;lia,GZ⟩
 | @step c l es h r ih=>
  have g:=r.ge hu
  have u:=hu _ h
  refine⟨fun x y=>?_,CO.mpr ⟨fun hm=>?_,ih.2⟩⟩
  . rw[gD,ih.1,gD,Prod.mk.injEq];constructor
    . rintro (⟨rfl,rfl⟩ |⟨h1,h2,h3⟩)
      . exact⟨.inl rfl,h,rfl⟩
      . exact⟨.inr h1,h2,h3⟩
    . rintro⟨rfl |h1,h2,h3⟩
      . exact .inl ⟨rfl,h3⟩
      . exact .inr ⟨h1,h2,h3⟩
  . have:=(ih.1 c _).mp hm;have:=g.1 c this.1
    lia
theorem Ch.le(h:Ch b nx c l es)(hu:∀c,c<b->c<nx c/\nx c<=b):∀x y,x∈l->y∈l->x<y->nx x<=y:=by
 induction h with
 |last=>intro x y hx hy;simp at hx hy;lia
 | @step c l es h r ih=>
  have g:=r.ge hu
  have u:=hu _ h
  intro x y hx hy hl
  rcases gD.mp hx with e1 |kx<;>rcases gD.mp hy with e2 |ky
  . lia
  . rw[e1];exact(g.1 y ky).1
  . have:=g.1 x kx;lia
  . exact ih x y kx ky hl
theorem Ch.lo(h:Ch b nx c l es):∀z,c<=z->z<=b->∃p,p∈l/\p<=z/\(z=p\/(p<b/\z<nx p)):=by
 induction h with
 |last=>intro z h1 h2;exact⟨b,by simp,by lia,.inl (by lia)⟩
 | @step c l es h r ih=>
  intro z h1 h2
  by_cases q:z<nx c
  . exact⟨c,by simp,h1,.inr ⟨h,q⟩⟩
  . obtain⟨p,p1,p2,p3⟩:=ih z (by lia) h2;exact⟨p,dg _ p1,p2,p3⟩
theorem Ch.ends(h:Ch b nx c l es):(∃m,l=m++[b])/\∃m,l=c::m:=by
 induction h with
 |last=>exact⟨⟨[],rfl⟩,[],rfl⟩
 | @step c l es h r ih=>obtain⟨⟨m,e⟩,_⟩:=ih;exact⟨⟨c::m,by rw[e];rfl⟩,l,rfl⟩
theorem Ch.ex(hu:∀c,c<b->c<nx c/\nx c<=b):∀(k:Nat)(c:Int),c<=b->(b - c).toNat<=k->∃l es,Ch b nx c l es
 | 0,c,h,hk=>by
  have:c=b:=by lia
  subst this;exact⟨_,_,.last⟩
 |k+1,c,h,hk=>by
  by_cases q:c<b
  . have u:=hu c q;obtain⟨l,es,r⟩:=Ch.ex hu k (nx c) u.2 (by lia);exact⟨_,_,.step q r⟩
  . have:c=b:=by lia
    subst this;exact⟨_,_,.last⟩
theorem Ch.len(h:Ch b nx c l es)(hu:∀c,c<b->c<nx c/\nx c<=b):(l.length:Int)<=b - c+1:=by
 induction h with
 |last=>simp
 | @step c l es h r ih=>have u:=hu _ h;simp;lia
end
theorem Aj(f:α->Nat)(P:α->Prop)(l:List α):∀(k:Nat),(∃x∈l,P x/\f x<=k)->∃x∈l,P x/\∀y∈l,P y->f x<=f y
 | 0,⟨x,h1,h2,h3⟩=>⟨x,h1,h2,fun y _ _=>by lia⟩
 |k+1,⟨x,h1,h2,h3⟩=>by
  by_cases q:∃y∈l,P y/\f y<=k
  . exact Aj f P l k q
  . refine⟨x,h1,h2,fun y hy py=>?_⟩;by_cases z:f y<=k
    . exact absurd ⟨y,hy,py,z⟩ q
    . lia
section
variable {n:Int}{ls:List P2}
def i6(n:Int)(ls:List P2)(t:P2):Prop:=t=(0,n - 1)\/t∈ls
theorem Lns.top(I:Lns n ls)(h:i6 n ls (a,b)):0<=a/\a+2<=b/\b<=n - 1:=by
 have:=I.n3;rcases h with h |h
 . cases h;lia
 . have:=I.lin a b h;lia
theorem Lns.tnc(I:Lns n ls)(h:i6 n ls (a,b))(h':i6 n ls (c,d)):¬(a<c/\c<b/\b<d):=by
 have t1:=I.top h;have t2:=I.top h';rcases h with h |h
 . cases h;omega
 rcases h' with h' |h'
 . cases h';omega
 exact I.nc a b c d h h'
def Cd(n:Int)(ls:List P2)(f:P2):Prop:=f∈ls\/(f.2=f.1+1/\0<=f.1/\f.2<=n - 1)
variable {N:P2->Int->Int}(hN:∀t,i6 n ls t->Nx t ls (N t))
include hN
theorem Lns.inner(I:Lns n ls)(C:P2->List Int)(E:P2->List P2)(hC:∀t,i6 n ls t->Ch t.2 (N t) t.1 (C t) (E t))(hf:Cd n ls f) :
  ∃t,i6 n ls t/\f∈E t/\∀t',i6 n ls t'->f∈E t'->t'=t:=by
 have h3:=I.n3
 obtain⟨c,e⟩:=f
 have pj:0<=c/\c<e/\e<=n - 1:=by
  rcases hf with h |h
  . have:=I.lin c e h;lia
  . simp only at h;lia
 have ug:∀p q,i6 n ls (p,q)->p<c->c<q->e<=q:=fun p q hp h1 h2=>by
  rcases hf with h |h
  . have:=I.tnc hp (.inr h);lia
  . simp only at h;lia
 have f0:((0:Int),n - 1)≠(c,e):=fun z=>by
  cases z;rcases hf with h |h
  . have:=I.lin _ _ h;lia
  . simp only at h;lia
 obtain⟨t,ht,⟨iy,pq,pA⟩,aU⟩:=Aj (fun t:P2=>(t.2 - t.1).toNat) (fun t=>t.1<=c/\e<=t.2/\t≠(c,e)) ((0,n - 1)::ls) (n - 1).toNat ⟨(0,n - 1),by simp,⟨pj.1,pj.2.2,f0⟩,by simp⟩
 obtain⟨a,b⟩:=t
 have hT:i6 n ls (a,b):=gD.mp ht
 have aU:∀p q,i6 n ls (p,q)->p<=c->e<=q->(p,q)≠(c,e)->b - a<=q - p:=fun p q hp h1 h2 h3=>by
  have t1:=I.top hT;have t2:=I.top hp;have:=aU (p,q) (gD.mpr hp) ⟨h1,h2,h3⟩;simp only at this
  lia
 simp only at iy pq
 have tt:=I.top hT
 have X:=hN _ hT
 have Z:=hC _ hT
 have G:=Z.ge X.up
 have Ed:=Z.edge X.up
 refine⟨(a,b),hT,?_,fun t' fJ hm=>?_⟩
 . -- c is a pQ of the room
   obtain⟨p,p1,p2,p3⟩:=Z.lo c iy (by simp only;lia);have iI:=(G.1 p p1).1;simp only at iI p3;have pB:c=p:=by
    rcases p3 with p3 |⟨p3,p4⟩
    . exact p3
    . by_cases q:c=p
      . exact q
      . exfalso;have u:=X.up p p3;simp only at u;rcases X.or p p3 with⟨o1,o2⟩ |o
        . have o3:i6 n ls (p,N (a,b) p):=.inr o1;have:=ug _ _ o3 (by lia) p4;have:=aU _ _ o3 (by lia) this (fun z=>by cases z;lia);exact o2 (FA (by simp only;lia) (by simp only;lia))
        . lia
   subst pB;refine(Ed.1 _ _).mpr ⟨p1,by simp only;lia,?_⟩;have u:=X.up c (by simp only;lia);simp only at u;have pC:e<=N (a,b) c:=by
    rcases hf with h |h
    . exact X.ge c e h pq (fun z=>pA z.symm)
    . simp only at h;lia
   by_cases q:e=N (a,b) c
   . exact q
   . exfalso;rcases X.or c (by simp only;lia) with⟨o1,o2⟩ |o
     . have o3:i6 n ls (c,N (a,b) c):=.inr o1;have:=aU _ _ o3 (by lia) pC (fun z=>by cases z;lia);exact o2 (FA (by simp only;lia) (by simp only;lia))
     . lia
 . obtain⟨a',b'⟩:=t';have X':=hN _ fJ;have Z':=hC _ fJ;have G':=Z'.ge X'.up;have uh:=(Z'.edge X'.up).1 c e;obtain⟨m1,m2,m3⟩:=uh.mp hm;have u':=X'.up c m2;have mc:=(G'.1 c m1).1;simp only at m2 u' mc;have BQ:=I.top fJ;have ui:(a',b')≠(c,e):=fun z=>by
    cases z;rcases X'.or c m2 with⟨o1,o2⟩ |o
    . exact o2 (by rw[<-m3])
    . rw[<-m3]at o;lia
   have hl:=aU a' b' fJ mc (by lia) ui;have n1:=I.tnc hT fJ;have n2:=I.tnc fJ hT;have ha:a'<=a:=by lia
   have hb:b<=b':=by lia
   by_cases eq:(a',b')=(a,b)
   . exact eq
   exfalso;have cw:(a,b)∈ls:=by
    rcases hT with h |h
    . cases h;exact absurd (FA (by simp only;lia) (by simp only;lia)) eq
    . exact h
   have pC:=X'.ge a b cw hb (fun z=>eq z.symm);by_cases q:a=c
   . subst q;exact pA (FA rfl (by simp only;lia))
   . obtain⟨p,p1,p2,p3⟩:=Z'.lo a ha (by simp only;lia);have pB:=Z'.le X'.up p c p1 m1 (by lia);simp only at p3;rcases p3 with p3 |⟨p3,p4⟩
     . subst p3;lia
     . by_cases q2:a=p
       . subst q2;lia
       . rcases X'.or p p3 with⟨o1,o2⟩ |o
         . have:=I.tnc (.inr o1) hT
           lia
         . lia
omit hN in
theorem Lns.room(I:Lns n ls)(ht:i6 n ls t)(X:Nx t ls nx)(Z:Ch t.2 nx t.1 C E) :
  3<=C.length/\(∀x∈C,0<=x/\x<=n - 1)/\t∉E/\(∀f∈E,Cd n ls f/\f.1<f.2)/\∀c e,(c,e)∈ls->c∈C->e∈C->(c,e)∈E\/(c,e)=t:=by
 obtain⟨a,b⟩:=t
 have tt:=I.top ht
 have G:=Z.ge X.up
 have Ed:=Z.edge X.up
 have ua:=X.up a (by simp only;lia)
 simp only at ua
 have na:nx a<b:=by
  rcases X.or a (by simp only;lia) with⟨o1,o2⟩ |o
  . have:nx a≠b:=fun z=>o2 (by rw[z])
    lia
  . lia
 refine⟨?_,fun x hx=>?_,fun hm=>?_,fun f hf=>?_,fun c e h hc he=>?_⟩
 . cases Z with
   |last=>lia
   |step h r=>
    rename_i l es
    generalize hx:nx a=x at *
    cases r with
    |last=>lia
    |step h2 r2=>
     obtain⟨m,e⟩:=r2.ends.2
     rw[e];simp
 . have:=G.1 x hx;simp only at this;lia
 . have:=(Ed.1 a b).mp hm;lia
 . obtain⟨c,e⟩:=f;obtain⟨h1,h2,h3⟩:=(Ed.1 c e).mp hf;have u:=X.up c h2;have:=(G.1 c h1).1;simp only at this u h2;refine⟨?_,by simp only;lia⟩;rcases X.or c h2 with⟨o1,o2⟩ |o
   . exact .inl (by rw[h3];exact o1)
   . exact .inr ⟨by simp only;lia,by simp only;lia,by simp only;lia⟩
 . by_cases q:(c,e)=(a,b)
   . exact .inr q
   . left;have l:=I.lin c e h;have h1:=G.1 e he;simp only at h1;have g:=X.ge c e h h1.2 q;have k:=Z.le X.up c e hc he (by lia);exact(Ed.1 c e).mpr ⟨hc,by simp only;lia,by lia⟩
end
theorem Bh:∀{l:List α},(∀x∈l,φ x=0)->(l.map φ).sum=0
 | [],_=>rfl
 |a::l,h=>by rw[gq,FI,h a (by simp),Bh fun x hx=>h x (by simp[hx])]
theorem Bg:∀{l:List α},l.Nodup->t∈l->(∀x∈l,x≠t->φ x=0)->(l.map φ).sum=φ t
 | [],_,h,_=>by cases h
 |a::l,nd,h,hz=>by
  rw[gq,FI];have cE:=CO.mp nd;by_cases e:a=t
  . subst e;rw[Bh fun x hx=>hz x (by simp[hx]) fun z=>cE.1 (by rw[<-z];exact hx)];lia
  . rw[hz a (by simp) e,Bg cE.2 ((gD.mp h).resolve_left fun z=>e z.symm) fun x hx hn=>hz x (by simp[hx]) hn];lia
theorem Tp{α:Type}{φ ψ:α->Nat}:∀{l:List α},(l.map fun x=>φ x+ψ x).sum=(l.map φ).sum+(l.map ψ).sum
 | []=>rfl
 |a::l=>by rw[gq,gq,gq,FI,FI,FI,Tp (l:=l)];lia
section
variable {n:Int}{ls:List P2}{N:P2->Int->Int}
theorem Lns.tops_nd(I:Lns n ls):((0,n - 1)::ls).Nodup:=CO.mpr ⟨fun h=>by have:=I.lin _ _ h;omega,I.nd⟩
theorem Lns.twice(I:Lns n ls)(hN:∀t,i6 n ls t->Nx t ls (N t))(C:P2->List Int)(E:P2->List P2)(hC:∀t,i6 n ls t->Ch t.2 (N t) t.1 (C t) (E t))(hf:f=(0,n - 1)\/Cd n ls f) :
  (((0,n - 1)::ls).map fun t=>(E t++[t]).count f).sum=if f∈ls then 2 else 1:=by
 have e1:(fun t=>(E t++[t]).count f)=fun t=>(E t).count f+[t].count f:=by funext t;rw[List.count_append]
 rw[e1,Tp]
 have nd:=I.tops_nd
 have mt:∀t,t∈(0,n - 1)::ls↔i6 n ls t:=fun t=>gD
 have c1:∀t,i6 n ls t->(E t).count f=if f∈E t then 1 else 0:=fun t ht=>by rw[(((hC t ht).edge (hN t ht).up).2).count]
 have s2:∀t,[t].count f=if t=f then 1 else 0:=fun t=>by
  rw[List.count_singleton];by_cases z:t=f
  . rw[ζ z];simp[z]
  . rw[ξ z,ξ (by simpa using z)]
 by_cases h0:f∈ls
 . rw[ζ h0];obtain⟨t,ht,hm,hu⟩:=I.inner hN C E hC (.inl h0);rw[Bg nd ((mt t).mpr ht) (fun x hx hn=>by rw[c1 x ((mt x).mp hx),ξ fun z=>hn (hu x ((mt x).mp hx) z)]),Bg (t:=f) nd (by simp[h0]) (fun x hx hn=>by rw[s2,ξ hn]),c1 t ht,ζ hm,s2,ζ rfl]
 . rw[ξ h0];rcases hf with hf |hf
   . rw[Bh (fun x hx=>by
      rw[c1 x ((mt x).mp hx),ξ fun z=>?_];have:=((I.room ((mt x).mp hx) (hN _ ((mt x).mp hx)) (hC _ ((mt x).mp hx))).2.2.2.1 f z).1;rcases this with q |q
      . exact h0 q
      . have:=I.n3;rw[hf]at q;simp only at q;lia),Bg (t:=f) nd (by simp[hf]) (fun x hx hn=>by rw[s2,ξ hn]),s2,ζ rfl]
   . obtain⟨t,ht,hm,hu⟩:=I.inner hN C E hC hf;rw[Bg nd ((mt t).mpr ht) (fun x hx hn=>by
      rw[c1 x ((mt x).mp hx),ξ fun z=>hn (hu x ((mt x).mp hx) z)]),Bh (φ:=fun t=>[t].count f) (fun x hx=>by
      rw[s2,ξ fun z=>?_];rw[z]at hx;rcases gD.mp hx with q |q
      . rcases hf with hf |hf
        . exact h0 hf
        . have:=I.n3;rw[q]at hf;simp only at hf;lia
      . exact h0 q),c1 t ht,ζ hm]
end
end Cu
namespace Cu
open L2 (mxD Ax)
def nxt(ls:List P2)(t:P2)(c:Int):Int:=mxD (c+1) (ends c t ls)
theorem Je:(mxD d ys∈ys\/(ys=[]/\mxD d ys=d))/\∀y∈ys,y<=mxD d ys:=by
 cases ys with
 |nil=>exact⟨.inr ⟨rfl,rfl⟩,fun y hy=>by cases hy⟩
 |cons n ns=>
  obtain⟨a,b⟩:=Ax ns n
  exact⟨.inl a,b⟩
theorem Di(I:Lns n ls)(t:P2):Nx t ls (nxt ls t) where
 up:=fun c hc=>by
  unfold nxt;rcases (Je (d:=c+1) (ys:=ends c t ls)).1 with h |⟨_,h⟩
  . obtain⟨m1,m2,m3⟩:=mem_ends.mp h;have:=I.lin _ _ m1;exact⟨by lia,m2⟩
  . rw[h];lia
 or:=fun c hc=>by
  unfold nxt;rcases (Je (d:=c+1) (ys:=ends c t ls)).1 with h |⟨_,h⟩
  . obtain⟨m1,m2,m3⟩:=mem_ends.mp h;exact .inl ⟨m1,fun z=>m3 ⟨EH Prod.fst z,EH Prod.snd z⟩⟩
  . exact .inr h
 ge:=fun c e h1 h2 h3=>(Je (d:=c+1) (ys:=ends c t ls)).2 e (mem_ends.mpr ⟨h1,h2,fun z=>h3 (FA z.1 z.2)⟩)
theorem CInv.lns(I:CInv n ls T)(nd:xs.Nodup)(h:∀p∈xs,p∈ls):Lns n xs:=
 ⟨I.n3,fun a b m=>I.lin a b (h _ m),fun a b c d m1 m2=>I.nc a b c d (h _ m1) (h _ m2),nd⟩
theorem To(p:α->Bool):∀l:List α,(l.filter p).length=(l.map fun x=>b1n (p x)).sum
 | []=>rfl
 |x::l=>by rw[gq,FI,<-To p l,GC];unfold b1n;cases p x<;>simp<;>lia
theorem Qw(I:CInv n ls T):Cnt n ls T:=by
 intro x y iK;have L:=I.lns I.nd fun _ z=>z
 have hC:∀t,i6 n ls t->Ch t.2 (nxt ls t) t.1 [(thr T t).1,(thr T t).2.1,(thr T t).2.2] [((thr T t).1,(thr T t).2.1),((thr T t).2.1,(thr T t).2.2)]:=fun t ht=>by
  obtain⟨m,o⟩:=I.top_in (.refl _) (q:=t) (by rcases ht with rfl |h;exact io;exact dg _ h);generalize thr T t=u at m o;obtain⟨a,c,b⟩:=u;simp only[outer]at o;subst o;have g:=I.tri a c b m;have e1:nxt ls (a,b) a=c:=I.beh1 (.refl _) m;have e2:nxt ls (a,b) c=b:=I.beh2 (.refl _) m;have s2:Ch b (nxt ls (a,b)) c [c,b] [(c,b)]:=by have:=Ch.step (b:=b) (nx:=nxt ls (a,b)) (c:=c) (l:=[b]) (es:=[]) (by omega) (by rw[e2];exact .last);rwa [e2]at this
  have s1:=Ch.step (b:=b) (nx:=nxt ls (a,b)) (c:=a) (l:=[c,b]) (es:=[(c,b)]) (by omega) (by rw[e1];exact s2);rw[e1]at s1;exact s1
 have key:(T.filter (bth x y)).length=(((0,n - 1)::ls).map fun t=>([((thr T t).1,(thr T t).2.1),((thr T t).2.1,(thr T t).2.2)]++[t]).count (x,y)).sum:=by rw[<-((I.tops (.refl ls)).filter (bth x y)).length_eq,To,DI];refine EH List.sum (Ij fun t ht=>?_);obtain⟨m,o⟩:=I.top_in (.refl _) (q:=t) ht;show b1n (bth x y (thr T t))=_;generalize thr T t=u at m o;obtain⟨a,c,b⟩:=u;simp only[outer]at o;subst o;have g:=I.tri a c b m;rw[y1e iK (by omega) (by omega)];unfold e2;simp only[GD,HI,List.count_cons,List.count_nil,Im,Prod.mk.injEq];have c1:(a=x/\c=y)↔(x=a/\y=c):=⟨fun z=>⟨z.1.symm,z.2.symm⟩,fun z=>⟨z.1.symm,z.2.symm⟩⟩;have c2:(c=x/\b=y)↔(x=c/\y=b):=⟨fun z=>⟨z.1.symm,z.2.symm⟩,fun z=>⟨z.1.symm,z.2.symm⟩⟩;have c3:(a=x/\b=y)↔(x=a/\y=b):=⟨fun z=>⟨z.1.symm,z.2.symm⟩,fun z=>⟨z.1.symm,z.2.symm⟩⟩;simp only[c1,c2,c3];omega
 rw[key];by_cases hf:(x,y)=(0,n - 1)\/Cd n ls (x,y)
 . rw[L.twice (fun t _=>Di L t) (fun t=>[(thr T t).1,(thr T t).2.1,(thr T t).2.2]) (fun t=>[((thr T t).1,(thr T t).2.1),((thr T t).2.1,(thr T t).2.2)]) hC hf];unfold ee;by_cases hm:(x,y)∈ls
   . have:=I.lin x y hm;rw[ζ hm,ζ hm,ξ (by omega),ξ (by omega)]
   . have h3:=I.n3;rw[ξ hm,ξ hm];rcases hf with hf |hf |hf
     . simp only[Prod.mk.injEq]at hf;rw[ξ (by omega),ζ hf]
     . exact absurd hf hm
     . simp only at hf;rw[ζ ⟨hf.1,hf.2.1,hf.2.2⟩,ξ (by omega)]
 . have z:∀t∈(0,n - 1)::ls,([((thr T t).1,(thr T t).2.1),((thr T t).2.1,(thr T t).2.2)]++[t]).count (x,y)=0:=fun t ht=>by
    rw[List.count_eq_zero]
    intro hm
    have tt:i6 n ls t:=gD.mp ht
    rcases CK.mp hm with hm |hm
    . have:=((L.room tt (Di L t) (hC t tt)).2.2.2.1 (x,y) hm).1;exact hf (.inr this)
    . rw[gV]at hm;rw[hm]at hf;rcases tt with tt |tt
      . exact hf (.inl tt)
      . exact hf (.inr (.inl tt))
   rw[Bh z]
   unfold ee
   have n1:(x,y)∉ls:=fun h=>hf (.inr (.inl h))
   rw[ξ n1,ξ (fun h=>hf (.inr (.inr ⟨h.1,h.2.1,h.2.2⟩))),ξ (fun h=>hf (.inl (by rw[h.1,h.2])))]
theorem CInv.cut(I:CInv n ls T):Cut n ls T:=⟨I,Qw I⟩
end Cu
namespace Cu
theorem Cut.two(K:Cut n ls T)(hl:l∈ls):(T.filter (bth l.1 l.2)).length=2:=by have:=K.inv.lin l.1 l.2 hl;rw[K.cnt l.1 l.2 (by omega)];unfold ee;rw[ζ (show(l.1,l.2)∈ls from hl),ξ (by omega),ξ (by omega)]
theorem L9{ls ls0:List P2}{p q:Int}{w:P2}(pl:ls.Perm ((p,q)::ls0)){x y:Int}(h1:(x,y)∈ls)(h2:¬(x=p/\y=q)):(x,y)∈ls0++[w]:=by
 rcases gD.mp (pl.mem_iff.mp h1) with z |z
 . exact absurd (Prod.mk.inj z) h2
 . exact DC _ z
theorem Cut.turnG(K:Cut n ls T)(pT:T.Perm (t1::t2::T0))(pl:ls.Perm ((p,q)::ls0))(b1:bth p q t1=true)(b2:bth p q t2=true)
  (hu:∀u,u=u1\/u=u2->0<=u.1/\u.1<u.2.1/\u.2.1<u.2.2/\u.2.2<=n - 1/\((u.1,u.2.1)∈ls0++[(a,b)]\/u.2.1=u.1+1)/\((u.2.1,u.2.2)∈ls0++[(a,b)]\/u.2.2=u.2.1+1))
  (hw:0<=a/\a+2<=b/\b<=n - 1/\¬(a=0/\b=n - 1)) (new:∀x y,(x,y)∈ls->¬(x=p/\y=q)->¬(a<x/\x<b/\b<y)/\¬(x<a/\a<y/\y<b)) (wn:(a,b)∉ls)
  (hp:∀s,((outer t1)::(outer t2)::T0.map outer).Perm ((p,q)::s)->((outer u1)::(outer u2)::T0.map outer).Perm ((a,b)::s)) :
  Cut n (ls0++[(a,b)]) (u1::u2::T0):=by
 have I:=K.inv
 have fK:=CO.mp (pl.nodup_iff.mp I.nd)
 have fj:(p,q)∈ls:=pl.mem_iff.mpr io
 have sub:∀x y,(x,y)∈ls0->(x,y)∈ls/\¬(x=p/\y=q):=fun x y h=>⟨pl.mem_iff.mpr (dg _ h),fun z=>fK.1 (by rw[<-z.1,<-z.2];exact h)⟩
 refine CInv.cut ⟨I.n3,fun x y z h=>?_,fun x y h=>?_,fun x y z w h h'=>?_,?_,?_⟩
 . rcases gD.mp h with h |h
   . exact hu _ (.inl h)
   rcases gD.mp h with h |h
   . exact hu _ (.inr h)
   . obtain⟨c1,c2,c3,c4,c5,c6⟩:=I.tri x y z (pT.mem_iff.mpr (dg _ (dg _ h)));have e:=(pT.filter (bth p q)).length_eq;rw[show(T.filter (bth p q)).length=2 from K.two fj,DZ b1,DZ b2]at e;have nil:T0.filter (bth p q)=[]:=EQ.mp (Nat.succ.inj (Nat.succ.inj e)).symm;have nb:¬(bth p q (x,y,z)=true):=fun w=>FD (nil ▸ CT.mpr ⟨h,w⟩)
     rw[bth_iff]at nb;exact⟨c1,c2,c3,c4,c5.imp (fun h=>L9 pl h fun e=>nb ⟨.inl e.1.symm,.inr (.inl e.2.symm)⟩) id,c6.imp (fun h=>L9 pl h fun e=>nb ⟨.inr (.inl e.1.symm),.inr (.inr e.2.symm)⟩) id⟩
 . rcases CK.mp h with h |h
   . exact I.lin x y (sub x y h).1
   . obtain⟨rfl,rfl⟩:=Prod.mk.inj (gV.mp h);exact hw
 . rcases CK.mp h with k |k<;>rcases CK.mp h' with k' |k'
   . exact I.nc x y z w (sub x y k).1 (sub z w k').1
   . obtain⟨e1,e2⟩:=Prod.mk.inj (gV.mp k');rw[e1,e2];exact(new x y (sub x y k).1 (sub x y k).2).2
   . obtain⟨e1,e2⟩:=Prod.mk.inj (gV.mp k);rw[e1,e2];exact(new z w (sub z w k').1 (sub z w k').2).1
   . rw[(Prod.mk.inj (gV.mp k)).1,(Prod.mk.inj (gV.mp k')).1];exact fun e=>Iy _ e.1
 . rw[ER];refine⟨fK.2,CO.mpr ⟨FD,GZ⟩,fun x hx y hy e=>wn ?_⟩;rw[<-gV.mp hy,<-e];exact(sub _ _ hx).1
 . refine(hp _ (((pT.map outer).symm.trans I.prm).trans ((pl.cons _).trans (.swap _ _ _)))).trans ?_;exact(List.Perm.swap _ _ _).trans (List.Perm.cons _ (Io _ _).symm)
theorem Cut.turnA(K:Cut n ls T)(pT:T.Perm ((p,m,q)::(p,q,r)::T0))(pl:ls.Perm ((p,q)::ls0)) :
  Cut n (ls0++[(m,r)]) ((p,m,r)::(m,q,r)::T0):=by
 have I:=K.inv
 have m2:(p,q,r)∈T:=pT.mem_iff.mpr (dg _ io)
 obtain⟨a1,a2,a3,a4,a5,a6⟩:=I.tri p m q (pT.mem_iff.mpr io)
 obtain⟨b1,b2,b3,b4,b5,b6⟩:=I.tri p q r m2
 have tp:=I.top_or m2
 have fj:(p,q)∈ls:=pl.mem_iff.mpr io
 have mN:(m,r)∈ls0++[(m,r)]:=CQ _ io
 have c1:0<=m:=FN (FE a1 a2)
 refine K.turnG pT pl (bth_iff.mpr ⟨.inl rfl,.inr (.inr rfl)⟩) (bth_iff.mpr ⟨.inl rfl,.inr (.inl rfl)⟩) (fun u h=>?_) ⟨c1,by clear a5 a6 b5 b6 tp;lia,b4,fun z=>by have:=z.1;lia⟩ (fun x y h1 h2=>y3u a2 a3 b3 (nc2 I a5 h1) (nc2 I a6 h1) (nc2 I b6 h1) (nc3 I tp h1) h2 (I.lin x y h1).2.1) (fun z=>I.nc p q m r fj z ⟨a2,a3,b3⟩) (fun s h=>?_)
 . rcases h with rfl |rfl
   . exact⟨a1,a2,EG a3 b3,b4,a5.imp (fun h=>L9 pl h fun z=>Int.ne_of_lt a3 z.2) id,.inl mN⟩
   . exact⟨c1,a3,b3,b4,a6.imp (fun h=>L9 pl h fun z=>Int.ne_of_gt a2 z.1) id,b6.imp (fun h=>L9 pl h fun z=>Int.ne_of_gt b3 z.2) id⟩
 . exact(List.Perm.swap _ _ _).trans (((List.perm_cons (p,q)).mp h).cons _)
theorem Cut.turnB(K:Cut n ls T)(pT:T.Perm ((p,m,q)::(r,p,q)::T0))(pl:ls.Perm ((p,q)::ls0)) :
  Cut n (ls0++[(r,m)]) ((r,p,m)::(r,m,q)::T0):=by
 have I:=K.inv
 have m2:(r,p,q)∈T:=pT.mem_iff.mpr (dg _ io)
 obtain⟨a1,a2,a3,a4,a5,a6⟩:=I.tri p m q (pT.mem_iff.mpr io)
 obtain⟨b1,b2,b3,b4,b5,b6⟩:=I.tri r p q m2
 have tp:=I.top_or m2
 have fj:(p,q)∈ls:=pl.mem_iff.mpr io
 have mN:(r,m)∈ls0++[(r,m)]:=CQ _ io
 have c1:m<=n - 1:=FN (DO a3 a4)
 refine K.turnG pT pl (bth_iff.mpr ⟨.inl rfl,.inr (.inr rfl)⟩) (bth_iff.mpr ⟨.inr (.inl rfl),.inr (.inr rfl)⟩) (fun u h=>?_) ⟨b1,by clear a5 a6 b5 b6 tp;lia,c1,fun z=>by have:=z.2;lia⟩ (fun x y h1 h2=>y3v a2 a3 b2 (nc2 I a5 h1) (nc2 I a6 h1) (nc2 I b5 h1) (nc3 I tp h1) h2 (I.lin x y h1).2.1) (fun z=>I.nc r m p q z fj ⟨b2,a2,a3⟩) (fun s h=>?_)
 . rcases h with rfl |rfl
   . exact⟨b1,b2,a2,c1,b5.imp (fun h=>L9 pl h fun z=>Int.ne_of_lt b2 z.1) id,a5.imp (fun h=>L9 pl h fun z=>Int.ne_of_lt a3 z.2) id⟩
   . exact⟨b1,EG b2 a2,a3,a4,.inl mN,a6.imp (fun h=>L9 pl h fun z=>Int.ne_of_gt a2 z.1) id⟩
 . exact((List.perm_cons (p,q)).mp h).cons _
theorem CInv.T_nodup(I:CInv n ls T):T.Nodup:=by
 have h:((0,n - 1)::ls).Nodup:=by rw[CO];exact⟨fun z=>by have:=I.lin _ _ z;omega,I.nd⟩
 have:=I.prm.nodup_iff.mpr h;exact List.Pairwise.of_map outer (fun a b h e=>h (by rw[e])) this
open L2 (so3 Q1 soI Fs ltT L Fv J7 Oa Fe K0)
theorem Be(p:a.Perm b):soI a=soI b:=by have:=Fv (J7 b L2.D.int Oa) (p.map L2.D.int);rw[Fe,Fe]at this;exact K0 (fun _ _ h=>by cases h;rfl) this
theorem Dh(h:a<b):soI [a,b]=[a,b]:=by
 have e:ltT (L2.D.int b) (L2.D.int a)=false:=by simp only[L2.ltT];exact decide_eq_false (by lia)
 simp only[soI,L2.sortB,L2.insB,e,CM,DR]
def dues(T:List P3)(p:P2):List Int:=soI (((so3 T).filter (bth p.1 p.2)).map fun t=>t.1+(t.2.1+(t.2.2+0)) - (p.1+(p.2+0)))
theorem Tn(h:(T.filter (bth p.1 p.2)).Perm F):dues T p=soI (F.map fun t=>t.1+(t.2.1+(t.2.2+0)) - (p.1+(p.2+0))):=
 Be (((((Q1 T).filter _).trans h)).map _)
theorem L8(I:CInv n ls T)(h:(a,b)=(0,n - 1)\/(a,b)∈ls):∃m,(a,m,b)∈T:=by obtain⟨t1,t2⟩:=I.top_in (ls':=ls) (.refl _) (q:=(a,b)) (gD.mpr h);generalize Cu.thr T (a,b)=u at t1 t2;obtain⟨x,m,y⟩:=u;simp only[outer,Prod.mk.injEq]at t2;obtain⟨rfl,rfl⟩:=t2;exact⟨m,t1⟩
section
variable {n:Int}{ls:List P2}{T:List P3}{p m q r:Int}
theorem Jd{α:Type}[DecidableEq α]{l:List α}{x y:α}(hx:x∈l)(hy:y∈l)(ag:x≠y):∃s,l.Perm (x::y::s):=by have uj:y∈l.erase x:=(List.mem_erase_of_ne (GF ag)).mpr hy;exact⟨(l.erase x).erase y,(GX hx).trans ((GX uj).cons x)⟩
theorem Tm(K:Cut n ls T)(h:l∈ls)(h1:t1∈T)(h2:t2∈T)(ag:t1≠t2)(b1:bth l.1 l.2 t1=true)(b2:bth l.1 l.2 t2=true):(T.filter (bth l.1 l.2)).Perm [t1,t2]:=by
 obtain⟨T0,pT⟩:=Jd h1 h2 ag;have e:=pT.filter (bth l.1 l.2);rw[DZ b1,DZ b2]at e;have l0:(T0.filter (bth l.1 l.2)).length=0:=by
  have:=e.length_eq;rw[K.two h]at this;simp only[pp]at this
  lia
 rwa [EQ.mp l0]at e
theorem U7(K:Cut n ls T)(h:(p,q)∈ls)(h1:(p,m,q)∈T)(h2:(p,q,r)∈T):dues T (p,q)=[m,r]:=by have g1:=K.inv.tri _ _ _ h1;have g2:=K.inv.tri _ _ _ h2;rw[Tn (Tm K h h1 h2 (by simp only[ne_eq,Prod.mk.injEq];omega) (bth_iff.mpr (by simp)) (bth_iff.mpr (by simp)))];simp only[gq,DH];rw[show p+(m+(q+0)) - (p+(q+0))=m by omega,show p+(q+(r+0)) - (p+(q+0))=r by omega];exact Dh (by omega)
theorem P6(K:Cut n ls T)(h:(p,q)∈ls)(h1:(p,m,q)∈T)(h2:(r,p,q)∈T):dues T (p,q)=[r,m]:=by have g1:=K.inv.tri _ _ _ h1;have g2:=K.inv.tri _ _ _ h2;rw[Tn (Tm K h h1 h2 (by simp only[ne_eq,Prod.mk.injEq];omega) (bth_iff.mpr (by simp)) (bth_iff.mpr (by simp)))];simp only[gq,DH];rw[show p+(m+(q+0)) - (p+(q+0))=m by omega,show r+(p+(q+0)) - (p+(q+0))=r by omega,Be (List.Perm.swap r m [])];exact Dh (by omega)
theorem above(K:Cut n ls T)(h:(p,q)∈ls):∃m r,(p,m,q)∈T/\((p,q,r)∈T\/(r,p,q)∈T):=by
 obtain⟨m,hm⟩:=L8 K.inv (.inr h);have g:=K.inv.tri _ _ _ hm;have two:=K.two h;simp only at two;obtain⟨u,hu,ag⟩:∃u,u∈T.filter (bth p q)/\u≠(p,m,q):=by
  have cw:(p,m,q)∈T.filter (bth p q):=CT.mpr ⟨hm,bth_iff.mpr (by simp)⟩;have nd:(T.filter (bth p q)).Nodup:=K.inv.T_nodup.filter _
  match hf:T.filter (bth p q),two with
  | [x,y],_=>
   rw[hf]at nd cw
   simp only[CO,gV]at nd
   by_cases e:x=(p,m,q)
   . exact⟨y,by simp,fun z=>nd.1 (by rw[e,z])⟩
   . exact⟨x,by simp,e⟩
 obtain⟨gW,hb⟩:=CT.mp hu;obtain⟨x,y,z⟩:=u;have g2:=K.inv.tri _ _ _ gW;have hb:=bth_iff.mp hb;refine⟨m,?_⟩;rcases hb with⟨c1,c2⟩;by_cases e1:p=x/\q=y
 . exact⟨z,hm,.inl (by rw[e1.1,e1.2];exact gW)⟩
 by_cases e2:p=y/\q=z
 . exact⟨x,hm,.inr (by rw[e2.1,e2.2];exact gW)⟩
 have e3:p=x/\q=z:=by
  have ga:=g.2.1;have gb:=g.2.2.1;have gc:=g2.2.1;have gd:=g2.2.2.1;clear g g2 two hu gW ag;rcases c1 with c1 |c1 |c1<;>rcases c2 with c2 |c2 |c2
  . lia
  . exact absurd ⟨c1,c2⟩ e1
  . exact⟨c1,c2⟩
  . lia
  . lia
  . exact absurd ⟨c1,c2⟩ e2
  . lia
  . lia
  . lia
 have o1:=K.inv.thr_outer hm;have o2:=K.inv.thr_outer gW;simp only[outer]at o1 o2;rw[<-e3.1,<-e3.2,o1]at o2;exact absurd (by rw[<-e3.1,<-e3.2];exact o2.symm) ag
end
theorem Cut.turn(K:Cut n ls T)(hl:l∈ls) :
  ∃(w:P2)(ls0:List P2)(T':List P3),ls.Perm (l::ls0)/\Cut n (ls0++[w]) T'/\dues T l=[w.1,w.2]/\dues T' w=[l.1,l.2]/\w∉ls:=by
 obtain⟨p,q⟩:=l
 have I:=K.inv
 obtain⟨m,r,h1,h2⟩:=above K hl
 have g1:=(I.tri _ _ _ h1).2
 have pl:ls.Perm ((p,q)::ls.erase (p,q)):=GX hl
 rcases h2 with h2 |h2
 . have g2:=(I.tri _ _ _ h2).2.2.1;obtain⟨T0,pT⟩:=Jd h1 h2 (fun e=>by have:=EH (fun t:P3=>t.2.1) e;simp only at this;have:=g1.2.1;omega);have K':=K.turnA pT pl;exact⟨(m,r),_,_,pl,K',U7 K hl h1 h2,P6 K' (m:=q) (CQ _ io) (dg _ io) io,fun z=>I.nc p q m r hl z ⟨g1.1,g1.2.1,g2⟩⟩
 . have g2:=(I.tri _ _ _ h2).2.1;obtain⟨T0,pT⟩:=Jd h1 h2 (fun e=>by have:=EH (fun t:P3=>t.1) e;simp only at this;omega);have K':=K.turnB pT pl;exact⟨(r,m),_,_,pl,K',P6 K hl h1 h2,U7 K' (m:=p) (CQ _ io) io (dg _ io),fun z=>I.nc r m p q z hl ⟨g2,g1.1,g1.2.1⟩⟩
end Cu
namespace Cu
open L2 (so2 l8 Av ltT T2 Srt Bj X1 J7 T8 K0 Al D)
theorem Qv(p q:P2):ltT (T2 p) (T2 q)=decide (p.1<q.1\/(p.1=q.1/\p.2<q.2)):=by
 obtain⟨a,b⟩:=p;obtain⟨c,d⟩:=q;simp only[T2,L2.ltT,L2.ltTs,L2.eqD];by_cases h1:a<c
 . have:¬a=c:=by lia
   simp[h1,this]
 . by_cases h2:c<a
   . simp[h1,show ¬a=c by lia]
   . have:a=c:=by lia
     subst this;by_cases h3:b<d
     . simp[h3,show ¬b=d by lia]
     . by_cases h4:b=d
       . simp[h4]
       . simp[h3,h4]
def le2(a b:P2):Prop:=a.1<b.1\/(a.1=b.1/\a.2<=b.2)
theorem Kd(xs:List P2):Srt (xs.map T2)↔xs.Pairwise le2:=by
 unfold Srt;rw[GQ];constructor
 . exact fun h=>h.imp fun {a b} h=>(by rw[Qv,CS]at h;unfold le2;omega)
 . exact fun h=>h.imp fun {a b} h=>(by rw[Qv,CS];unfold le2 at h;omega)
theorem Qu(ls:List P2):(so2 ls).Pairwise le2:=by rw[<-Kd,<-Av];exact X1 (J7 ls T2 T8)
theorem qE(h:xs.Pairwise le2)(p:xs.Perm ls):xs=so2 ls:=by have:=Bj (J7 xs T2 T8) ((p.trans (l8 ls).symm).map T2) ((Kd xs).mpr h) ((Kd _).mpr (Qu ls));exact K0 (fun _ _=>Al) this
end Cu
namespace Cu
open L2 (so2 l8 w8)
def nr(p:P2):P2:=if p.1<p.2 then p else(p.2,p.1)
theorem CInv.perm(I:CInv n ls T)(p:ls'.Perm ls):CInv n ls' T where
 n3:=I.n3
 tri:=fun a c b h=>by rw[p.mem_iff,p.mem_iff];exact I.tri a c b h
 lin:=fun a b h=>I.lin a b (p.mem_iff.mp h)
 nc:=fun a b c d h h'=>I.nc a b c d (p.mem_iff.mp h) (p.mem_iff.mp h')
 nd:=p.nodup_iff.mpr I.nd
 prm:=I.prm.trans (p.symm.cons _)
def C8(o:List Int)(k:Nat)(x:Int):List Int:=o.take k++x::o.drop k
theorem Vo(o:List Int)(k:Nat)(x:Int):(C8 o k x).length=o.length+1:=by simp only[C8,χ,pp,CU,DD];omega
theorem wM(o:List Int)(k:Nat)(x:Int)(hk:k<=o.length)(i:Nat)(hi:i<o.length):(C8 o k x).getD (if k<=i then i+1 else i) 0=o.getD i 0:=by
 unfold C8;simp only[CI];by_cases h:k<=i
 . rw[ζ h,DP (by rw[CU];lia),CU,show i+1 - min k o.length=(i - k)+1 by lia,List.getElem?_cons_succ,List.getElem?_drop,show k+(i - k)=i by lia]
 . rw[ξ h,EI (by rw[CU];lia),List.getElem?_take,ζ (by lia)]
def nmP(o:List Int)(p:P2):P2:=(o.getD p.1.toNat 0,o.getD p.2.toNat 0)
structure Bld(o:List Int)(ps:List P2)(T:List P3):Prop where
 rng:∀x∈o,0<=x/\x<o.length
 nd:o.Nodup
 inn:∀p∈ps,(0<=p.1/\p.1<o.length)/\(0<=p.2/\p.2<o.length)
 inv:CInv (o.length:Int) (ps.map nr) T
 len:ps.length+3=o.length
theorem y3w:Bld [0,1,2] [] [(0,1,2)]:=⟨by decide,by decide,by simp,y3t,rfl⟩
theorem y1f(c:Int)(p:P2):nr (sh2 c p)=sh2 c (nr p):=by
 obtain⟨a,b⟩:=p;unfold nr sh2 sh;simp only;by_cases h:a<b
 . rw[ζ h,ζ (by split<;>split<;>lia)]
 . rw[ξ h,ξ (by split<;>split<;>lia)]
def nwP(m:Nat)(c:Nat):P2:=((c:Int),sh (c:Int) (((c+1) % m:Nat):Int))
theorem y1g(h3:3<=m)(hc:c<m):nr (nwP m c)=u7 (m:Int) (c:Int):=by
 unfold nwP u7;by_cases h:c+1=m
 . rw[h,Nat.mod_self,ζ (by lia)];rw[show sh (c:Int) ((0:Nat):Int)=0 by unfold sh;rw[ξ (by lia)];rfl];exact ξ (by show ¬(c:Int)<0;lia)
 . rw[Nat.mod_eq_of_lt (by lia),ξ (by lia)];rw[show sh (c:Int) ((c+1:Nat):Int)=(c:Int)+2 by unfold sh;rw[ζ (by lia)];lia];exact ζ (by show(c:Int)<c+2;lia)
theorem Bld.grow(B:Bld o ps T)(c:Nat)(hc:c<o.length) :
  Bld (C8 o (c+1) (o.length:Int)) (ps.map (sh2 (c:Int))++[nwP o.length c]) (T.map (sh3 (c:Int))++[C9 (o.length:Int) (c:Int)]) /\
  (ps.map (nmP o)++[(o.getD c 0,o.getD ((c+1) % o.length) 0)])=(ps.map (sh2 (c:Int))++[nwP o.length c]).map (nmP (C8 o (c+1) (o.length:Int))):=by
 have h3:3<=o.length:=by have:=B.inv.n3;lia
 have hl:=Vo o (c+1) (o.length:Int)
 have iM:∀x:Int,0<=x->x<o.length->(C8 o (c+1) (o.length:Int)).getD (sh (c:Int) x).toNat 0=o.getD x.toNat 0:=fun x x0 x1=>by
  have:=wM o (c+1) (o.length:Int) (by lia) x.toNat (by lia);rw[<-this];congr 1;unfold sh;split
  . rw[ζ (by lia)];lia
  . rw[ξ (by lia)]
 have m1:(c+1) % o.length<o.length:=Nat.mod_lt _ (by lia)
 have ie:(ps.map (sh2 (c:Int))++[nwP o.length c]).map nr=(ps.map nr).map (sh2 (c:Int))++[u7 (o.length:Int) (c:Int)]:=by
  rw[DA,DI,DI];congr 1
  . exact Ij fun p _=>y1f _ p
  . rw[gq,DH,y1g h3 hc]
 refine⟨⟨?_,?_,?_,?_,?_⟩,?_⟩
 . intro x hx;rw[hl];rcases CK.mp hx with h |h
   . have:=B.rng x (FZ h);lia
   . rcases gD.mp h with h |h
     . lia
     . have:=B.rng x (Ie h);lia
 . have p:(C8 o (c+1) (o.length:Int)).Perm ((o.length:Int)::o):=by
    unfold C8
    refine List.perm_middle.trans (.cons _ (.of_eq (FR _ _)))
   rw[p.nodup_iff,CO]
   exact⟨fun h=>by have:=B.rng _ h;lia,B.nd⟩
 . intro p hp;rw[hl];rcases CK.mp hp with h |h
   . obtain⟨q,hq,rfl⟩:=CP.mp h;have:=B.inn q hq;unfold sh2 sh;simp only;refine⟨⟨?_,?_⟩,?_,?_⟩<;>split<;>lia
   . rw[gV]at h;subst h;unfold nwP sh;simp only;refine⟨⟨?_,?_⟩,?_,?_⟩<;>(try split)<;>lia
 . rw[ie,hl];exact B.inv.grow (c:Int) (by lia) (by lia)
 . rw[hl,χ,bI,FC];have:=B.len;lia
 . rw[DA,DI];congr 1
   . refine Ij fun p hp=>?_
     have:=B.inn p hp;show(o.getD p.1.toNat 0,o.getD p.2.toNat 0)=(_,_);unfold sh2;simp only;rw[iM _ this.1.1 this.1.2,iM _ this.2.1 this.2.2]
   . rw[gq,DH];congr 1;unfold nmP nwP;simp only;have e1:=iM (c:Int) (by lia) (by lia);rw[show sh (c:Int) (c:Int)=c by unfold sh;rw[ξ (by lia)]]at e1;rw[e1,iM _ (by lia) (by lia),Iw,Iw]
theorem wL{o:List Int}(nd:o.Nodup)(i:Nat)(hi:i<o.length):L2.lookD (o.map fun x=>(Sum.inl x:L2.Key)) ((List.range o.length).map fun (k:Nat)=>L2.D.int (k:Int)) (Sum.inl (o.getD i 0))=some (.int (i:Int)):=by
 have key:∀(o:List Int)(s i:Nat),o.Nodup->i<o.length->L2.lookD (o.map fun x=>(Sum.inl x:L2.Key)) ((List.range' s o.length).map fun (k:Nat)=>L2.D.int (k:Int)) (Sum.inl (o.getD i 0))=some (.int ((s+i:Nat):Int)):=by
  intro o;induction o with
  |nil=>intro s i _ h;simp at h
  |cons x o ih=>
   intro s i nd h
   rw[CO]at nd
   cases i with
   |zero=>simp[L2.lookD,List.range'_succ]
   |succ i=>
    have hx:¬x=o.getD i 0:=fun e=>nd.1 (by rw[e,CI,CH (by simpa using h)];exact List.getElem_mem _)
    have:=ih (s+1) i nd.2 (by simpa using h)
    rw[show s+1+i=s+(i+1) by lia]at this
    rw[<-this]
    simp only[L2.lookD,gq,pp,List.range'_succ,CW,List.getD_cons_succ]
    rw[GI (by simpa using hx)]
 have:=key o 0 i nd hi;rw[GG,<-List.range_eq_range']at this;exact this
end Cu
namespace Cu
open L2 (so2 l8 w8 so3 Q1 soI Fs)
def adj(n:Int)(ls:List P2)(x k:Int):Prop:=k=(x+1) % n\/k=(x - 1) % n\/(x,k)∈ls\/(k,x)∈ls
section
variable {n:Int}{ls:List P2}{T:List P3}
theorem CInv.three(I:CInv n ls T)(h1:x<y)(h2:y<z)(e1:(x,y)∈ls\/y=x+1)(e2:(y,z)∈ls\/z=y+1)(e3:(x,z)∈ls\/(x=0/\z=n - 1)):(x,y,z)∈T:=by
 obtain⟨m1,m2⟩:=I.top_in (ls':=ls) (.refl _) (q:=(x,z)) (by
  rcases e3 with e |⟨rfl,rfl⟩
  . exact dg _ e
  . exact io)
 generalize thr T (x,z)=t at m1 m2;obtain⟨a,c,b⟩:=t;simp only[outer,Prod.mk.injEq]at m2;obtain⟨rfl,rfl⟩:=m2;have g:=I.tri _ _ _ m1;have:c=y:=by
  apply tB;intro ag;rcases Int.lt_or_gt_of_ne ag with aC |BR
  . have a1:(c,b)∈ls:=by rcases g.2.2.2.2.2 with z |z;exact z;omega
    have a2:(a,y)∈ls:=by rcases e1 with z |z;exact z;omega
    exact I.nc a y c b a2 a1 (by omega)
  . have a1:(a,c)∈ls:=by rcases g.2.2.2.2.1 with z |z;exact z;omega
    have a2:(y,b)∈ls:=by rcases e2 with z |z;exact z;omega
    exact I.nc a c y b a1 a2 (by omega)
 rw[<-this];exact m1
theorem upM(u0:0<=u)(u1:u<n)(e:k=(u+1) % n):k=u+1\/(u=n - 1/\k=0):=by
 by_cases h:u=n - 1
 . rw[h,Int.sub_add_cancel,Iz]at e;exact .inr ⟨h,e⟩
 . rw[DJ (by lia) (by lia)]at e;exact .inl e
theorem dnM(u0:0<=u)(u1:u<n)(e:k=(u - 1) % n):k=u - 1\/(u=0/\k=n - 1):=by
 by_cases h:u=0
 . rw[h,<-HM,DJ (by lia) (by lia)]at e;exact .inr ⟨h,by lia⟩
 . rw[DJ (by lia) (by lia)]at e;exact .inl e
theorem U6(I:CInv n ls T)(h0:0<=x)(h:x<k)(hk:k<n)(ha:adj n ls x k\/adj n ls k x):(x,k)∈ls\/k=x+1\/(x=0/\k=n - 1):=by
 have hx:x<n:=EG h hk;have k0:0<=k:=FN (FE h0 h);rcases ha with ha |ha
 . rcases ha with e |e |e |e
   . rcases upM h0 hx e with e |⟨_,e⟩
     . exact .inr (.inl e)
     . omega
   . rcases dnM h0 hx e with e |e
     . omega
     . exact .inr (.inr e)
   . exact Or.inl e
   . have:=(I.lin _ _ e).2.1;omega
 . rcases ha with e |e |e |e
   . rcases upM k0 hk e with e |e
     . omega
     . exact .inr (.inr ⟨e.2,e.1⟩)
   . rcases dnM k0 hk e with e |⟨e,_⟩
     . exact .inr (.inl (by omega))
     . omega
   . have:=(I.lin _ _ e).2.1;omega
   . exact Or.inl e
theorem Jc(I:CInv n ls T)(h0:0<=x)(h:x<k)(hk:k<n)(he:(x,k)∈ls\/k=x+1\/(x=0/\k=n - 1)):adj n ls x k/\adj n ls k x:=by
 have n3:=I.n3;rcases he with e |e |⟨e,e'⟩
 . exact⟨Or.inr (Or.inr (Or.inl e)),Or.inr (Or.inr (Or.inr e))⟩
 . subst e;exact⟨Or.inl (by rw[DJ (by lia) (by lia)]),Or.inr (Or.inl (by rw[show x+1 - 1=x by lia,DJ (by lia) (by lia)]))⟩
 . subst e;subst e';exact⟨Or.inr (Or.inl (by rw[<-HM,DJ (by lia) (by lia)];lia)),Or.inl (by rw[show n - 1+1=n by lia,Iz])⟩
theorem mem_dues:k∈dues T p↔∃t∈T,bth p.1 p.2 t=true/\k=t.1+(t.2.1+(t.2.2+0)) - (p.1+(p.2+0)):=by
 unfold dues;rw[(Fs _).mem_iff,CP];constructor
 . rintro⟨t,ht,rfl⟩;obtain⟨h1,h2⟩:=CT.mp ht;exact⟨t,(Q1 T).mem_iff.mp h1,h2,rfl⟩
 . rintro⟨t,h1,h2,rfl⟩;exact⟨t,CT.mpr ⟨(Q1 T).mem_iff.mpr h1,h2⟩,rfl⟩
theorem CInv.com(I:CInv n ls T)(hl:(a,b)∈ls)(k0:0<=k)(k1:k<n)(ka:k≠a)(kb:k≠b):(adj n ls a k/\adj n ls b k)↔k∈dues T (a,b):=by
 have n3:=I.n3;have l:=I.lin a b hl;rw[mem_dues];constructor
 . rintro⟨h1,h2⟩;by_cases c1:k<a
   . have e1:=U6 I k0 c1 (by lia) (Or.inr h1);have e2:=U6 I k0 (show k<b by lia) (by lia) (Or.inr h2);have t:=I.three (x:=k) (y:=a) (z:=b) (by lia) (by lia) (by rcases e1 with z |z |z;exact .inl z;exact .inr z;lia) (.inl hl) (by rcases e2 with z |z |z;exact .inl z;lia;exact .inr z);exact⟨_,t,bth_iff.mpr (by simp),by simp only;lia⟩
   . by_cases c2:k<b
     . have e1:=U6 I l.1 (show a<k by lia) (by lia) (Or.inl h1);have e2:=U6 I k0 c2 (by lia) (Or.inr h2);have t:=I.three (x:=a) (y:=k) (z:=b) (by lia) (by lia) (by rcases e1 with z |z |z;exact .inl z;exact .inr z;lia) (by rcases e2 with z |z |z;exact .inl z;exact .inr z;lia) (.inl hl);exact⟨_,t,bth_iff.mpr (by simp),by simp only;lia⟩
     . have e1:=U6 I l.1 (show a<k by lia) (by lia) (Or.inl h1);have e2:=U6 I (show 0<=b by lia) (show b<k by lia) (by lia) (Or.inl h2);have t:=I.three (x:=a) (y:=b) (z:=k) (by lia) (by lia) (.inl hl) (by rcases e2 with z |z |z;exact .inl z;exact .inr z;lia) (by rcases e1 with z |z |z;exact .inl z;lia;exact .inr z);exact⟨_,t,bth_iff.mpr (by simp),by simp only;lia⟩
 . rintro⟨⟨x,y,z⟩,ht,hb,e⟩;have g:=I.tri _ _ _ ht;have o:=I.top_or ht;rw[bth_iff]at hb;simp only at e;have xy:adj n ls x y/\adj n ls y x:=Jc I g.1 g.2.1 (by lia) (by rcases g.2.2.2.2.1 with z |z;exact .inl z;exact .inr (.inl z));have yz:adj n ls y z/\adj n ls z y:=Jc I (by lia) g.2.2.1 (by lia) (by rcases g.2.2.2.2.2 with z |z;exact .inl z;exact .inr (.inl z));have xz:adj n ls x z/\adj n ls z x:=Jc I g.1 (show x<z by lia) (by lia) (by rcases o with z |z;exact .inl z;exact .inr (.inr z));have:(a=x/\b=y/\k=z)\/(a=x/\b=z/\k=y)\/(a=y/\b=z/\k=x):=by
    have l2:=l.2.1;obtain⟨_,g2,g3,_⟩:=g;clear xy yz xz o l ka kb ht;rcases hb with⟨h1 |h1 |h1,h2 |h2 |h2⟩
    . lia
    . exact .inl ⟨h1,h2,by lia⟩
    . exact .inr (.inl ⟨h1,h2,by lia⟩)
    . lia
    . lia
    . exact .inr (.inr ⟨h1,h2,by lia⟩)
    . lia
    . lia
    . lia
   rcases this with⟨rfl,rfl,rfl⟩ |⟨rfl,rfl,rfl⟩ |⟨rfl,rfl,rfl⟩
   . exact⟨xz.1,yz.1⟩
   . exact⟨xy.1,yz.2⟩
   . exact⟨xy.2,xz.2⟩
end
end Cu
namespace Cu
abbrev En:=List P2×Int×Option P2
def ky(F:List En):List (List P2):=F.map (·.1)
theorem mem_ky:v∈ky F↔∃e∈F,e.1=v:=by unfold ky;rw[CP]
theorem Jb{α:Type}{p q:α->Bool}(h:∀x,p x=true->q x=true):∀{l:List α},(∃x∈l,q x=true/\p x=false)->(l.filter p).length<(l.filter q).length
 | [],⟨_,hx,_⟩=>by cases hx
 |a::l,⟨x,hx,h1,h2⟩=>by
  have le:∀l:List α,(l.filter p).length<=(l.filter q).length:=fun l=>by
   induction l with
   |nil=>simp
   |cons b l ih=>
    rw[GC,GC]
    cases e:p b with
    |true=>rw[h b e];simpa using ih
    |false=>
     cases q b with
     |true=>simp;lia
     |false=>simpa using ih
  rw[GC,GC];rcases gD.mp hx with rfl |hx
  . rw[h1,h2];have:=le l;simp;lia
  . have ih:=Jb h ⟨x,hx,h1,h2⟩;cases e:p a with
    |true=>rw[h a e];simpa using ih
    |false=>
     cases q a with
     |true=>simp;lia
     |false=>simpa using ih
theorem Qt{α:Type}[DecidableEq α]:∀{l U:List α},l.Nodup->(∀x∈l,x∈U)->l.length<=U.length
 | [],U,_,_=>DG _
 |a::l,U,nd,h=>by
  have cE:=CO.mp nd;have ha:=h a (by simp);have:=Qt (U:=U.erase a) cE.2 fun x hx=>(List.mem_erase_of_ne fun z=>cE.1 (by rw[<-z];exact hx)).mpr (h x (by simp[hx]))
  rw[List.length_erase_of_mem ha]at this;have:0<U.length:=List.length_pos_of_mem ha;rw[pp];omega
section
variable {G:List P2->Prop}{t:List P2->P2->List P2×P2}{c0:List P2}
structure Bf(G:List P2->Prop)(t:List P2->P2->List P2×P2)(c0:List P2)(k:Int)(F:List En):Prop where
 nd:(ky F).Nodup
 gd:∀e∈F,G e.1
 z:∀e∈F,(e.2.1=0↔e.1=c0)
 le:∀e∈F,0<=e.2.1/\e.2.1<=k
 c0:c0∈ky F
 bk:∀e∈F,e.2.1≠0->∃w,e.2.2=some w/\w∈e.1/\∃e'∈F,e'.1=(t e.1 w).1/\e'.2.1=e.2.1 - 1
def Cl(t:List P2->P2->List P2×P2)(k:Int)(F:List En):Prop:=∀e∈F,e.2.1<k->∀x∈e.1,∃e'∈F,e'.1=(t e.1 x).1/\e'.2.1<=e.2.1+1
def Sz(k:Int)(F:List En):Prop:=k<=((F.filter fun e=>decide (e.2.1<k)).length:Int)
structure Lv(G:List P2->Prop)(t:List P2->P2->List P2×P2)(c0:List P2)(k:Int)(fr:List (List P2))(F:List En):Prop where
 bf:Bf G t c0 k F
 k0:0<=k
 fr:∀v,v∈fr↔∃o,(v,k,o)∈F
 cl:Cl t k F
 sz:Sz k F
structure Md(G:List P2->Prop)(t:List P2->P2->List P2×P2)(c0:List P2)(k:Int)(fr B:List (List P2))(F:List En)(dn:List P2->P2->Prop):Prop where
 bf:Bf G t c0 (k+1) F
 k0:0<=k
 fr:∀v,v∈fr↔∃o,(v,k,o)∈F
 be:∀v,v∈B↔∃o,(v,k+1,o)∈F
 cl:Cl t k F
 sz:Sz k F
 bl:B.length<=F.length
 pr:∀v x,dn v x->∃e'∈F,e'.1=(t v x).1/\e'.2.1<=k+1
theorem Lv.start(g0:G c0):Lv G t c0 0 [c0] [(c0,0,none)] where
 bf:=⟨by simp[ky],fun e he=>by rw[gV.mp he];exact g0,fun e he=>by rw[gV.mp he];simp,fun e he=>by rw[gV.mp he];simp,by simp[ky],fun e he h=>by rw[gV.mp he]at h;exact absurd rfl h⟩
 k0:=by lia
 fr:=fun v=>by simp
 cl:=fun e he h=>by rw[gV.mp he]at h;simp at h
 sz:=by unfold Sz;lia
theorem Lv.md{k:Int}{fr:List (List P2)}{F:List En}(L:Lv G t c0 k fr F):Md G t c0 k fr [] F (fun _ _=>False) where
 bf:={ L.bf with le:=fun e he=>by have:=L.bf.le e he;lia }
 k0:=L.k0
 fr:=L.fr
 be:=fun v=>by
  constructor
  . intro h;cases h
  . rintro⟨o,h⟩;have:=L.bf.le _ h;simp only at this;lia
 cl:=L.cl
 sz:=L.sz
 bl:=DG _
 pr:=fun v x h=>h.elim
theorem uniq(nd:(ky F).Nodup)(h:e∈F)(h':e'∈F)(q:e.1=e'.1):e=e':=by
 obtain⟨i,hi,ei⟩:=DF.mp h;obtain⟨j,hj,ej⟩:=DF.mp h';have z:(ky F)[i]'(by simpa [ky] using hi)=(ky F)[j]'(by simpa [ky] using hj):=by simp only[ky,List.getElem_map,ei,ej,q]
 have:=(List.getElem_inj nd).mp z;subst this;rw[<-ei,<-ej]
theorem Md.step{k:Int}{fr B:List (List P2)}{F:List En}{dn:List P2->P2->Prop}(M:Md G t c0 k fr B F dn)(hG:∀v x,G v->x∈v->G (t v x).1/\(t v x).2∈(t v x).1/\t (t v x).1 (t v x).2=(v,x)){v:List P2}{x:P2}(hv:v∈fr)(hx:x∈v) :
  ((t v x).1∈ky F->Md G t c0 k fr B F (fun v' x'=>dn v' x'\/(v'=v/\x'=x))) /\
  ((t v x).1∉ky F->Md G t c0 k fr (B++[(t v x).1]) (F++[((t v x).1,k+1,some (t v x).2)]) (fun v' x'=>dn v' x'\/(v'=v/\x'=x))):=by
 obtain⟨o,ho⟩:=(M.fr v).mp hv
 obtain⟨g1,g2,g3⟩:=hG v x (M.bf.gd _ ho) hx
 have k0:=M.k0
 generalize hr:t v x=r at *
 constructor
 . intro hm;refine { M with pr:=fun v' x' h=>?_ };rcases h with h |⟨rfl,rfl⟩
   . exact M.pr v' x' h
   . obtain⟨e,he,q⟩:=mem_ky.mp hm;exact⟨e,he,by rw[q,hr],(M.bf.le e he).2⟩
 . intro hm;have bS:∀e,e∈F->e∈F++[(r.1,k+1,some r.2)]:=fun e he=>DC _ he
   have cs:∀e,e∈F++[(r.1,k+1,some r.2)]->e∈F\/e=(r.1,k+1,some r.2):=fun e he=>by
    rcases CK.mp he with h |h
    . exact .inl h
    . exact .inr (gV.mp h)
   have e1:ky (F++[(r.1,k+1,some r.2)])=ky F++[r.1]:=by unfold ky;rw[DA];rfl
   refine⟨⟨?_,fun e he=>?_,fun e he=>?_,fun e he=>?_,?_,fun e he hd=>?_⟩,k0,fun u=>?_,fun u=>?_,fun e he hd y hy=>?_,?_,?_,fun v' x' h=>?_⟩
   . rw[e1,ER];exact⟨M.bf.nd,by simp,fun a ha b hb z=>hm (by rw[<-gV.mp hb,<-z];exact ha)⟩
   . rcases cs e he with h |rfl
     . exact M.bf.gd e h
     . exact g1
   . rcases cs e he with h |rfl
     . exact M.bf.z e h
     . exact⟨fun z=>by simp only at z;lia,fun z=>absurd M.bf.c0 (by rw[<-z];exact hm)⟩
   . rcases cs e he with h |rfl
     . exact M.bf.le e h
     . simp only;lia
   . rw[e1];exact DC _ M.bf.c0
   . rcases cs e he with h |rfl
     . obtain⟨w,w1,w2,e',h1,h2⟩:=M.bf.bk e h hd;exact⟨w,w1,w2,e',bS _ h1,h2⟩
     . refine⟨r.2,rfl,g2,(v,k,o),bS _ ho,by simp only;rw[g3],by simp only;lia⟩
   . rw[M.fr u];constructor
     . rintro⟨o',h⟩;exact⟨o',bS _ h⟩
     . rintro⟨o',h⟩;rcases cs _ h with h |h
       . exact⟨o',h⟩
       . have:=EH (fun e:En=>e.2.1) h;simp only at this;lia
   . rw[CK,gV,M.be u];constructor
     . rintro (⟨o',h⟩ |rfl)
       . exact⟨o',bS _ h⟩
       . exact⟨some r.2,by simp⟩
     . rintro⟨o',h⟩;rcases cs _ h with h |h
       . exact .inl ⟨o',h⟩
       . exact .inr (EH (fun e:En=>e.1) h)
   . rcases cs e he with h |rfl
     . obtain⟨e',h1,h2⟩:=M.cl e h hd y hy;exact⟨e',bS _ h1,h2⟩
     . simp only at hd;lia
   . have:=M.sz;unfold Sz at this⊢;rw[List.filter_append,χ];lia
   . have:=M.bl;rw[χ,χ];simp;exact this
   . rcases h with h |⟨rfl,rfl⟩
     . obtain⟨e',h1,h2⟩:=M.pr v' x' h;exact⟨e',bS _ h1,h2⟩
     . exact⟨(r.1,k+1,some r.2),by simp,by simp only;rw[hr],Int.le_refl _⟩
theorem Md.imp{k:Int}{fr B:List (List P2)}{F:List En}{dn pD:List P2->P2->Prop}(M:Md G t c0 k fr B F dn)(h:∀v x,pD v x->dn v x):Md G t c0 k fr B F pD:={ M with pr:=fun v x q=>M.pr v x (h v x q) }
theorem Md.fin{k:Int}{fr B:List (List P2)}{F:List En}{dn:List P2->P2->Prop}(M:Md G t c0 k fr B F dn)(ag:fr≠[])(hd:∀v∈fr,∀x∈v,dn v x):Lv G t c0 (k+1) B F where
 bf:=M.bf
 k0:=by have:=M.k0;lia
 fr:=M.be
 cl:=fun e he h x hx=>by
  by_cases q:e.2.1<k
  . exact M.cl e he q x hx
  . have ek:e.2.1=k:=by lia
    have hf:e.1∈fr:=(M.fr e.1).mpr ⟨e.2.2,by rw[<-ek];exact he⟩;obtain⟨e',h1,h2,h3⟩:=M.pr e.1 x (hd e.1 hf x hx);exact⟨e',h1,h2,by lia⟩
 sz:=by
  obtain⟨v,hv⟩:=EW _ ag;obtain⟨o,ho⟩:=(M.fr v).mp hv;have s:=M.sz;unfold Sz at s⊢;have:=Jb (p:=fun e:En=>decide (e.2.1<k)) (q:=fun e:En=>decide (e.2.1<k+1)) (fun e h=>by simp only[mV]at h⊢;lia) (l:=F) ⟨(v,k,o),ho,by simp only[mV];lia,by simp⟩
  lia
theorem Lv.done(L:Lv G t c0 k [] F)(hG:∀v x,G v->x∈v->G (t v x).1/\(t v x).2∈(t v x).1/\t (t v x).1 (t v x).2=(v,x))(he:e∈F)(hx:x∈e.1) :
  ∃e'∈F,e'.1=(t e.1 x).1/\e'.2.1<=e.2.1+1/\e.2.1<=e'.2.1+1:=by
 have lt:∀e∈F,e.2.1<k:=fun e he=>by
  have:=(L.bf.le e he).2;by_cases q:e.2.1=k
  . have:e.1∈([]:List (List P2)):=(L.fr e.1).mpr ⟨e.2.2,by rw[<-q];exact he⟩;cases this
  . omega
 obtain⟨e',h1,h2,h3⟩:=L.cl e he (lt e he) x hx
 obtain⟨g1,g2,g3⟩:=hG e.1 x (L.bf.gd e he) hx
 rw[<-h2]at g2 g3
 obtain⟨e2,k1,k2,k3⟩:=L.cl e' h1 (lt e' h1) _ g2
 rw[g3]at k2
 have:=uniq L.bf.nd k1 he k2
 subst this
 exact⟨e',h1,h2,h3,k3⟩
theorem Lv.len{k:Int}{fr:List (List P2)}{F:List En}(L:Lv G t c0 k fr F):k<=F.length:=by
 have:=L.sz;unfold Sz at this;have:=EK (fun e:En=>decide (e.2.1<k)) F
 lia
end
def sl{α:Type}:List α->Nat->List (List α)
 |_,0=>[[]]
 | [],_+1=>[]
 |a::l,m+1=>(sl l m).map (a::·)++sl l (m+1)
def ch:Nat->Nat->Nat
 |_,0=>1
 | 0,_+1=>0
 |n+1,m+1=>ch n m+ch n (m+1)
theorem Ja:∀(l:List α)(m:Nat),(sl l m).length=ch l.length m
 | [],0=>rfl
 |_::_,0=>rfl
 | [],_+1=>rfl
 |a::l,m+1=>by rw[sl,χ,bI,Ja l m,Ja l (m+1)];rfl
theorem Hz:∀{s l:List α},s.Sublist l->s∈sl l s.length
 |_,_,.slnil=>by simp[sl]
 | [],_::_,.cons _ _=>by simp[sl]
 |b::s,a::l,.cons _ h=>by have ih:=Hz h;rw[pp]at ih⊢;rw[sl];exact CQ _ ih
 |_::s,a::l,.cons₂ _ h=>by rw[pp,sl];exact DC _ (CP.mpr ⟨s,Hz h,rfl⟩)
structure Rm(n:Int)(B:List P2)(t:P2)(R:List Int):Prop where
 rise:R.Pairwise (·<·)
 h1:t.1∈R
 h2:t.2∈R
 lo:∀x∈R,t.1<=x/\x<=t.2
 top:t=(0,n - 1)\/t∈B
 rng:0<=t.1/\t.1+2<=t.2/\t.2<=n - 1
 gap:∀z,t.1<=z->z<=t.2->z∉R->∃p q,p∈R/\q∈R/\p<z/\z<q/\(p,q)∈B/\(p,q)≠t/\∀x∈R,x<=p\/q<=x
 nxt:∀p q,p∈R->q∈R->p<q->(∀x∈R,x<=p\/q<=x)->((p,q)∈B/\(p,q)≠t)\/q=p+1
 thr:∃m∈R,t.1<m/\m<t.2
 free:∀c e,(c,e)∈B->(c,e)≠t->t.1<=c->e<=t.2->∀x∈R,x<=c\/e<=x
theorem Rm.of(I:Lns n B)(ht:i6 n B t)(X:Nx t B nx)(Z:Ch t.2 nx t.1 C E):Rm n B t C:=by
 obtain⟨g1,g2,g3,g4⟩:=Z.ge X.up;have tt:=I.top ht;have rm:=I.room ht X Z;have Ed:=(Z.edge X.up).1;have mO:∀x∈C,x<t.2->nx x∈C:=fun x hx hb=>by
  obtain⟨p,hp,eT,gX⟩:=Z.lo (nx x) (by have:=(g1 x hx).1;have:=(X.up x hb).1;lia) (X.up x hb).2;rcases gX with e |⟨dm,aC⟩
  . rw[e];exact hp
  . by_cases c:x<p
    . have:=Z.le X.up x p hx hp c;have:p=nx x:=by lia
      rw[<-this];exact hp
    . have:p<=x:=by lia
      rcases EC this with q |q
      . have:=Z.le X.up p x hp hx q;have:=(X.up x hb).1
        lia
      . rw[q]at aC;lia
 refine⟨g2,g3,g4,g1,ht,⟨tt.1,tt.2.1,tt.2.2⟩,fun z z1 z2 hz=>?_,fun p q hp hq eK hb=>?_,?_,fun c e he ag h1 h2 x hx=>?_⟩
 . obtain⟨p,hp,eT,gX⟩:=Z.lo z z1 z2;rcases gX with e |⟨dm,aC⟩
   . exact absurd (e ▸ hp) hz
   . have ag:p≠z:=fun e=>hz (e ▸ hp)
     have u:=X.up p dm;refine⟨p,nx p,hp,mO p hp dm,by lia,aC,?_,?_,fun x hx=>?_⟩
     . rcases X.or p dm with h |h
       . exact h.1
       . lia
     . rcases X.or p dm with h |h
       . exact h.2
       . lia
     . by_cases c:p<x
       . exact .inr (Z.le X.up p x hp hx c)
       . exact .inl (by lia)
 . have dm:p<t.2:=by have:=(g1 q hq).2;lia
   have h1:=Z.le X.up p q hp hq eK;have h2:=hb (nx p) (mO p hp dm);have u:=X.up p dm;have:nx p=q:=by lia
   rcases X.or p dm with h |h
   . rw[this]at h;exact .inl h
   . rw[this]at h;exact .inr h
 . have u:=X.up t.1 (by lia);refine⟨nx t.1,mO t.1 g3 (by lia),u.1,?_⟩;rcases EC u.2 with h |h
   . exact h
   . rcases X.or t.1 (by lia) with z |z
     . exact absurd (by rw[h]) z.2
     . lia
 . have lc:=I.lin c e he;obtain⟨p,hp,eT,gX⟩:=Z.lo c h1 (by lia);have dm:p<t.2:=by lia
   have cT:e<=nx p:=by
    rcases gX with z |⟨_,z⟩
    . rw[<-z];exact X.ge c e he h2 ag
    . rcases EC eT with k |k
      . rcases X.or p dm with o |o
        . have:=I.nc p (nx p) c e o.1 he;lia
        . lia
      . rw[k];exact X.ge c e he h2 ag
   by_cases k:p<x
   . exact .inr (HZ cT (Z.le X.up p x hp hx k))
   . exact .inl (by lia)
section
variable {n:Int}{ls B:List P2}{T:List P3}{t:P2}{R:List Int}
def Far(R:List Int)(t:P2)(a b:Int):Prop:=(∃x∈R,a<x/\x<b)/\(a,b)≠t
theorem Rm.below(M:Rm n B t R)(I:CInv n ls T)(sub:∀p∈B,p∈ls)(h:(a,m,b)∈T)(ha:a∈R)(hb:b∈R)(hx:∃x∈R,a<x/\x<b):m∈R:=by
 obtain⟨g1,g2,g3,g4,g5,g6⟩:=I.tri a m b h;apply tB;intro hm;have la:=M.lo a ha;have lb:=M.lo b hb;obtain⟨p,q,hp,hq,h1,h2,hB,ag,fm⟩:=M.gap m (by lia) (by lia) hm;have eK:=sub _ hB;have ea:a=p:=by
  rcases fm a ha with z |z
  . rcases EC z with z |z
    . rcases g5 with k |k
      . exact absurd ⟨z,h1,h2⟩ (I.nc a m p q k eK)
      . lia
    . exact z
  . lia
 have eb:b=q:=by
  rcases fm b hb with z |z
  . lia
  . rcases EC z with z |z
    . rcases g6 with k |k
      . exact absurd ⟨h1,h2,z⟩ (I.nc p q m b eK k)
      . lia
    . exact z.symm
 obtain⟨x,hx,k1,k2⟩:=hx;have:=fm x hx
 lia
theorem Rm.aboveA(M:Rm n B t R)(I:CInv n ls T)(sub:∀p∈B,p∈ls)(h:(a,b,r)∈T)(ha:a∈R)(hb:b∈R)(ag:(a,b)≠t):r∈R:=by
 obtain⟨g1,g2,g3,g4,g5,g6⟩:=I.tri a b r h;have tp:=I.top_or h;have la:=M.lo a ha;have lb:=M.lo b hb;apply tB;intro hr;by_cases c:r<=t.2
 . obtain⟨p,q,hp,hq,h1,h2,hB,fA,fm⟩:=M.gap r (by omega) c hr;have eK:=sub _ hB;have:=M.lo q hq;have:=M.rng;have:b<=p:=by have:=fm b hb;omega
   rcases tp with z |z
   . exact I.nc a r p q z eK ⟨by omega,h1,h2⟩
   . omega
 . have hn:t≠(0,n - 1):=fun z=>by rw[z]at c;simp only at c;omega
   have gY:(t.1,t.2)∈ls:=sub _ (M.top.resolve_left hn);have e1:b=t.2:=by
    rcases EC lb.2 with z |z
    . rcases g6 with k |k
      . exact absurd ⟨by omega,z,by omega⟩ (I.nc t.1 t.2 b r gY k)
      . omega
    . exact z
   have e2:a=t.1:=by
    rcases EC la.1 with z |z
    . rcases tp with k |k
      . exact absurd ⟨z,by omega,by omega⟩ (I.nc t.1 t.2 a r gY k)
      . have:=M.rng;omega
    . exact z.symm
   exact ag (by rw[e1,e2])
theorem Rm.aboveB(M:Rm n B t R)(I:CInv n ls T)(sub:∀p∈B,p∈ls)(h:(r,a,b)∈T)(ha:a∈R)(hb:b∈R)(ag:(a,b)≠t):r∈R:=by
 obtain⟨g1,g2,g3,g4,g5,g6⟩:=I.tri r a b h;have tp:=I.top_or h;have la:=M.lo a ha;have lb:=M.lo b hb;apply tB;intro hr;by_cases c:t.1<=r
 . obtain⟨p,q,hp,hq,h1,h2,hB,fA,fm⟩:=M.gap r c (by lia) hr;have eK:=sub _ hB;have:=M.lo p hp;have:=M.rng;have:q<=a:=by have:=fm a ha;lia
   rcases tp with z |z
   . exact I.nc p q r b eK z ⟨h1,h2,by lia⟩
   . lia
 . have hn:t≠(0,n - 1):=fun z=>by rw[z]at c;simp only at c;lia
   have gY:(t.1,t.2)∈ls:=sub _ (M.top.resolve_left hn);have e1:a=t.1:=by
    rcases EC la.1 with z |z
    . rcases g5 with k |k
      . exact absurd ⟨by lia,z,by lia⟩ (I.nc r a t.1 t.2 k gY)
      . lia
    . exact z.symm
   have e2:b=t.2:=by
    rcases EC lb.2 with z |z
    . rcases tp with k |k
      . exact absurd ⟨by lia,by lia,z⟩ (I.nc r b t.1 t.2 k gY)
      . have:=M.rng;lia
    . exact z
   exact ag (by rw[e1,e2])
end
def ix(R:List Int)(x:Int):Int:=((R.idxOf x:Nat):Int)
section
variable {R:List Int}{x y:Int}
theorem Ai(h:x∈R):R[R.idxOf x]?=some x:=by have hl:=GR h;rw[CH hl,List.getElem_idxOf hl]
theorem D4(h:x∈R):0<=ix R x/\ix R x<R.length:=by have:=GR h;unfold ix;lia
theorem Tl(hr:R.Pairwise (·<·)){i j:Nat}(hi:R[i]?=some x)(hj:R[j]?=some y):(i<j↔x<y)/\(i=j↔x=y):=by
 have li:i<R.length:=by apply tB;intro z;rw[EL (by lia)]at hi;cases hi
 have lj:j<R.length:=by apply tB;intro z;rw[EL (by lia)]at hj;cases hj
 rw[CH li]at hi;rw[CH lj]at hj;cases hi;cases hj;have P:=DT.mp hr;rcases Nat.lt_trichotomy i j with c |c |c
 . have:=P i j li lj c;lia
 . subst c;lia
 . have:=P j i lj li c;lia
theorem l7(hr:R.Pairwise (·<·))(hx:x∈R)(hy:y∈R):(ix R x<ix R y↔x<y)/\(ix R x=ix R y↔x=y):=by have:=Tl hr (Ai hx) (Ai hy);unfold ix;lia
theorem Hh(hr:R.Pairwise (·<·)){i:Nat}(h:R[i]?=some x):ix R x=i:=by have hx:=EB h;have:=(Tl hr (Ai hx) h).2.mpr rfl;unfold ix;lia
theorem U5(hr:R.Pairwise (·<·))(hx:x∈R)(hy:y∈R):(∃z∈R,x<z/\z<y)↔ix R x+1<ix R y:=by
 constructor
 . rintro⟨z,hz,h1,h2⟩;have:=(l7 hr hx hz).1.mpr h1;have:=(l7 hr hz hy).1.mpr h2;omega
 . intro h;have BS:=D4 hy;have hi:(ix R x).toNat+1<R.length:=by have:=D4 hx;omega
   have hz:R[(ix R x).toNat+1]?=some R[(ix R x).toNat+1]:=CH hi;have e:=Hh hr hz;have bx:=D4 hx;refine⟨R[(ix R x).toNat+1],List.getElem_mem hi,(l7 hr hx (List.getElem_mem hi)).1.mp ?_,(l7 hr (List.getElem_mem hi) hy).1.mp ?_⟩<;>omega
end
theorem Rm.ix0(M:Rm n B t R):ix R t.1=0/\ix R t.2=R.length - 1:=by
 have b1:=D4 M.h1;have b2:=D4 M.h2;have hl:0<R.length:=by omega
 constructor
 . have h0:R[0]?=some R[0]:=CH hl;have e:=Hh M.rise h0;have:=(l7 M.rise (List.getElem_mem hl) M.h1).1;have:=M.lo _ (List.getElem_mem hl);omega
 . have hz:R.length - 1<R.length:=by omega
   have h0:R[R.length - 1]?=some R[R.length - 1]:=CH hz;have e:=Hh M.rise h0;have:=(l7 M.rise M.h2 (List.getElem_mem hz)).1;have:=M.lo _ (List.getElem_mem hz);omega
theorem Rm.ixt(M:Rm n B t R)(ha:a∈R)(hb:b∈R):(a,b)=t↔ix R a=0/\ix R b=R.length - 1:=by
 have z:=M.ix0;have e1:=(l7 M.rise ha M.h1).2;have e2:=(l7 M.rise hb M.h2).2;constructor
 . intro e;rw[<-e]at z;exact z
 . rintro⟨h1,h2⟩;exact FA (e1.mp (by rw[h1,z.1])) (e2.mp (by rw[h2,z.2]))
theorem Rm.ge3(M:Rm n B t R):3<=R.length:=by
 have z:=M.ix0;have:=(U5 M.rise M.h1 M.h2).mp M.thr
 lia
def isLn(r:Int)(p:P2):Bool:=decide (0<=p.1/\p.1<p.2/\p.2<r/\¬(p.2=p.1+1\/(p.1=0/\p.2=r - 1)))
def ptA(R:List Int)(ls:List P2):List P2:=(ls.filter fun p=>decide (p.1∈R)&&decide (p.2∈R)).map fun p=>(ix R p.1,ix R p.2)
def ptL(R:List Int)(ls:List P2):List P2:=(ptA R ls).filter (isLn R.length)
def ptT(R:List Int)(T:List P3):List P3:=(T.filter fun t=>decide (t.1∈R)&&(decide (t.2.1∈R)&&decide (t.2.2∈R))).map fun t=>(ix R t.1,ix R t.2.1,ix R t.2.2)
section
variable {n:Int}{ls B:List P2}{T:List P3}{t:P2}{R:List Int}
theorem wK:(i,j)∈ptA R ls↔∃a b,(a,b)∈ls/\a∈R/\b∈R/\i=ix R a/\j=ix R b:=by
 unfold ptA;simp only[CP,CT,ng,mV,Prod.mk.injEq];constructor
 . rintro⟨⟨a,b⟩,⟨h1,h2,h3⟩,rfl,rfl⟩;exact⟨a,b,h1,h2,h3,rfl,rfl⟩
 . rintro⟨a,b,h1,h2,h3,rfl,rfl⟩;exact⟨(a,b),⟨h1,h2,h3⟩,rfl,rfl⟩
theorem Rm.mem(M:Rm n B t R):(i,j)∈ptL R ls↔∃a b,(a,b)∈ls/\a∈R/\b∈R/\Far R t a b/\i=ix R a/\j=ix R b:=by
 unfold ptL;rw[CT,wK];constructor
 . rintro⟨⟨a,b,h1,h2,h3,rfl,rfl⟩,h⟩;have h:=GN h;simp only at h;exact⟨a,b,h1,h2,h3,⟨(U5 M.rise h2 h3).mpr (by lia),fun e=>by have:=(M.ixt h2 h3).mp e;lia⟩,rfl,rfl⟩
 . rintro⟨a,b,h1,h2,h3,⟨h4,h5⟩,rfl,rfl⟩;have k1:=(U5 M.rise h2 h3).mp h4;have k2:¬(ix R a=0/\ix R b=R.length - 1):=fun z=>h5 ((M.ixt h2 h3).mpr z)
   have k3:=D4 h2;have k4:=D4 h3;refine⟨⟨a,b,h1,h2,h3,rfl,rfl⟩,decide_eq_true (show 0<=ix R a/\ix R a<ix R b/\ix R b<R.length/\¬(ix R b=ix R a+1\/(ix R a=0/\ix R b=R.length - 1)) from⟨k3.1,by lia,k4.2,fun z=>?_⟩)⟩;rcases z with z |z
   . lia
   . exact k2 z
theorem mem_ptT:(i,j,k)∈ptT R T↔∃a c b,(a,c,b)∈T/\a∈R/\c∈R/\b∈R/\i=ix R a/\j=ix R c/\k=ix R b:=by
 unfold ptT;simp only[CP,CT,ng,mV,Prod.mk.injEq];constructor
 . rintro⟨⟨a,c,b⟩,⟨h1,h2,h3,h4⟩,rfl,rfl,rfl⟩;exact⟨a,c,b,h1,h2,h3,h4,rfl,rfl,rfl⟩
 . rintro⟨a,c,b,h1,h2,h3,h4,rfl,rfl,rfl⟩;exact⟨(a,c,b),⟨h1,h2,h3,h4⟩,rfl,rfl,rfl⟩
theorem Dy:∀{l:List α},l.Nodup->(∀x∈l,∀y∈l,f x=f y->x=y)->(l.map f).Nodup
 | [],_,_=>GZ
 |x::l,h,hi=>by rw[CO]at h;rw[gq,CO];refine⟨fun hm=>?_,Dy h.2 fun a ha b hb=>hi a (dg _ ha) b (dg _ hb)⟩;obtain⟨y,hy,e⟩:=CP.mp hm;have:=hi y (dg _ hy) x io e;exact h.1 (this ▸ hy)
theorem Rm.nd(M:Rm n B t R)(h:ls.Nodup):(ptL R ls).Nodup:=by unfold ptL ptA;refine(Dy (h.filter _) fun p hp q hq e=>?_).filter _;simp only[CT,ng,mV]at hp hq;simp only[Prod.mk.injEq]at e;exact FA ((l7 M.rise hp.2.1 hq.2.1).2.mp e.1) ((l7 M.rise hp.2.2 hq.2.2).2.mp e.2)
theorem Rm.part(M:Rm n B t R)(I:CInv n ls T)(sub:∀p∈B,p∈ls):CInv R.length (ptL R ls) (ptT R T):=by
 have rs:=M.rise;have z0:=M.ix0;have h3:=M.ge3;have hT:(T.map outer).Nodup:=I.prm.nodup_iff.mpr (CO.mpr ⟨fun z=>by have:=I.lin _ _ z;lia,I.nd⟩);refine⟨by lia,fun i j k h=>?_,fun i j h=>?_,fun i j k l h h'=>?_,M.nd I.nd,?_⟩
 . obtain⟨a,c,b,hh,ha,hc,hb,rfl,rfl,rfl⟩:=mem_ptT.mp h;obtain⟨g1,g2,g3,g4,g5,g6⟩:=I.tri a c b hh;have la:=M.lo a ha;have lb:=M.lo b hb;have cR:∀x y,x∈R->y∈R->x<y->(x,y)≠t->((x,y)∈ls\/y=x+1)->(ix R x,ix R y)∈ptL R ls\/ix R y=ix R x+1:=fun x y hx hy iK ag hh=>by
    by_cases k:∃z∈R,x<z/\z<y
    . rcases hh with hh |hh
      . exact .inl (M.mem.mpr ⟨x,y,hh,hx,hy,⟨k,ag⟩,rfl,rfl⟩)
      . obtain⟨z,_,k1,k2⟩:=k;lia
    . have:=(not_congr (U5 rs hx hy)).mp k;have:=(l7 rs hx hy).1.mpr iK;exact .inr (by lia)
   have b1:=D4 ha;have b2:=D4 hb;refine⟨b1.1,(l7 rs ha hc).1.mpr g2,(l7 rs hc hb).1.mpr g3,by lia,cR a c ha hc g2 (fun e=>?_) g5,cR c b hc hb g3 (fun e=>?_) g6⟩
   . have:=EH Prod.snd e;simp only at this;lia
   . have:=EH Prod.fst e;simp only at this;lia
 . have:=GN (CT.mp h).2;simp only at this
   lia
 . obtain⟨a,b,h1,ha,hb,_,rfl,rfl⟩:=M.mem.mp h;obtain⟨c,d,h2,hc,hd,_,rfl,rfl⟩:=M.mem.mp h';rw[(l7 rs ha hc).1,(l7 rs hc hb).1,(l7 rs hb hd).1];exact I.nc a b c d h1 h2
 . refine(DL ?_ ?_).mpr fun p=>?_
   . have e:(ptT R T).map outer=((T.filter fun t=>decide (t.1∈R)&&(decide (t.2.1∈R)&&decide (t.2.2∈R))).map outer).map fun p=>(ix R p.1,ix R p.2):=by
      unfold ptT;rw[DI,DI];rfl
     rw[e]
     refine Dy (hT.sublist ((List.filter_sublist).map _)) fun p hp q hq e=>?_
     obtain⟨u,hu,rfl⟩:=CP.mp hp
     obtain⟨v,hv,rfl⟩:=CP.mp hq
     simp only[CT,ng,mV]at hu hv
     simp only[outer,Prod.mk.injEq]at e⊢
     exact⟨(l7 rs hu.2.1 hv.2.1).2.mp e.1,(l7 rs hu.2.2.2 hv.2.2.2).2.mp e.2⟩
   . rw[CO];exact⟨fun z=>(GN (CT.mp z).2).2.2.2 (.inr ⟨rfl,rfl⟩),M.nd I.nd⟩
   . obtain⟨i,k⟩:=p;rw[gD,CP];constructor
     . rintro⟨⟨i',j,k'⟩,h,e⟩;simp only[outer,Prod.mk.injEq]at e;obtain⟨rfl,rfl⟩:=e;obtain⟨a,c,b,hh,ha,hc,hb,rfl,rfl,rfl⟩:=mem_ptT.mp h;have g:=I.tri a c b hh;by_cases et:(a,b)=t
       . have:=(M.ixt ha hb).mp et;exact .inl (by rw[this.1,this.2])
       . right;rcases I.top_or hh with z |z
         . exact M.mem.mpr ⟨a,b,z,ha,hb,⟨⟨c,hc,g.2.1,g.2.2.1⟩,et⟩,rfl,rfl⟩
         . have la:=M.lo a ha;have lb:=M.lo b hb;have:=M.rng;exact absurd (FA (by simp only;lia) (by simp only;lia)) et
     . have fin:∀a b,((a,b)=(0,n - 1)\/(a,b)∈ls)->a∈R->b∈R->(∃x∈R,a<x/\x<b)->∃u,u∈ptT R T/\outer u=(ix R a,ix R b):=fun a b h ha hb hx=>by
        obtain⟨m,hm⟩:=L8 I h
        exact⟨_,mem_ptT.mpr ⟨a,m,b,hm,ha,M.below I sub hm ha hb hx,hb,rfl,rfl,rfl⟩,rfl⟩
       rintro (h |h)
       . obtain⟨u,hu,e⟩:=fin t.1 t.2 (M.top.imp id fun z=>sub _ z) M.h1 M.h2 M.thr;exact⟨u,hu,by rw[e,z0.1,z0.2,h]⟩
       . obtain⟨a,b,h1,ha,hb,⟨hx,_⟩,rfl,rfl⟩:=M.mem.mp h;exact fin a b (.inr h1) ha hb hx
end
section
variable {n:Int}{ls us B:List P2}{T:List P3}{t t2:P2}{R R2:List Int}
theorem jy{a b c d:Int}(n1:¬(a<c/\c<b/\b<d))(n2:¬(c<a/\a<d/\d<b))(h1:c<b)(h2:a<d)(k:¬(a<=c/\d<=b)):c<=a/\b<=d:=by
 rcases HY a c with e |e |e
 . exact absurd ⟨FN e,GB.mp fun z=>n1 ⟨e,h1,z⟩⟩ k
 . exact⟨Int.le_of_eq e.symm,GB.mp fun z=>k ⟨Int.le_of_eq e,FN z⟩⟩
 . exact⟨FN e,GB.mp fun z=>n2 ⟨e,h2,z⟩⟩
theorem Hy(z:t2=(0,n - 1))(r:0<=t.1/\t.1+2<=t.2/\t.2<=n - 1)(k:t.1<=t2.1/\t2.2<=t.2):t=t2:=by subst z;exact FA (FW k.1 r.1) (FW r.2.2 k.2)
theorem Ye(L:Lns n B)(M:Rm n B t R)(M2:Rm n B t2 R2)(ha:a∈R)(hb:b∈R)(fH:a∈R2)(pE:b∈R2)(F:Far R t a b):t=t2:=by
 apply tB;intro ag;obtain⟨⟨x,hx,x1,x2⟩,ht⟩:=F;have q1:=M.lo a ha;have q2:=M.lo b hb;have q3:=M2.lo a fH;have q4:=M2.lo b pE;have ab:=EG x1 x2;by_cases k:t.1<=t2.1/\t2.2<=t.2
 . have h2:t2∈B:=M2.top.resolve_left fun z=>ag (Hy z M.rng k)
   rcases M.free t2.1 t2.2 h2 (fun z=>ag z.symm) k.1 k.2 x hx with z |z
   . exact Iy _ (DO x1 (HZ z q3.1))
   . exact Iy _ (DO x2 (HZ q4.2 z))
 . have k2:=jy (L.tnc (a:=t.1) (b:=t.2) (c:=t2.1) (d:=t2.2) M.top M2.top) (L.tnc (a:=t2.1) (b:=t2.2) (c:=t.1) (d:=t.2) M2.top M.top) (FE q3.1 (DO ab q2.2)) (FE q1.1 (DO ab q4.2)) k;have h2:t∈B:=M.top.resolve_left fun z=>ag (Hy z M2.rng k2).symm
   refine ht (FA ?_ ?_)
   . rcases M2.free t.1 t.2 h2 ag k2.1 k2.2 a fH with z |z
     . exact FW z q1.1
     . exact absurd (DO ab q2.2) (GB.mpr z)
   . rcases M2.free t.1 t.2 h2 ag k2.1 k2.2 b pE with z |z
     . exact absurd (FE q1.1 ab) (GB.mpr z)
     . exact FW q2.2 z
theorem zej(I:CInv n ls T)(nd:B.Nodup)(sub:∀p∈B,p∈ls)(C:P2->List Int)(hC:∀t,i6 n B t->Rm n B t (C t))(hf:(a,b)∈ls)(hB:(a,b)∉B):∃t,i6 n B t/\a∈C t/\b∈C t/\Far (C t) t a b:=by
 have la:=I.lin a b hf;obtain⟨t,ht,⟨h1,h2⟩,aU⟩:=Aj (fun t:P2=>(t.2 - t.1).toNat) (fun t=>t.1<=a/\b<=t.2) ((0,n - 1)::B) (n - 1).toNat ⟨(0,n - 1),by simp,⟨by simp only;lia,by simp only;lia⟩,by simp⟩;have tt:i6 n B t:=gD.mp ht;have M:=hC t tt;have fU:∀p q,(p,q)∈B->(p,q)≠t->t.1<=p->q<=t.2->p<=a->b<=q->False:=fun p q hm ag k1 k2 k3 k4=>by have:=aU (p,q) (dg _ hm) ⟨k3,k4⟩;simp only at this;exact ag (FA (by simp only;lia) (by simp only;lia))
 have ha:a∈C t:=by apply tB;intro z;obtain⟨p,q,hp,hq,k1,k2,hm,ag,_⟩:=M.gap a h1 (by lia) z;have:=I.nc p q a b (sub _ hm) hf;exact fU p q hm ag (M.lo p hp).1 (M.lo q hq).2 (by lia) (by lia)
 have hb:b∈C t:=by apply tB;intro z;obtain⟨p,q,hp,hq,k1,k2,hm,ag,_⟩:=M.gap b (by lia) h2 z;have:=I.nc a b p q hf (sub _ hm);exact fU p q hm ag (M.lo p hp).1 (M.lo q hq).2 (by lia) (by lia)
 refine⟨t,tt,ha,hb,?_,fun e=>?_⟩
 . apply tB;intro z;have bt:∀x∈C t,x<=a\/b<=x:=fun x hx=>by
    by_cases k:x<=a
    . exact .inl k
    . exact .inr (by apply tB;intro y;exact z ⟨x,hx,by lia,by lia⟩)
   rcases M.nxt a b ha hb (by lia) bt with k |k
   . exact hB k.1
   . lia
 . rcases tt with k |k
   . rw[<-e]at k;simp only[Prod.mk.injEq]at k;lia
   . exact hB (e ▸ k)
theorem Wt(I:CInv n ls T)(nd:B.Nodup)(sub:∀p∈B,p∈ls)(su:∀p∈B,p∈us)(C:P2->List Int)(hC:∀t,i6 n B t->Rm n B t (C t))(h:∀t,i6 n B t->∀p∈ptL (C t) ls,p∈ptL (C t) us):∀p∈ls,p∈us:=fun p hp=>by
 by_cases hB:p∈B
 . exact su p hB
 . obtain⟨a,b⟩:=p;obtain⟨t,ht,ha,hb,F⟩:=zej I nd sub C hC hp hB;have M:=hC t ht;have:=h t ht _ (M.mem.mpr ⟨a,b,hp,ha,hb,F,rfl,rfl⟩);obtain⟨c,d,h1,hc,hd,_,e1,e2⟩:=M.mem.mp this;have:=(l7 M.rise ha hc).2.mp e1;have:=(l7 M.rise hb hd).2.mp e2
   subst_vars
   exact h1
end
section
variable {n:Int}{ls B:List P2}{T:List P3}{t:P2}{R:List Int}{p m r:Int}
theorem Rm.dues(M:Rm n B t R)(I:CInv n ls T)(sub:∀p∈B,p∈ls)(hf:(a,b)∈ls)(ha:a∈R)(hb:b∈R)(F:Far R t a b):∃w:P2,Cu.dues T (a,b)=[w.1,w.2]/\w.1∈R/\w.2∈R/\Cu.dues (ptT R T) (ix R a,ix R b)=[ix R w.1,ix R w.2]:=by
 have K:=I.cut;have I':=M.part I sub;have K':=I'.cut;obtain⟨m,r,h1,h2⟩:=above K hf;have hm:=M.below I sub h1 ha hb F.1;have iN:(ix R a,ix R b)∈ptL R ls:=M.mem.mpr ⟨a,b,hf,ha,hb,F,rfl,rfl⟩;have t1:(ix R a,ix R m,ix R b)∈ptT R T:=mem_ptT.mpr ⟨a,m,b,h1,ha,hm,hb,rfl,rfl,rfl⟩;rcases h2 with h2 |h2
 . have hr:=M.aboveA I sub h2 ha hb F.2;exact⟨(m,r),U7 K hf h1 h2,hm,hr,U7 K' iN t1 (mem_ptT.mpr ⟨a,b,r,h2,ha,hb,hr,rfl,rfl,rfl⟩)⟩
 . have hr:=M.aboveB I sub h2 ha hb F.2;exact⟨(r,m),P6 K hf h1 h2,hr,hm,P6 K' iN t1 (mem_ptT.mpr ⟨r,a,b,h2,hr,ha,hb,rfl,rfl,rfl⟩)⟩
end
section
variable {n:Int}{ls B:List P2}{T:List P3}{t:P2}{R:List Int}
theorem Fo(R:List Int)(p:a.Perm b):(ptL R a).Perm (ptL R b):=((p.filter _).map _).filter _
theorem Ey(R:List Int)(a b:List P2):ptL R (a++b)=ptL R a++ptL R b:=by unfold ptL ptA;rw[List.filter_append,DA,List.filter_append]
theorem Ow(h1:p.1∈R)(h2:p.2∈R)(h:isLn R.length (ix R p.1,ix R p.2)=true):ptL R [p]=[(ix R p.1,ix R p.2)]:=by unfold ptL ptA;rw[DZ (by simp[h1,h2]),List.filter_nil,gq,DH,DZ h,List.filter_nil]
theorem Ov(h:¬(p.1∈R/\p.2∈R)):ptL R [p]=[]:=by unfold ptL ptA;rw[HP (by simpa using h)];rfl
theorem Rm.isLn(M:Rm n B t R)(ha:a∈R)(hb:b∈R):Cu.isLn R.length (ix R a,ix R b)=true↔Far R t a b:=by
 have k3:=D4 ha;have k4:=D4 hb;constructor
 . intro h;have h:=GN h;simp only at h;exact⟨(U5 M.rise ha hb).mpr (by lia),fun e=>by have:=(M.ixt ha hb).mp e;lia⟩
 . rintro⟨h4,h5⟩;have k1:=(U5 M.rise ha hb).mp h4;have k2:¬(ix R a=0/\ix R b=R.length - 1):=fun z=>h5 ((M.ixt ha hb).mpr z)
   refine decide_eq_true (show 0<=ix R a/\ix R a<ix R b/\ix R b<R.length/\¬(ix R b=ix R a+1\/(ix R a=0/\ix R b=R.length - 1)) from⟨k3.1,by lia,k4.2,fun z=>?_⟩);rcases z with z |z
   . lia
   . exact k2 z
theorem Rm.turn(L:Lns n B)(M:Rm n B t R)(I:CInv n ls T)(sub:∀p∈B,p∈ls)(hf:(a,b)∈ls)(ha:a∈R)(hb:b∈R)(F:Far R t a b)(pl:ls.Perm ((a,b)::ls0))(hw:Cu.dues T (a,b)=[w.1,w.2]) :
  w.1∈R/\w.2∈R/\Far R t w.1 w.2/\(∀p∈B,p∈ls0++[w])/\(ptL R ls).Perm ((ix R a,ix R b)::ptL R ls0)/\ptL R (ls0++[w])=ptL R ls0++[(ix R w.1,ix R w.2)]/\Cu.dues (ptT R T) (ix R a,ix R b)=[ix R w.1,ix R w.2] /\
  ∀t2 R2,Rm n B t2 R2->t2≠t->(ptL R2 (ls0++[w])).Perm (ptL R2 ls):=by
 obtain⟨w',e1,m1,m2,e2⟩:=M.dues I sub hf ha hb F
 rw[hw]at e1
 have ew:w=w':=by simp only[List.cons.injEq,HE]at e1;exact FA e1.1 e1.2
 subst ew
 have K':=(M.part I sub).cut
 have iN:(ix R a,ix R b)∈ptL R ls:=M.mem.mpr ⟨a,b,hf,ha,hb,F,rfl,rfl⟩
 obtain⟨w2,q0,BU,p2,K2,d2,_⟩:=K'.turn iN
 rw[e2]at d2
 simp only[List.cons.injEq,HE]at d2
 have l2:=K2.inv.lin w2.1 w2.2 (by simp)
 rw[<-d2.1,<-d2.2]at l2
 have lw:Cu.isLn R.length (ix R w.1,ix R w.2)=true:=decide_eq_true (by simp only;lia)
 have Fw:=(M.isLn m1 m2).mp lw
 have nB:(a,b)∉B:=fun hB=>by
  have la:=M.lo a ha;have lb:=M.lo b hb;obtain⟨x,hx,k1,k2⟩:=F.1;have:=M.free a b hB F.2 la.1 lb.2 x hx
  lia
 refine⟨m1,m2,Fw,fun p hp=>?_,?_,?_,e2,fun t2 R2 M2 ag=>?_⟩
 . rcases gD.mp (pl.mem_iff.mp (sub p hp)) with z |z
   . exact absurd (z ▸ hp) nB
   . exact DC _ z
 . have:=Fo R pl;rw[show(a,b)::ls0=[(a,b)]++ls0 from rfl,Ey,Ow (p:=(a,b)) ha hb ((M.isLn ha hb).mpr F)]at this;exact this
 . rw[Ey,Ow m1 m2 lw]
 . have n1:¬(a∈R2/\b∈R2):=fun z=>ag (Ye L M M2 ha hb z.1 z.2 F).symm
   have n2:¬(w.1∈R2/\w.2∈R2):=fun z=>ag (Ye L M M2 m1 m2 z.1 z.2 Fw).symm
   have:=Fo R2 pl;rw[show(a,b)::ls0=[(a,b)]++ls0 from rfl,Ey,Ov (p:=(a,b)) n1]at this;rw[Ey,Ov n2,ED];exact this.symm
end
structure Mo(n r:Int)(g:Int->Int):Prop where
 r3:3<=r
 mo:∀x y,x<=y->g x<=g y
 g0:g 0=0
 gn:g (n - 1)=r - 1
 st:∀x,g (x+1)<=g x+1
def dd:List P2->List P2
 | []=>[]
 |x::l=>if x∈l then dd l else x::dd l
theorem mem_dd:∀{l:List P2},p∈dd l↔p∈l
 | []=>Iff.rfl
 |x::l=>by
  unfold dd;by_cases h:x∈l
  . rw[ζ h,mem_dd,gD];exact⟨.inr,fun z=>z.elim (fun e=>e ▸ h) id⟩
  . rw[ξ h,gD,gD,mem_dd]
theorem O9:∀l:List P2,(dd l).Nodup
 | []=>GZ
 |x::l=>by
  unfold dd;by_cases h:x∈l
  . rw[ζ h];exact O9 l
  . rw[ξ h,CO];exact⟨fun z=>h (mem_dd.mp z),O9 l⟩
def piL(r:Int)(g:Int->Int)(vs:List P2):List P2:=dd ((vs.map fun p=>(g p.1,g p.2)).filter (isLn r))
def piT(g:Int->Int)(T:List P3):List P3:=(T.filter fun t=>decide (g t.1<g t.2.1)&&decide (g t.2.1<g t.2.2)).map fun t=>(g t.1,g t.2.1,g t.2.2)
theorem mem_piL:p∈piL r g vs↔isLn r p=true/\∃a b,(a,b)∈vs/\p=(g a,g b):=by
 unfold piL;rw[mem_dd,CT,CP];constructor
 . rintro⟨⟨⟨a,b⟩,h,e⟩,h2⟩;exact⟨h2,a,b,h,e.symm⟩
 . rintro⟨h2,a,b,h,e⟩;exact⟨⟨(a,b),h,e.symm⟩,h2⟩
theorem mem_piT:u∈piT g T↔∃a c b,(a,c,b)∈T/\g a<g c/\g c<g b/\u=(g a,g c,g b):=by
 unfold piT;simp only[CP,CT,ng,mV];constructor
 . rintro⟨⟨a,c,b⟩,⟨h,h1,h2⟩,e⟩;exact⟨a,c,b,h,h1,h2,e.symm⟩
 . rintro⟨a,c,b,h,h1,h2,e⟩;exact⟨(a,c,b),⟨h,h1,h2⟩,e.symm⟩
theorem ln_iff:isLn r (i,j)=true↔0<=i/\i+2<=j/\j<r/\¬(i=0/\j=r - 1):=by unfold isLn;rw[mV];simp only;omega
section
variable {n r:Int}{g:Int->Int}{vs:List P2}{T:List P3}
theorem Mo.lt(G:Mo n r g)(h:g x<g y):x<y:=by
 apply tB;intro z;have:=G.mo y x (by lia)
 lia
theorem Mo.bd(G:Mo n r g)(h0:0<=x)(h1:x<=n - 1):0<=g x/\g x<=r - 1:=by have a:=G.mo 0 x h0;have b:=G.mo x (n - 1) h1;rw[G.g0]at a;rw[G.gn]at b;exact⟨a,b⟩
theorem Mo.edge(G:Mo n r g)(h:(a,b)∈vs\/b=a+1\/(a=0/\b=n - 1))(hl:isLn r (g a,g b)=true):(a,b)∈vs:=by
 have l:=ln_iff.mp hl;rcases h with h |h |h
 . exact h
 . subst h;have:=G.st a
   lia
 . rw[h.1,h.2,G.g0,G.gn]at l
   lia
theorem CInv.nce(I:CInv n vs T)(hx:(x,y)∈vs\/(x=0/\y=n - 1))(hu:(u,v)∈vs\/v=u+1)(h0:0<=u)(h1:v<=n - 1):¬(x<u/\u<y/\y<v)/\¬(u<x/\x<v/\v<y):=by
 rcases hu with hu |rfl
 . rcases hx with hx |⟨rfl,rfl⟩
   . exact⟨I.nc x y u v hx hu,I.nc u v x y hu hx⟩
   . exact⟨fun z=>GB.mpr h1 z.2.2,fun z=>GB.mpr h0 z.1⟩
 . exact⟨fun⟨_,a,b⟩=>by lia,fun⟨a,b,_⟩=>by lia⟩
theorem Mo.two(G:Mo n r g)(I:CInv n vs T)(h:(a,m,b)∈T)(h':(a',m',b')∈T)(k1:g a<g m)(k2:g m<g b)(uk:g a'<g m')(ul:g m'<g b')(e1:g a=g a')(e2:g b=g b'):a=a'/\b=b':=by obtain⟨t1,t2,t3,t4,t5,t6⟩:=I.tri a m b h;obtain⟨u1,u2,u3,u4,u5,u6⟩:=I.tri a' m' b' h';have o:=I.top_or h;have o':=I.top_or h';have l3:a<m':=G.lt (by rw[e1];exact uk);have l4:m'<b:=G.lt (by rw[e2];exact ul);have l5:a'<m:=G.lt (by rw[<-e1];exact k1);have l6:m<b':=G.lt (by rw[<-e2];exact k2);have d1:=I.nce o u5 u1 (HZ (FN u3) u4);have d2:=I.nce o u6 (FN (FE u1 u2)) u4;have d3:=I.nce o' t5 t1 (HZ (FN t3) t4);have d4:=I.nce o' t6 (FN (FE t1 t2)) t4;exact⟨FW (GB.mp fun z=>d1.2 ⟨z,l3,l4⟩) (GB.mp fun z=>d3.2 ⟨z,l5,l6⟩),FW (GB.mp fun z=>d4.1 ⟨l5,l6,z⟩) (GB.mp fun z=>d2.1 ⟨l3,l4,z⟩)⟩
theorem Mo.cinv(G:Mo n r g)(I:CInv n vs T):CInv r (piL r g vs) (piT g T):=by
 have r3:=G.r3;refine⟨r3,fun i j k h=>?_,fun i j h=>?_,fun i j k l h h'=>?_,O9 _,?_⟩
 . obtain⟨a,c,b,hT,h1,h2,e⟩:=mem_piT.mp h;simp only[Prod.mk.injEq]at e;obtain⟨rfl,rfl,rfl⟩:=e;obtain⟨g1,g2,g3,g4,g5,g6⟩:=I.tri a c b hT;have ba:=G.bd (x:=a) (by lia) (by lia);have bb:=G.bd (x:=b) (by lia) (by lia);have cR:∀x y,((x,y)∈vs\/y=x+1)->0<=g x->g x<g y->g y<=r - 1->¬(g x=0/\g y=r - 1)->(g x,g y)∈piL r g vs\/g y=g x+1:=fun x y h q1 q2 q3 q4=>by
    by_cases k:g y=g x+1
    . exact .inr k
    . have hl:isLn r (g x,g y)=true:=ln_iff.mpr ⟨q1,by lia,by lia,q4⟩;exact .inl (mem_piL.mpr ⟨hl,x,y,G.edge (h.imp id .inl) hl,rfl⟩)
   exact⟨ba.1,h1,h2,bb.2,cR a c g5 ba.1 h1 (by lia) (by lia),cR c b g6 (by lia) h2 bb.2 (by lia)⟩
 . have:=ln_iff.mp (mem_piL.mp h).1
   lia
 . obtain⟨_,a,b,m1,e⟩:=mem_piL.mp h;obtain⟨_,c,d,m2,e'⟩:=mem_piL.mp h';simp only[Prod.mk.injEq]at e e';obtain⟨rfl,rfl⟩:=e;obtain⟨rfl,rfl⟩:=e';rintro⟨k1,k2,k3⟩;exact I.nc a b c d m1 m2 ⟨G.lt k1,G.lt k2,G.lt k3⟩
 . refine(DL ?_ ?_).mpr fun p=>?_
   . unfold piT;rw[DI];refine Dy (I.T_nodup.filter _) fun u hu v hv e=>?_
     obtain⟨a,m,b⟩:=u;obtain⟨a',m',b'⟩:=v;simp only[CT,ng,mV]at hu hv;simp only[Function.comp,outer,Prod.mk.injEq]at e;have w:=G.two I hu.1 hv.1 hu.2.1 hu.2.2 hv.2.1 hv.2.2 e.1 e.2;have o1:=I.thr_outer hu.1;have o2:=I.thr_outer hv.1;simp only[outer]at o1 o2;rw[w.1,w.2,o2]at o1;rw[w.1,w.2]at *;exact o1.symm
   . rw[CO];refine⟨fun z=>?_,O9 _⟩;have:=ln_iff.mp (mem_piL.mp z).1
     lia
   . obtain⟨i,j⟩:=p;rw[CP,gD];constructor
     . rintro⟨u,hu,e⟩;obtain⟨a,c,b,hT,h1,h2,rfl⟩:=mem_piT.mp hu;simp only[outer,Prod.mk.injEq]at e;obtain⟨rfl,rfl⟩:=e;have t:=I.tri a c b hT;have ba:=G.bd (x:=a) (by lia) (by lia);have bb:=G.bd (x:=b) (by lia) (by lia);by_cases k:g a=0/\g b=r - 1
       . exact .inl (by rw[k.1,k.2])
       . have hl:isLn r (g a,g b)=true:=ln_iff.mpr ⟨ba.1,by lia,by lia,k⟩;exact .inr (mem_piL.mpr ⟨hl,a,b,G.edge ((I.top_or hT).imp id .inr) hl,rfl⟩)
     . intro h;have gL:i+2<=j/\∃x∈(0,n - 1)::vs,(g x.1=i/\g x.2=j):=by
        rcases h with h |h
        . cases h;exact⟨by lia,(0,n - 1),by simp,G.g0,G.gn⟩
        . obtain⟨hl,a,b,m,e⟩:=mem_piL.mp h;simp only[Prod.mk.injEq]at e;have:=ln_iff.mp hl;exact⟨by lia,(a,b),dg _ m,e.1.symm,e.2.symm⟩
       obtain⟨hw,x,hx,ex⟩:=gL;obtain⟨y,hy,ey,aU⟩:=Aj (fun t:P2=>(t.2 - t.1).toNat) (fun t=>g t.1=i/\g t.2=j) ((0,n - 1)::vs) (x.2 - x.1).toNat ⟨x,hx,ex,η _⟩;obtain⟨a,b⟩:=y;simp only at ey aU;obtain⟨m,hm⟩:=L8 I (gD.mp hy);have t:=I.tri a m b hm;have m1:=G.mo a m (by lia);have m2:=G.mo m b (by lia);have no:∀u v,((u,v)∈vs\/v=u+1)->a<=u->v<=b->(u≠a\/v≠b)->g u=i->g v=j->False:=fun u v h h1 h2 h3 h4 h5=>by
        rcases h with h |h
        . have:=aU (u,v) (dg _ h) ⟨h4,h5⟩;have:=I.lin u v h;simp only at *
          lia
        . subst h;have:=G.st u
          lia
       refine⟨(g a,g m,g b),mem_piT.mpr ⟨a,m,b,hm,?_,?_,rfl⟩,by simp only[outer];rw[ey.1,ey.2]⟩
       . apply tB;intro z;exact no m b t.2.2.2.2.2 (by lia) (by lia) (.inl (by lia)) (by lia) ey.2
       . apply tB;intro z;exact no a m t.2.2.2.2.1 (by lia) (by lia) (.inr (by lia)) ey.1 (by lia)
end
section
variable {n r:Int}{g:Int->Int}{vs v0:List P2}{T:List P3}{c1 c2 c3 c4:Int}
structure Qd4(n:Int)(vs:List P2)(c1 c2 c3 c4:Int):Prop where
 o1:c1<c2
 o2:c2<c3
 o3:c3<c4
 lo:0<=c1
 hi:c4<=n - 1
 e12:(c1,c2)∈vs\/c2=c1+1
 e23:(c2,c3)∈vs\/c3=c2+1
 e34:(c3,c4)∈vs\/c4=c3+1
 e14:(c1,c4)∈vs\/(c1=0/\c4=n - 1)
theorem Mo.deg(G:Mo n r g)(Q:Qd4 n vs c1 c2 c3 c4)(hd:¬(g c1<g c2/\g c2<g c3/\g c3<g c4))(hx:d=(c1,c3)\/d=(c2,c4))(hl:isLn r (g d.1,g d.2)=true):∃a b,(a,b)∈vs/\(a,b)≠(c1,c3)/\(a,b)≠(c2,c4)/\(g a,g b)=(g d.1,g d.2):=by
 obtain⟨o1,o2,o3,lo,hi,e12,e23,e34,e14⟩:=Q;have m1:=G.mo c1 c2 (by lia);have m2:=G.mo c2 c3 (by lia);have m3:=G.mo c3 c4 (by lia);have go:∀a b,((a,b)∈vs\/b=a+1\/(a=0/\b=n - 1))->(a≠c1\/b≠c3)->(a≠c2\/b≠c4)->g a=g d.1->g b=g d.2->∃a b,(a,b)∈vs/\(a,b)≠(c1,c3)/\(a,b)≠(c2,c4)/\(g a,g b)=(g d.1,g d.2):=fun a b h n1 n2 k1 k2=>by
  refine⟨a,b,G.edge h (by rw[k1,k2];exact hl),?_,?_,by rw[k1,k2]⟩
  . simp only[ne_eq,Prod.mk.injEq];lia
  . simp only[ne_eq,Prod.mk.injEq];lia
 rcases (by lia:g c1=g c2\/g c2=g c3\/g c3=g c4) with k |k |k
 . rcases hx with rfl |rfl
   . exact go c2 c3 (e23.imp id .inl) (by lia) (by lia) k.symm rfl
   . exact go c1 c4 (e14.imp id .inr) (by lia) (by lia) k rfl
 . rcases hx with rfl |rfl
   . exact go c1 c2 (e12.imp id .inl) (by lia) (by lia) rfl k
   . exact go c3 c4 (e34.imp id .inl) (by lia) (by lia) k.symm rfl
 . rcases hx with rfl |rfl
   . exact go c1 c4 (e14.imp id .inr) (by lia) (by lia) rfl k.symm
   . exact go c2 c3 (e23.imp id .inl) (by lia) (by lia) rfl k
theorem Mo.uniq(G:Mo n r g)(I:CInv n vs T)(h1:(p,m,q)∈T)(k1:g p<g m)(k2:g m<g q)(h2:((p,q,s)∈T/\g q<g s)\/((s,p,q)∈T/\g s<g p))(hy:(a,b)∈vs)(hx:(p,q)∈vs)(e1:g a=g p)(e2:g b=g q):a=p/\b=q:=by
 have t:=I.tri p m q h1;have ly:=I.lin a b hy;have n1:=I.nc a b p q hy hx;have n2:=I.nc p q a b hx hy;have l1:a<m:=G.lt (by omega);have l2:m<b:=G.lt (by omega);have c1:¬(p<a/\a<m/\m<b):=by
  rcases t.2.2.2.2.1 with z |z
  . exact I.nc p m a b z hy
  . omega
 have c2:¬(a<m/\m<b/\b<q):=by
  rcases t.2.2.2.2.2 with z |z
  . exact I.nc a b m q hy z
  . omega
 rcases h2 with⟨h2,k3⟩ |⟨h2,k3⟩
 . have u:=I.tri p q s h2;have o:=I.top_or h2;have l3:b<s:=G.lt (by omega);have c3:¬(a<p/\p<b/\b<s):=by
    rcases o with z |z
    . exact I.nc a b p s hy z
    . omega
   have c4:¬(a<q/\q<b/\b<s):=by
    rcases u.2.2.2.2.2 with z |z
    . exact I.nc a b q s hy z
    . omega
   omega
 . have u:=I.tri s p q h2;have o:=I.top_or h2;have l3:s<a:=G.lt (by omega);have c3:¬(s<a/\a<q/\q<b):=by
    rcases o with z |z
    . exact I.nc s q a b z hy
    . omega
   have c4:¬(s<a/\a<p/\p<b):=by
    rcases u.2.2.2.2.1 with z |z
    . exact I.nc s p a b z hy
    . omega
   omega
def V4(g:Int->Int)(x w:P2):Prop:=∃c1 c2 c3 c4,g c1<g c2/\g c2<g c3/\g c3<g c4/\((x=(c1,c3)/\w=(c2,c4))\/(x=(c2,c4)/\w=(c1,c3)))
theorem Mo.turn(G:Mo n r g)(I:CInv n vs T)(hx:x∈vs)(hw:dues T x=[w.1,w.2])(pl:vs.Perm (x::v0)) :
  (∀p,p∈piL r g (v0++[w])↔p∈piL r g vs)\/(V4 g x w/\(g x.1,g x.2)∈piL r g vs/\dues (piT g T) (g x.1,g x.2)=[g w.1,g w.2]/\∃P0,(piL r g vs).Perm ((g x.1,g x.2)::P0)/\(piL r g (v0++[w])).Perm (P0++[(g w.1,g w.2)])):=by
 obtain⟨p,q⟩:=x
 have K:=I.cut
 have I':=G.cinv I
 have K':=I'.cut
 obtain⟨m,s,h1,h2⟩:=above K hx
 have t1:=I.tri _ _ _ h1
 have nx:(p,q)∉v0:=by have:=pl.nodup_iff.mp I.nd;rw[CO]at this;exact this.1
 have fZ:∀y,y∈vs->y≠(p,q)->y∈v0:=fun y hy ag=>by
  rcases gD.mp (pl.mem_iff.mp hy) with z |z
  . exact absurd z ag
  . exact z
 have f':∀y,y∈v0->y∈vs:=fun y hy=>pl.mem_iff.mpr (dg _ hy)
 obtain⟨c1,c2,c3,c4,Q,iO,hT⟩:∃c1 c2 c3 c4,Qd4 n vs c1 c2 c3 c4/\(((p,q)=(c1,c3)/\w=(c2,c4))\/((p,q)=(c2,c4)/\w=(c1,c3)))/\(g c1<g c2->g c2<g c3->g c3<g c4->g p<g m/\g m<g q/\(((p,q,s)∈T/\g q<g s/\w=(m,s))\/((s,p,q)∈T/\g s<g p/\w=(s,m)))):=by
  rcases h2 with h2 |h2
  . have t2:=I.tri _ _ _ h2;have e:=U7 K hx h1 h2;rw[hw]at e;have ew:w=(m,s):=by simp only[List.cons.injEq,HE]at e;exact FA e.1 e.2
    exact⟨p,m,q,s,⟨by omega,by omega,by omega,by omega,by omega,t1.2.2.2.2.1,t1.2.2.2.2.2,t2.2.2.2.2.2,I.top_or h2⟩,.inl ⟨rfl,ew⟩,fun a b c=>⟨a,b,.inl ⟨h2,c,ew⟩⟩⟩
  . have t2:=I.tri _ _ _ h2;have e:=P6 K hx h1 h2;rw[hw]at e;have ew:w=(s,m):=by simp only[List.cons.injEq,HE]at e;exact FA e.1 e.2
    exact⟨s,p,m,q,⟨by omega,by omega,by omega,by omega,by omega,t2.2.2.2.2.1,t1.2.2.2.2.1,t1.2.2.2.2.2,I.top_or h2⟩,.inr ⟨rfl,ew⟩,fun a b c=>⟨b,c,.inr ⟨h2,a,ew⟩⟩⟩
 by_cases hg:g c1<g c2/\g c2<g c3/\g c3<g c4
 . obtain⟨k1,k2,k3⟩:=hT hg.1 hg.2.1 hg.2.2;have BV:=G.bd (x:=c1) Q.lo (by have:=Q.o1;have:=Q.o2;have:=Q.o3;have:=Q.hi;omega);have BW:=G.bd (x:=c4) (by have:=Q.o1;have:=Q.o2;have:=Q.o3;have:=Q.lo;omega) Q.hi;have pF:isLn r (g p,g q)=true/\isLn r (g w.1,g w.2)=true:=by
    rcases iO with⟨e1,e2⟩ |⟨e1,e2⟩
    . cases e1;subst e2;exact⟨ln_iff.mpr (by omega),(show isLn r (g c2,g c4)=true from ln_iff.mpr (by omega))⟩
    . cases e1;subst e2;exact⟨ln_iff.mpr (by omega),(show isLn r (g c1,g c3)=true from ln_iff.mpr (by omega))⟩
   have cw:(g p,g q)∈piL r g vs:=mem_piL.mpr ⟨pF.1,p,q,hx,rfl⟩;have pG:(g p,g m,g q)∈piT g T:=mem_piT.mpr ⟨p,m,q,h1,k1,k2,rfl⟩;have pH:dues (piT g T) (g p,g q)=[g w.1,g w.2]:=by
    rcases k3 with⟨z1,z2,z3⟩ |⟨z1,z2,z3⟩
    . rw[z3];exact U7 K' cw pG (mem_piT.mpr ⟨p,q,s,z1,by omega,z2,rfl⟩)
    . rw[z3];exact P6 K' cw pG (mem_piT.mpr ⟨s,p,q,z1,z2,by omega,rfl⟩)
   have un:∀a b,(a,b)∈vs->(g a,g b)=(g p,g q)->(a,b)=(p,q):=fun a b hy e=>by simp only[Prod.mk.injEq]at e;have:=G.uniq I h1 k1 k2 (k3.imp (fun z=>⟨z.1,z.2.1⟩) fun z=>⟨z.1,z.2.1⟩) hy hx e.1 e.2;rw[this.1,this.2]
   obtain⟨w',q0,_,p',_,d',_,nw⟩:=K'.turn cw;have ew:w'=(g w.1,g w.2):=by rw[pH]at d';simp only[List.cons.injEq,HE]at d';exact FA d'.1.symm d'.2.symm
   rw[ew]at nw;refine .inr ⟨⟨c1,c2,c3,c4,hg.1,hg.2.1,hg.2.2,iO⟩,cw,pH,(piL r g vs).erase (g p,g q),GX cw,?_⟩;have gj:=I'.nd;refine(DL (O9 _) ?_).mpr fun y=>?_
   . rw[ER];refine⟨gj.erase _,by simp,fun a ha b hb e=>?_⟩;rw[gV]at hb;rw[e,hb]at ha;exact nw (List.mem_of_mem_erase ha)
   . rw[CK,gV,gj.mem_erase_iff];show y∈piL r g (v0++[w])↔_;constructor
     . intro hy;obtain⟨hl,a,b,hm,rfl⟩:=mem_piL.mp hy;rcases CK.mp hm with hm |hm
       . refine .inl ⟨fun e=>?_,mem_piL.mpr ⟨hl,a,b,f' _ hm,rfl⟩⟩;exact nx (un a b (f' _ hm) e ▸ hm)
       . rw[gV]at hm;exact .inr (by rw[<-hm])
     . rintro (⟨ag,h⟩ |rfl)
       . obtain⟨hl,a,b,hm,rfl⟩:=mem_piL.mp h;exact mem_piL.mpr ⟨hl,a,b,DC _ (fZ _ hm fun e=>ag (by cases e;rfl)),rfl⟩
       . exact mem_piL.mpr ⟨pF.2,w.1,w.2,by simp,rfl⟩
 . left;intro y;rw[mem_piL,mem_piL];have um:w=(c1,c3)\/w=(c2,c4):=by rcases iO with z |z;exact .inr z.2;exact .inl z.2
   have iF:(p,q)=(c1,c3)\/(p,q)=(c2,c4):=by rcases iO with z |z;exact .inl z.1;exact .inr z.1
   constructor
   . rintro⟨hl,a,b,hm,rfl⟩;rcases CK.mp hm with hm |hm
     . exact⟨hl,a,b,f' _ hm,rfl⟩
     . rw[gV]at hm;obtain⟨a',b',eX,_,_,e⟩:=G.deg Q hg um (by rw[<-hm];exact hl);exact⟨hl,a',b',eX,by rw[e,<-hm]⟩
   . rintro⟨hl,a,b,hm,rfl⟩;by_cases e:(a,b)=(p,q)
     . cases e;obtain⟨a',b',eX,n1,n2,e⟩:=G.deg Q hg iF hl;refine⟨hl,a',b',DC _ (fZ _ eX fun z=>?_),e.symm⟩;rcases iF with k |k
       . exact n1 (z.trans k)
       . exact n2 (z.trans k)
     . exact⟨hl,a,b,DC _ (fZ _ hm e),rfl⟩
end
def m4(R:List Int)(x:Int):Nat:=(R.filter fun y=>decide (y<=x)).length
def gR(R:List Int)(x:Int):Int:=if m4 R x=0 then 0 else(m4 R x:Int) - 1
theorem D6:∀{R:List Int},R.Pairwise (·<·)->∀{j:Nat}(h:j<R.length),(R[j]<=x↔j<m4 R x)
 |y::R,hr,j,h=>by
  rw[FP]at hr;unfold m4;by_cases c:y<=x
  . rw[DZ (by simpa using c),pp];cases j with
    |zero=>exact⟨fun _=>Nat.succ_pos _,fun _=>c⟩
    |succ j=>
     have:=D6 (x:=x) hr.2 (j:=j) (by simpa using h)
     unfold m4 at this
     rw[List.getElem_cons_succ,this]
     lia
  . have z:R.filter (fun y=>decide (y<=x))=[]:=List.filter_eq_nil_iff.mpr fun a ha=>by
     have:=hr.1 a ha
     simp only[mV];lia
    rw[HP (by simpa using c),z,FV]
    constructor
    . intro k;cases j with
      |zero=>exact absurd k c
      |succ j=>
       rw[List.getElem_cons_succ]at k
       have:=hr.1 _ (List.getElem_mem (by simpa using h:j<R.length))
       lia
    . intro k;lia
theorem V3(R:List Int)(x:Int):m4 R x<=R.length:=EK _ _
theorem Qs(hr:R.Pairwise (·<·))(hx:x∈R):gR R x=ix R x:=by
 have hl:=GR hx;have e:R[R.idxOf x]=x:=List.getElem_idxOf hl;have h1:=(D6 (x:=x) hr hl).mp (by lia);have h2:m4 R x<=R.idxOf x+1:=by
  apply tB;intro z;have fz:R.idxOf x+1<R.length:=by have:=V3 R x;lia
  have:=(D6 (x:=x) hr fz).mpr (by lia);have:=DT.mp hr (R.idxOf x) (R.idxOf x+1) hl fz (by lia)
  lia
 unfold gR ix;rw[ξ (by lia)]
 lia
theorem Vn(hr:R.Pairwise (·<·))(h:x<=y):m4 R x<=m4 R y:=by
 apply tB;intro z;have hl:m4 R y<R.length:=by have:=V3 R x;lia
 have h1:=(D6 (x:=x) hr hl).mpr (by lia);have h2:=(D6 (x:=y) hr hl).mp (by lia)
 lia
theorem yr(hr:R.Pairwise (·<·))(x:Int):m4 R (x+1)<=m4 R x+1:=by
 apply tB;intro z;have l1:m4 R x<R.length:=by have:=V3 R (x+1);lia
 have l2:m4 R x+1<R.length:=by have:=V3 R (x+1);lia
 have h1:¬R[m4 R x]<=x:=fun k=>by have:=(D6 (x:=x) hr l1).mp k;lia
 have h2:=(D6 (x:=x+1) hr l2).mpr (by lia);have:=DT.mp hr _ _ l1 l2 (by lia)
 lia
section
variable {n:Int}{B:List P2}{t t2:P2}{R R2:List Int}
theorem Rm.mo(M:Rm n B t R):Mo n R.length (gR R) where
 r3:=by have:=M.ge3;lia
 mo:=fun x y h=>by have:=Vn M.rise h;unfold gR;split<;>split<;>lia
 g0:=by
  have h0:0<R.length:=by have:=M.ge3;lia
  have h1:1<R.length:=by have:=M.ge3;lia
  have:m4 R 0<=1:=by
   apply tB;intro z;have a:=(D6 (x:=0) M.rise h1).mpr (by lia);have b:=DT.mp M.rise 0 1 h0 h1 (by lia);have:=(M.lo _ (List.getElem_mem h0)).1;have:=M.rng
   lia
  unfold gR;split<;>lia
 gn:=by
  have h1:R.length - 1<R.length:=by have:=M.ge3;lia
  have:=(D6 (x:=n - 1) M.rise h1).mp (by have:=(M.lo _ (List.getElem_mem h1)).2;have:=M.rng;lia);have:=V3 R (n - 1);unfold gR;rw[ξ (by lia)]
  lia
 st:=fun x=>by have:=yr M.rise x;have:=Vn M.rise (show x<=x+1 by lia);unfold gR;split<;>split<;>lia
theorem Rm.sep(M:Rm n B t R)(h:gR R x<gR R y):∃s∈R,t.1<s/\x<s/\s<=y:=by
 have hj:0<gR R y/\gR R y=(m4 R y:Int) - 1:=by
  have:0<=gR R x:=by unfold gR;split<;>lia
  refine⟨by lia,?_⟩;unfold gR at h⊢;split at h<;>split<;>lia
 have hl:m4 R y - 1<R.length:=by have:=V3 R y;lia
 have h0:0<R.length:=by lia
 have a:=(D6 (x:=y) M.rise hl).mpr (by lia);have b:¬R[m4 R y - 1]<=x:=fun z=>by have:=(D6 (x:=x) M.rise hl).mp z;unfold gR at h;split at h<;>split at h<;>lia
 have c:=DT.mp M.rise 0 (m4 R y - 1) h0 hl (by lia);have d:=(M.lo _ (List.getElem_mem h0)).1;exact⟨_,List.getElem_mem hl,by lia,by lia,a⟩
theorem Qr(M:Rm n B t R)(M2:Rm n B t2 R2)(ag:t≠t2)(k2:gR R c2<gR R c3)(q1:gR R2 c1<gR R2 c2)(q3:gR R2 c3<gR R2 c4):¬(t.1<=t2.1/\t2.2<=t.2):=fun k=>by
 obtain⟨a2,fH,BX,uo,uq⟩:=M.sep k2;obtain⟨b1,gO,mP,ur,mQ⟩:=M2.sep q1;obtain⟨b3,mR,uu,mS,uv⟩:=M2.sep q3;have h2:t2∈B:=M2.top.resolve_left fun z=>ag (Hy z M.rng k)
 rcases M.free t2.1 t2.2 h2 (fun z=>ag z.symm) k.1 k.2 a2 fH with z |z
 . exact Iy _ (EG mP (FE mQ (DO uo z)))
 . exact Iy _ (DO mS (HZ (M2.lo b3 mR).2 (HZ z uq)))
theorem wJ(L:Lns n B)(M:Rm n B t R)(M2:Rm n B t2 R2)(ag:t≠t2)(v:V4 (gR R) x w)(v2:V4 (gR R2) x w):False:=by
 obtain⟨c1,c2,c3,c4,k1,k2,k3,hx⟩:=v;obtain⟨d1,d2,d3,d4,q1,q2,q3,hy⟩:=v2;have l1:=M.mo.lt k1;have l2:=M2.mo.lt q1;have e:c1=d1/\c2=d2/\c3=d3/\c4=d4:=by
  rcases hx with⟨rfl,rfl⟩ |⟨rfl,rfl⟩<;>rcases hy with⟨h1,h2⟩ |⟨h1,h2⟩<;>obtain⟨h1,h3⟩:=Prod.mk.inj h1<;>obtain⟨h2,h4⟩:=Prod.mk.inj h2
  . exact⟨h1,h2,h3,h4⟩
  . rw[h1,h2]at l1;exact absurd l1 (Int.lt_asymm l2)
  . rw[h1,h2]at l1;exact absurd l1 (Int.lt_asymm l2)
  . exact⟨h2,h1,h4,h3⟩
 obtain⟨rfl,rfl,rfl,rfl⟩:=e;obtain⟨a1,BY,uw,BZ,uz⟩:=M.sep k1;obtain⟨a3,uA,CA,uB,CB⟩:=M.sep k3;obtain⟨b1,gO,mP,ur,mQ⟩:=M2.sep q1;obtain⟨b3,mR,uu,mS,uv⟩:=M2.sep q3;have pI:=M.mo.lt k2;have la:=DO uB (M.lo a3 uA).2;have lb:=DO mS (M2.lo b3 mR).2;have ra:=DO uw uz;have rb:=DO mP mQ;exact Qr M2 M (fun z=>ag z.symm) q2 k1 k3 (jy (L.tnc (a:=t.1) (b:=t.2) (c:=t2.1) (d:=t2.2) M.top M2.top) (L.tnc (a:=t2.1) (b:=t2.2) (c:=t.1) (d:=t.2) M2.top M.top) (EG rb (EG pI la)) (EG ra (EG pI lb)) (Qr M M2 ag k2 q1 q3))
theorem qD(I:CInv n ls T)(hl:isLn n (i,j)=true)(h:∀a b,(a,b)∈ls->¬(a<i/\i<b/\b<j)/\¬(i<a/\a<j/\j<b)):(i,j)∈ls:=by
 have l:=ln_iff.mp hl;obtain⟨t,ht,⟨h1,h2⟩,aU⟩:=Aj (fun t:P2=>(t.2 - t.1).toNat) (fun t=>t.1<=i/\j<=t.2) ((0,n - 1)::ls) (n - 1).toNat ⟨(0,n - 1),by simp,⟨by simp only;lia,by simp only;lia⟩,by simp⟩;obtain⟨a,b⟩:=t;simp only at h1 h2 aU;obtain⟨m,hm⟩:=L8 I (gD.mp ht);obtain⟨g1,g2,g3,g4,g5,g6⟩:=I.tri a m b hm;have c1:¬j<=m:=fun k=>by
  rcases g5 with z |z
  . have:=aU (a,m) (dg _ z) ⟨h1,k⟩;simp only at this;lia
  . lia
 have c2:¬m<=i:=fun k=>by
  rcases g6 with z |z
  . have:=aU (m,b) (dg _ z) ⟨k,h2⟩;simp only at this;lia
  . lia
 have c3:a=i:=by
  rcases g5 with z |z
  . have:=(h a m z).1;lia
  . lia
 have c4:b=j:=by
  rcases g6 with z |z
  . have:=(h m b z).2;lia
  . lia
 subst c3 c4;rcases gD.mp ht with z |z
 . simp only[Prod.mk.injEq]at z;lia
 . exact z
theorem Rm.pi_part(M:Rm n B t R)(I:CInv n vs T)(sub:∀p∈B,p∈vs):(piL R.length (gR R) vs).Perm (ptL R vs):=by
 have I1:=M.mo.cinv I;have I2:=M.part I sub;have hs:∀p∈ptL R vs,p∈piL R.length (gR R) vs:=fun p hp=>by obtain⟨i,j⟩:=p;have hl:=(CT.mp hp).2;obtain⟨a,b,h1,ha,hb,_,rfl,rfl⟩:=M.mem.mp hp;exact mem_piL.mpr ⟨hl,a,b,h1,by rw[Qs M.rise ha,Qs M.rise hb]⟩
 refine(DL I1.nd I2.nd).mpr fun p=>⟨fun hp=>?_,hs p⟩
 obtain⟨i,j⟩:=p;exact qD I2 (mem_piL.mp hp).1 fun a b bu=>⟨I1.nc a b i j (hs _ bu) hp,I1.nc i j a b hp (hs _ bu)⟩
end
def wi(ls:List P2)(a b:Int):Nat:=(ls.filter fun p=>decide (a<=p.1)&&decide (p.2<=b)).length
section
variable {n:Int}{ls:List P2}{T:List P3}
theorem Qq(a m b:Int):∀l:List P2,(∀p∈l,(decide (a<=p.1)&&decide (p.2<=b))=true↔(p=(a,b)\/(a<=p.1/\p.2<=m)\/(m<=p.1/\p.2<=b)))->(∀p∈l,p.1<p.2)->a<m->m<b->wi l a b=l.count (a,b)+wi l a m+wi l m b
 | [],_,_,_,_=>rfl
 |p::l,h,hl,h1,h2=>by
  have ih:=Qq a m b l (fun q hq=>h q (dg _ hq)) (fun q hq=>hl q (dg _ hq)) h1 h2;have hp:=h p io;have lp:=hl p io;have e:∀x y,wi (p::l) x y=(if x<=p.1/\p.2<=y then 1 else 0)+wi l x y:=fun x y=>by
   unfold wi;by_cases k:x<=p.1/\p.2<=y
   . rw[DZ (by simp[k.1,k.2]),pp,ζ k];lia
   . rw[HP (by simpa using k),ξ k];lia
  rw[e,e,e,ih,List.count_cons];obtain⟨x,y⟩:=p;simp only[ng,mV,Prod.mk.injEq]at hp lp⊢;simp only[Im,Prod.mk.injEq];clear e ih h hl;generalize wi l a m=u;generalize wi l m b=v;generalize List.count (a,b) l=w;by_cases k:a<=x/\y<=b
  . rw[ζ k];rcases hp.mp k with z |z |z<;>clear hp k
    . rw[ζ z,ξ (fun k=>by have:=k.2;lia),ξ (fun k=>by have:=k.1;lia)];lia
    . rw[ξ (fun k=>by have:=k.2;have:=z.2;lia),ζ z,ξ (fun k=>by have:=k.1;have:=z.2;lia)];lia
    . rw[ξ (fun k=>by have:=k.1;have:=z.1;lia),ξ (fun k=>by have:=k.2;have:=z.1;lia),ζ z];lia
  . rw[ξ k,ξ fun z=>k (hp.mpr (.inl z)),ξ fun z=>k (hp.mpr (.inr (.inl z))),ξ fun z=>k (hp.mpr (.inr (.inr z)))];clear hp k;lia
theorem CInv.wi_tri(I:CInv n ls T)(h:(a,m,b)∈T):wi ls a b=ls.count (a,b)+wi ls a m+wi ls m b:=by
 obtain⟨g1,g2,g3,g4,g5,g6⟩:=I.tri a m b h;refine Qq a m b ls (fun p hp=>?_) (fun p hp=>by have:=I.lin p.1 p.2 hp;omega) g2 g3;obtain⟨x,y⟩:=p;have l:=I.lin x y hp;have k1:¬(a<x/\x<m/\m<y):=by
  rcases g5 with z |z
  . exact I.nc a m x y z hp
  . omega
 have k2:¬(x<m/\m<y/\y<b):=by
  rcases g6 with z |z
  . exact I.nc x y m b hp z
  . omega
 simp only[ng,mV,Prod.mk.injEq];omega
theorem CInv.wi_edge(I:CInv n ls T):∀(k:Nat)(a b:Int),(b - a).toNat<=k->0<=a->b<=n - 1->((a,b)∈ls\/b=a+1)->(wi ls a b:Int)=b - a - 1
 | 0,a,b,hk,h0,h1,h=>by
  rcases h with h |h
  . have:=I.lin a b h;lia
  . lia
 |k+1,a,b,hk,h0,h1,h=>by
  rcases h with h |h
  . obtain⟨m,hm⟩:=L8 I (.inr h);have g:=I.tri a m b hm;have e:=I.wi_tri hm;have e1:=CInv.wi_edge I k a m (by lia) h0 (by lia) g.2.2.2.2.1;have e2:=CInv.wi_edge I k m b (by lia) (by lia) h1 g.2.2.2.2.2;have c1:ls.count (a,b)<=1:=List.nodup_iff_count.mp I.nd _;have c2:0<ls.count (a,b):=List.count_pos_iff.mpr h
    lia
  . subst h;have:wi ls a (a+1)=0:=by
     unfold wi;rw[EQ,List.filter_eq_nil_iff];intro p hp;have:=I.lin p.1 p.2 hp;simp only[ng,mV]
     lia
    lia
theorem CInv.num(I:CInv n ls T):(ls.length:Int)+3=n:=by
 have h3:=I.n3;obtain⟨m,hm⟩:=L8 I (a:=0) (b:=n - 1) (.inl rfl);have g:=I.tri 0 m (n - 1) hm;have e:=I.wi_tri hm;have e1:=I.wi_edge (m - 0).toNat 0 m (η _) (by omega) (by omega) g.2.2.2.2.1;have e2:=I.wi_edge (n - 1 - m).toNat m (n - 1) (η _) (by omega) (by omega) g.2.2.2.2.2;have c:ls.count (0,n - 1)=0:=List.count_eq_zero.mpr fun z=>by have:=I.lin _ _ z;omega
 have w:wi ls 0 (n - 1)=ls.length:=by unfold wi;rw[List.filter_eq_self.mpr];intro p hp;have:=I.lin p.1 p.2 hp;simp only[ng,mV];omega
 omega
end
end Cu
noncomputable section
namespace K75
open PySem PySem.Spec PyProof.Rows L2
def Yd:DS->SR:=
 (g7 [true] (t7 (eUn (k7 "int") (a7 0)) (eUn (fun d=>(o9 d).map fun b=>.bl (!b)) (eUn (k7 "bool") (a7 0)))))
def X2:List D->R D:=mOf false 1 0 Yd
def Ws:DS->SR:=
 (c7 (d8 false 2 [false,true] (eOp dIx (a7 1) (eC (.int 0))))
  (c7 (d8 false 3 [false,true] (eOp dIx (a7 1) (eC (.int 1))))
  (c7 (sIf (bOr (d6 asB (eOp S7 (a7 2) (eC (.int 0)))) (d6 asB (eOp dGe (a7 3) (a7 0))))
   (g7 [] (eC (.bl false)))
   sNx)
  (g7 [true,false,true,true] (eOr (eOp dEq (a7 3) (eOp F3 (a7 2) (eC (.int 1)))) (t7 (eOp dEq (a7 2) (eC (.int 0))) (eOp dEq (a7 3) (eOp S8 (a7 0) (eC (.int 1))))))))))
def W8:List D->R D:=mOf false 2 2 Ws
def Ny:DE->R Bool:=
 (O7 (d6 asB (eOp dEq (eOp dIx (a7 0) (eC (.int 0))) (a7 1))) (O7 (d6 asB (eOp dLe (eOp dIx (a7 0) (eC (.int 1))) (eOp dIx (a7 2) (eC (.int 1))))) (d6 asB (eOp dNe (a7 0) (a7 2)))))
def Nw:DE->R D:=
 (eOp dIx (a7 0) (eC (.int 1)))
def Nv:DS->SR:=
 (c7 (d8 true 3 [true,true,true] (m8 (iL (a7 2)) b1 [0,1] Ny Nw))
  (g7 [true,false,false,true] (eCB T9 (a8 (a7 3) (a8 (eOp F3 (a7 0) (eC (.int 1))) b7)))))
def R1:List D->R D:=mOf false 3 1 Nv
def Ze:DS->SR:=
 (g7 [true,true] (eOp dIx (eOp v6 (eSl dSl (a7 0) (oSo (a7 1)) (oSo (eOp F3 (a7 1) (eC (.int 1))))) (t8 (a8 (eC (.int 0)) b7))) (eC (.int 0))))
def Br:List D->R D:=mOf false 2 0 Ze
def Zr:DS->SR:=
 (g7 [true] (t7 (eUn (k7 "int") (a7 0)) (t7 (eOp Z4 (a7 0) (eC (.bl true))) (eOp Z4 (a7 0) (eC (.bl false))))))
def Q8:List D->R D:=mOf false 1 0 Zr
def Gk:DS->SR:=
 (sIf (d6 asB (eOp Z1 (a7 0) (eC (.int 0))))
   (c7 (d8 false 6 [true,false,true,true,true,true] (eOp F3 (eOp Cn (eOp dIx (a7 3) (eOp v7 (a7 4) (a7 0))) (a7 2)) (a7 5)))
  (G6 D9 3 [true,false,false,false,true,false,true] (eOp v7 (a7 4) (a7 0)) (eOp v7 (a7 6) (eC (.int 2147483647)))))
   sNx)
def Zy:DS->SR:=
 (c7 (d8 true 3 [true] (eLR (a8 (a7 0) b7)))
  (c7 (r9 false [false,true] (iEn (a8 (a7 1) b7)) (.t [4,5]) Gk)
  (F4 3)))
def X8:List D->R D:=mOf true 3 4 Zy
def Ge:DS->SR:=
 (c7 (d8 false 4 [false,true,false,true] (eOp v7 (a7 3) (eCB j8 (a8 (a7 1) b7))))
  (c7 (B7 "list" v5 2 [false,true,false,false,true] (a8 (t9 (a8 (eOp dIx (a7 1) (a7 4)) (a8 (eOp dIx (a7 1) (eOp v7 (eOp F3 (a7 4) (eC (.int 1))) (eCB j8 (a8 (a7 1) b7)))) b7))) b7))
  (B7 "list" Y1 1 [false,true,false,false,true] (a8 (eOp F3 (a7 4) (eC (.int 1))) (a8 (eCB j8 (a8 (a7 1) b7)) b7)))))
def Gc:DS->SR:=
 (G6 D9 5 [false,false,false,false,false,false,true,true] (a7 7) (a7 6))
def Zq:DE->R D:=
 (eCB z7 (a8 (eCB p9 (a8 (t8 (a8 (eOp dIx (a7 2) (a7 0)) (a8 (eOp dIx (a7 2) (a7 1)) b7))) b7)) b7))
def Yc:DS->SR:=
 (c7 (d8 true 1 [] (t8 (a8 (eC (.int 0)) (a8 (eC (.int 1)) (a8 (eC (.int 2)) b7)))))
  (c7 (d8 true 2 [] (t8 b7))
  (c7 (r9 false [true] (iL (a7 0)) (.n 3) Ge)
  (c7 (d8 true 5 [] Hl)
  (c7 (r9 false [false,true] (iEn (a8 (a7 1) b7)) (.t [6,7]) Gc)
  (g7 [false,true,true,false,false,true] (t9 (a8 (eCB j8 (a8 (a7 1) b7)) (a8 (eCB z7 (a8 (eCB p9 (a8 (m8 (iL (a7 2)) (bT 2) [5] K9 Zq) b7)) b7)) b7)))))))))
def Q6:List D->R D:=mOf false 1 7 Yc
def Gg:DS->SR:=
 (c7 (sIf (d6 asB (eOp dEq (a7 3) (a7 1)))
   (B7 "list" v5 2 [false,false,false,false,true] (a8 (a7 4) b7))
   sNx)
  (sIf (d6 asB (eOp dEq (a7 4) (a7 1)))
   (B7 "list" v5 2 [false,false,false,true] (a8 (a7 3) b7))
   sNx))
def Zd:DS->SR:=
 (c7 (d8 true 2 [true,true] (t8 (a8 (eOp v7 (eOp F3 (a7 1) (eC (.int 1))) (eOp dIx (a7 0) (eC (.int 0)))) (a8 (eOp v7 (eOp S8 (a7 1) (eC (.int 1))) (eOp dIx (a7 0) (eC (.int 0)))) b7))))
  (c7 (r9 false [true] (iL (eOp dIx (a7 0) (eC (.int 1)))) (.t [3,4]) Gg)
  (F4 2)))
def X5:List D->R D:=mOf true 2 3 Zd
def Zc:DS->SR:=
 (c7 (sIf (d6 asB (eOp dEq (eOp v7 (a7 0) (eC (.int 16))) (eC (.int 15))))
   (g7 [] (eC (.int 5)))
   sNx)
  (g7 [true] (eOp v7 (eOp O4 (a7 0) (eC (.int 16))) (eC (.int 5)))))
def X4:List D->R D:=mOf false 1 0 Zc
def Wr:DS->SR:=
 (g7 [true,true] (t7 (Y6 (eC (.int 0)) (U0 dLe (eOp dIx (a7 1) (eC (.int 0))) (U0 S7 (eOp dIx (a7 1) (eC (.int 1))) (Z8 S7 (a7 0))))) (eUn (fun d=>(o9 d).map fun b=>.bl (!b)) (d9 W8 (a8 (a7 0) (a8 (a7 1) b7))))))
def Bl:List D->R D:=mOf false 2 0 Wr
def Vm:DS->SR:=
 (g7 [true] (t7 (eUn (k7 "tuple") (a7 0)) (t7 (eOp dEq (eCB j8 (a8 (a7 0) b7)) (eC (.int 2))) (t7 (d9 X2 (a8 (eOp dIx (a7 0) (eC (.int 0))) b7)) (d9 X2 (a8 (eOp dIx (a7 0) (eC (.int 1))) b7))))))
def W0:List D->R D:=mOf false 1 0 Vm
def R0:DE->R Bool:=
 (d6 asB (eOp S7 (eOp dIx (a7 2) (eUn S6 (eC (.int 1)))) (eOp dIx (a7 0) (eC (.int 1)))))
def Q9:DS->SR:=
 (B7 "list" v5 2 [true,true,true] (a8 (d9 R1 (a8 (eOp dIx (a7 2) (eUn S6 (eC (.int 1)))) (a8 (a7 0) (a8 (a7 1) b7)))) b7))
def Nj:DS->SR:=
 (c7 (d8 true 2 [true] (t8 (a8 (eOp dIx (a7 0) (eC (.int 0))) b7)))
  (c7 (F5 1000 R0 Q9)
  (g7 [false,false,true] (eCB z7 (a8 (a7 2) b7)))))
def Q7:List D->R D:=mOf false 2 1 Nj
def jc:DS->SR:=
 (g7 [true] (t7 (eUn (k7 "tuple") (a7 0)) (t7 (eOp dEq (eCB j8 (a8 (a7 0) b7)) (eC (.int 2))) (t7 (d9 Q8 (a8 (eOp dIx (a7 0) (eC (.int 0))) b7)) (d9 Q8 (a8 (eOp dIx (a7 0) (eC (.int 1))) b7))))))
def Bz:List D->R D:=mOf false 1 0 jc
def jk:DE->R Bool:=
 (d6 asB (eOp (dIn false) (a7 0) (a7 1)))
def ji:DE->R D:=
 (a7 0)
def jh:DE->R Bool:=
 (d6 asB (eOp dNe (a7 0) (a7 1)))
def jg:DE->R D:=
 (a7 0)
def Zx:DS->SR:=
 (c7 (d8 true 2 [true,true] (d9 X5 (a8 (a7 0) (a8 (eOp dIx (a7 1) (eC (.int 1))) b7))))
  (c7 (d8 true 3 [true,true,true] (eCB p9 (a8 (m8 (iL (d9 X5 (a8 (a7 0) (a8 (eOp dIx (a7 1) (eC (.int 0))) b7)))) b1 [2] jk ji) b7)))
  (c7 (d8 true 4 [true,true] (m8 (iL (eOp dIx (a7 0) (eC (.int 1)))) b1 [1] jh jg))
  (g7 [true,false,false,true,true] (t9 (a8 (eOp dIx (a7 0) (eC (.int 0))) (a8 (eCB z7 (a8 (eCB p9 (a8 (eOp v6 (a7 4) (t8 (a8 (eCB z7 (a8 (a7 3) b7)) b7))) b7)) b7)) b7)))))))
def K6:List D->R D:=mOf false 2 3 Zx
def Gi:DS->SR:=
 (c7 (sIf (bOr (y6 (d6 o9 (eUn (k7 "tuple") (a7 3)))) (bOr (d6 asB (eOp dNe (eCB j8 (a8 (a7 3) b7)) (eC (.int 2)))) (bOr (y6 (d6 o9 (eUn (k7 "tuple") (eOp dIx (a7 3) (eC (.int 0)))))) (y6 (d6 o9 (d9 Q8 (a8 (eOp dIx (a7 3) (eC (.int 1))) b7)))))))
   (g7 [] Dm)
   sNx)
  (G6 dSetN 2 [false,false,false,true] (eOp dIx (a7 3) (eC (.int 0))) (eOp dIx (a7 3) (eC (.int 1)))))
def Zp:DS->SR:=
 (c7 (d8 true 2 [] Dm)
  (c7 (sIf (y6 (d6 o9 (eUn (k7 "list") (a7 0))))
   (F4 2)
   sNx)
  (c7 (r9 false [true] (iL (a7 0)) (.n 3) Gi)
  (F4 2))))
def Bx:List D->R D:=mOf true 2 2 Zp
def Yb:DS->SR:=
 (g7 [true,true] (t7 (d9 W0 (a8 (a7 1) b7)) (eOr (d9 W8 (a8 (eOp dIx (a7 0) (eC (.int 0))) (a8 (a7 1) b7))) (eOp (dIn false) (a7 1) (eOp dIx (a7 0) (eC (.int 1)))))))
def Bn:List D->R D:=mOf false 2 0 Yb
def Zo:DS->SR:=
 (sIf (bOr (y6 (d6 o9 (d9 W0 (a8 (a7 1) b7)))) (d6 asB (eOp (dIn true) (a7 1) (eOp dIx (a7 0) (eC (.int 1))))))
  sNo
  sNx)
def Bw:List D->R D:=mOf false 2 0 Zo
def Lz:DE->R D:=
 (d9 Q7 (a8 (a7 0) (a8 (a7 1) b7)))
def Kc:DS->SR:=
 (c7 (d8 true 2 [true,true] (eOp v6 (t8 (a8 (t9 (a8 (eC (.int 0)) (a8 (eOp S8 (a7 0) (eC (.int 1))) b7))) b7)) (eCB Z6 (a8 (a7 1) b7))))
  (g7 [false,true,true] (eCB p9 (a8 (m8 (iL (a7 2)) b1 [1] K9 Lz) b7))))
def N3:List D->R D:=mOf true 2 1 Kc
def Zb:DE->R Bool:=
 (O7 (d6 asB (eOp (dIn false) (a7 0) (a7 2))) (d6 asB (eOp (dIn false) (a7 1) (a7 2))))
def Za:DE->R D:=
 (t9 (a8 (T6 (a7 2) (a7 0)) (a8 (T6 (a7 2) (a7 1)) b7)))
def Yz:DE->R Bool:=
 (d6 o9 (d9 Bl (a8 (eCB j8 (a8 (a7 1) b7)) (a8 (a7 0) b7))))
def Yy:DE->R D:=
 (a7 0)
def Wq:DS->SR:=
 (c7 (d8 true 2 [true,true] (m8 (iL (eOp dIx (a7 1) (eC (.int 1)))) (bT 2) [0] Zb Za))
  (g7 [true,false,true] (t9 (a8 (eCB j8 (a8 (a7 0) b7)) (a8 (eCB z7 (a8 (m8 (iL (a7 2)) b1 [0] Yz Yy) b7)) b7)))))
def W7:List D->R D:=mOf false 2 1 Wq
def Gj:DS->SR:=
 (d8 false 0 [true,false,false,true] (d9 K6 (a8 (a7 0) (a8 (eOp dIx (eOp dIx (a7 0) (eC (.int 1))) (eOp v7 (eOp O4 (a7 3) (eC (.int 11))) (eCB j8 (a8 (eOp dIx (a7 0) (eC (.int 1))) b7)))) b7))))
def No:DS->SR:=
 (c7 (sIf (d6 asB (eOp Z1 (eOp v7 (a7 2) (eC (.int 3))) (eC (.int 0))))
   (g7 [false,true] (d9 Q6 (a8 (a7 1) b7)))
   sNx)
  (c7 (r9 false [false,true,true] (iL (eSl dSl (a7 1) oNo (oSo (eOp F3 (eC (.int 1)) (eOp v7 (eOp O4 (a7 2) (eC (.int 3))) (eC (.int 5))))))) (.n 3) Gj)
  (g7 [true] (a7 0))))
def X7:List D->R D:=mOf false 3 1 No
def Gp:DS->SR:=
 (c7 (d8 false 5 [false,false,true,false,true] (d9 K6 (a8 (a7 2) (a8 (a7 4) b7))))
  (sIf (bOr (d6 asB (eOp (dInN true) (a7 5) (a7 0))) (y6 (Db (eUn S6 (eC (.int 1))) (Ev dLe (eOp S8 (eOp dIxN (a7 0) (a7 5)) (a7 3)) (Ew dLe (eC (.int 1)))))))
   (g7 [] (eC (.bl false)))
   sNx))
def Go:DS->SR:=
 (c7 (sIf (bOr (d6 asB (eOp dNe (eOp dEq (a7 3) (eC (.int 0))) (eOp dEq (a7 2) (a7 1)))) (d6 asB (eOp S7 (a7 3) (eC (.int 0)))))
   (g7 [] (eC (.bl false)))
   sNx)
  (r9 false [false,false,true] (iL (eOp dIx (a7 2) (eC (.int 1)))) (.n 4) Gp))
def jo:DS->SR:=
 (c7 (r9 false [true] (R4 (a7 0)) (.t [2,3]) Go)
  (g7 [] (eC (.bl true))))
def Ca:List D->R D:=mOf false 2 4 jo
def Nr:DS->SR:=
 (c7 (sIf (bOr (y6 (d6 o9 (d9 Bz (a8 (a7 3) b7)))) (d6 asB (eOp (dIn true) (a7 3) (eOp dIx (a7 1) (eC (.int 1))))))
   (g7 [] (eC (.bl false)))
   sNx)
  (d8 false 1 [false,true,false,true] (d9 K6 (a8 (a7 1) (a8 (a7 3) b7)))))
def Zn:DS->SR:=
 (c7 (sIf (y6 (d6 o9 (eUn (k7 "list") (a7 0))))
   (g7 [] (eC (.bl false)))
   sNx)
  (c7 (r9 false [true] (iL (a7 0)) (.n 3) Nr)
  (g7 [false,true,true] (eOp dEq (a7 1) (a7 2)))))
def Bu:List D->R D:=mOf false 3 1 Zn
def Zm:DS->SR:=
 (sIf (y6 (d6 o9 (d9 Bn (a8 (a7 0) (a8 (a7 1) b7)))))
  sNo
  sNx)
def Bt:List D->R D:=mOf false 2 0 Zm
def Yx:DS->SR:=
 (g7 [true] (d9 N3 (a8 (eOp dIx (a7 0) (eC (.int 0))) (a8 (eOp dIx (a7 0) (eC (.int 1))) b7))))
def Bp:List D->R D:=mOf true 1 0 Yx
def Xz:DE->R Bool:=
 (O7 (d6 asB (eOp (dIn false) (eOp dIx (a7 1) (eC (.int 0))) (a7 0))) (d6 asB (eOp (dIn false) (eOp dIx (a7 1) (eC (.int 1))) (a7 0))))
def Xy:DE->R D:=
 (a7 0)
def Xx:DE->R D:=
 (eOp S8 (eCB L5 (a8 (a7 0) b7)) (eCB L5 (a8 (a7 1) b7)))
def Vl:DS->SR:=
 (c7 (Ah (d9 Bt (a8 (a7 0) (a8 (a7 1) b7))))
  (c7 (d8 true 2 [true,true] (m8 (iL (d9 Bp (a8 (a7 0) b7))) b1 [1] Xz Xy))
  (g7 [false,true,true] (eCB p9 (a8 (m8 (iL (a7 2)) b1 [1] K9 Xx) b7)))))
def V9:List D->R D:=mOf true 2 1 Vl
def Xw:DE->R Bool:=
 (d6 asB (eOp dNe (a7 0) (a7 1)))
def Xv:DE->R D:=
 (a7 0)
def Vk:DS->SR:=
 (c7 (Ah (d9 Bw (a8 (a7 0) (a8 (a7 1) b7))))
  (c7 (d8 false 2 [true,true] (eCB z7 (a8 (d9 V9 (a8 (a7 0) (a8 (a7 1) b7))) b7)))
  (c7 (d8 true 3 [true,true] (m8 (iL (eOp dIx (a7 0) (eC (.int 1)))) b1 [1] Xw Xv))
  (g7 [true,false,true,true] (t9 (a8 (t9 (a8 (eOp dIx (a7 0) (eC (.int 0))) (a8 (eCB z7 (a8 (eCB p9 (a8 (eOp v6 (a7 3) (t8 (a8 (a7 2) b7))) b7)) b7)) b7))) (a8 (a7 2) b7)))))))
def C6:List D->R D:=mOf false 2 2 Vk
def Gn:DS->SR:=
 (c7 (d8 false 5 [false,false,false,true,true] (d9 C6 (a8 (a7 3) (a8 (a7 4) b7))))
  (sIf (d6 asB (eOp (dInN true) (eOp dIx (a7 5) (eC (.int 0))) (a7 1)))
   (c7 (G6 dSetN 1 [false,true,false,true,false,true] (eOp dIx (a7 5) (eC (.int 0))) (t9 (a8 (eOp F3 (eOp dIx (eOp dIxN (a7 1) (a7 3)) (eC (.int 0))) (eC (.int 1))) (a8 (eOp dIx (a7 5) (eC (.int 1))) b7))))
  (B7 "list" v5 2 [false,false,false,false,false,true] (a8 (eOp dIx (a7 5) (eC (.int 0))) b7)))
   sNx))
def Gm:DS->SR:=
 (r9 false [false,false,false,true] (iL (eOp dIx (a7 3) (eC (.int 1)))) (.n 4) Gn)
def Gh:DS->SR:=
 (c7 (d8 true 2 [] (t8 b7))
  (c7 (r9 false [true] (iL (a7 0)) (.n 3) Gm)
  sNx))
def By:List D->R (D×D):=Ce 4 2 Gh
def Gb:DE->R Bool:=
 (d6 asB (eOp Z1 (eCB j8 (a8 (a7 2) b7)) (eC (.int 0))))
def Ga:DS->SR:=
 (X9 2 1 [false,false,true] By (a7 2))
def Xu:DS->SR:=
 (c7 (d8 true 1 [true] (eDisp1 (a7 0) (t9 (a8 (eC (.int 0)) (a8 (eC .non) b7)))))
  (c7 (d8 true 2 [true] (t8 (a8 (a7 0) b7)))
  (c7 (F5 100000 Gb Ga)
  (F4 1))))
def Q5:List D->R D:=mOf true 1 2 Xu
def Zw:DE->R D:=
 (t9 (a8 (a7 0) (a8 (eOp dIx (a7 1) (eC (.int 0))) b7)))
def Yw:DS->SR:=
 (c7 (sIf (d6 asB (eOp Z1 (eOp dIx (a7 0) (eC (.int 0))) (eC (.int 8))))
   sNo
   sNx)
  (g7 [true] (eCB p9 (a8 (m8 (R4 (d9 Q5 (a8 (a7 0) b7))) (bT 2) [] K9 Zw) b7))))
def Bo:List D->R D:=mOf true 1 0 Yw
def Fz:DE->R Bool:=
 (d6 asB (eOp dNe (a7 4) (a7 1)))
def Bs:DS->SR:=
 (c7 (B7 "list" v5 3 [false,false,true,false,true] (a8 (eOp dIx (eOp dIxN (a7 2) (a7 4)) (eC (.int 1))) b7))
  (d8 false 4 [false,false,false,true,true] (eOp dIx (d9 C6 (a8 (a7 4) (a8 (eOp dIx (a7 3) (eUn S6 (eC (.int 1)))) b7))) (eC (.int 0)))))
def Xs:DS->SR:=
 (c7 (d8 true 2 [false,true] (d9 Q5 (a8 (a7 1) b7)))
  (c7 (d8 true 3 [] (t8 b7))
  (c7 (d8 false 4 [true] (a7 0))
  (c7 (F5 1000 Fz Bs)
  (F4 3)))))
def Bm:List D->R D:=mOf true 2 3 Xs
def jf:DE->R D:=
 (t9 (a8 (eOp dIx (a7 2) (a7 0)) (a8 (eOp dIx (a7 2) (a7 1)) b7)))
def Zv:DS->SR:=
 (c7 (d8 false 3 [true,true] (d9 W7 (a8 (a7 0) (a8 (a7 1) b7))))
  (c7 (d8 false 4 [true,false,true] (d9 W7 (a8 (a7 0) (a8 (a7 2) b7))))
  (c7 (d8 false 5 [true,false,false,true,true] (eIf (d6 asB (eOp dLe (eCB j8 (a8 (a7 0) b7)) (eC (.int 8)))) (d9 Bm (a8 (a7 3) (a8 (a7 4) b7))) eNo))
  (g7 [true,false,false,false,false,true] (m8 (iL (a7 5)) (bT 2) [0] K9 jf)))))
def X6:List D->R D:=mOf true 3 3 Zv
def Xr:DE->R Bool:=
 (d6 asB (eOp (dIn false) (a7 0) (eOp dIx (a7 1) (eC (.int 1)))))
def Xq:DE->R D:=
 (a7 0)
def Mp:DS->SR:=
 (B7 "list" Y0 3 [true,true,false,false,true] (a8 (d9 X6 (a8 (a7 4) (a8 (a7 0) (a8 (a7 1) b7)))) b7))
def Vj:DS->SR:=
 (c7 (sIf (d6 asB (eOp dNe (eOp dIx (a7 0) (eC (.int 0))) (eOp dIx (a7 1) (eC (.int 0)))))
   sNo
   sNx)
  (c7 (d8 true 2 [true,true] (m8 (iL (eOp dIx (a7 0) (eC (.int 1)))) b1 [1] Xr Xq))
  (c7 (d8 true 3 [] (t8 b7))
  (c7 (r9 false [true,false,true] (iL (d9 N3 (a8 (eOp dIx (a7 0) (eC (.int 0))) (a8 (a7 2) b7)))) (.n 4) Mp)
  (F4 3)))))
def Bc:List D->R D:=mOf true 2 3 Vj
def Ou:DS->SR:=
 (c7 (d8 false 1 [true] (d9 Br (a8 (a7 0) (a8 (eC (.int 0)) b7))))
  (c7 (d8 false 2 [true,true] (d9 Q6 (a8 (d9 X8 (a8 (d9 X4 (a8 (a7 1) b7)) (a8 (eSl dSl (a7 0) (oSo (eC (.int 1))) oNo) (a8 (eC (.int 48271)) b7)))) b7)))
  (c7 (d8 false 3 [true,true,true] (d9 X7 (a8 (a7 2) (a8 (d9 X8 (a8 (d9 X4 (a8 (a7 1) b7)) (a8 (eSl dSl (a7 0) (oSo (eC (.int 1))) oNo) (a8 (eC (.int 69621)) b7)))) (a8 (eOp O4 (a7 1) (eC (.int 80))) b7)))))
  (c7 (d8 true 4 [false,false,true,true] (d9 Bx (a8 (d9 Bo (a8 (a7 3) b7)) (a8 (eOp dIx (a7 2) (eC (.int 0))) b7))))
  (c7 (sIf (bOr (d6 asB (eOp (dInN true) (a7 2) (a7 4))) (bOr (d6 asB (eOp (dInN true) (a7 3) (a7 4))) (y6 (d6 o9 (d9 Ca (a8 (a7 4) (a8 (a7 3) b7)))))))
   (g7 [] (eC (.bl false)))
   sNx)
  (c7 (d8 true 5 [false,false,true,true] (d9 Bc (a8 (a7 2) (a8 (a7 3) b7))))
  (g7 [false,false,true,true,true,true] (t7 (d9 Bu (a8 (a7 5) (a8 (a7 2) (a8 (a7 3) b7)))) (eOp dEq (eCB j8 (a8 (a7 5) b7)) (eOp dIxN (a7 4) (a7 2)))))))))))
def T5:List D->R D:=mOf false 1 5 Ou
def top(i:Nat):Stmt:=PySem.Challenge.pw_friezeyard_k75_whole_shortest_ways.main.body.getD i (.Pass ⟨0,0,0,0⟩)
abbrev Mn:Stmt:=top 7
abbrev Ly:Stmt:=top 8
abbrev Lx:Stmt:=top 9
abbrev Lg:Stmt:=top 11
abbrev Mm:Stmt:=top 12
abbrev Ni:Stmt:=top 13
abbrev Nh:Stmt:=top 14
abbrev Kb:Stmt:=top 18
abbrev Ng:Stmt:=top 19
abbrev Nu:Stmt:=top 20
abbrev My:Stmt:=top 21
abbrev Lf:Stmt:=top 22
abbrev Le:Stmt:=top 24
abbrev Mx:Stmt:=top 31
abbrev Ml:Stmt:=top 32
abbrev Nq:Stmt:=top 33
abbrev Ld:Stmt:=top 34
abbrev Nn:Stmt:=top 35
abbrev Lw:Stmt:=top 36
abbrev Mk:Stmt:=top 37
abbrev Mw:Stmt:=top 41
abbrev Nf:Stmt:=top 42
abbrev Np:Stmt:=top 43
abbrev Nm:Stmt:=top 44
abbrev Mj:Stmt:=top 45
abbrev Mv:Stmt:=top 46
abbrev Nl:Stmt:=top 47
abbrev Nk:Stmt:=top 48
abbrev Nd:Stmt:=top 49
abbrev Nz:Stmt:=top 50
abbrev Nc:Stmt:=top 51
abbrev Mu:Stmt:=top 52
abbrev Hg:Stmt:=top 53
structure Txt(mg:Str->Option Value):Prop where
 bool:mg "bool"=none
 enumerate:mg "enumerate"=none
 int:mg "int"=none
 isinstance:mg "isinstance"=none
 len:mg "len"=none
 list:mg "list"=none
 «max»:mg "max"=none
 range:mg "range"=none
 sorted:mg "sorted"=none
 sum:mg "sum"=none
 tuple:mg "tuple"=none
theorem zen:FnScope ["thing"] ["thing"] (d7 Mn):=fsc
theorem sc_is_side:FnScope ["n","p","a","b"] ["n","p"] (d7 Ly):=fsc
theorem zR:FnScope ["n","p"] ["n","p"] (d7 Lx):=fsc
theorem zi:FnScope ["thing"] ["thing"] (d7 Lg):=fsc
theorem zeo:FnScope ["cut","p"] ["cut","p"] (d7 Mm):=fsc
theorem zb8:FnScope ["cut","p"] ["cut","p"] (d7 Ni):=fsc
theorem zb9:FnScope ["cut","p"] ["cut","p"] (d7 Nh):=fsc
theorem sc_rooms:FnScope ["n","lines","tops"] ["n","lines"] (d7 Kb):=fsc
theorem sc_room_under:FnScope ["top","lines","room"] ["top","lines"] (d7 Ng):=fsc
theorem sc_corner_behind:FnScope ["corner","top","lines","ends"] ["corner","top","lines"] (d7 Nu):=fsc
theorem zd7:FnScope ["cut"] ["cut"] (d7 My):=fsc
theorem sc_thirds:FnScope ["cut","p","both"] ["cut","p"] (d7 Lf):=fsc
theorem sc_turned:FnScope ["cut","line","new","kept"] ["cut","line"] (d7 Le):=fsc
theorem zd8:FnScope ["cut"] ["cut"] (d7 Mx):=fsc
theorem sc_steps_to:FnScope ["cut","found","front"] ["cut"] (d7 Ml):=fsc
theorem sc_front_behind:FnScope ["front","found","behind","cut","line","step"] ["front","found"] (d7 Nq):=fsc
theorem sc_way_to:FnScope ["one","other","both","way","room"] ["one","other"] (d7 Ld):=fsc
theorem sc_way_in_room:FnScope ["room","one","other","start","end","way"] ["room","one","other"] (d7 Nn):=fsc
theorem sc_part_in:FnScope ["room","cut","inside"] ["room","cut"] (d7 Lw):=fsc
theorem sc_shortest:FnScope ["start","end","steps","way","now"] ["start","end"] (d7 Mk):=fsc
theorem zd9:FnScope ["_law_script","_law_k"] ["_law_script","_law_k"] (d7 Mw):=fsc
theorem zba:FnScope ["_law_found"] ["_law_found"] (d7 Nf):=fsc
theorem z89:FnScope ["_law_found"] ["_law_found"] (d7 Np):=fsc
theorem sc__law_places:FnScope ["_law_many_here","_law_cells","_law_by","_law_found","_law_k","_law_one","_law_mixed"] ["_law_many_here","_law_cells","_law_by"] (d7 Nm):=fsc
theorem sc__law_cut:FnScope ["_law_spots","_law_order","_law_lines","_law_spot","_law_at","_law_stands","_law_k","_law_name"] ["_law_spots"] (d7 Mj):=fsc
theorem sc__law_ends:FnScope ["_law_cut_here","_law_corner","_law_found","_law_a","_law_b"] ["_law_cut_here","_law_corner"] (d7 Mv):=fsc
theorem sc__law_turned:FnScope ["_law_cut_here","_law_line","_law_far","_law_both","_law_left"] ["_law_cut_here","_law_line"] (d7 Nl):=fsc
theorem sc__law_second:FnScope ["_law_one","_law_spots","_law_cell","_law_spot"] ["_law_one","_law_spots","_law_cell"] (d7 Nk):=fsc
theorem sc__law_table:FnScope ["_law_found","_law_n","_law_far","_law_row"] ["_law_found","_law_n"] (d7 Nd):=fsc
theorem sc__law_never_undercut:FnScope ["_law_far","_law_home_cut","_law_one","_law_number","_law_line","_law_there"] ["_law_far","_law_home_cut"] (d7 Nz):=fsc
theorem sc__law_leads:FnScope ["_law_found","_law_here","_law_other","_law_line"] ["_law_found","_law_here","_law_other"] (d7 Nc):=fsc
theorem zda:FnScope ["_law_cell"] ["_law_cell"] (d7 Mu):=fsc
theorem sc_law:FnScope ["_law_script","_law_cell","_law_one","_law_other","_law_far","_law_found"] ["_law_script"] (d7 Hg):=fsc
abbrev Xp(P:Program)(w:World)(K:Frag)(mg:Str->Option Value)(base:Heap):Prop:=g8 P w K mg base "is_whole" ["thing"] 1 (spD K mg false X2 1)
abbrev Lu(P:Program)(w:World)(K:Frag)(mg:Str->Option Value)(base:Heap):Prop:=g8 P w K mg base "is_side" ["n","p"] 1 (spD K mg false W8 2)
abbrev je(P:Program)(w:World)(K:Frag)(mg:Str->Option Value)(base:Heap):Prop:=g8 P w K mg base "corner_behind" ["corner","top","lines"] 1 (spD K mg false R1 3)
abbrev Yv(P:Program)(w:World)(K:Frag)(mg:Str->Option Value)(base:Heap):Prop:=g8 P w K mg base "_law_pick" ["_law_script","_law_k"] 1 (spD K mg false Br 2)
abbrev Nb(P:Program)(w:World)(K:Frag)(mg:Str->Option Value)(base:Heap):Prop:=g8 P w K mg base "_law_plain" ["_law_found"] 1 (spD K mg false Q8 1)
abbrev Zu(P:Program)(w:World)(K:Frag)(mg:Str->Option Value)(base:Heap):Prop:=g8 P w K mg base "_law_places" ["_law_many_here","_law_cells","_law_by"] 1 (spD K mg true X8 3)
abbrev Mi(P:Program)(w:World)(K:Frag)(mg:Str->Option Value)(base:Heap):Prop:=g8 P w K mg base "_law_cut" ["_law_spots"] 1 (spD K mg false Q6 1)
abbrev Yu(P:Program)(w:World)(K:Frag)(mg:Str->Option Value)(base:Heap):Prop:=g8 P w K mg base "_law_ends" ["_law_cut_here","_law_corner"] 1 (spD K mg true X5 2)
abbrev Yt(P:Program)(w:World)(K:Frag)(mg:Str->Option Value)(base:Heap):Prop:=g8 P w K mg base "_law_many" ["_law_cell"] 1 (spD K mg false X4 1)
abbrev Wp(P:Program)(w:World)(K:Frag)(mg:Str->Option Value)(base:Heap):Prop:=g8 P w K mg base "is_line" ["n","p"] 2 (spD K mg false Bl 2)
abbrev Lc(P:Program)(w:World)(K:Frag)(mg:Str->Option Value)(base:Heap):Prop:=g8 P w K mg base "is_two" ["thing"] 2 (spD K mg false W0 1)
abbrev Zl(P:Program)(w:World)(K:Frag)(mg:Str->Option Value)(base:Heap):Prop:=g8 P w K mg base "room_under" ["top","lines"] 2 (spD K mg false Q7 2)
abbrev jb(P:Program)(w:World)(K:Frag)(mg:Str->Option Value)(base:Heap):Prop:=g8 P w K mg base "_law_is_pair" ["_law_found"] 2 (spD K mg false Bz 1)
abbrev Gf(P:Program)(w:World)(K:Frag)(mg:Str->Option Value)(base:Heap):Prop:=g8 P w K mg base "_law_turned" ["_law_cut_here","_law_line"] 2 (spD K mg false K6 2)
abbrev Zk(P:Program)(w:World)(K:Frag)(mg:Str->Option Value)(base:Heap):Prop:=g8 P w K mg base "_law_table" ["_law_found","_law_n"] 2 (spD K mg true Bx 2)
abbrev Xo(P:Program)(w:World)(K:Frag)(mg:Str->Option Value)(base:Heap):Prop:=g8 P w K mg base "has_pair" ["cut","p"] 3 (spD K mg false Bn 2)
abbrev Zj(P:Program)(w:World)(K:Frag)(mg:Str->Option Value)(base:Heap):Prop:=g8 P w K mg base "check_line" ["cut","p"] 3 (spD K mg false Bw 2)
abbrev Ka(P:Program)(w:World)(K:Frag)(mg:Str->Option Value)(base:Heap):Prop:=g8 P w K mg base "rooms" ["n","lines"] 3 (spD K mg true N3 2)
abbrev Wo(P:Program)(w:World)(K:Frag)(mg:Str->Option Value)(base:Heap):Prop:=g8 P w K mg base "part_in" ["room","cut"] 3 (spD K mg false W7 2)
abbrev Zt(P:Program)(w:World)(K:Frag)(mg:Str->Option Value)(base:Heap):Prop:=g8 P w K mg base "_law_second" ["_law_one","_law_spots","_law_cell"] 3 (spD K mg false X7 3)
abbrev jm(P:Program)(w:World)(K:Frag)(mg:Str->Option Value)(base:Heap):Prop:=g8 P w K mg base "_law_never_undercut" ["_law_far","_law_home_cut"] 3 (spD K mg false Ca 2)
abbrev Zi(P:Program)(w:World)(K:Frag)(mg:Str->Option Value)(base:Heap):Prop:=g8 P w K mg base "_law_leads" ["_law_found","_law_here","_law_other"] 3 (spD K mg false Bu 3)
abbrev Zh(P:Program)(w:World)(K:Frag)(mg:Str->Option Value)(base:Heap):Prop:=g8 P w K mg base "check_pair" ["cut","p"] 4 (spD K mg false Bt 2)
abbrev Ys(P:Program)(w:World)(K:Frag)(mg:Str->Option Value)(base:Heap):Prop:=g8 P w K mg base "triangles" ["cut"] 4 (spD K mg true Bp 1)
abbrev Vi(P:Program)(w:World)(K:Frag)(mg:Str->Option Value)(base:Heap):Prop:=g8 P w K mg base "thirds" ["cut","p"] 5 (spD K mg true V9 2)
abbrev Lb(P:Program)(w:World)(K:Frag)(mg:Str->Option Value)(base:Heap):Prop:=g8 P w K mg base "turned" ["cut","line"] 6 (spD K mg false C6 2)
abbrev ja(P:Program)(w:World)(K:Frag)(mg:Str->Option Value)(base:Heap):Prop:=g8 P w K mg base "front_behind" ["front","found"] 7 (spW K By)
abbrev Mh(P:Program)(w:World)(K:Frag)(mg:Str->Option Value)(base:Heap):Prop:=g8 P w K mg base "steps_to" ["cut"] 8 (spD K mg true Q5 1)
abbrev Yr(P:Program)(w:World)(K:Frag)(mg:Str->Option Value)(base:Heap):Prop:=g8 P w K mg base "distances" ["cut"] 9 (spD K mg true Bo 1)
abbrev Xn(P:Program)(w:World)(K:Frag)(mg:Str->Option Value)(base:Heap):Prop:=g8 P w K mg base "shortest" ["start","end"] 9 (spD K mg true Bm 2)
abbrev Zs(P:Program)(w:World)(K:Frag)(mg:Str->Option Value)(base:Heap):Prop:=g8 P w K mg base "way_in_room" ["room","one","other"] 10 (spD K mg true X6 3)
abbrev Vh(P:Program)(w:World)(K:Frag)(mg:Str->Option Value)(base:Heap):Prop:=g8 P w K mg base "way_to" ["one","other"] 11 (spD K mg true Bc 2)
section
variable {P:Program}{w:World}{K:Frag}{mg:Str->Option Value}{base:Heap}{f:Addr}{fd:FuncData}
theorem zeq(F:Fun K "is_whole" "is_whole" Mn f fd)(T:Txt mg)  : FnOk P w K mg base (CX1 P w) 1 f fd ["thing"] (spD K mg false X2 1):=
 fnD (k:=0) F zen rfl rfl fun cdv A outer s H E hr=>
  (c9 (i7 (z5 (G9 rfl T.isinstance FU (qv 0) (J9 (v:=.ty "int") rfl T.int boot_int rfl)) (E6 (Sc (G9 rfl T.isinstance FU (qv 0) (J9 (v:=.ty "bool") rfl T.bool boot_bool rfl)))))))
theorem zQ(F:Fun K "is_side" "is_side" Ly f fd)(T:Txt mg)  : FnOk P w K mg base (CX1 P w) 1 f fd ["n","p"] (spD K mg false W8 2):=
 fnD (k:=0) F sc_is_side rfl rfl fun cdv A outer s H E hr=>
  (c8 (sA 2 sc_is_side.nd (qI hr (qv 1) b8))
   (c8 (sA 3 sc_is_side.nd (qI hr (qv 1) b8))
   (c8 (o8 (QW.pt (E0 (k6 Z0 An (qv 2) b8 (i8 _)) (P4 (k6 y35 kB (qv 3) (qv 0) (i8 _)))))
    (c9 (i7 G0))
    p7)
   (c9 (i7 (jF (C1 (E8 hr.units) E7 (qv 3) (i5 J4 J8 (qv 2) b8) (i8 _)) (E6 (z5 (C1 (E8 hr.units) E7 (qv 2) b8 (i8 _)) (E6 (C1 (E8 hr.units) E7 (qv 3) (i5 Ab Ao (qv 0) b8) (i8 _)))))))))))
theorem z70(F:Fun K "corner_behind" "corner_behind" Nu f fd)(T:Txt mg)  : FnOk P w K mg base (CX1 P w) 1 f fd ["corner","top","lines"] (spD K mg false R1 3):=
 fnD (k:=0) F sc_corner_behind rfl rfl fun cdv A outer s H E hr=>
  (c8 (Y3 sc_corner_behind.nd (k:=3) rfl rfl (z9 (caps:=["corner","top"]) (ix:=[0,1]) rfl rfl) (by decide +kernel) rfl (l9 (qv 2)) (.one fun _ _ _=>(QW.pt (Dq (tE hr (qI hr (qv 0) b8) (qv 1) (i8 _)) (Dq (k6 Y9 Z7 (qI hr (qv 0) b8) (qI hr (qv 2) b8) (i8 _)) (Jl (tN hr (qv 0) (qv 2) (i8 _))))))) (fun _ _ _=>(qI hr (qv 0) b8)))
   (c9 (i7 (vi rfl rfl T.«max» boot_max (qv 3) (i5 J4 J8 (qv 0) b8)))))
theorem zdd(F:Fun K "_law_pick" "_law_pick" Mw f fd)(T:Txt mg)  : FnOk P w K mg base (CX1 P w) 1 f fd ["_law_script","_law_k"] (spD K mg false Br 2):=
 fnD (k:=0) F zd9 rfl rfl fun cdv A outer s H E hr=>
  (c9 (i7 (qI hr (QE.wk (i5 Er Eg (QE.wk (Cg Fl Fg (qv 0) (Y4 (qv 1)) (Y4 (i5 J4 J8 (qv 1) b8)))) (QE.wk (z6 (a9 b8 b9))))) b8)))
theorem zbd(F:Fun K "_law_plain" "_law_plain" Nf f fd)(T:Txt mg)  : FnOk P w K mg base (CX1 P w) 1 f fd ["_law_found"] (spD K mg false Q8 1):=
 fnD (k:=0) F zba rfl rfl fun cdv A outer s H E hr=>
  (c9 (i7 (z5 (G9 rfl T.isinstance FU (qv 0) (J9 (v:=.ty "int") rfl T.int boot_int rfl)) (z5 (C1 Ug Uf (qv 0) G0 (i8 _)) (E6 (C1 Ug Uf (qv 0) G0 (i8 _)))))))
theorem z8t(F:Fun K "_law_places" "_law_places" Nm f fd)(T:Txt mg)  : FnOk P w K mg base (CX1 P w) 1 f fd ["_law_many_here","_law_cells","_law_by"] (spD K mg true X8 3):=
 fnD (k:=0) F sc__law_places rfl rfl fun cdv A outer s H E hr=>
  (c8 (sA 3 sc__law_places.nd (y3o rfl rfl T.list rfl T.range (a9 (qv 0) b9)))
   (c8 (E3 DK rfl (jE rfl T.enumerate (a9 (qv 1) b9)) (g_t rfl (N6 (i:=4) sc__law_places.nd rfl (Or.inl rfl) (N6 (i:=5) sc__law_places.nd rfl (Or.inl rfl) Ef)))
    (c9 (o8 (k6 Ct Ei (qv 0) b8 (i8 _))
    (c8 (sA 6 sc__law_places.nd (i5 J4 J8 (i5 kQ vy (qI hr (qv 3) (i5 C3 C4 (qv 4) (qv 0))) (qv 2)) (qv 5)))
   (c9 (Pk hr.units (pw 3) (i5 C3 C4 (qv 4) (qv 0)) (i5 C3 C4 (qv 6) b8))))
    p7)))
   (c9 (P7 (i:=3)))))
theorem zer(F:Fun K "_law_cut" "_law_cut" Mj f fd)(T:Txt mg)  : FnOk P w K mg base (CX1 P w) 1 f fd ["_law_spots"] (spD K mg false Q6 1):=
 fnD (k:=0) F sc__law_cut rfl rfl fun cdv A outer s H E hr=>
  (c8 (sA 1 sc__law_cut.nd (z6 (a9 b8 (a9 b8 (a9 b8 b9)))))
   (c8 (sA 2 sc__law_cut.nd (z6 b9))
   (c8 (E3 DK rfl (l9 (qv 0)) (g_n (i:=3) sc__law_cut.nd rfl (Or.inl rfl))
    (c8 (sA 4 sc__law_cut.nd (i5 C3 C4 (qv 3) (qL T.len (qv 1))))
   (c8 (P1 DY FG FF Q4 V1 N5 (pw 2) (a9 (C0 (a9 (qI hr (qv 1) (qv 4)) (a9 (qI hr (qv 1) (i5 C3 C4 (i5 J4 J8 (qv 4) b8) (qL T.len (qv 1)))) b9))) b9))
   (c9 (P1 DY PySem.F.slot_list_insert PySem.F.type_list_insert zo vk N5 (pw 1) (a9 (i5 J4 J8 (qv 4) b8) (a9 (qL T.len (qv 1)) b9)))))))
   (c8 (sA 5 sc__law_cut.nd vo)
   (c8 (E3 DK rfl (jE rfl T.enumerate (a9 (qv 1) b9)) (g_t rfl (N6 (i:=6) sc__law_cut.nd rfl (Or.inl rfl) (N6 (i:=7) sc__law_cut.nd rfl (Or.inl rfl) Ef)))
    (c9 (Pk hr.units (pw 5) (qv 7) (qv 6))))
   (c9 (i7 (C0 (a9 (qL T.len (qv 1)) (a9 (I0 O1 O0 rfl T.tuple GO (a9 (QE.wk (D3 (N4 rfl hr.units) N8 rfl T.sorted Ik (a9 (QE.wk (Od (z9 (caps:=["_law_stands"]) (ix:=[5]) rfl rfl) (by decide +kernel) rfl rfl (l9 (qv 2)) .nil (fun _ _ _=>(I0 O1 O0 rfl T.tuple GO (a9 (QE.wk (D3 (N4 rfl hr.units) N8 rfl T.sorted Ik (a9 (QE.wk (z6 (a9 (qI hr (qv 2) (qv 0)) (a9 (qI hr (qv 2) (qv 1)) b9)))) b9))) b9))))) b9))) b9)) b9))))))))))
theorem zde(F:Fun K "_law_ends" "_law_ends" Mv f fd)(T:Txt mg)  : FnOk P w K mg base (CX1 P w) 1 f fd ["_law_cut_here","_law_corner"] (spD K mg true X5 2):=
 fnD (k:=0) F sc__law_ends rfl rfl fun cdv A outer s H E hr=>
  (c8 (sA 2 sc__law_ends.nd (z6 (a9 (i5 C3 C4 (i5 J4 J8 (qv 1) b8) (qI hr (qv 0) b8)) (a9 (i5 C3 C4 (i5 Ab Ao (qv 1) b8) (qI hr (qv 0) b8)) b9))))
   (c8 (E3 DK rfl (l9 (qI hr (qv 0) b8)) (g_t rfl (N6 (i:=3) sc__law_ends.nd rfl (Or.inl rfl) (N6 (i:=4) sc__law_ends.nd rfl (Or.inl rfl) Ef)))
    (c8 (o8 (tE hr (qv 3) (qv 1) (i8 _))
    (c9 (P1 DY FG FF Q4 V1 N5 (pw 2) (a9 (qv 4) b9)))
    p7)
   (c9 (o8 (tE hr (qv 4) (qv 1) (i8 _))
    (c9 (P1 DY FG FF Q4 V1 N5 (pw 2) (a9 (qv 3) b9)))
    p7))))
   (c9 (P7 (i:=2)))))
theorem zdf(F:Fun K "_law_many" "_law_many" Mu f fd)(T:Txt mg)  : FnOk P w K mg base (CX1 P w) 1 f fd ["_law_cell"] (spD K mg false X4 1):=
 fnD (k:=0) F zda rfl rfl fun cdv A outer s H E hr=>
  (c8 (o8 (tE hr (i5 C3 C4 (qv 0) b8) b8 (i8 _))
    (c9 (i7 b8))
    p7)
   (c9 (i7 (i5 C3 C4 (i5 Ep Ej (qv 0) b8) b8))))
theorem zP(F:Fun K "is_line" "is_line" Lx f fd)(T:Txt mg)(aK:Lu P w K mg base):FnOk P w K mg base (CX1 P w) 2 f fd ["n","p"] (spD K mg false Bl 2):=
 fnD (k:=1) F zR rfl rfl fun cdv A outer s H E hr=>
  (c9 (i7 (z5 (y02 b8 (Sb Y9 Z7 (qI hr (qv 1) b8) (Sb Z0 An (qI hr (qv 1) b8) (vv Z0 An (qv 0))))) (E6 (Sc (e7 e8 aK hr rfl (a9 (qv 0) (a9 (qv 1) b9))))))))
theorem zh(F:Fun K "is_two" "is_two" Lg f fd)(T:Txt mg)(bw:Xp P w K mg base):FnOk P w K mg base (CX1 P w) 2 f fd ["thing"] (spD K mg false W0 1):=
 fnD (k:=1) F zi rfl rfl fun cdv A outer s H E hr=>
  (c9 (i7 (z5 (G9 rfl T.isinstance FU (qv 0) (J9 (v:=.ty "tuple") rfl T.tuple GO rfl)) (z5 (C1 (E8 hr.units) E7 (qL T.len (qv 0)) b8 (i8 _)) (z5 (e7 e8 bw hr rfl (a9 (qI hr (qv 0) b8) b9)) (E6 (e7 e8 bw hr rfl (a9 (qI hr (qv 0) b8) b9))))))))
theorem zbe(F:Fun K "room_under" "room_under" Ng f fd)(T:Txt mg)(aJ:je P w K mg base):FnOk P w K mg base (CX1 P w) 2 f fd ["top","lines"] (spD K mg false Q7 2):=
 fnD (k:=1) F sc_room_under rfl rfl fun cdv A outer s H E hr=>
  (c8 (sA 2 sc_room_under.nd (z6 (a9 (qI hr (qv 0) b8) b9)))
   (c8 (Ki (n:=1000) DK (k6 Z0 An (qI hr (qv 2) (Ci Ds Eh b8)) (qI hr (qv 0) b8) (i8 _))
    (c9 (P1 DY FG FF Q4 V1 N5 (pw 2) (a9 (e7 e8 aJ hr rfl (a9 (qI hr (qv 2) (Ci Ds Eh b8)) (a9 (qv 0) (a9 (qv 1) b9)))) b9))))
   (c9 (i7 (I0 O1 O0 rfl T.tuple GO (a9 (qv 2) b9))))))
theorem z8g(F:Fun K "_law_is_pair" "_law_is_pair" Np f fd)(T:Txt mg)(av:Nb P w K mg base):FnOk P w K mg base (CX1 P w) 2 f fd ["_law_found"] (spD K mg false Bz 1):=
 fnD (k:=1) F z89 rfl rfl fun cdv A outer s H E hr=>
  (c9 (i7 (z5 (G9 rfl T.isinstance FU (qv 0) (J9 (v:=.ty "tuple") rfl T.tuple GO rfl)) (z5 (C1 (E8 hr.units) E7 (qL T.len (qv 0)) b8 (i8 _)) (z5 (e7 e8 av hr rfl (a9 (qI hr (qv 0) b8) b9)) (E6 (e7 e8 av hr rfl (a9 (qI hr (qv 0) b8) b9))))))))
theorem z8u(F:Fun K "_law_turned" "_law_turned" Nl f fd)(T:Txt mg)(aV:Yu P w K mg base):FnOk P w K mg base (CX1 P w) 2 f fd ["_law_cut_here","_law_line"] (spD K mg false K6 2):=
 fnD (k:=1) F sc__law_turned rfl rfl fun cdv A outer s H E hr=>
  (c8 (sA 2 sc__law_turned.nd (e7 e8 aV hr rfl (a9 (qv 0) (a9 (qI hr (qv 1) b8) b9))))
   (c8 (sA 3 sc__law_turned.nd (D3 (N4 rfl hr.units) N8 rfl T.sorted Ik (a9 (QE.wk (Cf (z9 (caps:=["_law_far"]) (ix:=[2]) rfl rfl) (by decide +kernel) rfl (l9 (QE.wk (e7 e8 aV hr rfl (a9 (qv 0) (a9 (qI hr (qv 1) b8) b9))))) (.one fun _ _ _=>(k6 (P5 hr.units) J0 (qv 0) (qv 1) (by with_unfolding_all rfl))) (fun _ _ _=>(qv 0)))) b9)))
   (c8 (Y3 sc__law_turned.nd (k:=4) rfl rfl (z9 (caps:=["_law_line"]) (ix:=[1]) rfl rfl) (by decide +kernel) rfl (l9 (qI hr (qv 0) b8)) (.one fun _ _ _=>(tN hr (qv 0) (qv 1) (i8 _))) (fun _ _ _=>(qv 0)))
   (c9 (i7 (C0 (a9 (qI hr (qv 0) b8) (a9 (I0 O1 O0 rfl T.tuple GO (a9 (QE.wk (D3 (N4 rfl hr.units) N8 rfl T.sorted Ik (a9 (QE.wk (i5 Er Eg (qv 4) (QE.wk (z6 (a9 (I0 O1 O0 rfl T.tuple GO (a9 (qv 3) b9)) b9))))) b9))) b9)) b9))))))))
theorem zbf(F:Fun K "_law_table" "_law_table" Nd f fd)(T:Txt mg)(av:Nb P w K mg base):FnOk P w K mg base (CX1 P w) 2 f fd ["_law_found","_law_n"] (spD K mg true Bx 2):=
 fnD (k:=1) F sc__law_table rfl rfl fun cdv A outer s H E hr=>
  (c8 (sA 2 sc__law_table.nd Ri)
   (c8 (o8 (E4 (E5 (G9 rfl T.isinstance FU (qv 0) (J9 (v:=.ty "list") rfl T.list boot_list rfl))))
    (c9 (P7 (i:=2)))
    p7)
   (c8 (E3 DK rfl (l9 (qv 0)) (g_n (i:=3) sc__law_table.nd rfl (Or.inl rfl))
    (c8 (o8 (QW.pt (E0 (E4 (E5 (G9 rfl T.isinstance FU (qv 3) (J9 (v:=.ty "tuple") rfl T.tuple GO rfl)))) (E0 (tN hr (qL T.len (qv 3)) b8 (i8 _)) (E0 (E4 (E5 (G9 rfl T.isinstance FU (qI hr (qv 3) b8) (J9 (v:=.ty "tuple") rfl T.tuple GO rfl)))) (P4 (E4 (E5 (e7 e8 av hr rfl (a9 (qI hr (qv 3) b8) b9)))))))))
    (c9 (i7 Ri))
    p7)
   (c9 (qW hr.units (pw 2) (qI hr (qv 3) b8) (qI hr (qv 3) b8)))))
   (c9 (P7 (i:=2))))))
theorem zes(F:Fun K "has_pair" "has_pair" Mm f fd)(T:Txt mg)(aK:Lu P w K mg base)(bj:Lc P w K mg base):FnOk P w K mg base (CX1 P w) 3 f fd ["cut","p"] (spD K mg false Bn 2):=
 fnD (k:=2) F zeo rfl rfl fun cdv A outer s H E hr=>
  (c9 (i7 (z5 (e7 e8 bj hr rfl (a9 (qv 1) b9)) (E6 (jF (e7 e8 aK hr rfl (a9 (qI hr (qv 0) b8) (a9 (qv 1) b9))) (E6 (C1 (P5 hr.units) J0 (qv 1) (qI hr (qv 0) b8) (by with_unfolding_all rfl))))))))
theorem zbg(F:Fun K "check_line" "check_line" Ni f fd)(T:Txt mg)(bj:Lc P w K mg base):FnOk P w K mg base (CX1 P w) 3 f fd ["cut","p"] (spD K mg false Bw 2):=
 fnD (k:=2) F zb8 rfl rfl fun cdv A outer s H E hr=>
  (c9 (o8 (QW.pt (E0 (E4 (E5 (e7 e8 bj hr rfl (a9 (qv 1) b9)))) (P4 (k6 (Vy hr.units) J0 (qv 1) (qI hr (qv 0) b8) (by with_unfolding_all rfl)))))
   (c9 Ff)
   p7))
theorem yq(F:Fun K "rooms" "rooms" Kb f fd)(T:Txt mg)(bA:Zl P w K mg base):FnOk P w K mg base (CX1 P w) 3 f fd ["n","lines"] (spD K mg true N3 2):=
 fnD (k:=2) F sc_rooms rfl rfl fun cdv A outer s H E hr=>
  (c8 (sA 2 sc_rooms.nd (i5 Er Eg (QE.wk (z6 (a9 (C0 (a9 b8 (a9 (i5 Ab Ao (qv 0) b8) b9))) b9))) (QE.wk (I0 xn xm rfl T.list boot_list (a9 (qv 1) b9)))))
   (c9 (i7 (D3 (N4 rfl hr.units) N8 rfl T.sorted Ik (a9 (QE.wk (Cf (z9 (caps:=["lines"]) (ix:=[1]) rfl rfl) (by decide +kernel) rfl (l9 (qv 2)) .nil (fun _ _ _=>(e7 Co bA hr rfl (a9 (qv 0) (a9 (qv 1) b9)))))) b9)))))
theorem zO(F:Fun K "part_in" "part_in" Lw f fd)(T:Txt mg)(cj:Wp P w K mg base):FnOk P w K mg base (CX1 P w) 3 f fd ["room","cut"] (spD K mg false W7 2):=
 fnD (k:=2) F sc_part_in rfl rfl fun cdv A outer s H E hr=>
  (c8 (y3j sc_part_in.nd (k:=2) rfl rfl (z9 (caps:=["room"]) (ix:=[0]) rfl rfl) (by decide +kernel) rfl rfl (l9 (qI hr (qv 1) b8)) (.one fun _ _ _=>(QW.pt (Dq (k6 (P5 hr.units) J0 (qv 0) (qv 2) (by with_unfolding_all rfl)) (Jl (k6 (P5 hr.units) J0 (qv 1) (qv 2) (by with_unfolding_all rfl)))))) (fun _ _ _=>(C0 (a9 (Ox (qv 2) (qv 0)) (a9 (Ox (qv 2) (qv 1)) b9)))))
   (c9 (i7 (C0 (a9 (qL T.len (qv 0)) (a9 (I0 O1 O0 rfl T.tuple GO (a9 (QE.wk (Cf (z9 (caps:=["room"]) (ix:=[0]) rfl rfl) (by decide +kernel) rfl (l9 (qv 2)) (.one fun _ _ _=>(E5 (e7 Co cj hr rfl (a9 (qL T.len (qv 1)) (a9 (qv 0) b9))))) (fun _ _ _=>(qv 0)))) b9)) b9))))))
theorem z8v(F:Fun K "_law_second" "_law_second" Nk f fd)(T:Txt mg)(aG:Mi P w K mg base)(ak:Gf P w K mg base):FnOk P w K mg base (CX1 P w) 3 f fd ["_law_one","_law_spots","_law_cell"] (spD K mg false X7 3):=
 fnD (k:=2) F sc__law_second rfl rfl fun cdv A outer s H E hr=>
  (c8 (o8 (k6 Ct Ei (i5 C3 C4 (qv 2) b8) b8 (i8 _))
    (c9 (i7 (e7 e8 aG hr rfl (a9 (qv 1) b9))))
    p7)
   (c8 (E3 DK rfl (l9 (QE.wk (Cg Fl Fg (qv 1) Oe (Y4 (i5 J4 J8 b8 (i5 C3 C4 (i5 Ep Ej (qv 2) b8) b8)))))) (g_n (i:=3) sc__law_second.nd rfl (Or.inl rfl))
    (c9 (sA 0 sc__law_second.nd (e7 e8 ak hr rfl (a9 (qv 0) (a9 (qI hr (qI hr (qv 0) b8) (i5 C3 C4 (i5 Ep Ej (qv 3) b8) (qL T.len (qI hr (qv 0) b8)))) b9))))))
   (c9 (i7 (qv 0)))))
theorem z3t(F:Fun K "_law_never_undercut" "_law_never_undercut" Nz f fd)(T:Txt mg)(ak:Gf P w K mg base):FnOk P w K mg base (CX1 P w) 3 f fd ["_law_far","_law_home_cut"] (spD K mg false Ca 2):=
 fnD (k:=2) F sc__law_never_undercut rfl rfl fun cdv A outer s H E hr=>
  (c8 (E3 DK rfl (Tz (qv 0)) (g_t rfl (N6 (i:=2) sc__law_never_undercut.nd rfl (Or.inl rfl) (N6 (i:=3) sc__law_never_undercut.nd rfl (Or.inl rfl) Ef)))
    (c8 (o8 (QW.pt (E0 (tN hr (C1 (E8 hr.units) E7 (qv 3) b8 (i8 _)) (C1 (E8 hr.units) E7 (qv 2) (qv 1) (i8 _)) (i8 _)) (P4 (k6 Z0 An (qv 3) b8 (i8 _)))))
    (c9 (i7 G0))
    p7)
   (c9 (E3 DK rfl (l9 (qI hr (qv 2) b8)) (g_n (i:=4) sc__law_never_undercut.nd rfl (Or.inl rfl))
    (c8 (sA 5 sc__law_never_undercut.nd (e7 e8 ak hr rfl (a9 (qv 2) (a9 (qv 4) b9))))
   (c9 (o8 (QW.pt (E0 (k6 (Fp hr.units) Ea (qv 5) (qv 0) (by with_unfolding_all rfl)) (P4 (E4 (y03 (Ci Ds Eh b8) (xr Y9 Z7 (i5 Ab Ao (Y5 (Dk hr.units) Dz (qv 0) (qv 5)) (qv 3)) (xt Y9 Z7 b8)))))))
    (c9 (i7 G0))
    p7)))))))
   (c9 (i7 G0)))
theorem zbh(F:Fun K "_law_leads" "_law_leads" Nc f fd)(T:Txt mg)(aQ:jb P w K mg base)(ak:Gf P w K mg base):FnOk P w K mg base (CX1 P w) 3 f fd ["_law_found","_law_here","_law_other"] (spD K mg false Bu 3):=
 fnD (k:=2) F sc__law_leads rfl rfl fun cdv A outer s H E hr=>
  (c8 (o8 (E4 (E5 (G9 rfl T.isinstance FU (qv 0) (J9 (v:=.ty "list") rfl T.list boot_list rfl))))
    (c9 (i7 G0))
    p7)
   (c8 (E3 DK rfl (l9 (qv 0)) (g_n (i:=3) sc__law_leads.nd rfl (Or.inl rfl))
    (c8 (o8 (QW.pt (E0 (E4 (E5 (e7 e8 aQ hr rfl (a9 (qv 3) b9)))) (P4 (k6 (Vy hr.units) J0 (qv 3) (qI hr (qv 1) b8) (by with_unfolding_all rfl)))))
    (c9 (i7 G0))
    p7)
   (c9 (sA 1 sc__law_leads.nd (e7 e8 ak hr rfl (a9 (qv 1) (a9 (qv 3) b9)))))))
   (c9 (i7 (C1 (E8 hr.units) E7 (qv 1) (qv 2) (i8 _))))))
theorem zbi(F:Fun K "check_pair" "check_pair" Nh f fd)(T:Txt mg)(bX:Xo P w K mg base):FnOk P w K mg base (CX1 P w) 4 f fd ["cut","p"] (spD K mg false Bt 2):=
 fnD (k:=3) F zb9 rfl rfl fun cdv A outer s H E hr=>
  (c9 (o8 (E4 (E5 (e7 e8 bX hr rfl (a9 (qv 0) (a9 (qv 1) b9)))))
   (c9 Ff)
   p7))
theorem zdg(F:Fun K "triangles" "triangles" My f fd)(T:Txt mg)(bL:Ka P w K mg base):FnOk P w K mg base (CX1 P w) 4 f fd ["cut"] (spD K mg true Bp 1):=
 fnD (k:=3) F zd7 rfl rfl fun cdv A outer s H E hr=>
  (c9 (i7 (e7 e8 bL hr rfl (a9 (qI hr (qv 0) b8) (a9 (qI hr (qv 0) b8) b9)))))
theorem zg(F:Fun K "thirds" "thirds" Lf f fd)(T:Txt mg)(bB:Zh P w K mg base)(bO:Ys P w K mg base):FnOk P w K mg base (CX1 P w) 5 f fd ["cut","p"] (spD K mg true V9 2):=
 fnD (k:=4) F sc_thirds rfl rfl fun cdv A outer s H E hr=>
  (c8 (Rw (e7 e8 bB hr rfl (a9 (qv 0) (a9 (qv 1) b9))))
   (c8 (Y3 sc_thirds.nd (k:=2) rfl rfl (z9 (caps:=["p"]) (ix:=[1]) rfl rfl) (by decide +kernel) rfl (l9 (QE.wk (e7 e8 bO hr rfl (a9 (qv 0) b9)))) (.one fun _ _ _=>(QW.pt (Dq (k6 (P5 hr.units) J0 (qI hr (qv 1) b8) (qv 0) (by with_unfolding_all rfl)) (Jl (k6 (P5 hr.units) J0 (qI hr (qv 1) b8) (qv 0) (by with_unfolding_all rfl)))))) (fun _ _ _=>(qv 0)))
   (c9 (i7 (D3 (N4 rfl hr.units) N8 rfl T.sorted Ik (a9 (QE.wk (Cf (z9 (caps:=["p"]) (ix:=[1]) rfl rfl) (by decide +kernel) rfl (l9 (qv 2)) .nil (fun _ _ _=>(i5 Ab Ao (D3 (Ps rfl) Sa rfl T.sum boot_sum (a9 (qv 0) b9)) (D3 (Ps rfl) Sa rfl T.sum boot_sum (a9 (qv 1) b9)))))) b9))))))
theorem zf(F:Fun K "turned" "turned" Le f fd)(T:Txt mg)(bC:Zj P w K mg base)(cF:Vi P w K mg base):FnOk P w K mg base (CX1 P w) 6 f fd ["cut","line"] (spD K mg false C6 2):=
 fnD (k:=5) F sc_turned rfl rfl fun cdv A outer s H E hr=>
  (c8 (Rw (e7 e8 bC hr rfl (a9 (qv 0) (a9 (qv 1) b9))))
   (c8 (sA 2 sc_turned.nd (I0 O1 O0 rfl T.tuple GO (a9 (QE.wk (e7 e8 cF hr rfl (a9 (qv 0) (a9 (qv 1) b9)))) b9)))
   (c8 (Y3 sc_turned.nd (k:=3) rfl rfl (z9 (caps:=["line"]) (ix:=[1]) rfl rfl) (by decide +kernel) rfl (l9 (qI hr (qv 0) b8)) (.one fun _ _ _=>(tN hr (qv 0) (qv 1) (i8 _))) (fun _ _ _=>(qv 0)))
   (c9 (i7 (C0 (a9 (C0 (a9 (qI hr (qv 0) b8) (a9 (I0 O1 O0 rfl T.tuple GO (a9 (QE.wk (D3 (N4 rfl hr.units) N8 rfl T.sorted Ik (a9 (QE.wk (i5 Er Eg (qv 3) (QE.wk (z6 (a9 (qv 2) b9))))) b9))) b9)) b9))) (a9 (qv 2) b9))))))))
theorem z8h(F:Fun K "front_behind" "front_behind" Nq f fd)(T:Txt mg)(bm:Lb P w K mg base):FnOk P w K mg base (CX1 P w) 7 f fd ["front","found"] (spW K By):=
 fnW (k:=6) F sc_front_behind rfl rfl (by decide) fun cdv A outer s H E hr=>
  (Rb (Pa (i:=2) (by decide) sc_front_behind.nd rfl (Or.inl rfl) (z6 b9))
   (Rb (Oz DK rfl (l9 (qv 0)) (jA (i:=3) (by decide) sc_front_behind.nd rfl (Or.inl rfl))
    (Jf (Oz DK rfl (l9 (qI hr (qv 3) b8)) (jA (i:=4) (by decide) sc_front_behind.nd rfl (Or.inl rfl))
    (Ts (Pa (i:=5) (by decide) sc_front_behind.nd rfl (Or.inl rfl) (e7 Co bm hr rfl (a9 (qv 3) (a9 (qv 4) b9))))
   (Jf (y3s (k6 (Fp hr.units) Ea (qI hr (qv 5) b8) (qv 1) (by with_unfolding_all rfl))
    (Ts (qJ hr.units (pw 1) (qI hr (qv 5) b8) (C0 (a9 (i5 J4 J8 (qI hr (Y5 (Dk hr.units) Dz (qv 1) (qv 3)) b8) b8) (a9 (qI hr (qv 5) b8) b9))))
   (Jf (y16 DY FG FF Q4 V1 N5 (pw 2) (a9 (qI hr (qv 5) b8) b9))))
    qK))))))
   (y18 (i:=2))))
theorem zet(F:Fun K "steps_to" "steps_to" Ml f fd)(T:Txt mg)(aR:ja P w K mg base):FnOk P w K mg base (CX1 P w) 8 f fd ["cut"] (spD K mg true Q5 1):=
 fnD (k:=7) F sc_steps_to rfl rfl fun cdv A outer s H E hr=>
  (c8 (sA 1 sc_steps_to.nd (wQ hr.units (qv 0) (C0 (a9 b8 (a9 y00 b9)))))
   (c8 (sA 2 sc_steps_to.nd (z6 (a9 (qv 0) b9)))
   (c8 (Ki (n:=100000) DK (k6 Ct Ei (qL T.len (qv 2)) b8 (i8 _))
    (c9 (y1a (i:=2) (j:=1) sc_steps_to.nd rfl (Or.inl rfl) aR hr rfl (qv 2) (pw 1))))
   (c9 (P7 (i:=1))))))
theorem zdh(F:Fun K "distances" "distances" Mx f fd)(T:Txt mg)(aH:Mh P w K mg base):FnOk P w K mg base (CX1 P w) 9 f fd ["cut"] (spD K mg true Bo 1):=
 fnD (k:=8) F zd8 rfl rfl fun cdv A outer s H E hr=>
  (c8 (o8 (k6 Ct Ei (qI hr (qv 0) b8) b8 (i8 _))
    (c9 Ff)
    p7)
   (c9 (i7 (D3 (N4 rfl hr.units) N8 rfl T.sorted Ik (a9 (QE.wk (Od (z9 (caps:=[]) (ix:=[]) rfl rfl) (by decide +kernel) rfl rfl (Tz (QE.wk (e7 e8 aH hr rfl (a9 (qv 0) b9)))) .nil (fun _ _ _=>(C0 (a9 (qv 0) (a9 (qI hr (qv 1) b8) b9)))))) b9)))))
theorem zeu(F:Fun K "shortest" "shortest" Mk f fd)(T:Txt mg)(aH:Mh P w K mg base)(bm:Lb P w K mg base):FnOk P w K mg base (CX1 P w) 9 f fd ["start","end"] (spD K mg true Bm 2):=
 fnD (k:=8) F sc_shortest rfl rfl fun cdv A outer s H E hr=>
  (c8 (sA 2 sc_shortest.nd (e7 e8 aH hr rfl (a9 (qv 1) b9)))
   (c8 (sA 3 sc_shortest.nd (z6 b9))
   (c8 (sA 4 sc_shortest.nd (qv 0))
   (c8 (Ki (n:=1000) DK (tN hr (qv 4) (qv 1) (i8 _))
    (c8 (P1 DY FG FF Q4 V1 N5 (pw 3) (a9 (qI hr (Y5 (Dk hr.units) Dz (qv 2) (qv 4)) b8) b9))
   (c9 (sA 4 sc_shortest.nd (qI hr (e7 e8 bm hr rfl (a9 (qv 4) (a9 (qI hr (qv 3) (Ci Ds Eh b8)) b9))) b8)))))
   (c9 (P7 (i:=3)))))))
theorem z8w(F:Fun K "way_in_room" "way_in_room" Nn f fd)(T:Txt mg)(bR:Wo P w K mg base)(bY:Xn P w K mg base):FnOk P w K mg base (CX1 P w) 10 f fd ["room","one","other"] (spD K mg true X6 3):=
 fnD (k:=9) F sc_way_in_room rfl rfl fun cdv A outer s H E hr=>
  (c8 (sA 3 sc_way_in_room.nd (e7 e8 bR hr rfl (a9 (qv 0) (a9 (qv 1) b9))))
   (c8 (sA 4 sc_way_in_room.nd (e7 e8 bR hr rfl (a9 (qv 0) (a9 (qv 2) b9))))
   (c8 (sA 5 sc_way_in_room.nd (y01 (k6 Y9 Z7 (qL T.len (qv 0)) b8 (i8 _)) (QE.wk (e7 e8 bY hr rfl (a9 (qv 3) (a9 (qv 4) b9)))) (QE.wk wX)))
   (c9 (i7 (Od (z9 (caps:=["room"]) (ix:=[0]) rfl rfl) (by decide +kernel) rfl rfl (l9 (qv 5)) .nil (fun _ _ _=>(C0 (a9 (qI hr (qv 2) (qv 0)) (a9 (qI hr (qv 2) (qv 1)) b9))))))))))
theorem ze(F:Fun K "way_to" "way_to" Ld f fd)(T:Txt mg)(bL:Ka P w K mg base)(bo:Zs P w K mg base):FnOk P w K mg base (CX1 P w) 11 f fd ["one","other"] (spD K mg true Bc 2):=
 fnD (k:=10) F sc_way_to rfl rfl fun cdv A outer s H E hr=>
  (c8 (o8 (tN hr (qI hr (qv 0) b8) (qI hr (qv 1) b8) (i8 _))
    (c9 Ff)
    p7)
   (c8 (Y3 sc_way_to.nd (k:=2) rfl rfl (z9 (caps:=["other"]) (ix:=[1]) rfl rfl) (by decide +kernel) rfl (l9 (qI hr (qv 0) b8)) (.one fun _ _ _=>(k6 (P5 hr.units) J0 (qv 0) (qI hr (qv 1) b8) (by with_unfolding_all rfl))) (fun _ _ _=>(qv 0)))
   (c8 (sA 3 sc_way_to.nd (z6 b9))
   (c8 (E3 DK rfl (l9 (QE.wk (e7 e8 bL hr rfl (a9 (qI hr (qv 0) b8) (a9 (qv 2) b9))))) (g_n (i:=4) sc_way_to.nd rfl (Or.inl rfl))
    (c9 (P1 DY PySem.F.slot_list_extend PySem.F.type_list_extend zE vj N5 (pw 3) (a9 (QE.wk (e7 e8 bo hr rfl (a9 (qv 4) (a9 (qv 0) (a9 (qv 1) b9))))) b9))))
   (c9 (P7 (i:=3)))))))
theorem qC(F:Fun K "law" "law" Hg f fd)(T:Txt mg)(aG:Mi P w K mg base)(bD:Zi P w K mg base)(aW:Yt P w K mg base)(aA:jm P w K mg base)(bP:Yv P w K mg base)(aI:Zu P w K mg base)(bp:Zt P w K mg base)(bE:Zk P w K mg base)(bQ:Yr P w K mg base)(cG:Vh P w K mg base):FnOk P w K mg base (CX1 P w) 12 f fd ["_law_script"] (spD K mg false T5 1):=
 fnD (k:=11) F sc_law rfl rfl fun cdv A outer s H E hr=>
  (c8 (sA 1 sc_law.nd (e7 e8 bP hr rfl (a9 (qv 0) (a9 b8 b9))))
   (c8 (sA 2 sc_law.nd (e7 e8 aG hr rfl (a9 (QE.wk (e7 e8 aI hr rfl (a9 (e7 e8 aW hr rfl (a9 (qv 1) b9)) (a9 (QE.wk (Cg Fl Fg (qv 0) (Y4 b8) Oe)) (a9 b8 b9))))) b9)))
   (c8 (sA 3 sc_law.nd (e7 e8 bp hr rfl (a9 (qv 2) (a9 (QE.wk (e7 e8 aI hr rfl (a9 (e7 e8 aW hr rfl (a9 (qv 1) b9)) (a9 (QE.wk (Cg Fl Fg (qv 0) (Y4 b8) Oe)) (a9 b8 b9))))) (a9 (i5 Ep Ej (qv 1) b8) b9)))))
   (c8 (sA 4 sc_law.nd (e7 e8 bE hr rfl (a9 (QE.wk (e7 e8 bQ hr rfl (a9 (qv 3) b9))) (a9 (qI hr (qv 2) b8) b9))))
   (c8 (o8 (QW.pt (E0 (k6 (Fp hr.units) Ea (qv 2) (qv 4) (by with_unfolding_all rfl)) (E0 (k6 (Fp hr.units) Ea (qv 3) (qv 4) (by with_unfolding_all rfl)) (P4 (E4 (E5 (e7 e8 aA hr rfl (a9 (qv 4) (a9 (qv 3) b9)))))))))
    (c9 (i7 G0))
    p7)
   (c8 (sA 5 sc_law.nd (e7 e8 cG hr rfl (a9 (qv 2) (a9 (qv 3) b9))))
   (c9 (i7 (z5 (e7 e8 bD hr rfl (a9 (qv 5) (a9 (qv 2) (a9 (qv 3) b9)))) (E6 (C1 (E8 hr.units) E7 (qL T.len (qv 5)) (Y5 (Dk hr.units) Dz (qv 4) (qv 2)) (i8 _))))))))))))
end
theorem all_mk{l:PySem.W.OpenLaw}{w:World}{K:Frag}{h:Heap}{mg:Str->Option Value}{fa:Addr}(X:K.In h)(G:h.Ns mainGlobals mg)(mD:mg "law"=some (.ref fa))
  {f0 f1 f2 f3 f4 f5 f6 f7 f8 f9 uC uD uE uF uG uH uI uJ uK uL uM uN uO uP uQ uR uS uT uU uV uW uX uY:Addr}
  (A0:FnAt K "is_whole" Mn f0)
  (A1:FnAt K "is_side" Ly f1)
  (A2:FnAt K "corner_behind" Nu f2)
  (A3:FnAt K "_law_pick" Mw f3)
  (A4:FnAt K "_law_plain" Nf f4)
  (A5:FnAt K "_law_places" Nm f5)
  (A6:FnAt K "_law_cut" Mj f6)
  (A7:FnAt K "_law_ends" Mv f7)
  (A8:FnAt K "_law_many" Mu f8)
  (A9:FnAt K "is_line" Lx f9)
  (A10:FnAt K "is_two" Lg uC)
  (A11:FnAt K "room_under" Ng uD)
  (A12:FnAt K "_law_is_pair" Np uE)
  (A13:FnAt K "_law_turned" Nl uF)
  (A14:FnAt K "_law_table" Nd uG)
  (A15:FnAt K "has_pair" Mm uH)
  (A16:FnAt K "check_line" Ni uI)
  (A17:FnAt K "rooms" Kb uJ)
  (A18:FnAt K "part_in" Lw uK)
  (A19:FnAt K "_law_second" Nk uL)
  (A20:FnAt K "_law_never_undercut" Nz uM)
  (A21:FnAt K "_law_leads" Nc uN)
  (A22:FnAt K "check_pair" Nh uO)
  (A23:FnAt K "triangles" My uP)
  (A24:FnAt K "thirds" Lf uQ)
  (A25:FnAt K "turned" Le uR)
  (A26:FnAt K "front_behind" Nq uS)
  (A27:FnAt K "steps_to" Ml uT)
  (A28:FnAt K "distances" Mx uU)
  (A29:FnAt K "shortest" Mk uV)
  (A30:FnAt K "way_in_room" Nn uW)
  (A31:FnAt K "way_to" Ld uX)
  (A32:FnAt K "law" Hg uY)
  (T:Txt mg) :
  ∃fd:FuncData,(∀(s:Shared)(v:Value),BindsTo s fd ⟨[v],[]⟩ [("_law_script",v)])/\∀base:Heap,K.In base->base.Ns mainGlobals mg->FnOk l.prog w K mg base (CX1 l.prog w) 12 fa fd ["_law_script"] (spL K false T5 1):=by
 refine qR X G mD A32 (fun _ _ _ _ _ _ _ _=>.of_eq rfl) fun base kb nb fd F=>?_
 have bw:Xp l.prog w K mg base:=got X G A0 fun F=>zeq F T 
 have aK:Lu l.prog w K mg base:=got X G A1 fun F=>zQ F T 
 have aJ:je l.prog w K mg base:=got X G A2 fun F=>z70 F T 
 have bP:Yv l.prog w K mg base:=got X G A3 fun F=>zdd F T 
 have av:Nb l.prog w K mg base:=got X G A4 fun F=>zbd F T 
 have aI:Zu l.prog w K mg base:=got X G A5 fun F=>z8t F T 
 have aG:Mi l.prog w K mg base:=got X G A6 fun F=>zer F T 
 have aV:Yu l.prog w K mg base:=got X G A7 fun F=>zde F T 
 have aW:Yt l.prog w K mg base:=got X G A8 fun F=>zdf F T 
 have cj:Wp l.prog w K mg base:=got X G A9 fun F=>zP F T aK
 have bj:Lc l.prog w K mg base:=got X G A10 fun F=>zh F T bw
 have bA:Zl l.prog w K mg base:=got X G A11 fun F=>zbe F T aJ
 have aQ:jb l.prog w K mg base:=got X G A12 fun F=>z8g F T av
 have ak:Gf l.prog w K mg base:=got X G A13 fun F=>z8u F T aV
 have bE:Zk l.prog w K mg base:=got X G A14 fun F=>zbf F T av
 have bX:Xo l.prog w K mg base:=got X G A15 fun F=>zes F T aK bj
 have bC:Zj l.prog w K mg base:=got X G A16 fun F=>zbg F T bj
 have bL:Ka l.prog w K mg base:=got X G A17 fun F=>yq F T bA
 have bR:Wo l.prog w K mg base:=got X G A18 fun F=>zO F T cj
 have bp:Zt l.prog w K mg base:=got X G A19 fun F=>z8v F T aG ak
 have aA:jm l.prog w K mg base:=got X G A20 fun F=>z3t F T ak
 have bD:Zi l.prog w K mg base:=got X G A21 fun F=>zbh F T aQ ak
 have bB:Zh l.prog w K mg base:=got X G A22 fun F=>zbi F T bX
 have bO:Ys l.prog w K mg base:=got X G A23 fun F=>zdg F T bL
 have cF:Vi l.prog w K mg base:=got X G A24 fun F=>zg F T bB bO
 have bm:Lb l.prog w K mg base:=got X G A25 fun F=>zf F T bC cF
 have aR:ja l.prog w K mg base:=got X G A26 fun F=>z8h F T bm
 have aH:Mh l.prog w K mg base:=got X G A27 fun F=>zet F T aR
 have bQ:Yr l.prog w K mg base:=got X G A28 fun F=>zdh F T aH
 have bY:Xn l.prog w K mg base:=got X G A29 fun F=>zeu F T aH bm
 have bo:Zs l.prog w K mg base:=got X G A30 fun F=>z8w F T bR bY
 have cG:Vh l.prog w K mg base:=got X G A31 fun F=>ze F T bL bo
 exact(qC F T aG bD aW aA bP aI bp bE bQ cG).imp fun _ _ _ _ z=>z.spD
abbrev kO(n:String)(t1:Nat)(q:String)(t2 t3:Nat)(a b c d e:Int)(r1:Nat)(g:Int)(r2 r3 r4 r5:Nat)(k l:Int)(t4:Nat):Obj:=⟨.type "code",none,.fields [vs n t1,vs q t2,vs "/claim/cut.py" t3,.int a 0,.int b 0,.int c 0,.int d 0,.int e 0,.ref r1,.bool true,.int g 0,.ref r2,.none,.ref r3,.ref r4,.ref r5,.int k 0,.int l 0,vs "/claim/cut.py" t4].toArray,#[]⟩
abbrev kCo(n:String)(t1:Nat)(q:String)(t2 t3:Nat)(a b c d e:Int)(r1:Nat)(g:Int)(r2 r5:Nat)(k l:Int)(t4:Nat):Obj:=⟨.type "code",none,.fields [vs n t1,vs q t2,vs "/claim/cut.py" t3,.int a 0,.int b 0,.int c 0,.int d 0,.int e 0,.ref r1,.bool true,.int g 0,.ref r2,.none,.none,.none,.ref r5,.int k 0,.int l 0,vs "/claim/cut.py" t4].toArray,#[]⟩
abbrev fO(i:Nat)(n m:String)(t r:Nat):Obj:=oF (top i) n n .none .none .none (vs m t) none (.ref r) .none
abbrev cO(n:String)(b a ns r t1 t2:Nat):Obj:=⟨.type "type",none,.cls { name:=Str.ofString n,bases:=[.ref b],mro:=[.ref a,.ref b,.type "ValueError",.type "Exception",.type "BaseException",.type "object"],ns:=ns,qualname:=Str.ofString n,hasDict:=true,slotNames:=[],subclasses:=[],abstract:=false,collection:=none,hasDel:=false },#[some (.ref r),none,some (vs n t1),some (vs n t2),some (.builtin "ValueError.__new__"),some (.bool true)]⟩
def K:Params->Frag:=fun P=>
 (nat_lit 2,⟨.none,none,(.dict [].toArray 0),#[]⟩) ::
 (nat_lit 3,oD [en P "__name__" 165 (vs "law_friezeyard_k75_whole_shortest_ways" 497),en P "__doc__" 166 .none,en P "__package__" 167 .none,en P "__loader__" 168 (.builtin "__main__.__loader__#opaque"),en P "__spec__" 169 .none,en P "__annotations__" 170 (.ref 6),en P "__builtins__" 171 (.ref 4),en P "__file__" 173 (vs "/claim/cut.py" 172),en P "__cached__" 174 .none,en P "FloorError" 206 (.ref 24),en P "NoLine" 222 (.ref 37),en P "NoCorner" 238 (.ref 49),en P "TooMany" 254 (.ref 61),en P "NotAlike" 270 (.ref 73),en P "is_whole" 279 (.ref 82),en P "is_side" 289 (.ref 89),en P "is_line" 297 (.ref 96),en P "is_two" 306 (.ref 103),en P "has_pair" 314 (.ref 110),en P "check_line" 322 (.ref 117),en P "check_pair" 330 (.ref 124),en P "check_corner" 338 (.ref 131),en P "opposite" 344 (.ref 136),en P "rooms" 352 (.ref 141),en P "room_under" 361 (.ref 148),en P "corner_behind" 367 (.ref 153),en P "triangles" 374 (.ref 160),en P "thirds" 380 (.ref 165),en P "turned" 388 (.ref 170),en P "to_fan" 402 (.ref 178),en P "lines_facing" 408 (.ref 183),en P "numbers" 420 (.ref 190),en P "distances" 428 (.ref 195),en P "steps_to" 437 (.ref 202),en P "front_behind" 449 (.ref 209),en P "way_to" 455 (.ref 214),en P "way_in_room" 461 (.ref 219),en P "part_in" 467 (.ref 224),en P "shortest" 478 (.ref 231),en P "over_fan" 484 (.ref 236),en P "back_from" 496 (.ref 243),en P "_law_pick" 506 (.ref 250),en P "_law_plain" 513 (.ref 257),en P "_law_is_pair" 520 (.ref 264),en P "_law_places" 533 (.ref 271),en P "_law_cut" 539 (.ref 276),en P "_law_ends" 550 (.ref 283),en P "_law_turned" 556 (.ref 288),en P "_law_second" 566 (.ref 295),en P "_law_table" 576 (.ref 302),en P "_law_never_undercut" 588 (.ref 309),en P "_law_leads" 598 (.ref 316),en P "_law_many" 605 (.ref 323),en P "law" 617 (.ref 330)] 54) ::
 (nat_lit 15,oT [(.type "ValueError")]) ::
 (nat_lit 22,oT []) ::
 (nat_lit 23,oD [en P "__module__" 196 (vs "friezeyard.errors" 187),en P "__firstlineno__" 200 (.int 2 199),en P "__static_attributes__" 201 (.ref 22),en P "__weakref__" 203 (.ref 25),en P "__doc__" 204 .none] 3) ::
 (nat_lit 24,⟨(.type "type"),none,(.cls { name:=Str.ofString "FloorError",bases:=[(.type "ValueError")],mro:=[(.ref 24),(.type "ValueError"),(.type "Exception"),(.type "BaseException"),(.type "object")],ns:=23,qualname:=Str.ofString "FloorError",hasDict:=true,slotNames:=[],subclasses:=[(.ref 37),(.ref 49),(.ref 61),(.ref 73)],abstract:=false,collection:=none,hasDel:=false }),#[some (.ref 15),none,some (vs "FloorError" 189),some (vs "FloorError" 197),some (.builtin "ValueError.__new__"),some (.bool true)]⟩) ::
 (nat_lit 25,⟨(.type "getset_descriptor"),none,(.fields [(vs "__weakref__" 202),(.ref 24),(.builtin "ExceptionGroup.__weakref__"),.none].toArray),#[]⟩) ::
 (nat_lit 28,oT [(.ref 24)]) ::
 (nat_lit 35,oT []) ::
 (nat_lit 36,oD [en P "__module__" 214 (vs "friezeyard.errors" 187),en P "__firstlineno__" 218 (.int 4 217),en P "__static_attributes__" 219 (.ref 35),en P "__doc__" 220 .none] 2) ::
 (nat_lit 37,(cO "NoLine" 24 37 36 28 207 215)) ::
 (nat_lit 40,oT [(.ref 24)]) ::
 (nat_lit 47,oT []) ::
 (nat_lit 48,oD [en P "__module__" 230 (vs "friezeyard.errors" 187),en P "__firstlineno__" 234 (.int 6 233),en P "__static_attributes__" 235 (.ref 47),en P "__doc__" 236 .none] 2) ::
 (nat_lit 49,(cO "NoCorner" 24 49 48 40 223 231)) ::
 (nat_lit 52,oT [(.ref 24)]) ::
 (nat_lit 59,oT []) ::
 (nat_lit 60,oD [en P "__module__" 246 (vs "friezeyard.errors" 187),en P "__firstlineno__" 250 (.int 8 249),en P "__static_attributes__" 251 (.ref 59),en P "__doc__" 252 .none] 2) ::
 (nat_lit 61,(cO "TooMany" 24 61 60 52 239 247)) ::
 (nat_lit 64,oT [(.ref 24)]) ::
 (nat_lit 71,oT []) ::
 (nat_lit 72,oD [en P "__module__" 262 (vs "friezeyard.errors" 187),en P "__firstlineno__" 266 (.int 10 265),en P "__static_attributes__" 267 (.ref 71),en P "__doc__" 268 .none] 2) ::
 (nat_lit 73,(cO "NotAlike" 24 73 72 64 255 263)) ::
 (nat_lit 76,oT []) ::
 (nat_lit 78,oT [(vs "thing" 276)]) ::
 (nat_lit 79,oT []) ::
 (nat_lit 81,(kO "is_whole" 273 "is_whole" 274 275 13 1 0 0 3 76 181 77 78 79 80 277 13 278)) ::
 (nat_lit 82,(fO 7 "is_whole" "friezeyard.pairs" 271 81)) ::
 (nat_lit 83,oT []) ::
 (nat_lit 85,oT [(vs "n" 283),(vs "p" 284),(vs "a" 285),(vs "b" 286)]) ::
 (nat_lit 86,oT []) ::
 (nat_lit 88,(kO "is_side" 280 "is_side" 281 282 15 2 0 0 3 83 181 84 85 86 87 287 15 288)) ::
 (nat_lit 89,(fO 8 "is_side" "friezeyard.pairs" 271 88)) ::
 (nat_lit 90,oT []) ::
 (nat_lit 92,oT [(vs "n" 293),(vs "p" 294)]) ::
 (nat_lit 93,oT []) ::
 (nat_lit 95,(kO "is_line" 290 "is_line" 291 292 21 2 0 0 3 90 181 91 92 93 94 295 21 296)) ::
 (nat_lit 96,(fO 9 "is_line" "friezeyard.pairs" 271 95)) ::
 (nat_lit 97,oT []) ::
 (nat_lit 99,oT [(vs "thing" 303)]) ::
 (nat_lit 100,oT []) ::
 (nat_lit 102,(kO "is_two" 300 "is_two" 301 302 24 1 0 0 3 97 181 98 99 100 101 304 24 305)) ::
 (nat_lit 103,(fO 11 "is_two" "friezeyard.common" 298 102)) ::
 (nat_lit 104,oT []) ::
 (nat_lit 106,oT [(vs "cut" 310),(vs "p" 311)]) ::
 (nat_lit 107,oT []) ::
 (nat_lit 109,(kO "has_pair" 307 "has_pair" 308 309 26 2 0 0 3 104 181 105 106 107 108 312 26 313)) ::
 (nat_lit 110,(fO 12 "has_pair" "friezeyard.common" 298 109)) ::
 (nat_lit 111,oT []) ::
 (nat_lit 113,oT [(vs "cut" 318),(vs "p" 319)]) ::
 (nat_lit 114,oT []) ::
 (nat_lit 116,(kO "check_line" 315 "check_line" 316 317 28 2 0 0 3 111 181 112 113 114 115 320 28 321)) ::
 (nat_lit 117,(fO 13 "check_line" "friezeyard.common" 298 116)) ::
 (nat_lit 118,oT []) ::
 (nat_lit 120,oT [(vs "cut" 326),(vs "p" 327)]) ::
 (nat_lit 121,oT []) ::
 (nat_lit 123,(kO "check_pair" 323 "check_pair" 324 325 31 2 0 0 3 118 181 119 120 121 122 328 31 329)) ::
 (nat_lit 124,(fO 14 "check_pair" "friezeyard.common" 298 123)) ::
 (nat_lit 125,oT []) ::
 (nat_lit 127,oT [(vs "n" 334),(vs "thing" 335)]) ::
 (nat_lit 128,oT []) ::
 (nat_lit 130,(kO "check_corner" 331 "check_corner" 332 333 34 2 0 0 3 125 181 126 127 128 129 336 34 337)) ::
 (nat_lit 131,(fO 15 "check_corner" "friezeyard.common" 298 130)) ::
 (nat_lit 132,oT []) ::
 (nat_lit 135,(kCo "opposite" 339 "opposite" 340 341 37 2 0 0 3 132 181 133 134 342 37 343)) ::
 (nat_lit 136,(fO 16 "opposite" "friezeyard.common" 298 135)) ::
 (nat_lit 137,oT []) ::
 (nat_lit 140,(kCo "rooms" 347 "rooms" 348 349 40 2 0 0 3 137 181 138 139 350 40 351)) ::
 (nat_lit 141,(fO 18 "rooms" "friezeyard.rooms" 345 140)) ::
 (nat_lit 142,oT []) ::
 (nat_lit 144,oT [(vs "top" 356),(vs "lines" 357),(vs "room" 358)]) ::
 (nat_lit 145,oT []) ::
 (nat_lit 147,(kO "room_under" 353 "room_under" 354 355 43 2 0 0 3 142 181 143 144 145 146 359 43 360)) ::
 (nat_lit 148,(fO 19 "room_under" "friezeyard.rooms" 345 147)) ::
 (nat_lit 149,oT []) ::
 (nat_lit 152,(kCo "corner_behind" 362 "corner_behind" 363 364 48 3 0 0 3 149 181 150 151 365 48 366)) ::
 (nat_lit 153,(fO 20 "corner_behind" "friezeyard.rooms" 345 152)) ::
 (nat_lit 154,oT []) ::
 (nat_lit 156,oT [(vs "cut" 371)]) ::
 (nat_lit 157,oT []) ::
 (nat_lit 159,(kO "triangles" 368 "triangles" 369 370 51 1 0 0 3 154 181 155 156 157 158 372 51 373)) ::
 (nat_lit 160,(fO 21 "triangles" "friezeyard.rooms" 345 159)) ::
 (nat_lit 161,oT []) ::
 (nat_lit 164,(kCo "thirds" 375 "thirds" 376 377 53 2 0 0 3 161 181 162 163 378 53 379)) ::
 (nat_lit 165,(fO 22 "thirds" "friezeyard.rooms" 345 164)) ::
 (nat_lit 166,oT []) ::
 (nat_lit 169,(kCo "turned" 383 "turned" 384 385 58 2 0 0 3 166 181 167 168 386 58 387)) ::
 (nat_lit 170,(fO 24 "turned" "friezeyard.turns" 381 169)) ::
 (nat_lit 171,oT [(.int 0 391)]) ::
 (nat_lit 172,oT []) ::
 (nat_lit 174,oT [(vs "cut" 395),(vs "corner" 396),(vs "found" 397),(vs "now" 398),(vs "facing" 399)]) ::
 (nat_lit 175,oT []) ::
 (nat_lit 177,(kO "to_fan" 392 "to_fan" 393 394 64 2 0 0 3 172 181 173 174 175 176 400 64 401)) ::
 (nat_lit 178,oF (top 26) "to_fan" "to_fan" (.ref 171) .none .none (vs "friezeyard.fans" 389) none (.ref 177) .none) ::
 (nat_lit 179,oT []) ::
 (nat_lit 182,(kCo "lines_facing" 403 "lines_facing" 404 405 74 2 0 0 3 179 181 180 181 406 74 407)) ::
 (nat_lit 183,(fO 27 "lines_facing" "friezeyard.fans" 389 182)) ::
 (nat_lit 184,oT []) ::
 (nat_lit 186,oT [(vs "cut" 414),(vs "row" 415),(vs "corners" 416),(vs "corner" 417)]) ::
 (nat_lit 187,oT []) ::
 (nat_lit 189,(kO "numbers" 411 "numbers" 412 413 78 1 0 0 3 184 181 185 186 187 188 418 78 419)) ::
 (nat_lit 190,(fO 29 "numbers" "friezeyard.numbers" 409 189)) ::
 (nat_lit 191,oT []) ::
 (nat_lit 194,(kCo "distances" 423 "distances" 424 425 85 1 0 0 3 191 181 192 193 426 85 427)) ::
 (nat_lit 195,(fO 31 "distances" "friezeyard.ways" 421 194)) ::
 (nat_lit 196,oT []) ::
 (nat_lit 198,oT [(vs "cut" 432),(vs "found" 433),(vs "front" 434)]) ::
 (nat_lit 199,oT []) ::
 (nat_lit 201,(kO "steps_to" 429 "steps_to" 430 431 89 1 0 0 3 196 181 197 198 199 200 435 89 436)) ::
 (nat_lit 202,(fO 32 "steps_to" "friezeyard.ways" 421 201)) ::
 (nat_lit 203,oT []) ::
 (nat_lit 205,oT [(vs "front" 441),(vs "found" 442),(vs "behind" 443),(vs "cut" 444),(vs "line" 445),(vs "step" 446)]) ::
 (nat_lit 206,oT []) ::
 (nat_lit 208,(kO "front_behind" 438 "front_behind" 439 440 95 2 0 0 3 203 181 204 205 206 207 447 95 448)) ::
 (nat_lit 209,(fO 33 "front_behind" "friezeyard.ways" 421 208)) ::
 (nat_lit 210,oT []) ::
 (nat_lit 213,(kCo "way_to" 450 "way_to" 451 452 104 2 0 0 3 210 181 211 212 453 104 454)) ::
 (nat_lit 214,(fO 34 "way_to" "friezeyard.ways" 421 213)) ::
 (nat_lit 215,oT []) ::
 (nat_lit 218,(kCo "way_in_room" 456 "way_in_room" 457 458 112 3 0 0 3 215 181 216 217 459 112 460)) ::
 (nat_lit 219,(fO 35 "way_in_room" "friezeyard.ways" 421 218)) ::
 (nat_lit 220,oT []) ::
 (nat_lit 223,(kCo "part_in" 462 "part_in" 463 464 117 2 0 0 3 220 181 221 222 465 117 466)) ::
 (nat_lit 224,(fO 36 "part_in" "friezeyard.ways" 421 223)) ::
 (nat_lit 225,oT []) ::
 (nat_lit 227,oT [(vs "start" 471),(vs "end" 472),(vs "steps" 473),(vs "way" 474),(vs "now" 475)]) ::
 (nat_lit 228,oT []) ::
 (nat_lit 230,(kO "shortest" 468 "shortest" 469 470 120 2 0 0 3 225 181 226 227 228 229 476 120 477)) ::
 (nat_lit 231,(fO 37 "shortest" "friezeyard.ways" 421 230)) ::
 (nat_lit 232,oT []) ::
 (nat_lit 235,(kCo "over_fan" 479 "over_fan" 480 481 128 2 0 0 3 232 181 233 234 482 128 483)) ::
 (nat_lit 236,(fO 38 "over_fan" "friezeyard.ways" 421 235)) ::
 (nat_lit 237,oT []) ::
 (nat_lit 239,oT [(vs "cut" 488),(vs "way" 489),(vs "came" 490),(vs "now" 491),(vs "line" 492),(vs "step" 493)]) ::
 (nat_lit 240,oT []) ::
 (nat_lit 242,(kO "back_from" 485 "back_from" 486 487 132 2 0 0 3 237 181 238 239 240 241 494 132 495)) ::
 (nat_lit 243,(fO 39 "back_from" "friezeyard.ways" 421 242)) ::
 (nat_lit 244,oT []) ::
 (nat_lit 246,oT [(vs "_law_script" 502),(vs "_law_k" 503)]) ::
 (nat_lit 247,oT []) ::
 (nat_lit 249,(kO "_law_pick" 499 "_law_pick" 500 501 141 2 0 0 3 244 181 245 246 247 248 504 141 505)) ::
 (nat_lit 250,(fO 41 "_law_pick" "law_friezeyard_k75_whole_shortest_ways" 497 249)) ::
 (nat_lit 251,oT []) ::
 (nat_lit 253,oT [(vs "_law_found" 510)]) ::
 (nat_lit 254,oT []) ::
 (nat_lit 256,(kO "_law_plain" 507 "_law_plain" 508 509 143 1 0 0 3 251 181 252 253 254 255 511 143 512)) ::
 (nat_lit 257,(fO 42 "_law_plain" "law_friezeyard_k75_whole_shortest_ways" 497 256)) ::
 (nat_lit 258,oT []) ::
 (nat_lit 260,oT [(vs "_law_found" 517)]) ::
 (nat_lit 261,oT []) ::
 (nat_lit 263,(kO "_law_is_pair" 514 "_law_is_pair" 515 516 145 1 0 0 3 258 181 259 260 261 262 518 145 519)) ::
 (nat_lit 264,(fO 43 "_law_is_pair" "law_friezeyard_k75_whole_shortest_ways" 497 263)) ::
 (nat_lit 265,oT []) ::
 (nat_lit 267,oT [(vs "_law_many_here" 524),(vs "_law_cells" 525),(vs "_law_by" 526),(vs "_law_found" 527),(vs "_law_k" 528),(vs "_law_one" 529),(vs "_law_mixed" 530)]) ::
 (nat_lit 268,oT []) ::
 (nat_lit 270,(kO "_law_places" 521 "_law_places" 522 523 147 3 0 0 3 265 181 266 267 268 269 531 147 532)) ::
 (nat_lit 271,(fO 44 "_law_places" "law_friezeyard_k75_whole_shortest_ways" 497 270)) ::
 (nat_lit 272,oT []) ::
 (nat_lit 275,(kCo "_law_cut" 534 "_law_cut" 535 536 154 1 0 0 3 272 181 273 274 537 154 538)) ::
 (nat_lit 276,(fO 45 "_law_cut" "law_friezeyard_k75_whole_shortest_ways" 497 275)) ::
 (nat_lit 277,oT []) ::
 (nat_lit 279,oT [(vs "_law_cut_here" 543),(vs "_law_corner" 544),(vs "_law_found" 545),(vs "_law_a" 546),(vs "_law_b" 547)]) ::
 (nat_lit 280,oT []) ::
 (nat_lit 282,(kO "_law_ends" 540 "_law_ends" 541 542 165 2 0 0 3 277 181 278 279 280 281 548 165 549)) ::
 (nat_lit 283,(fO 46 "_law_ends" "law_friezeyard_k75_whole_shortest_ways" 497 282)) ::
 (nat_lit 284,oT []) ::
 (nat_lit 287,(kCo "_law_turned" 551 "_law_turned" 552 553 173 2 0 0 3 284 181 285 286 554 173 555)) ::
 (nat_lit 288,(fO 47 "_law_turned" "law_friezeyard_k75_whole_shortest_ways" 497 287)) ::
 (nat_lit 289,oT []) ::
 (nat_lit 291,oT [(vs "_law_one" 560),(vs "_law_spots" 561),(vs "_law_cell" 562),(vs "_law_spot" 563)]) ::
 (nat_lit 292,oT []) ::
 (nat_lit 294,(kO "_law_second" 557 "_law_second" 558 559 178 3 0 0 3 289 181 290 291 292 293 564 178 565)) ::
 (nat_lit 295,(fO 48 "_law_second" "law_friezeyard_k75_whole_shortest_ways" 497 294)) ::
 (nat_lit 296,oT []) ::
 (nat_lit 298,oT [(vs "_law_found" 570),(vs "_law_n" 571),(vs "_law_far" 572),(vs "_law_row" 573)]) ::
 (nat_lit 299,oT []) ::
 (nat_lit 301,(kO "_law_table" 567 "_law_table" 568 569 184 2 0 0 3 296 181 297 298 299 300 574 184 575)) ::
 (nat_lit 302,(fO 49 "_law_table" "law_friezeyard_k75_whole_shortest_ways" 497 301)) ::
 (nat_lit 303,oT []) ::
 (nat_lit 305,oT [(vs "_law_far" 580),(vs "_law_home_cut" 581),(vs "_law_one" 582),(vs "_law_number" 583),(vs "_law_line" 584),(vs "_law_there" 585)]) ::
 (nat_lit 306,oT []) ::
 (nat_lit 308,(kO "_law_never_undercut" 577 "_law_never_undercut" 578 579 193 2 0 0 3 303 181 304 305 306 307 586 193 587)) ::
 (nat_lit 309,(fO 50 "_law_never_undercut" "law_friezeyard_k75_whole_shortest_ways" 497 308)) ::
 (nat_lit 310,oT []) ::
 (nat_lit 312,oT [(vs "_law_found" 592),(vs "_law_here" 593),(vs "_law_other" 594),(vs "_law_line" 595)]) ::
 (nat_lit 313,oT []) ::
 (nat_lit 315,(kO "_law_leads" 589 "_law_leads" 590 591 202 3 0 0 3 310 181 311 312 313 314 596 202 597)) ::
 (nat_lit 316,(fO 51 "_law_leads" "law_friezeyard_k75_whole_shortest_ways" 497 315)) ::
 (nat_lit 317,oT []) ::
 (nat_lit 319,oT [(vs "_law_cell" 602)]) ::
 (nat_lit 320,oT []) ::
 (nat_lit 322,(kO "_law_many" 599 "_law_many" 600 601 210 1 0 0 3 317 181 318 319 320 321 603 210 604)) ::
 (nat_lit 323,(fO 52 "_law_many" "law_friezeyard_k75_whole_shortest_ways" 497 322)) ::
 (nat_lit 324,oT []) ::
 (nat_lit 326,oT [(vs "_law_script" 609),(vs "_law_cell" 610),(vs "_law_one" 611),(vs "_law_other" 612),(vs "_law_far" 613),(vs "_law_found" 614)]) ::
 (nat_lit 327,oT []) ::
 (nat_lit 329,(kO "law" 606 "law" 607 608 214 1 0 0 3 324 181 325 326 327 328 615 214 616)) ::
 (nat_lit 330,(fO 53 "law" "law_friezeyard_k75_whole_shortest_ways" 497 329))::[]
noncomputable def places:List Addr:=[2,3,15,22,23,24,25,28,35,36,37,40,47,48,49,52,59,60,61,64,71,72,73,76,78,79,81,82,83,85,86,88,89,90,92,93,95,96,97,99,100,102,103,104,106,107,109,110,111,113,114,116,117,118,120,121,123,124,125,127,128,130,131,132,135,136,137,140,141,142,144,145,147,148,149,152,153,154,156,157,159,160,161,164,165,166,169,170,171,172,174,175,177,178,179,182,183,184,186,187,189,190,191,194,195,196,198,199,201,202,203,205,206,208,209,210,213,214,215,218,219,220,223,224,225,227,228,230,231,232,235,236,237,239,240,242,243,244,246,247,249,250,251,253,254,256,257,258,260,261,263,264,265,267,268,270,271,272,275,276,277,279,280,282,283,284,287,288,289,291,292,294,295,296,298,299,301,302,303,305,306,308,309,310,312,313,315,316,317,319,320,322,323,324,326,327,329,330]
theorem yp:∀P,places=(K P).map (·.1):=fun _=>by kernel_rfl
def hook:PySem.W.Hook:=PySem.W.kHook K places yp
abbrev loose:List Str:=["to_fan"]
noncomputable def q:Program:=PySem.W.view PySem.Challenge.pw_friezeyard_k75_whole_shortest_ways [1,2,3,4,5,7,8,9,11,12,13,14,15,16,18,19,20,21,22,24,27,29,31,32,33,34,35,36,37,38,39,41,42,43,44,45,46,47,48,49,50,51,52,53]
def xtH(s:Shared):Bool:=PySem.W.xlAt q [] s&&PySem.W.recOk (PySem.W.RowW.records PySem.Challenge.rw_friezeyard_k75_whole_shortest_ways.row.toRowW) s
def out(w:World)(os:OsState):=outAt PySem.Challenge.pw_friezeyard_k75_whole_shortest_ways q K75.loose xtH (fun s=>places.map s.heap.get?) 4736 w os
def good:=PySem.W.openGood q K75.loose
example:((fun (_:Params->Obj)(_:Str)=>true) PySem.W.boot_o_0 (Str.ofString "dull"))=true:=by k_qdec
lay_quick out good
theorem qB:∀w os,out w os=some (true,good,(K w.params).map fun p=>some p.2):=fun w os=>(congrFun (congrFun PySem.W.Fast.te14212192000432715063 w) os).trans (by rw[PySem.W.Fast.te1841609777246735655];kernel_rfl)
theorem left:PySem.W.LeftO PySem.Challenge.pw_friezeyard_k75_whole_shortest_ways q K75.loose xtH (PySem.W.Hook.obs hook) (PySem.W.Hook.val hook) 4736:=wO (by kernel_rfl) (by kernel_rfl) (fun _=>by kernel_rfl) qB
end K75
namespace K75
open L2 Bd Cu
local macro_rules | `(tactic|walk_at "dz")=>do
 let a:=("y0b,zvb,y0c,zvl,zvk,F4,sNx,B7,G6,r9,Ah,v3,zvm,zra,zvc,zvd,zve,zvf,zr8,zvg,zvh,zvi,zvj,zr9,Jt,y0d,y0e,y0f,Ag,Af,zvn,Ar,Ba,zrb,zvo,zw4,y0t,y0u,y0v,zw5,zre,zrf,zmq,zmr,Mg,zw1,zjr,zvp,zvq,Wm,zrc,S9,Ju,Option.bind_some,Bool.and_true,Bool.true_and,y0g,y0h,y0i,y0j,y3k,y3l,eC,eOp,eUn,b7,a8,d9,eCB,t9,t8,eSl,oSo,oNo,O7,bOr,y6,d6,t7,eOr,Db,Ew,Ev,m8,iL,zrg,zrh,zn,L2.R.bind_ok,L2.R.of_some,F3,S8,S7,dLe,Z1,dGe,y0k,S6,y0l,zor,zvr,zvs,zvt,Eu,Js,xZ,zvv,y0n,y0s,y0y,zwb,zri,Fu,zmu,zw3,zwd,zwe,zwf,zwg,y0z,y10,V2,y0m,zvw,zvx,zrd,zvy,zvz,Jr,zw0,Et,List.map_cons,List.map_nil,List.length_cons,List.length_nil,List.cons_append,List.nil_append,List.replicate_succ,List.replicate_zero,List.getElem?_cons_zero,List.getElem?_cons_succ,List.set_cons_zero,List.set_cons_succ,Option.map_some,Option.getD_some,if_true,if_false,Bool.false_eq_true,Bool.not_true,Bool.not_false,Bool.and_false,Bool.false_and,Bool.or_true,Bool.true_or,Bool.or_false,Bool.false_or,Nat.reduceAdd,Nat.reduceLeDiff,Nat.reduceEqDiff,reduceCtorEq,decide_true,decide_false,Int.reduceEq".splitOn ",").toArray.map fun s=>Lean.mkIdent s.toName
 `(tactic|try simp (implicitDefEqProofs:=false) only [$[$a:term],*])
theorem Bb{α:Type}(ls:List α)(f:α->D)(n:Nat)(hn:n<=20)(h1:∀x,(f x).oi=true)(h2:∀x,(f x).dep<=n)(h3:∀x y,(d5 (f x) (f y)).isSome=true)(h4:((ls.map f).all isI||(ls.map f).all D8||(ls.map f).all K8)=true):p9 [.lst (ls.map f)]=some (.lst (u8 (ls.map f))):=by
 have ok:At (ls.map f)=true:=by unfold At;rw[J7 _ _ h1,decide_eq_true (CL (V6 ls f n h2) hn),V0 ls f (fun d=>(ls.map f).all fun e=>(d5 d e).isSome) (fun x=>V0 _ _ _ fun y=>h3 x y),h4];rfl
 simp only[p9,ok,EE]
theorem Ls(ls:List P2)(_:ls.length<64):p9 [.lst (ls.map T2)]=some (.lst ((so2 ls).map T2)):=by rw[Bb ls T2 1 (by decide) T8 U9 Ro (by rw[V0 ls T2 D8 fun _=>rfl,Bool.or_true,Bool.true_or]),Av]
theorem zd(ls:List P3)(_:ls.length<64):p9 [.lst (ls.map T3)]=some (.lst ((so3 ls).map T3)):=by rw[Bb ls T3 1 (by decide) Pi vf vd (by rw[V0 ls T3 D8 fun _=>rfl,Bool.or_true,Bool.true_or]),Kg]
theorem La(ls:List Int)(_:ls.length<64):p9 [L ls]=some (L (soI ls)):=by unfold L;rw[Bb ls D.int 0 (by decide) Oa (fun _=>by simp[D.dep]) (fun _ _=>rfl) (by rw[V0 ls D.int isI fun _=>rfl];rfl),Fe]
theorem Qp(d:Int)(ns:List Int):T9 [L ns,.int d]=some (.int (mxD d ns)):=by simp only[L,T9,Mq,CZ]
theorem yo(c:Int)(p:P2)(ls:List P2)(hl:ls.length<=1000):R1 [.int c,T2 p,.tup (ls.map T2)]=.ok (.int (mxD (c+1) (ends c p ls))):=by
 unfold R1 Nv;walk_at "dz";rw[ζ (by rw[bI];lia),K1 (en:=T2) (bs:=fun l=>[T2 l]) (p:=pk c p) (g:=fun l=>D.int l.2) ls (fun x _=>rfl) (fun l _=>by
  unfold Ny;simp only[T2];walk_at "dz";rfl) (fun l _ _=>by
  unfold Nw;simp only[T2];walk_at "dz")]
 simp only[R.bind_ok];rw[show D.lst ((ls.filter (pk c p)).map fun l=>D.int l.2)=L (ends c p ls) by unfold L ends;rw[DI];rfl];walk_at "dz";rw[Qp];walk_at "dz"
theorem V8(t:DE->R Bool)(g:DS->SR)(n:Nat)(ρ:DS):w4 t g (n+1) ρ=(t (see ρ)).toS fun b=>if b=true then(g ρ).itr (w4 t g n) else .nx ρ:=by rw[w4];congr 1
theorem Dx(xs:List Int)(v:Int):dIx (L (xs++[v])) (.int (-1))=some (.int v):=by
 have:(xs++[v]).map D.int=xs.map D.int++[D.int v]:=by simp
 simp only[L,dIx,dOr,x4,this,yW]
theorem Jz(ls:List P2)(p:P2)(xs:List Int)(v:Int):R0 [some (T2 p),some (.tup (ls.map T2)),some (L (xs++[v]))]=.ok (decide (v<p.2)):=by unfold R0;simp only[T2];walk_at "dz";rw[Dx];walk_at "dz"
theorem Tk(ls:List P2)(hl:ls.length<=1000)(p:P2)(xs:List Int)(v:Int)(hx:xs.length<1000):Q9 [.im (T2 p),.im (.tup (ls.map T2)),.ow (L (xs++[v]))]=.nx [.im (T2 p),.im (.tup (ls.map T2)),.ow (L (xs++[v]++[mxD (v+1) (ends v p ls)]))]:=by unfold Q9;walk_at "dz";rw[Dx];walk_at "dz";rw[yo _ _ _ hl];walk_at "dz";rw[Do (by simp;lia)];walk_at "dz"
theorem wI{n:Int}{ls ls':List P2}{T:List P3}(I:CInv n ls T)(p:ls'.Perm ls)(hl:ls'.length<=1000)(a c b:Int)(h:(a,c,b)∈T) :
  Q7 [T2 (a,b),.tup (ls'.map T2)]=.ok (T3 (a,c,b)):=by
 obtain⟨g1,g2,g3,g4,_⟩:=I.tri a c b h
 unfold Q7 Nj
 walk_at "dz"
 have w:F5 1000 R0 Q9 [.im (T2 (a,b)),.im (.tup (ls'.map T2)),.ow (L [a])]=.nx [.im (T2 (a,b)),.im (.tup (ls'.map T2)),.ow (L [a,c,b])]:=by have t1:=Jz ls' (a,b) [] a;have t2:=Jz ls' (a,b) [a] c;have t3:=Jz ls' (a,b) [a,c] b;have b1:=Tk ls' hl (a,b) [] a (by simp);have b2:=Tk ls' hl (a,b) [a] c (by simp);rw[I.beh1 p h]at b1;rw[I.beh2 p h]at b2;simp only[HI,GD]at t1 t2 t3 b1 b2;unfold F5;rw[show(1000:Nat)=997+1+1+1 from rfl,V8];simp only[Af,Ar,Ba,Ag];rw[t1,v3,decide_eq_true (show a<b by omega),ζ rfl,b1,Et,V8];simp only[Af,Ar,Ba,Ag];rw[t2,v3,decide_eq_true (show c<b by omega),ζ rfl,b2,Et,V8];simp only[Af,Ar,Ba,Ag];rw[t3,v3,decide_eq_false (show ¬b<b by omega),ξ θ]
 rw[show D.lst [D.int a]=L [a] from rfl,w]
 walk_at "dz"
 rfl
theorem wH{n:Int}{ls ls':List P2}{T:List P3}(I:CInv n ls T)(p:ls'.Perm ls)(hl:ls.length<=60) :
  N3 [.int n,.tup (ls'.map T2)]=.ok (.lst ((so3 T).map T3)):=by
 have eE:ls'.length<=60:=by rw[p.length_eq];exact hl
 unfold N3 Kc
 walk_at "dz"
 rw[show v6 (D.lst [D.tup [D.int 0,D.int (n - 1)]]) (D.lst (ls'.map T2))=some (.lst (((0,n - 1)::ls').map T2)) by simp only[v6];rw[ζ (by simp;lia)];rfl]
 obtain⟨tops,ht⟩:∃tops:List P2,tops=(0,n - 1)::ls':=⟨_,rfl⟩
 have aC:tops.length<=61:=by rw[ht,pp];lia
 rw[<-ht]
 have kp:keeps true (D.lst (tops.map T2))=true:=by rw[Mg];exact Q2 _ _ fun x _=>V2 x
 simp only[R.of_some,v3,kp]
 walk_at "dz"
 rw[ζ (by rw[bI];lia),X0 (en:=T2) (bs:=fun q=>[T2 q]) (g:=fun q=>T3 (thr T q)) tops (fun x _=>rfl) (fun q hq=>by obtain⟨m1,m2⟩:=I.top_in p (by rw[<-ht];exact hq);unfold Lz;walk_at "dz";generalize thr T q=u at m1 m2;obtain⟨a,c,b⟩:=u;rw[<-m2];exact wI I p (by lia) a c b m1)]
 walk_at "dz"
 have e1:tops.map (fun q=>T3 (thr T q))=(tops.map (thr T)).map T3:=by rw[DI];rfl
 have pm:(tops.map (thr T)).Perm T:=by rw[ht];exact I.tops p
 rw[e1,zd _ (by rw[bI];lia),Vs pm]
 walk_at "dz"
theorem zew{n:Int}{ls ls':List P2}{T:List P3}(I:CInv n ls T)(p:ls'.Perm ls)(hl:ls.length<=60) :
  Bp [.tup [.int n,.tup (ls'.map T2)]]=.ok (.lst ((so3 T).map T3)):=by
 unfold Bp Yx
 walk_at "dz"
 rw[wH I p hl]
 walk_at "dz"
theorem Tj(i:Int):X2 [.int i]=.ok (.bl true):=by unfold X2 Yd;walk_at "dz"
theorem Jy(i:Int):Q8 [.int i]=.ok (.bl true):=by unfold Q8 Zr;walk_at "dz";simp only[Z4];walk_at "dz"
def pkv(ns:List Int)(k:Int):Int:=(m5 ns (some k) (some (k+1))++[0]).getD 0 0
theorem Jx(ns:List Int)(a b:Option Int):(m5 ns a b).length<=ns.length:=by unfold m5;simp only[DD,CU];omega
theorem qA(ns:List Int)(hl:ns.length<=63)(k:Int):Br [.scr ns,.int k]=.ok (.int (pkv ns k)):=by have h:=Jx ns (some k) (some (k+1));unfold Br Ze pkv;walk_at "dz";generalize m5 ns (some k) (some (k+1))=xs at h;rw[show v6 (L xs) (D.lst [D.int 0])=some (L (xs++[0])) by simp only[L,v6,bI,pp,FV,ζ (show xs.length+(0+1)<=100000 by lia),DA,gq,DH]];walk_at "dz";rw[Oc (by lia) (by simp)];rfl
theorem y1h(S0:Sl)(o:List Int)(ps:List P2)(T:List P3)(B:Bld o ps T)(ho:o.length<=900)(dJ:Int)(s4:Sl)(r:List Sl) :
  ∃c:Nat,c<o.length/\Ge (S0::.ow (L o)::.ow (.lst ((ps.map (nmP o)).map T2))::.im (.int dJ)::s4::r) =
   .nx (S0::.ow (L (C8 o (c+1) (o.length:Int)))::.ow (.lst (((ps.map (sh2 (c:Int))++[nwP o.length c]).map (nmP (C8 o (c+1) (o.length:Int)))).map T2))::.im (.int dJ)::.im (.int (c:Int))::r):=by
 have h3:3<=o.length:=by have:=B.inv.n3;lia
 have m0:0<=dJ % (o.length:Int):=HK _ (by lia)
 have m1:dJ % (o.length:Int)<o.length:=GJ _ (by lia)
 obtain⟨c,hc⟩:∃c:Nat,c=(dJ % (o.length:Int)).toNat:=⟨_,rfl⟩
 have aN:dJ % (o.length:Int)=(c:Int):=by lia
 have e:=(B.grow c (by lia)).2
 have fG:=B.len
 refine⟨c,by lia,?_⟩
 rw[<-e]
 have hm:((c:Int)+1) % (o.length:Int)=(((c+1) % o.length:Nat):Int):=by rw[show(c:Int)+1=((c+1:Nat):Int) by lia];rfl
 have mH:(c+1) % o.length<o.length:=Nat.mod_lt _ (by lia)
 have hx:(ps.map (nmP o)).length<1000:=by rw[bI];lia
 generalize ps.map (nmP o)=xs at hx
 unfold Ge
 walk_at "dz"
 rw[y9 (by lia),aN]
 walk_at "dz"
 rw[Ob (by lia),y9 (by lia),hm]
 walk_at "dz"
 rw[Ob mH]
 walk_at "dz"
 rw[Rn (by lia)]
 walk_at "dz"
 rw[y0r (by lia) (by lia) (by lia)]
 walk_at "dz"
 rw[show((c:Int)+1).toNat=c+1 by lia]
 rfl
theorem wG(a b:Int):p9 [D.lst [.int a,.int b]]=some (.lst [.int (nr (a,b)).1,.int (nr (a,b)).2]):=by
 have:=La [a,b] (by simp);rw[show(D.lst [.int a,.int b])=L [a,b] from rfl,this];congr 1;unfold nr;by_cases h:a<b
 . rw[ζ h,Dh h];rfl
 . rw[ξ h];by_cases h2:b<a
   . rw[Be (List.Perm.swap b a []),Dh h2];rfl
   . have:a=b:=by lia
     subst this;rw[show soI [a,a]=[a,a] by simp[soI,sortB,insB,ltT]];rfl
theorem Qo(o:List Int)(x:Int):((Sum.inl x:Key)∈o.map fun x=>(Sum.inl x:Key))↔x∈o:=by
 rw[CP];constructor
 . rintro⟨y,hy,e⟩;cases e;exact hy
 . intro h;exact⟨x,h,rfl⟩
theorem wE(A B C E F:Sl)(o:List Int)(k:Nat)(ho:o.length<1000)(nd:o.Nodup)(hk:k<o.length)(s6 s7:Sl) :
  Gc [A,B,C,E,F,.ow (.dk ((o.take k).map fun x=>(Sum.inl x:Key)) ((List.range k).map fun (k:Nat)=>D.int (k:Int))),.im (.int (k:Int)),.im (.int (o.getD k 0))] =
   .nx [A,B,C,E,F,.ow (.dk ((o.take (k+1)).map fun x=>(Sum.inl x:Key)) ((List.range (k+1)).map fun (k:Nat)=>D.int (k:Int))),.im (.int (k:Int)),.im (.int (o.getD k 0))]:=by
 have hn:o.getD k 0∉o.take k:=fun h=>by
  have e:o.getD k 0=o[k]:=by rw[CI,CH hk];rfl
  rw[e]at h;obtain⟨j,hj,uZ⟩:=List.mem_take_iff_getElem.mp h;have:j=k:=(List.getElem_inj nd).mp uZ
  lia
 have et:o.take (k+1)=o.take k++[o.getD k 0]:=by rw[List.take_succ,CI,CH hk];rfl
 unfold Gc
 walk_at "dz"
 simp only[D9,G1,CZ]
 rw[ζ (by rw[bI,CU];lia)]
 walk_at "dz"
 unfold D5 m7
 rw[ξ (by rw[Qo];exact hn),ξ (by rw[Qo];exact hn),et,DA,List.range_succ,DA]
 rfl
theorem Ot{o:List Int}(nd:o.Nodup)(i:Nat)(hi:i<o.length):dIx (.dk (o.map fun x=>(Sum.inl x:Key)) ((List.range o.length).map fun (k:Nat)=>D.int (k:Int))) (.int (o.getD i 0))=some (.int (i:Int)):=by simp only[dIx,dOr,Cj,M9,G1,CZ,wL nd i hi,Option.bind_some,id,x4]
theorem y1i(sp:List Int)(hs:sp.length<=57):∃(n:Nat)(ls:List P2)(T:List P3),Cut (n:Int) ls T/\3<=n/\n<=60/\ls.length+3=n/\n=sp.length+3/\Q6 [L sp]=.ok (.tup [.int (n:Int),.tup ((so2 ls).map T2)]):=by
 unfold Q6 Yc;walk_at "dz";obtain⟨au,e,o,ps,T,s3,s4,B,hl,hr⟩:=F7 (tg:=.n 3) (g:=Ge) (en:=D.int)
  (fun r ρ=>∃(o:List Int)(ps:List P2)(T:List P3)(s3 s4:Sl),Bld o ps T/\o.length+r.length=sp.length+3/\ρ=[.im (L sp),.ow (L o),.ow (.lst ((ps.map (nmP o)).map T2)),s3,s4,.em,.em,.em])
  sp [.im (L sp),.ow (L [0,1,2]),.ow (.lst []),.em,.em,.em,.em,.em] ⟨[0,1,2],[],[(0,1,2)],.em,.em,y3w,by simp;lia,rfl⟩ (by rintro x r ρ ⟨o,ps,T,s3,s4,B,hl,rfl⟩;simp only[pp]at hl;obtain⟨c,hc,e⟩:=y1h (.im (L sp)) o ps T B (by lia) x s4 [.em,.em,.em];refine⟨_,_,rfl,Or.inl e,⟨_,_,_,_,_,(B.grow c hc).1,by rw[Vo];lia,rfl⟩⟩)
 simp only[L,gq,DH]at e;simp only[L];rw[e,hr];simp only[FV,Nat.add_zero]at hl;have h3:3<=o.length:=by have:=B.inv.n3;lia
 have fG:=B.len;have hx:(ps.map (nmP o)).length<=57:=by rw[bI];lia
 have nd:=B.nd;obtain⟨xs,cg⟩:∃xs,xs=ps.map (nmP o):=⟨_,rfl⟩;rw[<-cg]at hx⊢;walk_at "dz";simp only[Hl];walk_at "dz";rw[show keeps true (D.dk [] [])=true from rfl];walk_at "dz";simp only[iEn];walk_at "dz";simp only[L];walk_at "dz";have en:List.map (fun p=>D.tup [p.1,p.2]) ((zD 0 (o.map D.int).length).zip (o.map D.int))=(List.range o.length).map fun (i:Nat)=>D.tup [.int (i:Int),.int (o.getD i 0)]:=by
  rw[show o.map D.int=(List.range o.length).map fun i=>D.int (o.getD i 0) by
   conv=>lhs;rw[Rp o 0]
   rw[DI];rfl]
  exact Vu _ _
 rw[en];obtain⟨ay,e2,s6,s7,AA⟩:=Vv (tg:=.t [6,7]) (g:=Gc) o.length (fun (i:Nat)=>D.tup [.int (i:Int),.int (o.getD i 0)])
  (fun k ρ=>∃s6 s7:Sl,ρ=[.im (.lst (sp.map D.int)),.im (.lst (o.map D.int)),.ow (.lst (xs.map T2)),s3,s4,.ow (.dk ((o.take k).map fun x=>(Sum.inl x:Key)) ((List.range k).map fun (k:Nat)=>D.int (k:Int))),s6,s7])
  [.im (.lst (sp.map D.int)),.im (.lst (o.map D.int)),.ow (.lst (xs.map T2)),s3,s4,.ow (.dk [] []),.em,.em] ⟨.em,.em,rfl⟩ (by rintro k hk ρ ⟨s6,s7,rfl⟩;exact⟨_,_,rfl,Or.inl (wE _ _ _ _ _ o k (by lia) nd hk s6 s7),⟨_,_,rfl⟩⟩)
 rw[e2,AA,List.take_length];walk_at "dz";rw[ζ (by rw[bI];lia),cg,DI,X0 (en:=T2∘nmP o) (bs:=fun q=>[D.int (nmP o q).1,D.int (nmP o q).2]) (g:=fun q=>T2 (nr q)) ps (fun x _=>rfl) (fun q hq=>by have hi:=B.inn q hq;unfold Zq;walk_at "dz";unfold nmP;rw[Ot nd _ (by lia),Ot nd _ (by lia),Int.toNat_of_nonneg hi.1.1,Int.toNat_of_nonneg hi.2.1];walk_at "dz";rw[wG];walk_at "dz";rfl)];simp only[R.bind_ok];rw[show ps.map (fun q=>T2 (nr q))=(ps.map nr).map T2 by rw[DI];rfl];have hy:(ps.map nr).length<64:=by rw[bI];lia
 have I:=B.inv;have C:=Qw B.inv;have pJ:(ps.map nr).length+3=o.length:=by rw[bI];exact fG
 generalize ps.map nr=ys at hy pJ I C;walk_at "dz";rw[Ls _ hy];walk_at "dz";refine⟨o.length,ys,T,⟨I,C⟩,h3,by lia,pJ,hl,?_⟩;rw[bI]
def L7(n a b:Int):Bool:=!(decide (a<0)||decide (n<=b))&&(decide (b=a+1)||(decide (a=0)&&decide (b=n - 1)))
theorem Qn(n:Int)(p:P2):W8 [.int n,T2 p]=.ok (.bl (L7 n p.1 p.2)):=by unfold W8 Ws L7;walk_at "dz";generalize (decide (p.1<0)||decide (n<=p.2))=c;cases c<;>rfl
theorem Os(p:P2):W0 [T2 p]=.ok (.bl true):=by unfold W0 Vm;walk_at "dz";rw[Tj];walk_at "dz";rw[Tj];walk_at "dz"
theorem y1j(n:Int)(ls:List P2)(p:P2):Bn [.tup [.int n,.tup (ls.map T2)],T2 p]=.ok (.bl (L7 n p.1 p.2||decide (p∈ls))):=by unfold Bn Yb;walk_at "dz";rw[Os];walk_at "dz";rw[Qn];walk_at "dz";rw[Ec];walk_at "dz"
theorem yn{n a b:Int}:L7 n a b=true↔(0<=a/\b<n)/\(b=a+1\/(a=0/\b=n - 1)):=by simp only[L7,ng,ET,Bool.or_eq_false_iff,HL,mV,CS];rw[GB,Int.not_le]
theorem ym(n:Int)(ls:List P2)(p:P2)(h:(L7 n p.1 p.2||decide (p∈ls))=true):Bt [.tup [.int n,.tup (ls.map T2)],T2 p]=.ok .non:=by unfold Bt Zm;walk_at "dz";rw[y1j,h];walk_at "dz"
theorem wD(T:List P3):(so3 T).length=T.length:=(Q1 T).length_eq
theorem zc{n:Int}{ls ls':List P2}{T:List P3}(I:CInv n ls T)(pm:ls'.Perm ls)(hl:ls.length<=60)(p:P2)(h:(L7 n p.1 p.2||decide (p∈ls'))=true) :
  V9 [.tup [.int n,.tup (ls'.map T2)],T2 p]=.ok (L (dues T p)):=by
 have hT:(so3 T).length<=61:=by rw[wD,I.len];lia
 unfold V9 Vl
 walk_at "dz"
 rw[ym n ls' p h]
 walk_at "dz"
 rw[zew I pm hl]
 walk_at "dz"
 rw[ζ (by rw[bI];lia),K1 (en:=T3) (bs:=fun t=>[T3 t]) (p:=bth p.1 p.2) (g:=fun t=>T3 t) (so3 T) (fun x _=>rfl) (fun t _=>by
  unfold Xz;walk_at "dz";rw[Ph];walk_at "dz";rw[Ph];walk_at "dz";rfl) (fun t _ _=>by
  unfold Xy;walk_at "dz")]
 simp only[R.bind_ok]
 obtain⟨F,hF⟩:∃F,F=(so3 T).filter (bth p.1 p.2):=⟨_,rfl⟩
 have CC:F.length<=61:=by rw[hF];exact CL (EK _ _) hT
 rw[<-hF]
 walk_at "dz"
 rw[ζ (by rw[bI];lia),X0 (en:=T3) (bs:=fun t=>[T3 t]) (g:=fun t=>D.int (t.1+(t.2.1+(t.2.2+0)) - (p.1+(p.2+0)))) F (fun x _=>rfl) (fun t _=>by unfold Xx;walk_at "dz")]
 simp only[R.bind_ok]
 rw[show D.lst (F.map fun t=>D.int (t.1+(t.2.1+(t.2.2+0)) - (p.1+(p.2+0))))=L (F.map fun t=>t.1+(t.2.1+(t.2.2+0)) - (p.1+(p.2+0))) by unfold L;rw[DI];rfl]
 walk_at "dz"
 rw[La _ (by rw[bI];lia)]
 walk_at "dz"
 rw[hF];rfl
theorem wC(p:P2)(ls:List P2):dIn true (T2 p) (.tup (ls.map T2))=some (.bl (!decide (p∈ls))):=by have h:=Ec p ls;have h1:=V6 ls T2 1 U9;unfold dIn dOr L6 at h⊢;simp only[G8,Am ls T2 G8,true_and,ζ (show h7 (ls.map T2)<=20 by lia),CM,DR,EE,Option.some.injEq,D.bl.injEq]at h⊢;rw[h]
theorem Oq(p q:P2):dNe (T2 p) (T2 q)=some (.bl (!decide (p=q))):=by unfold dNe;rw[ζ ⟨G8 p,G8 q,by have:=U9 p;lia⟩,Jh]
theorem wB(n:Int)(ls:List P2)(p:P2)(h:p∈ls):Bw [.tup [.int n,.tup (ls.map T2)],T2 p]=.ok .non:=by unfold Bw Zo;walk_at "dz";rw[Os];walk_at "dz";rw[wC,decide_eq_true h];walk_at "dz"
theorem Ti(ls' ls0:List P2)(l:P2)(p:ls'.Perm (l::ls0))(h:l∉ls0):(ls'.filter fun o=>!decide (o=l)).Perm ls0:=by refine(p.filter _).trans ?_;rw[HP (by simp)];rw[List.filter_eq_self.mpr fun o ho=>by simp;exact fun e=>h (by rw[<-e];exact ho)]
section
variable {n:Int}{ls ls' ls0:List P2}{T:List P3}{l w:P2}
theorem qz(K:Cut n ls T)(pm:ls'.Perm ls)(hl:ls.length<=60)(h:l∈ls):V9 [.tup [.int n,.tup (ls'.map T2)],T2 l]=.ok (L (dues T l)):=
 zc K.inv pm hl l (by rw[decide_eq_true (pm.mem_iff.mpr h),Bool.or_true])
theorem Kz(K:Cut n ls T)(pm:ls'.Perm ls)(hl:ls.length<=60)(h:l∈ls)(p0:ls.Perm (l::ls0))(hw:dues T l=[w.1,w.2]) :
  C6 [.tup [.int n,.tup (ls'.map T2)],T2 l]=.ok (.tup [.tup [.int n,.tup ((so2 (ls0++[w])).map T2)],T2 w]):=by
 have fK:l∉ls0:=by have:=p0.nodup_iff.mp K.inv.nd;rw[CO]at this;exact this.1
 have eE:ls'.length<=60:=by rw[pm.length_eq];exact hl
 unfold C6 Vk
 walk_at "dz"
 rw[wB n ls' l (pm.mem_iff.mpr h)]
 walk_at "dz"
 rw[qz K pm hl h,hw]
 walk_at "dz"
 rw[show z7 [L [w.1,w.2]]=some (T2 w) from rfl]
 simp only[R.of_some,v3]
 rw[show keeps false (T2 w)=true from V2 w]
 walk_at "dz"
 rw[ζ (by rw[bI];lia),K1 (en:=T2) (bs:=fun o=>[T2 o]) (p:=fun o=>!decide (o=l)) (g:=fun o=>T2 o) ls' (fun x _=>rfl) (fun o _=>by
  unfold Xw;walk_at "dz";rw[Oq];walk_at "dz") (fun o _ _=>by
  unfold Xv;walk_at "dz")]
 simp only[R.bind_ok]
 have kn:=Ti ls' ls0 l (pm.trans p0) fK
 obtain⟨kp,gZ⟩:∃kp,kp=ls'.filter fun o=>!decide (o=l):=⟨_,rfl⟩
 rw[<-gZ]at kn⊢
 have mL:kp.length<=60:=by rw[gZ];exact CL (EK _ _) eE
 walk_at "dz"
 rw[show D.lst [T2 w]=D.lst ([w].map T2) from rfl,Rl _ _ (by simp;lia)]
 obtain⟨xs,cg⟩:∃xs,xs=kp++[w]:=⟨_,rfl⟩
 have hx:xs.length<=61:=by rw[cg];simp;lia
 rw[<-cg]
 walk_at "dz"
 rw[Ls _ (by lia),w8 (show xs.Perm (ls0++[w]) by rw[cg];exact kn.append_right _)]
 walk_at "dz"
end
theorem qy{n:Int}{ls:List P2}{T:List P3}(I:CInv n ls T)(A:Sl)(x:Int)(x0:0<=x)(x1:x<n)(xs:List Int)(dn:List P2)(a b:Int)(r:List P2)(hd:dn++(a,b)::r=ls)
  (nd:xs.Nodup) (hm:∀k,k∈xs↔k=(x+1) % n\/k=(x - 1) % n\/(x,k)∈dn\/(k,x)∈dn) (hl:xs.length<=900) :
  ∃ys:List Int,Gg [A,.im (.int x),.ow (L xs),.im (.int a),.im (.int b)]=.nx [A,.im (.int x),.ow (L ys),.im (.int a),.im (.int b)] /\
   ys.Nodup/\(∀k,k∈ys↔k=(x+1) % n\/k=(x - 1) % n\/(x,k)∈dn++[(a,b)]\/(k,x)∈dn++[(a,b)])/\ys.length<=xs.length+1:=by
 have n3:=I.n3
 have bu:(a,b)∈ls:=by rw[<-hd];simp
 have l:=I.lin a b bu
 have pK:=I.nd
 rw[<-hd]at pK
 have pL:(a,b)∉dn:=fun h=>by have:=ER.mp pK;exact this.2.2 _ h _ (by simp) rfl
 have inl:∀p∈dn,p∈ls:=fun p hp=>by rw[<-hd];simp[hp]
 have up:(x+1) % n=if x=n - 1 then 0 else x+1:=by
  split
  . rename_i e;rw[e,show n - 1+1=n by lia,Iz]
  . rw[DJ (by lia) (by lia)]
 have dw:(x - 1) % n=if x=0 then n - 1 else x - 1:=by
  split
  . rename_i e;rw[e,<-HM,DJ (by lia) (by lia)];lia
  . rw[DJ (by lia) (by lia)]
 unfold Gg
 by_cases ha:a=x
 . have hb:¬b=x:=by lia
   refine⟨xs++[b],?_,?_,?_,by simp⟩
   . walk_at "dz";rw[decide_eq_true ha];walk_at "dz";rw[Do (by lia)];walk_at "dz";rw[decide_eq_false hb];walk_at "dz"
   . rw[ER];refine⟨nd,by simp,fun k hk k' ez e=>?_⟩;rw[gV]at ez;subst ez;subst e;rcases (hm k).mp hk with z |z |z |z
     . rw[up]at z;split at z<;>lia
     . rw[dw]at z;split at z<;>lia
     . exact pL (by rw[ha];exact z)
     . have:=I.lin _ _ (inl _ z);lia
   . intro k;simp only[CK,gV,hm k,Prod.mk.injEq];constructor
     . rintro ((z |z |z |z) |z)
       . exact .inl z
       . exact .inr (.inl z)
       . exact .inr (.inr (.inl (.inl z)))
       . exact .inr (.inr (.inr (.inl z)))
       . exact .inr (.inr (.inl (.inr ⟨ha.symm,z⟩)))
     . rintro (z |z | (z |z) | (z |z))
       . exact .inl (.inl z)
       . exact .inl (.inr (.inl z))
       . exact .inl (.inr (.inr (.inl z)))
       . exact .inr z.2
       . exact .inl (.inr (.inr (.inr z)))
       . exact absurd z.2.symm hb
 . by_cases hb:b=x
   . refine⟨xs++[a],?_,?_,?_,by simp⟩
     . walk_at "dz";rw[decide_eq_false ha];walk_at "dz";rw[decide_eq_true hb];walk_at "dz";rw[Do (by lia)];walk_at "dz"
     . rw[ER];refine⟨nd,by simp,fun k hk k' ez e=>?_⟩;rw[gV]at ez;subst ez;subst e;rcases (hm k).mp hk with z |z |z |z
       . rw[up]at z;split at z<;>lia
       . rw[dw]at z;split at z<;>lia
       . have:=I.lin _ _ (inl _ z);lia
       . exact pL (by rw[hb];exact z)
     . intro k;simp only[CK,gV,hm k,Prod.mk.injEq];constructor
       . rintro ((z |z |z |z) |z)
         . exact .inl z
         . exact .inr (.inl z)
         . exact .inr (.inr (.inl (.inl z)))
         . exact .inr (.inr (.inr (.inl z)))
         . exact .inr (.inr (.inr (.inr ⟨z,hb.symm⟩)))
       . rintro (z |z | (z |z) | (z |z))
         . exact .inl (.inl z)
         . exact .inl (.inr (.inl z))
         . exact .inl (.inr (.inr (.inl z)))
         . exact absurd z.1.symm ha
         . exact .inl (.inr (.inr (.inr z)))
         . exact .inr z.1
   . refine⟨xs,?_,nd,?_,by lia⟩
     . walk_at "dz";rw[decide_eq_false ha];walk_at "dz";rw[decide_eq_false hb];walk_at "dz"
     . intro k;simp only[CK,gV,hm k,Prod.mk.injEq];constructor
       . rintro (z |z |z |z)
         . exact .inl z
         . exact .inr (.inl z)
         . exact .inr (.inr (.inl (.inl z)))
         . exact .inr (.inr (.inr (.inl z)))
       . rintro (z |z | (z |z) | (z |z))
         . exact .inl z
         . exact .inr (.inl z)
         . exact .inr (.inr (.inl z))
         . exact absurd z.1.symm ha
         . exact .inr (.inr (.inr z))
         . exact absurd z.2.symm hb
theorem Qm{n:Int}{ls:List P2}{T:List P3}(I:CInv n ls T)(hl:ls.length<=60)(x:Int)(x0:0<=x)(x1:x<n) :
  ∃xs:List Int,xs.Nodup/\(∀k,k∈xs↔adj n ls x k)/\xs.length<=100/\X5 [.tup [.int n,.tup (ls.map T2)],.int x]=.ok (L xs):=by
 have n3:=I.n3
 unfold X5 Zd
 walk_at "dz"
 rw[y9 (by lia),y9 (by lia)]
 walk_at "dz"
 obtain⟨au,e,xs,dn,s3,s4,hd,nd,hm,hx,hr⟩:=F7 (tg:=.t [3,4]) (g:=Gg) (en:=T2)
  (fun r ρ=>∃(xs:List Int)(dn:List P2)(s3 s4:Sl),dn++r=ls/\xs.Nodup/\(∀k,k∈xs↔k=(x+1) % n\/k=(x - 1) % n\/(x,k)∈dn\/(k,x)∈dn)/\xs.length<=2+dn.length/\ρ=[.im (.tup [.int n,.tup (ls.map T2)]),.im (.int x),.ow (L xs),s3,s4])
  ls [.im (.tup [.int n,.tup (ls.map T2)]),.im (.int x),.ow (L [(x+1) % n,(x - 1) % n]),.em,.em] ⟨_,[],.em,.em,rfl,by
   rw[CO];refine⟨?_,by simp⟩;rw[gV];intro h;have up:(x+1) % n=if x=n - 1 then 0 else x+1:=by
    split
    . rename_i e;rw[e,show n - 1+1=n by lia,Iz]
    . rw[DJ (by lia) (by lia)]
   have dw:(x - 1) % n=if x=0 then n - 1 else x - 1:=by
    split
    . rename_i e;rw[e,<-HM,DJ (by lia) (by lia)];lia
    . rw[DJ (by lia) (by lia)]
   rw[up,dw]at h;split at h<;>split at h<;>lia,by intro k;simp,by simp,rfl⟩ (by
   rintro⟨a,b⟩ r ρ ⟨xs,dn,s3,s4,hd,nd,hm,hx,rfl⟩;have CD:dn.length<=60:=by have:=EH List.length hd;rw[χ]at this;lia
   obtain⟨ys,e,cE,mM,hy⟩:=qy I _ x x0 x1 xs dn a b r hd nd hm (by lia);exact⟨_,_,rfl,Or.inl e,⟨ys,dn++[(a,b)],_,_,by rw[ES];exact hd,cE,mM,by rw[χ,FC];lia,rfl⟩⟩)
 simp only[L,gq,DH]at e
 rw[e,hr]
 rw[ED]at hd
 subst hd
 walk_at "dz"
 exact⟨xs,nd,hm,by lia,rfl⟩
theorem jx(k:Int)(xs:List Int):dIn false (.int k) (L xs)=some (.bl (decide (k∈xs))):=by
 have e:(xs.map D.int).any (fun e=>eqD e (.int k))=decide (k∈xs):=by
  rw[List.any_map,FX,List.any_eq_true,mV];constructor
  . rintro⟨x,hx,h⟩;simp only[Function.comp,eqD,Im]at h;rw[<-h];exact hx
  . intro h;exact⟨k,h,by simp[eqD]⟩
 have h1:h7 (xs.map D.int)<=0:=V6 xs D.int 0 fun x=>by simp[D.dep]
 have h2:pls (xs.map D.int)=true:=Am xs D.int fun x=>rfl
 unfold dIn dOr L6;simp only[L,D.pl,h2,true_and,ζ (show h7 (xs.map D.int)<=20 by lia),e,CM,DR]
theorem zb{n:Int}{ls ls' ls0:List P2}{T:List P3}{l w:P2}(K:Cut n ls T)(pm:ls'.Perm ls)(hl:ls.length<=60)(h:l∈ls)(p0:ls.Perm (l::ls0))(hw:dues T l=[w.1,w.2]) :
  K6 [.tup [.int n,.tup (ls'.map T2)],T2 l]=.ok (.tup [.int n,.tup ((so2 (ls0++[w])).map T2)]):=by
 have I:=K.inv
 have I':=I.perm pm
 have eE:ls'.length<=60:=by rw[pm.length_eq];exact hl
 have lin:=I.lin l.1 l.2 h
 have fK:l∉ls0:=by have:=p0.nodup_iff.mp I.nd;rw[CO]at this;exact this.1
 obtain⟨xb,CF,mb,lb,eb⟩:=Qm I' eE l.2 (by omega) (by omega)
 obtain⟨xa,AB,ma,la,ea⟩:=Qm I' eE l.1 (by omega) (by omega)
 have lD:∀x k,0<=x->x<n->adj n ls' x k->0<=k/\k<n/\k≠x:=fun x k x0 x1 ha=>by
  have n3:=I.n3;rcases ha with z |z |z |z
  . subst z;refine⟨HK _ (by omega),GJ _ (by omega),?_⟩;by_cases e:x=n - 1
    . rw[e,show n - 1+1=n by omega,Iz];omega
    . rw[DJ (by omega) (by omega)];omega
  . subst z;refine⟨HK _ (by omega),GJ _ (by omega),?_⟩;by_cases e:x=0
    . rw[e,<-HM,DJ (by omega) (by omega)];omega
    . rw[DJ (by omega) (by omega)];omega
  . have:=I'.lin _ _ z;omega
  . have:=I'.lin _ _ z;omega
 have pb:(xa.filter fun k=>decide (k∈xb)).Perm [w.1,w.2]:=by
  rw[<-hw];have AC:(dues T l).Nodup:=by
   rw[hw];have wn:w.1<w.2:=by obtain⟨w',CG,T',_,K',hd,_,_⟩:=K.turn h;rw[hw]at hd;simp only[List.cons.injEq,HE]at hd;have:=K'.inv.lin w'.1 w'.2 (by simp);omega
   simp;omega
  rw[DL (AB.filter _) AC];intro k;rw[CT,mV,ma,mb];constructor
  . rintro⟨h1,h2⟩;have a1:=lD _ _ (by omega) (by omega) h1;have a2:=lD _ _ (by omega) (by omega) h2;exact(I'.com (pm.mem_iff.mpr h) a1.1 a1.2.1 a1.2.2 a2.2.2).mp ⟨h1,h2⟩
  . intro hk;obtain⟨t,ht,hb,e⟩:=mem_dues.mp hk;have g:=I.tri t.1 t.2.1 t.2.2 ht;obtain⟨x,y,z⟩:=t;rw[bth_iff]at hb;simp only at e g;exact(I'.com (pm.mem_iff.mpr h) (by omega) (by omega) (by omega) (by omega)).mpr hk
 unfold K6 Zx
 walk_at "dz"
 rw[eb]
 walk_at "dz"
 rw[ea]
 walk_at "dz"
 rw[ζ (by rw[bI];omega),K1 (en:=D.int) (bs:=fun k=>[D.int k]) (p:=fun k=>decide (k∈xb)) (g:=fun k=>D.int k) xa (fun _ _=>rfl) (fun k _=>by
  unfold jk;walk_at "dz";rw[jx];walk_at "dz") (fun k _ _=>by
  unfold ji;walk_at "dz")]
 simp only[R.bind_ok]
 have lf:(xa.filter fun k=>decide (k∈xb)).length=2:=by rw[pb.length_eq];rfl
 have es:=Be pb
 generalize (xa.filter fun k=>decide (k∈xb))=F at lf es
 rw[show D.lst (F.map fun k=>D.int k)=L F from rfl]
 walk_at "dz"
 rw[La _ (by omega),es,show soI [w.1,w.2]=[w.1,w.2] by rw[<-hw];unfold dues;exact Be (Fs _)]
 walk_at "dz"
 rw[ζ (by rw[bI];omega),K1 (en:=T2) (bs:=fun o=>[T2 o]) (p:=fun o=>!decide (o=l)) (g:=fun o=>T2 o) ls' (fun x _=>rfl) (fun o _=>by
  unfold jh;walk_at "dz";rw[Oq];walk_at "dz") (fun o _ _=>by
  unfold jg;walk_at "dz")]
 simp only[R.bind_ok]
 have kn:=Ti ls' ls0 l (pm.trans p0) fK
 obtain⟨kp,gZ⟩:∃kp,kp=ls'.filter fun o=>!decide (o=l):=⟨_,rfl⟩
 rw[<-gZ]at kn⊢
 have mL:kp.length<=60:=by rw[gZ];exact CL (EK _ _) eE
 walk_at "dz"
 rw[show z7 [L [w.1,w.2]]=some (T2 w) from rfl]
 walk_at "dz"
 rw[show D.lst [T2 w]=D.lst ([w].map T2) from rfl,Rl _ _ (by simp;omega)]
 obtain⟨xs,cg⟩:∃xs,xs=kp++[w]:=⟨_,rfl⟩
 have hx:xs.length<=61:=by rw[cg];simp;omega
 rw[<-cg]
 walk_at "dz"
 rw[Ls _ (by omega),w8 (show xs.Perm (ls0++[w]) by rw[cg];exact kn.append_right _)]
 walk_at "dz"
theorem Ky{n:Int}{ls ls':List P2}{T:List P3}(K:Cut n ls T)(p:ls'.Perm ls):Cut n ls' T:=
 ⟨K.inv.perm p,fun x y h=>by have:=K.cnt x y h;rw[this];unfold ee;simp only[p.mem_iff]⟩
def cD(n:Int)(v:List P2):D:=.tup [.int n,.tup (v.map T2)]
def Gd(n:Int)(v:List P2):Prop:=(∃T,Cut n v T)/\so2 v=v/\(v.length:Int)+3=n/\n<=8
theorem zN{a b:List P2}(h:a.map T2=b.map T2):a=b:=K0 (fun _ _=>Al) h
theorem Hx{n:Int}{a b:List P2}(h:cD n a=cD n b):a=b:=by simp only[cD,D.tup.injEq,List.cons.injEq,HE,true_and]at h;exact zN h
theorem Jw(l:List P2):so2 (so2 l)=so2 l:=w8 (l8 l)
theorem Th{n:Int}{v:List P2}(g:Gd n v){x:P2}(hx:x∈v):∃r:List P2×P2,C6 [cD n v,T2 x]=.ok (.tup [cD n r.1,T2 r.2])/\K6 [cD n v,T2 x]=.ok (cD n r.1)/\Gd n r.1/\r.2∈r.1/\C6 [cD n r.1,T2 r.2]=.ok (.tup [cD n v,T2 x]):=by
 obtain⟨⟨T,K⟩,hs,hl,h8⟩:=g;obtain⟨w,ls0,T',pl,K',d1,d2,_⟩:=K.turn hx;have l0:v.length=ls0.length+1:=by have:=pl.length_eq;rwa [pp]at this
 refine⟨(so2 (ls0++[w]),w),Kz K (.refl _) (by lia) hx pl d1,zb K (.refl _) (by lia) hx pl d1,⟨⟨_,Ky K' (l8 _)⟩,Jw _,?_,h8⟩,(l8 _).mem_iff.mpr (by simp),?_⟩
 . rw[(l8 _).length_eq,χ,FC];lia
 . have e:=Kz (l:=w) (w:=x) K' (l8 (ls0++[w])) (by simp;lia) (by simp) (ls0:=ls0) (Io w ls0) d2;rw[w8 (show(ls0++[x]).Perm v from(Io x ls0).trans pl.symm),hs]at e;exact e
open Classical in
def tu(n:Int)(v:List P2)(x:P2):List P2×P2:=if h:∃r:List P2×P2,C6 [cD n v,T2 x]=.ok (.tup [cD n r.1,T2 r.2]) then choose h else([],(0,0))
theorem Dg{n:Int}{v:List P2}{x:P2}{r:List P2×P2}(h:C6 [cD n v,T2 x]=.ok (.tup [cD n r.1,T2 r.2])):tu n v x=r:=by
 have ex:∃r:List P2×P2,C6 [cD n v,T2 x]=.ok (.tup [cD n r.1,T2 r.2]):=⟨r,h⟩;have e:=Classical.choose_spec ex;have:tu n v x=Classical.choose ex:=by unfold tu;rw[dif_pos ex]
 rw[this];have e:=h.symm.trans e;simp only[R.ok.injEq,D.tup.injEq,List.cons.injEq,HE]at e;exact FA (Hx e.1).symm (Al e.2).symm
theorem As{n:Int}{v:List P2}(g:Gd n v){x:P2}(hx:x∈v):C6 [cD n v,T2 x]=.ok (.tup [cD n (tu n v x).1,T2 (tu n v x).2])/\K6 [cD n v,T2 x]=.ok (cD n (tu n v x).1):=by obtain⟨r,h1,h2,h3,h4,h5⟩:=Th g hx;rw[Dg h1];exact⟨h1,h2⟩
theorem C7{n:Int}(v:List P2)(x:P2)(g:Gd n v)(hx:x∈v):Gd n (tu n v x).1/\(tu n v x).2∈(tu n v x).1/\tu n (tu n v x).1 (tu n v x).2=(v,x):=by obtain⟨r,h1,h2,h3,h4,h5⟩:=Th g hx;rw[Dg h1];exact⟨h3,h4,Dg h5⟩
def KY(p:P2):NK:=.t [.i p.1,.i p.2]
theorem qx{p q:P2}(h:KY p=KY q):p=q:=by simp only[KY,NK.t.injEq,List.cons.injEq,NK.i.injEq,HE]at h;exact FA h.1 h.2
theorem Ql:∀v:List P2,F8 (v.map T2)=some (v.map KY)
 | []=>by simp only[DH,F8]
 |p::v=>by simp only[gq,F8,Ql v,T2,nkD,CZ,KY]
def kC(n:Int)(v:List P2):NK:=.t [.i n,.t (v.map KY)]
theorem Df(n:Int)(v:List P2):nkD (.tup [.int n,.tup (v.map T2)])=some (kC n v):=by simp only[nkD,F8,Ql,CZ,kC]
theorem Qk{n:Int}{a b:List P2}(h:kC n a=kC n b):a=b:=by simp only[kC,NK.t.injEq,List.cons.injEq,HE,true_and]at h;exact K0 (fun _ _=>qx) h
theorem Tf:∀v:List P2,z8 (v.map KY)<=1
 | []=>by simp[z8]
 |p::v=>by
  have:=Tf v;simp only[gq,z8,KY,NK.dep]at this⊢
  lia
theorem Dw(n:Int)(v:List P2):(kC n v).dep<=8:=by have:=Tf v;simp only[kC,NK.dep,z8];lia
theorem Op:∀v:List P2,J6 (v.map KY)=v.map T2
 | []=>by simp only[DH,J6]
 |p::v=>by simp only[gq,J6,Op v,KY,B8,T2]
theorem y3x(n:Int)(v:List P2):B8 (kC n v)=cD n v:=by simp only[kC,B8,J6,Op,cD]
section
variable {β:Type}
def dnC(n:Int)(κ:β->List P2)(φ:β->D)(F:List β):D:=.dn (F.map fun e=>kC n (κ e)) (F.map φ)
variable {n:Int}{κ:β->List P2}{φ:β->D}{F:List β}
theorem mem_kC{v:List P2}:kC n v∈(F.map fun e=>kC n (κ e))↔v∈F.map κ:=by
 rw[CP,CP];constructor
 . rintro⟨e,he,q⟩;exact⟨e,he,Qk q⟩
 . rintro⟨e,he,q⟩;exact⟨e,he,by rw[q]⟩
open Classical in
theorem Dv(v:List P2):dInN true (cD n v) (dnC n κ φ F)=some (.bl (!decide (v∈F.map κ))):=by unfold dnC cD;simp only[dInN,Df,ζ (Dw n v),EE];congr 3;exact decide_eq_decide.mpr mem_kC
theorem Te{e:β}:∀{F:List β},(F.map κ).Nodup->e∈F->valN (F.map fun e=>kC n (κ e)) (F.map φ) (kC n (κ e))=some (φ e)
 | [],_,h=>by cases h
 |a::F,nd,h=>by
  unfold valN;rw[gq,gq,CW];rw[gq,CO]at nd;by_cases q:κ a=κ e
  . have:e=a:=by
     rcases gD.mp h with z |z
     . exact z
     . exact absurd (CP.mpr ⟨e,z,q.symm⟩) nd.1
    subst this
    rw[HX (by simp)];rfl
  . rw[GI (by simpa using fun z=>q (Qk z))];exact Te nd.2 ((gD.mp h).resolve_left fun z=>q (by rw[z]))
theorem Du(nd:(F.map κ).Nodup){e:β}(h:e∈F):dIxN (dnC n κ φ F) (cD n (κ e))=some (φ e):=by unfold dnC cD;simp only[dIxN,Df,ζ (Dw n _),Te nd h]
theorem Td{e:β}(h:κ e∉F.map κ)(hl:F.length<100000):dSetN (dnC n κ φ F) (cD n (κ e)) (φ e)=some (dnC n κ φ (F++[e])):=by unfold dnC cD;simp only[dSetN,Df,bI];rw[ζ ⟨hl,Dw n _⟩];unfold D5 m7;rw[ξ fun z=>h (mem_kC.mp z),ξ fun z=>h (mem_kC.mp z),DA,DA];rfl
end
def oD:Option P2->D
 |none=>.non
 |some w=>T2 w
abbrev fdD(n:Int)(F:List En):D:=dnC n (fun e:En=>e.1) (fun e=>.tup [.int e.2.1,oD e.2.2]) F
def D21:List P2:=(List.range 8).flatMap fun (a:Nat)=>(((List.range 8).filter fun b=>decide (a+2<=b)).map fun (b:Nat)=>((a:Int),(b:Int)))
theorem wA{a b:Int}(h0:0<=a)(h1:a+2<=b)(h2:b<=7):(a,b)∈D21:=by unfold D21;rw[List.mem_flatMap];refine⟨a.toNat,FQ.mpr (by lia),?_⟩;rw[CP];exact⟨b.toNat,CT.mpr ⟨FQ.mpr (by lia),decide_eq_true (by lia)⟩,FA (by simp only;lia) (by simp only;lia)⟩
theorem D21_nd:D21.Nodup:=by decide +kernel
theorem Kx{n:Int}{v:List P2}(g:Gd n v):(D21.filter fun p=>decide (p∈v)).Perm v:=by obtain⟨⟨T,K⟩,hs,hl,h8⟩:=g;rw[DL (D21_nd.filter _) K.inv.nd];intro p;rw[CT,mV];refine⟨fun h=>h.2,fun h=>⟨?_,h⟩⟩;have:=K.inv.lin p.1 p.2 h;exact wA this.1 this.2.1 (by lia)
theorem Z3{n:Int}{F:List En}(nd:(ky F).Nodup)(hg:∀e∈F,Gd n e.1):F.length<=20349:=by
 by_cases hF:F=[]
 . subst hF;simp
 obtain⟨e0,h0⟩:=EW _ hF;obtain⟨_,_,nS,h8⟩:=hg e0 h0;have gk:∀v∈ky F,Gd n v:=fun v hv=>by obtain⟨e,he,q⟩:=mem_ky.mp hv;rw[<-q];exact hg e he
 have AD:((ky F).map fun v=>D21.filter fun p=>decide (p∈v)).Nodup:=by
  unfold List.Nodup at nd⊢;rw[GQ];refine nd.imp_of_mem fun {a b} ha hb ag e=>ag ?_
  have p:a.Perm b:=(Kx (gk a ha)).symm.trans (by rw[e];exact Kx (gk b hb));rw[<-(gk a ha).2.1,<-(gk b hb).2.1,w8 p]
 have:=Qt (U:=sl D21 e0.1.length) AD fun s hs=>by obtain⟨v,hv,rfl⟩:=CP.mp hs;have m:=Hz (List.filter_sublist (p:=fun p=>decide (p∈v)) (l:=D21));rw[(Kx (gk v hv)).length_eq]at m;have:=(gk v hv).2.2.1;rw[show v.length=e0.1.length by lia]at m;exact m
 rw[bI,Ja,show D21.length=21 by decide +kernel]at this;have e1:(ky F).length=F.length:=bI _;have:ch 21 e0.1.length<=20349:=by
  have h5:e0.1.length<=5:=by lia
  generalize e0.1.length=m at h5;rcases (by lia:m=0\/m=1\/m=2\/m=3\/m=4\/m=5) with rfl |rfl |rfl |rfl |rfl |rfl<;>decide +kernel
 lia
theorem Oo(s:Sl):Sl.frz false s=s:=by cases s<;>rfl
theorem m9(n:Int)(v:List P2):(cD n v).noL=true:=by simp only[cD,D.noL,i9,Fu,EM]
theorem Cb(n:Int)(v:List P2):dIx (cD n v) (.int 0)=some (.int n):=Eu _ _
theorem O3(n:Int)(v:List P2):dIx (cD n v) (.int 1)=some (.tup (v.map T2)):=Js _ _ _
theorem y3y(n:Int)(v:List P2)(w:P2):dIx (.tup [cD n v,T2 w]) (.int 0)=some (cD n v):=Eu _ _
theorem qw(o:Option P2):(oD o).noL=true:=by cases o with
 |none=>rfl
 |some w=>exact V2 w
theorem qu{n:Int}{B:List (List P2)}{v:List P2}(h:B.length<100000):v5 (.lst (B.map (cD n))) [cD n v]=some (.lst ((B++[v]).map (cD n))):=by simp only[v5,bI];rw[ζ (by omega),DA];rfl
theorem Jv(n:Int)(F:List En):keeps true (fdD n F)=true:=by simp only[keeps,fdD,dnC,D.shal,EE];exact Q2 _ _ fun e _=>by simp only[D.noL,i9,qw,EM]
theorem fb0{n k:Int}{fr B:List (List P2)}{F:List En}{dn:List P2->P2->Prop}{c0:List P2}(M:Md (Gd n) (tu n) c0 k fr B F dn)(A:Sl){v:List P2}{x:P2}(hv:v∈fr)(hx:x∈v)(s5:Sl) :
  ∃(B':List (List P2))(F':List En)(s:Sl),Md (Gd n) (tu n) c0 k fr B' F' (fun v' x'=>dn v' x'\/(v'=v/\x'=x)) /\
   Gn [A,.ow (fdD n F),.ow (.lst (B.map (cD n))),.im (cD n v),.im (T2 x),s5]=.nx [A,.ow (fdD n F'),.ow (.lst (B'.map (cD n))),.im (cD n v),.im (T2 x),s]:=by
 obtain⟨o,ho⟩:=(M.fr v).mp hv
 have g:=M.bf.gd _ ho
 obtain⟨e1,_⟩:=As g hx
 obtain⟨s1,s2⟩:=M.step (fun v x g h=>C7 v x g h) hv hx
 have fl:=Z3 M.bf.nd M.bf.gd
 have bl:=M.bl
 generalize hr:tu n v x=r at *
 unfold Gn
 walk_at "dz"
 rw[e1]
 have AE:keeps false (D.tup [cD n r.1,T2 r.2])=true:=by simp only[keeps,CM,DR,D.noL,i9,m9,V2,EM]
 simp only[v3,AE]
 walk_at "dz"
 rw[Dv]
 walk_at "dz"
 by_cases q:r.1∈ky F
 . rw[show(decide (r.1∈List.map (fun e:En=>e.1) F))=true from decide_eq_true q];walk_at "dz";exact⟨B,F,_,s1 q,rfl⟩
 . rw[show(decide (r.1∈List.map (fun e:En=>e.1) F))=false from decide_eq_false q];walk_at "dz";have ix:dIxN (fdD n F) (cD n v)=some (.tup [.int k,oD o]):=Du (κ:=fun e:En=>e.1) (φ:=fun e:En=>.tup [.int e.2.1,oD e.2.2]) M.bf.nd ho;rw[ix];walk_at "dz";simp only[show keeps false (cD n r.1)=true from m9 n r.1];walk_at "dz";have nw:dSetN (fdD n F) (cD n r.1) (.tup [.int (k+1),T2 r.2])=some (fdD n (F++[(r.1,k+1,some r.2)])):=Td (κ:=fun e:En=>e.1) (φ:=fun e:En=>.tup [.int e.2.1,oD e.2.2]) (e:=(r.1,k+1,some r.2)) q (by lia);rw[nw];walk_at "dz";simp only[show(cD n r.1).noL=true from m9 n r.1];walk_at "dz";rw[qu (by lia)];walk_at "dz";exact⟨_,_,_,s2 q,rfl⟩
theorem fb1{n k:Int}{fr B:List (List P2)}{F:List En}{dn:List P2->P2->Prop}{c0:List P2}(M:Md (Gd n) (tu n) c0 k fr B F dn)(A:Sl){v:List P2}(hv:v∈fr)(s4 s5:Sl) :
  ∃(B':List (List P2))(F':List En)(dq cW:Sl),Md (Gd n) (tu n) c0 k fr B' F' (fun v' x'=>dn v' x'\/(v'=v/\x'∈v)) /\
   Gm [A,.ow (fdD n F),.ow (.lst (B.map (cD n))),.im (cD n v),s4,s5]=.nx [A,.ow (fdD n F'),.ow (.lst (B'.map (cD n))),.im (cD n v),dq,cW]:=by
 unfold Gm
 walk_at "dz"
 rw[O3]
 walk_at "dz"
 simp only[Oo]
 obtain⟨au,e,d,B',F',dq,cW,hd,M',hJ⟩:=F7 (tg:=.n 4) (g:=Gn) (en:=T2)
  (fun r ρ=>∃(d:List P2)(B':List (List P2))(F':List En)(dq cW:Sl),d++r=v/\Md (Gd n) (tu n) c0 k fr B' F' (fun v' x'=>dn v' x'\/(v'=v/\x'∈d))/\ρ=[A,.ow (fdD n F'),.ow (.lst (B'.map (cD n))),.im (cD n v),dq,cW])
  v [A,.ow (fdD n F),.ow (.lst (B.map (cD n))),.im (cD n v),s4,s5] ⟨[],B,F,_,_,rfl,M.imp fun v' x' h=>h.elim id fun z=>(by cases z.2),rfl⟩ (by
   rintro x r ρ ⟨d,B',F',dq,cW,hd,M',rfl⟩;obtain⟨B2,F2,s,M2,e⟩:=fb0 M' A hv (x:=x) (by rw[<-hd];simp) cW;refine⟨_,_,rfl,Or.inl e,d++[x],B2,F2,.im (T2 x),_,by rw[<-hd];simp,M2.imp fun v' x' h=>?_,rfl⟩;rcases h with h |⟨h1,h2⟩
   . exact .inl (.inl h)
   . rcases CK.mp h2 with h2 |h2
     . exact .inl (.inr ⟨h1,h2⟩)
     . exact .inr ⟨h1,gV.mp h2⟩)
 rw[ED]at hd
 rw[hd]at M'
 rw[e,hJ]
 exact⟨B',F',dq,cW,M',rfl⟩
theorem y3z{n k:Int}{fr:List (List P2)}{F:List En}{c0:List P2}(L:Lv (Gd n) (tu n) c0 k fr F)(ag:fr≠[]) :
  ∃(B:List (List P2))(F':List En),Lv (Gd n) (tu n) c0 (k+1) B F'/\By [.lst (fr.map (cD n)),fdD n F]=.ok (fdD n F',.lst (B.map (cD n))):=by
 have go:∃(B:List (List P2))(F':List En)(s3 s4 s5:Sl),Lv (Gd n) (tu n) c0 (k+1) B F'/\Gh [.im (.lst (fr.map (cD n))),.ow (fdD n F),.em,.em,.em,.em]=.nx [.im (.lst (fr.map (cD n))),.ow (fdD n F'),.ow (.lst (B.map (cD n))),s3,s4,s5]:=by
  unfold Gh;walk_at "dz";obtain⟨au,e,d,B',F',s3,s4,s5,hd,M',hJ⟩:=F7 (tg:=.n 3) (g:=Gm) (en:=cD n)
   (fun r ρ=>∃(d:List (List P2))(B':List (List P2))(F':List En)(s3 s4 s5:Sl),d++r=fr/\Md (Gd n) (tu n) c0 k fr B' F' (fun v' x'=>v'∈d/\x'∈v')/\ρ=[.im (.lst (fr.map (cD n))),.ow (fdD n F'),.ow (.lst (B'.map (cD n))),s3,s4,s5])
   fr [.im (.lst (fr.map (cD n))),.ow (fdD n F),.ow (.lst []),.em,.em,.em] ⟨[],[],F,_,_,_,rfl,L.md.imp fun v' x' h=>(by cases h.1),rfl⟩ (by
    rintro v r ρ ⟨d,B',F',s3,s4,s5,hd,M',rfl⟩;obtain⟨B2,F2,t4,t5,M2,e⟩:=fb1 M' (.im (.lst (fr.map (cD n)))) (v:=v) (by rw[<-hd];simp) s4 s5;refine⟨_,_,rfl,Or.inl e,d++[v],B2,F2,.im (cD n v),_,_,by rw[<-hd];simp,M2.imp fun v' x' h=>?_,rfl⟩;rcases CK.mp h.1 with h1 |h1
    . exact .inl ⟨h1,h.2⟩
    . have h1:=gV.mp h1;exact .inr ⟨h1,by rw[<-h1];exact h.2⟩)
  rw[ED]at hd;subst hd;rw[e,hJ];exact⟨B',F',s3,s4,s5,M'.fin ag fun v hv x hx=>⟨hv,hx⟩,rfl⟩
 obtain⟨B,F',s3,s4,s5,L',e⟩:=go
 refine⟨B,F',L',?_⟩
 unfold By Ce
 show(match Gh [.im (.lst (fr.map (cD n))),.ow (fdD n F),.em,.em,.em,.em] with
  | .nx ρ=>match (ρ[1]?:Option Sl),(ρ[2]?:Option Sl) with
   |some (.ow d'),some (.ow r)=>R.ok (d',r)
   |_,_=>.st
  |_=>.st)=_
 rw[e]
 rfl
theorem yl{n:Int}{c0:List P2}(A:Sl):∀(m:Nat)(k:Int)(fr:List (List P2))(F:List En),Lv (Gd n) (tu n) c0 k fr F->(30000 - k).toNat<=m->∀bN,m<bN ->
  ∃(k':Int)(F':List En),Lv (Gd n) (tu n) c0 k' [] F'/\w4 Gb Ga bN [A,.ow (fdD n F),.ow (.lst (fr.map (cD n)))]=.nx [A,.ow (fdD n F'),.ow (.lst [])]:=by
 intro m
 induction m with
 |zero=>
  intro k fr F L hk bN hf
  have:=L.len
  have:=Z3 L.bf.nd L.bf.gd
  lia
 |succ m ih=>
  intro k fr F L hk bN hf
  have l1:=L.len
  have l2:=Z3 L.bf.nd L.bf.gd
  obtain⟨f,rfl⟩:∃f,bN=f+1:=⟨bN - 1,by lia⟩
  rw[V8]
  have t:Gb (see [A,.ow (fdD n F),.ow (.lst (fr.map (cD n)))])=.ok (decide ((fr.length:Int) > 0)):=by unfold Gb;walk_at "dz";rw[bI]
  rw[t,v3]
  by_cases q:fr=[]
  . subst q;refine⟨k,F,L,?_⟩;rw[ξ (by simp)];rfl
  . have:0<fr.length:=List.length_pos_iff.mpr q;rw[ζ (decide_eq_true (by lia))];obtain⟨B,F',L',e⟩:=y3z L q;have st:Ga [A,.ow (fdD n F),.ow (.lst (fr.map (cD n)))]=.nx [A,.ow (fdD n F'),.ow (.lst (B.map (cD n)))]:=by unfold Ga X9;walk_at "dz";simp only[Oo];rw[e];walk_at "dz"
    rw[st,Et];exact ih (k+1) B F' L' (by lia) f (by lia)
theorem Tb{n:Int}{c0:List P2}(g:Gd n c0):∃(k:Int)(F:List En),Lv (Gd n) (tu n) c0 k [] F/\Q5 [cD n c0]=.ok (fdD n F):=by
 obtain⟨k',F',L,e⟩:=yl (.im (cD n c0)) 30000 0 [c0] [(c0,0,none)] (Lv.start g) (by lia) 100000 (by lia);refine⟨k',F',L,?_⟩;unfold Q5 Xu;have d1:eDisp1 (a7 0) (t9 (a8 (eC (.int 0)) (a8 (eC .non) b7))) [some (cD n c0),none,none]=.ok (fdD n [(c0,0,none)]):=by unfold eDisp1;walk_at "dz";rw[cD];simp only[Df,ζ (Dw _ _),R.of_some];rfl
 walk_at "dz";rw[d1];simp only[v3,Jv];walk_at "dz";rw[m9];walk_at "dz";unfold F5;rw[show D.lst [cD n c0]=D.lst ([c0].map (cD n)) from rfl,e];walk_at "dz"
theorem Vg{β:Type}{n:Int}{κ:β->List P2}{φ:β->D}(F:List β):((F.map fun e=>kC n (κ e)).zip (F.map φ)).map (fun p=>D.tup [B8 p.1,p.2])=F.map fun e=>.tup [cD n (κ e),φ e]:=by
 induction F with
 |nil=>rfl
 |cons a F ih=>simp only[gq,CW,ih,y3x]
def TE(n:Int)(e:En):D:=.tup [cD n e.1,.int e.2.1]
theorem O8(n:Int)(v:List P2):(cD n v).oi=true:=by simp only[cD,D.oi,ois,J7 v T2 T8,EM]
theorem Hw(n:Int)(v:List P2):(cD n v).dep<=3:=by have:=V6 v T2 1 U9;simp only[cD,D.dep,h7];lia
theorem Dd(n:Int)(v:List P2):(cD n v).pl=true:=by simp only[cD,D.pl,pls,Am v T2 G8,EM]
theorem y1k(n:Int)(e:En):(TE n e).oi=true:=by simp only[TE,D.oi,ois,O8,EM]
theorem qt(n:Int)(e:En):(TE n e).dep<=4:=by have:=Hw n e.1;simp only[TE,D.dep,h7];lia
theorem Ta:∀a b:List P2,(j5 (a.map T2) (b.map T2)).isSome=true
 | [],[]=>by simp[j5]
 | [],_::_=>by simp[j5]
 |_::_,[]=>by simp[j5]
 |a::as,b::bs=>by
  simp only[gq,j5];split
  . exact Ta as bs
  . exact Ro a b
theorem qr(n:Int)(a b:List P2):(d5 (cD n a) (cD n b)).isSome=true:=by
 simp only[cD,d5,j5];split
 . split
   . rfl
   . exact Ta a b
 . rfl
theorem qq(n:Int)(a b:En):(d5 (TE n a) (TE n b)).isSome=true:=by
 simp only[TE,d5,j5];split
 . split<;>rfl
 . exact qr n a.1 b.1
def sF(n:Int)(F:List En):List En:=sortB (fun a b=>ltT (TE n a) (TE n b)) F
theorem wz(n:Int)(F:List En):(sF n F).Perm F:=X3 _ _
theorem qp{n:Int}{c0:List P2}(g:Gd n c0):∃(k:Int)(F:List En),Lv (Gd n) (tu n) c0 k [] F/\Bo [cD n c0]=.ok (.lst ((sF n F).map (TE n))):=by obtain⟨k,F,L,e⟩:=Tb g;have fl:=Z3 L.bf.nd L.bf.gd;refine⟨k,F,L,?_⟩;unfold Bo Yw;walk_at "dz";rw[Cb];walk_at "dz";rw[decide_eq_false (show ¬(8:Int)<n by have:=g.2.2.2;lia)];walk_at "dz";simp only[R4];walk_at "dz";rw[e];walk_at "dz";simp only[fdD,dnC,bI,EE];walk_at "dz";rw[Vg,bI,ζ (by lia),X0 (en:=fun e:En=>D.tup [cD n e.1,.tup [.int e.2.1,oD e.2.2]]) (bs:=fun e:En=>[cD n e.1,.tup [.int e.2.1,oD e.2.2]]) (g:=TE n) F (fun x _=>rfl) (fun q _=>by unfold Zw;walk_at "dz";rfl)];walk_at "dz";rw[Bb F (TE n) 4 (by decide) (y1k n) (qt n) (qq n) (by rw[V0 F (TE n) K8 fun _=>rfl,Bool.or_true])];walk_at "dz";rw[W9 (f:=TE n)];rfl
def Wy(n:Int)(c0:List P2):List P2->List P2->Prop
 |v,[]=>v=c0
 |v,x::r=>x∈v/\Wy n c0 (tu n v x).1 r
theorem y1l(n:Int)(a b:List P2):dNe (cD n a) (cD n b)=some (.bl (!decide (a=b))):=by
 unfold dNe;rw[ζ ⟨Dd n a,Dd n b,by have:=Hw n a;lia⟩];congr 3;by_cases h:a=b
 . rw[h,V7 (O8 n b),decide_eq_true rfl]
 . rw[decide_eq_false h];cases z:eqD (cD n a) (cD n b) with
   |false=>rfl
   |true=>exact absurd (Hx (M8 (O8 n a) z (O8 n b))) h
theorem wy(ps:List P2)(w:P2):dIx (.lst ((ps++[w]).map T2)) (.int (-1))=some (T2 w):=by
 simp only[dIx,dOr,x4,atI];have:ixN ((ps++[w]).map T2).length (-1)=some ps.length:=by unfold ixN;rw[bI,χ,FC,ξ (by lia),ζ (by lia)];congr 1;lia
 rw[this,Option.bind_some,DA,DP (by rw[bI];lia),bI,Nat.sub_self];rfl
theorem T4{d:D}(h:d.noL=true):keeps false d=true:=by simp only[keeps,h,DR,CM]
theorem y40{n:Int}{c0:List P2}{F:List En}(nd:(ky F).Nodup){e:En}(he:e∈F)(g:Gd n e.1){w:P2}(hw:e.2.2=some w)(hm:w∈e.1)(A0:D)(ps:List P2)(hl:ps.length<1000) :
  Bs [.im A0,.im (cD n c0),.ow (fdD n F),.ow (.lst (ps.map T2)),.im (cD n e.1)]=.nx [.im A0,.im (cD n c0),.ow (fdD n F),.ow (.lst ((ps++[w]).map T2)),.im (cD n (tu n e.1 w).1)]:=by
 have ix:dIxN (fdD n F) (cD n e.1)=some (.tup [.int e.2.1,oD e.2.2]):=Du nd he
 rw[hw]at ix
 have ts:=(As g hm).1
 have la:=wy ps w
 have ap:v5 (.lst (ps.map T2)) [T2 w]=some (.lst ((ps++[w]).map T2)):=by obtain⟨a,b⟩:=w;exact Rn (by lia)
 have kf:=Jv n F
 have k1:=m9 n (tu n e.1 w).1
 have s0:=y3y n (tu n e.1 w).1 (tu n e.1 w).2
 have kl:=Fu (ps++[w])
 generalize cD n (tu n e.1 w).1=Y at *
 generalize cD n e.1=X at *
 generalize cD n c0=Z at *
 generalize fdD n F=W at *
 generalize (ps++[w]).map T2=V at *
 generalize ps.map T2=U at *
 show Bs _=_
 unfold Bs
 walk_at "dz"
 rw[ix]
 walk_at "dz"
 rw[show oD (some w)=T2 w from rfl]
 walk_at "dz"
 rw[ap]
 walk_at "dz"
 rw[la]
 walk_at "dz"
 rw[ts]
 walk_at "dz"
 rw[T4 k1]
 walk_at "dz"
theorem jw{n:Int}(c0 v:List P2)(A0 W U:D):Fz (see [.im A0,.im (cD n c0),.ow W,.ow U,.im (cD n v)])=.ok (!decide (v=c0)):=by have e:=y1l n v c0;generalize cD n v=X at *;generalize cD n c0=Z at *;unfold Fz;walk_at "dz";rw[e];walk_at "dz"
theorem jv{n k:Int}{c0:List P2}{F:List En}(L:Lv (Gd n) (tu n) c0 k [] F)(A0:D):∀(d:Nat)(e:En),e∈F->e.2.1=d->∀(ps:List P2)(bN:Nat),d<bN->ps.length+d<1000->∃qs:List P2,qs.length=d/\Wy n c0 e.1 qs /\
  w4 Fz Bs bN [.im A0,.im (cD n c0),.ow (fdD n F),.ow (.lst (ps.map T2)),.im (cD n e.1)]=.nx [.im A0,.im (cD n c0),.ow (fdD n F),.ow (.lst ((ps++qs).map T2)),.im (cD n c0)]
 |d,e,he,hd,ps,0,hf,_=>by lia
 | 0,e,he,hd,ps,bN+1,hf,_=>by have z:e.1=c0:=(L.bf.z e he).mp (by lia);refine⟨[],rfl,z,?_⟩;unfold w4;rw[jw,decide_eq_true z,z,ED];rfl
 |d+1,e,he,hd,ps,bN+1,hf,hl=>by
  have z:e.1≠c0:=fun q=>by have:=(L.bf.z e he).mpr q;lia
  obtain⟨w,hw,hm,e',dC,h1,h2⟩:=L.bf.bk e he (by lia);obtain⟨qs,q1,q2,q3⟩:=jv L A0 d e' dC (by lia) (ps++[w]) bN (by lia) (by rw[χ,FC];lia);refine⟨w::qs,by rw[pp,q1],⟨hm,by rw[<-h1];exact q2⟩,?_⟩;unfold w4;rw[jw,decide_eq_false z,v3,ζ (show(!false)=true from rfl),y40 L.bf.nd he (L.bf.gd e he) hw hm A0 ps (by lia),<-h1];show w4 _ _ bN _=_;rw[q3,ES];rfl
theorem wx{n k:Int}{c0:List P2}{F:List En}(L:Lv (Gd n) (tu n) c0 k [] F)(es:Q5 [cD n c0]=.ok (fdD n F)){e:En}(he:e∈F)(h8:e.2.1<900):∃qs:List P2,(qs.length:Int)=e.2.1/\Wy n c0 e.1 qs/\Bm [cD n e.1,cD n c0]=.ok (.lst (qs.map T2)):=by have h0:=(L.bf.le e he).1;obtain⟨qs,q1,q2,q3⟩:=jv L (cD n e.1) e.2.1.toNat e he (by lia) [] 1000 (by lia) (by simp only[FV];lia);refine⟨qs,by lia,q2,?_⟩;rw[HI,DH]at q3;have kf:=Jv n F;have k1:=m9 n e.1;have k2:=Fu qs;generalize cD n e.1=X at *;generalize cD n c0=Z at *;generalize fdD n F=W at *;generalize qs.map T2=V at *;unfold Bm Xs;walk_at "dz";rw[es];simp only[v3];rw[kf];walk_at "dz";rw[T4 k1];walk_at "dz";unfold F5;rw[q3];walk_at "dz"
abbrev faD(n:Int)(S:List En):D:=dnC n (fun e:En=>e.1) (fun e=>.int e.2.1) S
theorem y41(n:Int)(e:En):dIx (TE n e) (.int 0)=some (cD n e.1):=Eu _ _
theorem y42(n:Int)(e:En):dIx (TE n e) (.int 1)=some (.int e.2.1):=Js _ _ _
theorem Sy(n:Int)(S:List En):keeps true (faD n S)=true:=by simp only[keeps,faD,dnC,D.shal,EE];exact Q2 _ _ fun e _=>Wm _
theorem y1m{n:Int}{S:List En}{e:En}(hn:e.1∉S.map fun e:En=>e.1)(hS:S.length<100000)(A:D)(nn:D) :
  Gi [.im A,.im nn,.ow (faD n S),.im (TE n e)]=.nx [.im A,.im nn,.ow (faD n (S++[e])),.im (TE n e)]:=by
 have nw:dSetN (faD n S) (cD n e.1) (.int e.2.1)=some (faD n (S++[e])):=Td (κ:=fun e:En=>e.1) (φ:=fun e:En=>.int e.2.1) (e:=e) hn hS
 have i0:=y41 n e
 have i1:=y42 n e
 have it:k7 "tuple" (TE n e)=some (.bl true):=Jr _
 have ic:k7 "tuple" (cD n e.1)=some (.bl true):=Jr _
 have il:j8 [TE n e]=some (.int 2):=rfl
 have kt:keeps false (cD n e.1)=true:=m9 n e.1
 have pe:=Jy e.2.1
 generalize TE n e=E at *
 generalize cD n e.1=X at *
 generalize faD n (S++[e])=W' at *
 generalize faD n S=W at *
 unfold Gi
 walk_at "dz"
 rw[it,il,i0,i1]
 walk_at "dz"
 rw[ic,pe]
 walk_at "dz"
 rw[i1]
 walk_at "dz"
 rw[i0]
 walk_at "dz"
 rw[kt]
 walk_at "dz"
 rw[nw]
 walk_at "dz"
theorem y1n{n:Int}{S:List En}(nd:(S.map fun e:En=>e.1).Nodup)(hS:S.length<=20349)(nn:Int):Bx [.lst (S.map (TE n)),.int nn]=.ok (faD n S):=by
 obtain⟨au,e,pre,s3,h1,h2⟩:=F7 (tg:=.n 3) (g:=Gi) (en:=TE n)
  (fun r ρ=>∃(pre:List En)(s3:Sl),S=pre++r/\ρ=[.im (.lst (S.map (TE n))),.im (.int nn),.ow (faD n pre),s3])
  S [.im (.lst (S.map (TE n))),.im (.int nn),.ow (.dn [] []),.em] ⟨[],.em,rfl,rfl⟩ (by
   rintro x r ρ ⟨pre,s3,h1,rfl⟩;have hx:x.1∉pre.map fun e:En=>e.1:=by rw[h1,DA,gq,ER]at nd;exact fun q=>nd.2.2 _ q _ (by simp) rfl
   have hl:pre.length<100000:=by have:=EH List.length h1;rw[χ,pp]at this;lia
   exact⟨_,_,rfl,Or.inl (y1m hx hl _ _),pre++[x],_,by rw[h1];simp,rfl⟩)
 rw[ED]at h1;have kf:=Sy n S;rw[<-h1]at h2;unfold Bx Zp;generalize S.map (TE n)=V at *;generalize faD n S=W at *;walk_at "dz";simp only[Dm];walk_at "dz";rw[show keeps true (D.dn [] [])=true from rfl];walk_at "dz";rw[e,h2];walk_at "dz"
theorem On(n:Int)(a b:List P2):dEq (cD n a) (cD n b)=some (.bl (decide (a=b))):=by
 unfold dEq;rw[ζ ⟨Dd n a,Dd n b,by have:=Hw n a;lia⟩];congr 2;by_cases h:a=b
 . rw[h,V7 (O8 n b),decide_eq_true rfl]
 . rw[decide_eq_false h];cases z:eqD (cD n a) (cD n b) with
   |false=>rfl
   |true=>exact absurd (Hx (M8 (O8 n a) z (O8 n b))) h
theorem y1o(i j:Bool):dNe (.bl i) (.bl j)=some (.bl (!(i==j))):=by unfold dNe;rw[ζ (by simp[D.pl,D.dep])];simp only[eqD]
section
variable {n k:Int}{c0:List P2}{F S:List En}
theorem y1p(L:Lv (Gd n) (tu n) c0 k [] F)(hS:∀e,e∈S↔e∈F)(nd:(S.map fun e:En=>e.1).Nodup){e:En}(he:e∈F){x:P2}(hx:x∈e.1)(Z:D)(s5:Sl) :
  Gp [.im (faD n S),.im Z,.im (cD n e.1),.im (.int e.2.1),.im (T2 x),s5]=.nx [.im (faD n S),.im Z,.im (cD n e.1),.im (.int e.2.1),.im (T2 x),.im (cD n (tu n e.1 x).1)]:=by
 obtain⟨e',h1,h2,h3,h4⟩:=L.done C7 he hx
 have lt:=(As (L.bf.gd e he) hx).2
 have i1:dInN true (cD n (tu n e.1 x).1) (faD n S)=some (.bl false):=by rw[Dv,decide_eq_true (CP.mpr ⟨e',(hS e').mpr h1,h2⟩)];rfl
 have i2:dIxN (faD n S) (cD n (tu n e.1 x).1)=some (.int e'.2.1):=by rw[<-h2];exact Du nd ((hS e').mpr h1)
 have kt:keeps false (cD n (tu n e.1 x).1)=true:=m9 n _
 generalize cD n (tu n e.1 x).1=Y at *
 generalize cD n e.1=X at *
 generalize faD n S=W at *
 generalize T2 x=q at *
 generalize e.2.1=a at *
 generalize e'.2.1=b at *
 unfold Gp
 walk_at "dz"
 rw[lt]
 walk_at "dz"
 rw[kt]
 walk_at "dz"
 rw[i1]
 walk_at "dz"
 rw[i2]
 walk_at "dz"
 rw[decide_eq_true (show -1<=b - a by lia)]
 walk_at "dz"
 rw[decide_eq_true (show b - a<=1 by lia)]
 walk_at "dz"
theorem y1q(L:Lv (Gd n) (tu n) c0 k [] F)(hS:∀e,e∈S↔e∈F)(nd:(S.map fun e:En=>e.1).Nodup){e:En}(he:e∈F)(s4 s5:Sl) :
  ∃dq cW,Go [.im (faD n S),.im (cD n c0),.im (cD n e.1),.im (.int e.2.1),s4,s5]=.nx [.im (faD n S),.im (cD n c0),.im (cD n e.1),.im (.int e.2.1),dq,cW]:=by
 obtain⟨au,h1,_,dq,cW,h2⟩:=F7 (tg:=.n 4) (g:=Gp) (en:=T2)
  (fun r ρ=>(∀x∈r,x∈e.1)/\∃s4 s5:Sl,ρ=[.im (faD n S),.im (cD n c0),.im (cD n e.1),.im (.int e.2.1),s4,s5])
  e.1 [.im (faD n S),.im (cD n c0),.im (cD n e.1),.im (.int e.2.1),s4,s5] ⟨fun x hx=>hx,_,_,rfl⟩ (by rintro x r ρ ⟨hm,s4,s5,rfl⟩;exact⟨_,_,rfl,Or.inl (y1p L hS nd he (hm x io) _ s5),fun y hy=>hm y (dg _ hy),_,_,rfl⟩)
 have z:=L.bf.z e he
 have h0:=(L.bf.le e he).1
 have eq:=On n e.1 c0
 have i1:=O3 n e.1
 have bb:(decide (e.2.1=0)==decide (e.1=c0))=true:=by
  by_cases q:e.1=c0
  . rw[decide_eq_true q,decide_eq_true (z.mpr q)];rfl
  . rw[decide_eq_false q,decide_eq_false (fun w=>q (z.mp w))];rfl
 refine⟨dq,cW,?_⟩
 rw[h2]at h1
 generalize cD n e.1=X at *
 generalize cD n c0=Z at *
 generalize faD n S=W at *
 generalize e.1.map T2=V at *
 generalize decide (e.1=c0)=b at *
 unfold Go
 walk_at "dz"
 rw[eq]
 walk_at "dz"
 rw[y1o,bb,decide_eq_false (show ¬e.2.1<0 by lia)]
 walk_at "dz"
 rw[i1]
 walk_at "dz"
 exact h1
theorem y1r(L:Lv (Gd n) (tu n) c0 k [] F)(hS:∀e,e∈S↔e∈F)(nd:(S.map fun e:En=>e.1).Nodup):Ca [faD n S,cD n c0]=.ok (.bl true):=by
 obtain⟨au,h1,_,s2,s3,s4,s5,h2⟩:=F7 (tg:=.t [2,3]) (g:=Go) (en:=fun e:En=>D.tup [cD n e.1,.int e.2.1])
  (fun r ρ=>(∀e∈r,e∈F)/\∃s2 s3 s4 s5:Sl,ρ=[.im (faD n S),.im (cD n c0),s2,s3,s4,s5])
  S [.im (faD n S),.im (cD n c0),.em,.em,.em,.em] ⟨fun e he=>(hS e).mp he,_,_,_,_,rfl⟩ (by rintro e r ρ ⟨hm,s2,s3,s4,s5,rfl⟩;obtain⟨dq,cW,q⟩:=y1q L hS nd (hm e io) s4 s5;exact⟨_,_,rfl,Or.inl q,fun y hy=>hm y (dg _ hy),_,_,_,_,rfl⟩)
 have it:=Vg (n:=n) (κ:=fun e:En=>e.1) (φ:=fun e:En=>D.int e.2.1) S;unfold Ca jo;walk_at "dz";simp only[R4,faD,dnC];walk_at "dz";rw[ζ (by rw[bI,bI]),it,show D.dn (S.map fun e=>kC n e.1) (S.map fun e=>D.int e.2.1)=faD n S from rfl,h1,h2];walk_at "dz"
end
theorem qo(x:P2):Bz [T2 x]=.ok (.bl true):=by obtain⟨a,b⟩:=x;have e1:=Jy a;have e2:=Jy b;unfold Bz jc T2;dsimp only;walk_at "dz";rw[decide_eq_true (show((2:Nat):Int)=2 from rfl)];walk_at "dz";rw[e1];walk_at "dz";rw[e2];walk_at "dz"
theorem y1s{x:P2}{v:List P2}(h:x∈v):dIn true (T2 x) (.tup (v.map T2))=some (.bl false):=by have e:=Ec x v;rw[decide_eq_true h]at e;have h1:=V6 v T2 1 U9;unfold dIn dOr L6 at e⊢;simp only[G8,Am v T2 G8,true_and,ζ (show h7 (v.map T2)<=20 by lia),CM,DR,EE,Option.some.injEq,D.bl.injEq]at e⊢;rw[e];rfl
theorem ww{n:Int}{c0 v:List P2}(g:Gd n v){qs:List P2}(h:Wy n c0 v qs):Bu [.lst (qs.map T2),cD n v,cD n c0]=.ok (.bl true):=by
 obtain⟨au,h1,v',s3,g',w,h2⟩:=F7 (tg:=.n 3) (g:=Nr) (en:=T2)
  (fun r ρ=>∃(v':List P2)(s3:Sl),Gd n v'/\Wy n c0 v' r/\ρ=[.im (.lst (qs.map T2)),.im (cD n v'),.im (cD n c0),s3])
  qs [.im (.lst (qs.map T2)),.im (cD n v),.im (cD n c0),.em] ⟨v,.em,g,h,rfl⟩ (by rintro x r ρ ⟨v',s3,g',w,rfl⟩;refine⟨_,[.im (.lst (qs.map T2)),.im (cD n (tu n v' x).1),.im (cD n c0),.im (T2 x)],rfl,Or.inl ?_,(tu n v' x).1,_,(C7 v' x g' w.1).1,w.2,rfl⟩;have p:=qo x;have ni:=y1s w.1;have i1:=O3 n v';have lt:=(As g' w.1).2;have kt:keeps false (cD n (tu n v' x).1)=true:=m9 n _;generalize cD n (tu n v' x).1=Y at *;generalize cD n v'=X at *;generalize cD n c0=Z at *;generalize T2 x=q at *;generalize v'.map T2=V at *;generalize qs.map T2=U at *;unfold Nr;show c7 _ _ [.im (.lst U),.im X,.im Z,.im q]=_;walk_at "dz";rw[p];walk_at "dz";rw[i1];walk_at "dz";rw[ni];walk_at "dz";rw[lt];walk_at "dz";rw[kt];walk_at "dz")
 have e:v'=c0:=w;subst e;have eq:=On n v' v';rw[decide_eq_true rfl]at eq;rw[h2]at h1;generalize cD n v=X at *;generalize cD n v'=Z at *;generalize qs.map T2=U at *;unfold Bu Zn;walk_at "dz";rw[h1];walk_at "dz";rw[eq];walk_at "dz"
theorem ql(c:Int):∃m:Nat,m<=5/\X4 [.int c]=.ok (.int (m:Int)):=by
 unfold X4 Zc;walk_at "dz";rw[y9 (by lia)];walk_at "dz";have b0:0<=c / 16 % 5:=HK _ (by decide);have b1:c / 16 % 5<5:=GJ _ (by decide);by_cases h1:c % 16=15
 . rw[decide_eq_true h1];exact⟨5,by lia,by walk_at "dz";rfl⟩
 . rw[decide_eq_false h1];exact⟨(c / 16 % 5).toNat,by lia,by walk_at "dz";rw[Dn (by lia)];walk_at "dz";rw[y9 (by lia)];walk_at "dz";rw[show(((c / 16 % 5).toNat:Nat):Int)=c / 16 % 5 by lia]⟩
theorem qh{α:Type}(f:α->D)(d:α)(xs:List α):((zD 0 (xs.map f).length).zip (xs.map f)).map (fun p=>D.tup [p.1,p.2])=(List.range xs.length).map fun (i:Nat)=>D.tup [.int (i:Int),f (xs.getD i d)]:=by
 have e:xs.map f=(List.range xs.length).map fun i=>f (xs.getD i d):=by
  conv=>lhs;rw[Rp xs d]
  rw[DI];rfl
 rw[e,Vu]
theorem yk(m:Nat)(A:Sl)(xs:List Int)(hx:xs.length=m)(i:Nat)(hi:i<1000)(one y:Int)(hy:0<y/\y<100000)(s6:Sl) :
  ∃(ys:List Int)(pM:Sl),ys.length=m/\Gk [.im (.int (m:Int)),A,.im (.int y),.ow (L xs),.im (.int (i:Int)),.im (.int one),s6]=.nx [.im (.int (m:Int)),A,.im (.int y),.ow (L ys),.im (.int (i:Int)),.im (.int one),pM]:=by
 unfold Gk
 walk_at "dz"
 by_cases h0:m=0
 . rw[decide_eq_false (show ¬(m:Int) > 0 by lia)];walk_at "dz";exact⟨xs,s6,hx,rfl⟩
 . rw[decide_eq_true (show(m:Int) > 0 by lia)];walk_at "dz";rw[y9 (by lia)];have j0:0<=(i:Int) % (m:Int):=HK _ (by lia);have j1:(i:Int) % (m:Int)<m:=GJ _ (by lia);walk_at "dz";rw[Oc j0 (by lia)];walk_at "dz";rw[y0w (by lia)];walk_at "dz";rw[y9 (by lia)];walk_at "dz";rw[y9 (by lia)];walk_at "dz";rw[y0q j0 (by lia)];walk_at "dz";exact⟨_,_,by rw[HJ];exact hx,rfl⟩
theorem Vf(m:Nat)(hm:m<=57)(cells:List Int)(hc:cells.length<=63)(y:Int)(hy:0<y/\y<100000):∃sp:List Int,sp.length=m/\X8 [.int (m:Int),L cells,.int y]=.ok (L sp):=by
 unfold X8 Zy;walk_at "dz";rw[show eLR (a8 (a7 0) b7) [some (.int (m:Int)),some (L cells),some (.int y),none,none,none,none]=.ok (L ((List.range m).map fun (i:Nat)=>(i:Int))) by unfold eLR;walk_at "dz";rw[ζ (by lia),Iw]];walk_at "dz";simp only[iEn];walk_at "dz";simp only[L];walk_at "dz";rw[qh D.int 0];obtain⟨au,e,ys,s3,s4,s5,hz,hJ⟩:=Vv (tg:=.t [4,5]) (g:=Gk) cells.length (fun (i:Nat)=>D.tup [.int (i:Int),.int (cells.getD i 0)])
  (fun k ρ=>∃(ys:List Int)(s3 s4 s5:Sl),ys.length=m/\ρ=[.im (.int (m:Int)),.im (L cells),.im (.int y),.ow (L ys),s3,s4,s5])
  [.im (.int (m:Int)),.im (L cells),.im (.int y),.ow (L ((List.range m).map fun (i:Nat)=>(i:Int))),.em,.em,.em] ⟨_,_,_,_,by simp,rfl⟩ (by rintro i hi ρ ⟨ys,s3,s4,s5,hz,rfl⟩;obtain⟨zs,pM,hz,e⟩:=yk m (.im (L cells)) ys hz i (by lia) (cells.getD i 0) y hy s5;exact⟨_,_,rfl,Or.inl e,zs,_,_,_,hz,rfl⟩)
 simp only[L]at e;rw[e,hJ];walk_at "dz";exact⟨ys,hz,rfl⟩
theorem y1t{n:Nat}{ls:List P2}{T:List P3}(K:Cut (n:Int) ls T)(hl:ls.length+3=n)(h8:n<=8):Gd (n:Int) (so2 ls):=
 ⟨⟨T,Ky K (l8 ls)⟩,Jw ls,by rw[(l8 ls).length_eq];lia,by lia⟩
theorem Om(sp:List Int)(hs:sp.length<=5):∃v,Gd ((sp.length+3:Nat):Int) v/\Q6 [L sp]=.ok (cD ((sp.length+3:Nat):Int) v):=by obtain⟨n,ls,T,K,h3,pN,hl,hn,ec⟩:=y1i sp (by lia);subst hn;exact⟨so2 ls,y1t K hl (by lia),ec⟩
theorem yj{n:Int}{v:List P2}(g:Gd n v)(sp:List Int)(hs:sp.length<=5)(hn:n=((sp.length+3:Nat):Int))(c:Int):∃v',Gd n v'/\X7 [cD n v,L sp,.int c]=.ok (cD n v'):=by
 obtain⟨v1,g1,e1⟩:=Om sp hs;rw[<-hn]at g1 e1;have k1:=m9 n v1;by_cases h:0<c % 3
 . refine⟨v1,g1,?_⟩;generalize cD n v=X at *;generalize cD n v1=Y at *;unfold X7 No;walk_at "dz";rw[y9 (by omega)];walk_at "dz";rw[decide_eq_true (show c % 3 > 0 by omega)];walk_at "dz";rw[e1];walk_at "dz"
 . have hb:∀(A1 A2:D)(u:List P2)(x:Int),Gd n u->0<sp.length->∃u',Gd n u'/\Gj [.im (cD n u),.im A1,.im A2,.im (.int x)]=.nx [.im (cD n u'),.im A1,.im A2,.im (.int x)]:=by
    intro A1 A2 u x gu h0
    have hl:(u.length:Int)+3=n:=gu.2.2.1
    have q0:0<=x / 11 % (u.length:Int):=HK _ (by omega)
    have q1:x / 11 % (u.length:Int)<u.length:=GJ _ (by omega)
    obtain⟨y,hy⟩:∃y,y=u[(x / 11 % (u.length:Int)).toNat]'(by omega):=⟨_,rfl⟩
    have hm:y∈u:=by rw[hy];exact List.getElem_mem _
    have lt:=(As gu hm).2
    have i1:=O3 n u
    have kt:keeps false (cD n (tu n u y).1)=true:=m9 n _
    have ln:(u.map T2).length=u.length:=bI _
    have ix:dIx (.tup (u.map T2)) (.int (x / 11 % (u.length:Int)))=some (T2 y):=by
     simp only[dIx,dOr,x4,atI];have:ixN (u.map T2).length (x / 11 % (u.length:Int))=some (x / 11 % (u.length:Int)).toNat:=by unfold ixN;rw[bI,ζ q0,ζ (by omega)]
     rw[this,Option.bind_some,DB,CH (by omega),<-hy];rfl
    refine⟨(tu n u y).1,(C7 u y gu hm).1,?_⟩
    generalize cD n (tu n u y).1=Y at *
    generalize cD n u=X at *
    generalize T2 y=q at *
    generalize u.map T2=U at *
    unfold Gj
    walk_at "dz"
    rw[i1]
    walk_at "dz"
    rw[Dn (by omega)]
    walk_at "dz"
    rw[ln,y9 (by omega)]
    walk_at "dz"
    rw[ix]
    walk_at "dz"
    rw[lt]
    walk_at "dz"
    rw[kt]
    walk_at "dz"
   obtain⟨j,hj⟩:∃j,j=1+c / 3 % 5:=⟨_,rfl⟩
   have hc:∀x∈m5 sp none (some j),x∈sp:=fun x hx=>Ie (FZ hx)
   obtain⟨au,h1,_,v',s3,g',h2⟩:=F7 (tg:=.n 3) (g:=Gj) (en:=D.int)
    (fun r ρ=>(r≠[]->0<sp.length)/\∃(u:List P2)(s3:Sl),Gd n u/\ρ=[.im (cD n u),.im (L sp),.im (.int c),s3])
    (m5 sp none (some j)) [.im (cD n v),.im (L sp),.im (.int c),.em] ⟨fun z=>by
     obtain⟨x,hx⟩:=EW _ z;exact List.length_pos_of_mem (hc x hx),v,.em,g,rfl⟩ (by
     rintro x r ρ ⟨hp,u,s3,gu,rfl⟩;obtain⟨u',AF,e⟩:=hb (L sp) (.int c) u x gu (hp (by simp));exact⟨_,_,rfl,Or.inl e,fun _=>hp (by simp),u',_,AF,rfl⟩)
   rw[h2]at h1
   refine⟨v',g',?_⟩
   have k2:=m9 n v'
   generalize cD n v=X at *
   generalize cD n v'=Y at *
   have lc:(m5 sp none (some j)).length<=100000:=CL (by unfold m5;rw[CU,DD];omega) (show sp.length<=100000 by omega)
   unfold X7 No
   walk_at "dz"
   rw[y9 (by omega)]
   walk_at "dz"
   rw[decide_eq_false (show ¬c % 3 > 0 by omega)]
   walk_at "dz"
   rw[Dn (by omega)]
   walk_at "dz"
   rw[y9 (by omega)]
   walk_at "dz"
   rw[<-hj,y3m]
   simp only[R.of_some,R.bind_ok,zn]
   walk_at "dz"
   rw[h1]
   walk_at "dz"
theorem Z2{n:Int}{v v0:List P2}{T:List P3}{x w:P2}(I:CInv n v T)(pN:v.length<=60)(pl:v.Perm (x::v0))(hw:dues T x=[w.1,w.2]):tu n v x=(so2 (v0++[w]),w):=
 Dg (Kz I.cut (.refl _) pN (pl.mem_iff.mpr io) pl hw)
theorem qf{r:Int}{ls:List P2}{T:List P3}(I:CInv r ls T)(h8:r<=8):Gd r (so2 ls):=
 ⟨⟨T,Ky I.cut (l8 _)⟩,Jw _,by rw[(l8 ls).length_eq];exact I.num,h8⟩
theorem Gd.inv{n:Int}{v:List P2}(g:Gd n v):∃T,CInv n v T:=g.1.imp fun _ K=>K.inv
theorem Gd.len{n:Int}{v:List P2}(g:Gd n v):v.length<=5:=by have:=g.2.2.1;have:=g.2.2.2;lia
theorem Dc{n k:Int}{c0:List P2}{F:List En}(L:Lv (Gd n) (tu n) c0 k [] F):∀(qs v:List P2),Gd n v->Wy n c0 v qs->∃e∈F,e.1=v/\e.2.1<=qs.length
 | [],v,g,h=>by obtain⟨e,he,h1⟩:=mem_ky.mp L.bf.c0;exact⟨e,he,h1.trans h.symm,by have:=(L.bf.z e he).mpr h1;simp;lia⟩
 |x::r,v,g,h=>by obtain⟨g1,g2,g3⟩:=C7 v x g h.1;obtain⟨e,he,h1,h2⟩:=Dc L r _ g1 h.2;rw[<-h1]at g2 g3;obtain⟨e',k1,k2,k3,_⟩:=L.done C7 he g2;rw[g3]at k2;exact⟨e',k1,k2,by rw[pp];push_cast;lia⟩
theorem Ol{n k:Int}{c0:List P2}{F:List En}(L:Lv (Gd n) (tu n) c0 k [] F):∀(d:Nat)(e:En),e∈F->e.2.1=d->∃qs:List P2,qs.length=d/\Wy n c0 e.1 qs
 | 0,e,he,h=>⟨[],rfl,(L.bf.z e he).mp h⟩
 |d+1,e,he,h=>by obtain⟨w,_,h2,e',h3,h4,h5⟩:=L.bf.bk e he (by lia);obtain⟨qs,q1,q2⟩:=Ol L d e' h3 (by lia);exact⟨w::qs,by rw[pp,q1],h2,by rw[<-h4];exact q2⟩
theorem Dt{n:Int}{c0 u:List P2}:∀(qs rs v:List P2),Wy n u v qs->Wy n c0 u rs->Wy n c0 v (qs++rs)
 | [],rs,v,h,h2=>by have h:v=u:=h;rw[h];exact h2
 |x::qs,rs,v,h,h2=>⟨h.1,Dt qs rs _ h.2 h2⟩
theorem Sx{n:Int}{c0:List P2}:∀(qs v:List P2),Gd n v->Wy n c0 v qs->∃rs,rs.length=qs.length/\Wy n v c0 rs
 | [],v,g,h=>⟨[],rfl,(show v=c0 from h).symm⟩
 |x::qs,v,g,h=>by obtain⟨g1,g2,g3⟩:=C7 v x g h.1;obtain⟨rs,hl,hr⟩:=Sx qs _ g1 h.2;exact⟨rs++[(tu n v x).2],by simp[hl],Dt rs _ c0 hr ⟨g2,by rw[g3];rfl⟩⟩
def mis(n:Int)(v:List P2):List Nat:=(List.range 8).filter fun j=>decide (2<=j/\(j:Int)<=n - 2/\(0,(j:Int))∉v)
theorem ju{n:Int}{v:List P2}{T:List P3}(I:CInv n v T){j:Int}(hj:(0,j)∉v)(j2:2<=j):∀(m:Nat)(b:Int),b.toNat<=m->(((0:Int),b)=(0,n - 1)\/((0:Int),b)∈v)->j<b->∃a b',(0,a,b')∈T/\a<j/\j<b'
 | 0,b,hm,h,hb=>by lia
 |m+1,b,hm,h,hb=>by
  obtain⟨c,hc⟩:=L8 I h;obtain⟨t1,t2,t3,t4,t5,t6⟩:=I.tri _ _ _ hc;by_cases q:c<j
  . exact⟨c,b,hc,q,hb⟩
  . have q2:c≠j:=fun e=>by
     rcases t5 with t5 |t5
     . exact hj (e ▸ t5)
     . lia
    refine ju I hj j2 m c (by lia) ?_ (by lia)
    rcases t5 with t5 |t5
    . exact .inr t5
    . lia
theorem wv{n:Int}{v u:List P2}(g:Gd n v)(g':Gd n u)(h:mis n v=[])(h':mis n u=[]):v=u:=by
 have key:∀{v u:List P2},Gd n v->Gd n u->mis n v=[]->mis n u=[]->∀p∈v,p∈u:=by
  intro v u g g' h h' p hp;obtain⟨T,I⟩:=g.inv;have h8:=g.2.2.2;have all:∀{v:List P2},mis n v=[]->∀j:Int,2<=j->j<=n - 2->(0,j)∈v:=fun {v} h j h1 h2=>by
   apply tB;intro z;have:j.toNat∈mis n v:=by
    unfold mis;rw[CT,FQ];have e:((j.toNat:Nat):Int)=j:=by lia
    rw[e];exact⟨by lia,decide_eq_true ⟨by lia,h2,z⟩⟩
   rw[h]at this;cases this
  obtain⟨a,b⟩:=p;obtain⟨l1,l2,l3,l4⟩:=I.lin a b hp;by_cases c:a=0
  . subst c;exact all h' b (by lia) (by lia)
  . exact absurd ⟨by lia,by lia,by lia⟩ (I.nc 0 (a+1) a b (all h (a+1) (by lia) (by lia)) hp)
 obtain⟨T,I⟩:=g.inv;obtain⟨T',I'⟩:=g'.inv;have p:v.Perm u:=(DL I.nd I'.nd).mpr fun x=>⟨key g g' h h' x,key g' g h' h x⟩
 rw[<-g.2.1,<-g'.2.1,w8 p]
theorem to_fan{n:Int}:∀(m:Nat)(v:List P2),Gd n v->(mis n v).length<=m->∃u qs,Gd n u/\mis n u=[]/\Wy n u v qs/\qs.length<=m
 | 0,v,g,h=>⟨v,[],g,EQ.mp (by lia),rfl,η _⟩
 |m+1,v,g,h=>by
  by_cases c:mis n v=[]
  . exact⟨v,[],g,c,rfl,DG _⟩
  obtain⟨j,hj⟩:=EW _ c;have eB:=hj;unfold mis at eB;rw[CT]at eB;obtain⟨j2,j3,j4⟩:=GN eB.2;obtain⟨T,I⟩:=g.inv;obtain⟨a,b,ht,a1,b1⟩:=ju I j4 (by lia) (n - 1).toNat (n - 1) (η _) (.inl rfl) (by lia);obtain⟨t1,t2,t3,t4,t5,t6⟩:=I.tri _ _ _ ht;have bu:(a,b)∈v:=by rcases t6 with t6 |t6;exact t6;lia
  obtain⟨d,hd⟩:=L8 I (.inr bu);obtain⟨s1,s2,s3,s4,s5,s6⟩:=I.tri _ _ _ hd;have hw:=P6 I.cut bu hd ht;have pl:v.Perm ((a,b)::v.erase (a,b)):=GX bu;have et:=Z2 (w:=(0,d)) I (by have:=g.len;lia) pl hw;obtain⟨g1,g2,g3⟩:=C7 v (a,b) g bu;rw[et]at g1;have mem:∀p,p∈so2 (v.erase (a,b)++[(0,d)])↔(p∈v.erase (a,b)\/p=(0,d)):=fun p=>by rw[(l8 _).mem_iff];simp
  have aC:(mis n (so2 (v.erase (a,b)++[(0,d)]))).length<(mis n v).length:=by
   unfold mis;apply Jb
   . intro i hi;obtain⟨i1,i2,i3⟩:=GN hi;refine decide_eq_true ⟨i1,i2,fun z=>i3 ((mem _).mpr (.inl ((List.mem_erase_of_ne ?_).mpr z)))⟩;intro e;have:=EH Prod.fst e;simp only at this;lia
   . have ed:((d.toNat:Nat):Int)=d:=by lia
     have h8:=g.2.2.2;refine⟨d.toNat,FQ.mpr (by lia),?_,?_⟩
     . rw[ed];exact decide_eq_true ⟨by lia,by lia,fun z=>I.nc 0 d a b z bu ⟨by lia,by lia,by lia⟩⟩
     . rw[ed];exact decide_eq_false fun z=>z.2.2 ((mem _).mpr (.inr rfl))
  obtain⟨u,qs,h1,h2,h3,h4⟩:=to_fan m (so2 (v.erase (a,b)++[(0,d)])) g1 (by lia);exact⟨u,(a,b)::qs,h1,h2,⟨bu,by rw[et];exact h3⟩,by rw[pp];lia⟩
theorem Qj(n:Int)(v:List P2):(mis n v).length<=8:=CL (EK _ _) (by rw[HW];exact η _)
theorem y43{n:Int}{v c0:List P2}(g:Gd n v)(g0:Gd n c0):∃qs,Wy n c0 v qs/\qs.length<=16:=by obtain⟨u,qs,h1,h2,h3,h4⟩:=to_fan 8 v g (Qj n v);obtain⟨u',AG,k1,k2,k3,k4⟩:=to_fan 8 c0 g0 (Qj n c0);have e:=wv h1 k1 h2 k2;subst e;obtain⟨rs,hl,hr⟩:=Sx AG c0 g0 k3;exact⟨_,Dt qs rs v h3 hr,by rw[χ];lia⟩
theorem jt{n k:Int}{v c0:List P2}{F:List En}(g:Gd n v)(g0:Gd n c0)(L:Lv (Gd n) (tu n) c0 k [] F):∃e∈F,e.1=v/\e.2.1<=16:=by obtain⟨qs,h1,h2⟩:=y43 g g0;obtain⟨e,he,k1,k2⟩:=Dc L qs v g h1;exact⟨e,he,k1,by lia⟩
theorem Oj{n:Int}{c0:List P2}:∀(qs v:List P2),Gd n v->Wy n c0 v qs->∀p∈qs,0<=p.1/\p.1<n/\0<=p.2/\p.2<n
 | [],v,g,h,p,hp=>by cases hp
 |x::r,v,g,h,p,hp=>by
  rcases gD.mp hp with rfl |hp
  . obtain⟨T,I⟩:=g.inv;have:=I.lin p.1 p.2 h.1;omega
  . exact Oj r _ (C7 v x g h.1).1 h.2 p hp
theorem Oi{n r:Int}{g:Int->Int}(G:Mo n r g)(hn:1<=n):r<=n:=by
 have h:∀k:Nat,g (k:Int)<=(k:Int):=fun k=>by
  induction k with
  |zero=>have:=G.g0;simpa using Int.le_of_eq this
  |succ k ih=>have:=G.st (k:Int);push_cast at *;lia
 have:=h (n - 1).toNat;rw[show(((n - 1).toNat:Nat):Int)=n - 1 by lia,G.gn]at this
 lia
theorem T1{R:List Int}(hr:R.Pairwise (·<·)){v:List P2}(h:so2 v=v):so2 (ptL R v)=ptL R v:=by
 have pw:v.Pairwise le2:=by rw[<-h];exact Qu v
 refine(qE ?_ (.refl _)).symm;unfold ptL ptA;refine List.Pairwise.filter _ ?_;rw[GQ];refine((pw.filter fun p=>decide (p.1∈R)&&decide (p.2∈R))).imp_of_mem fun {a b} ha hb hl=>?_
 rw[CT,ng,mV,mV]at ha hb;have e1:=l7 hr ha.2.1 hb.2.1;have e2:=l7 hr ha.2.2 hb.2.2;unfold le2 at hl⊢;simp only;rcases hl with hl |⟨h1,h2⟩
 . exact .inl (e1.1.mpr hl)
 . refine .inr ⟨e1.2.mpr h1,?_⟩;rcases EC h2 with h2 |h2
   . exact FN (e2.1.mpr h2)
   . exact Int.le_of_eq (e2.2.mpr h2)
theorem Sw{n r:Int}{g:Int->Int}{a b:List P2}(h:∀p,p∈piL r g a↔p∈piL r g b):so2 (piL r g a)=so2 (piL r g b):=
 w8 ((DL (O9 _) (O9 _)).mpr h)
theorem wu{r:Int}{g:Int->Int}{a b:List P2}(p:a.Perm b):so2 (piL r g a)=so2 (piL r g b):=
 Sw (n:=0) fun q=>by rw[mem_piL,mem_piL];simp only[p.mem_iff]
theorem Hf{n:Int}{B v:List P2}{t:P2}{R:List Int}(M:Rm n B t R)(g:Gd n v)(sub:∀p∈B,p∈v):Gd R.length (ptL R v):=by obtain⟨T,I⟩:=g.inv;have h8:=g.2.2.2;have:=Oi M.mo (by have:=I.n3;lia);have:=qf (M.part I sub) (by lia);rwa [T1 M.rise g.2.1]at this
theorem Sv{α:Type}(m m':α->Nat):∀ts:List α,ts.Nodup->(∀t∈ts,m t<=m' t+1)->(∀s∈ts,∀t∈ts,m' s<m s->m' t<m t->s=t)->(ts.map m).sum<=(ts.map m').sum+1/\((∀t∈ts,m t<=m' t)->(ts.map m).sum<=(ts.map m').sum)
 | [],_,_,_=>by simp
 |a::ts,nd,h,one=>by
  have cE:=CO.mp nd;obtain⟨i1,i2⟩:=Sv m m' ts cE.2 (fun t ht=>h t (dg _ ht)) fun s hs t ht=>one s (dg _ hs) t (dg _ ht)
  simp only[gq,FI];have ha:=h a io;refine⟨?_,fun z=>?_⟩
  . by_cases c:m a<=m' a
    . lia
    . have:=i2 fun t ht=>by
       apply tB;intro z
       have:=one a io t (dg _ ht) (by lia) (by lia)
       exact cE.1 (this ▸ ht)
      lia
  . have:=z a io;have:=i2 fun t ht=>z t (dg _ ht)
    lia
open Classical in
theorem low{n:Int}{B u:List P2}(L:Lns n B)(gu:Gd n u)(su:∀p∈B,p∈u)(C:P2->List Int)(ts:List P2)(nd:ts.Nodup)(hC:∀t∈ts,Rm n B t (C t)):∀(qs v:List P2),Gd n v->Wy n u v qs ->
  ∃m:P2->Nat,(∀t∈ts,∃q:List P2,q.length=m t/\Wy (C t).length (ptL (C t) u) (so2 (piL (C t).length (gR (C t)) v)) q)/\(ts.map m).sum<=qs.length
 | [],v,g,h=>by
  have h:v=u:=h;subst h;refine⟨fun _=>0,fun t ht=>⟨[],rfl,?_⟩,?_⟩
  . obtain⟨T,I⟩:=g.inv;show so2 _=_;rw[w8 ((hC t ht).pi_part I su),T1 (hC t ht).rise g.2.1]
  . have:∀l:List P2,(l.map fun _=>0).sum=0:=fun l=>by
     induction l with
     |nil=>rfl
     |cons a l ih=>rw[gq,FI,ih]
    rw[this];exact DG _
 |x::qs,v,g,h=>by
  obtain⟨T,I⟩:=g.inv;obtain⟨w,v0,T',pl,K',d1,d2,_⟩:=I.cut.turn h.1;have et:=Z2 I (by have:=g.len;lia) pl d1;obtain⟨g1,_,_⟩:=C7 v x g h.1;have h2:=h.2;rw[et]at g1 h2;obtain⟨m',k1,k2⟩:=low L gu su C ts nd hC qs _ g1 h2;let W:P2->Nat->Prop:=fun t k=>∃q:List P2,q.length=k/\Wy (C t).length (ptL (C t) u) (so2 (piL (C t).length (gR (C t)) v)) q
  have key:∀t∈ts,W t (m' t)\/(W t (m' t+1)/\V4 (gR (C t)) x w):=fun t ht=>by
   obtain⟨q,q1,q2⟩:=k1 t ht;have q2:Wy (C t).length (ptL (C t) u) (so2 (piL (C t).length (gR (C t)) (so2 (v0++[w])))) q:=q2;rw[wu (l8 _)]at q2;have G:=(hC t ht).mo;rcases G.turn I h.1 d1 pl with a |⟨v4,p1,p2,P0,p3,p4⟩
   . rw[Sw (n:=0) a]at q2;exact .inl ⟨q,q1,q2⟩
   . refine .inr ⟨⟨(gR (C t) x.1,gR (C t) x.2)::q,by rw[pp,q1],(l8 _).mem_iff.mpr p1,?_⟩,v4⟩;have J:=G.cinv I;have:=J.num;have:=Oi G (by have:=I.n3;lia);have h8:=g.2.2.2;rw[Z2 (w:=(gR (C t) w.1,gR (C t) w.2)) (J.perm (l8 _)) (by rw[(l8 _).length_eq];lia) ((l8 _).trans p3) p2];rw[w8 p4]at q2;exact q2
  refine⟨fun t=>if W t (m' t) then m' t else m' t+1,fun t ht=>?_,?_⟩
  . show W t (if W t (m' t) then m' t else m' t+1);by_cases c:W t (m' t)
    . rw[ζ c];exact c
    . rw[ξ c];exact((key t ht).resolve_left c).1
  . have:=(Sv (fun t=>if W t (m' t) then m' t else m' t+1) m' ts nd (fun t _=>by split<;>lia) fun s hs t ht z1 z2=>by
     apply tB;intro ag
     have c1:¬W s (m' s):=fun c=>by rw[ζ c]at z1;lia
     have c2:¬W t (m' t):=fun c=>by rw[ζ c]at z2;lia
     exact wJ L (hC s hs) (hC t ht) ag ((key s hs).resolve_left c1).2 ((key t ht).resolve_left c2).2).1
    rw[pp];lia
def bk(R:List Int)(p:P2):P2:=(R.getD p.1.toNat 0,R.getD p.2.toNat 0)
theorem y1u{R:List Int}{a b:Int}(ha:a∈R)(hb:b∈R):bk R (ix R a,ix R b)=(a,b):=by unfold bk ix;simp only[Iw,CI,Ai ha,Ai hb,Option.getD_some]
theorem Ve{n:Int}{B:List P2}{t:P2}{R:List Int}(L:Lns n B)(M:Rm n B t R){ut:List P2}:∀(q c:List P2),Gd n c->(∀p∈B,p∈c)->Wy R.length ut (ptL R c) q ->
  ∃c',Gd n c'/\(∀p∈B,p∈c')/\Wy n c' c (q.map (bk R))/\ptL R c'=ut/\∀t2 R2,Rm n B t2 R2->t2≠t->ptL R2 c'=ptL R2 c
 | [],c,g,sub,h=>⟨c,g,sub,rfl,h,fun _ _ _ _=>rfl⟩
 | (i,j)::q,c,g,sub,h=>by
  obtain⟨a,b,hf,ha,hb,F,rfl,rfl⟩:=M.mem.mp h.1;obtain⟨T,I⟩:=g.inv;obtain⟨w,c0,T',pl,K',d1,d2,_⟩:=I.cut.turn hf;have et:=Z2 I (by have:=g.len;lia) pl d1;obtain⟨g1,_,_⟩:=C7 c (a,b) g hf;rw[et]at g1;have g1:Gd n (so2 (c0++[w])):=g1;obtain⟨w1,w2,wF,nM,p1,p2,p3,p4⟩:=M.turn L I sub hf ha hb F pl d1;have nN:∀p∈B,p∈so2 (c0++[w]):=fun p hp=>(l8 _).mem_iff.mpr (nM p hp)
  have J:=M.part I sub;have gp:=Hf M g sub;have e1:(tu R.length (ptL R c) (ix R a,ix R b)).1=ptL R (so2 (c0++[w])):=by rw[Z2 (w:=(ix R w.1,ix R w.2)) J (by have:=gp.len;lia) p1 p3,<-T1 M.rise g1.2.1,w8 (Fo R (l8 (c0++[w]))),p2]
  have h2:=h.2;rw[e1]at h2;obtain⟨c',k1,k2,k3,k4,k5⟩:=Ve L M q _ g1 nN h2;refine⟨c',k1,k2,?_,k4,fun t2 R2 M2 ag=>?_⟩
  . rw[gq,y1u ha hb];exact⟨hf,by rw[et];exact k3⟩
  . rw[k5 t2 R2 M2 ag,<-T1 M2.rise g1.2.1,w8 ((Fo R2 (l8 _)).trans (p4 t2 R2 M2 ag)),T1 M2.rise g.2.1]
theorem Wn{n:Int}{B v u:List P2}(L:Lns n B)(C:P2->List Int)(q:P2->List P2):∀(ts:List P2),ts.Nodup->(∀t∈ts,Rm n B t (C t))->(∀t∈ts,Wy (C t).length (ptL (C t) u) (ptL (C t) v) (q t))->∀c,Gd n c->(∀p∈B,p∈c)->(∀t∈ts,ptL (C t) c=ptL (C t) v) ->
  ∃c',Gd n c'/\(∀p∈B,p∈c')/\Wy n c' c (ts.flatMap fun t=>(q t).map (bk (C t)))/\(∀t∈ts,ptL (C t) c'=ptL (C t) u)/\∀t2,Rm n B t2 (C t2)->t2∉ts->ptL (C t2) c'=ptL (C t2) c
 | [],_,_,_,c,g,sub,h=>⟨c,g,sub,rfl,fun t ht=>(by cases ht),fun _ _ _=>rfl⟩
 |t::ts,nd,hC,hq,c,g,sub,h=>by
  have cE:=CO.mp nd;have M:=hC t io;obtain⟨c1,g1,s1,w1,e1,o1⟩:=Ve L M (q t) c g sub (by rw[h t io];exact hq t io);obtain⟨c2,g2,s2,w2,e2,o2⟩:=Wn L C q ts cE.2 (fun s hs=>hC s (dg _ hs)) (fun s hs=>hq s (dg _ hs)) c1 g1 s1 fun s hs=>by rw[o1 s _ (hC s (dg _ hs)) fun e=>cE.1 (e ▸ hs)];exact h s (dg _ hs)
  refine⟨c2,g2,s2,?_,fun s hs=>?_,fun s Ms hs=>?_⟩
  . rw[Iv];exact Dt _ _ c w1 w2
  . rcases gD.mp hs with rfl |hs
    . rw[o2 s M cE.1,e1]
    . exact e2 s hs
  . rw[o2 s Ms fun z=>hs (dg _ z),o1 s _ Ms fun e=>hs (e ▸ io)]
theorem Su{n:Int}{B v u:List P2}(gv:Gd n v)(gu:Gd n u)(nB:B.Nodup)(sv:∀p∈B,p∈v)(su:∀p∈B,p∈u)(C:P2->List Int)(hC:∀t,i6 n B t->Rm n B t (C t))(q:P2->List P2)(ts:List P2)(df:ts.Perm ((0,n - 1)::B))(nd:ts.Nodup)(hq:∀t∈ts,Wy (C t).length (ptL (C t) u) (ptL (C t) v) (q t)) :
  Wy n u v (ts.flatMap fun t=>(q t).map (bk (C t))):=by
 obtain⟨T,I⟩:=gv.inv
 have L:=I.lns nB sv
 have top:∀t,t∈ts↔i6 n B t:=fun t=>by rw[df.mem_iff,gD];rfl
 obtain⟨c,g,s,w,e,_⟩:=Wn (u:=u) L C q ts nd (fun t ht=>hC t ((top t).mp ht)) hq v gv sv fun _ _=>rfl
 obtain⟨Tc,Ic⟩:=g.inv
 obtain⟨Tu,Iu⟩:=gu.inv
 have h1:=Wt (us:=u) Ic nB s su C hC fun t ht p hp=>by rw[<-e t ((top t).mpr ht)];exact hp
 have h2:=Wt (us:=c) Iu nB su s C hC fun t ht p hp=>by rw[e t ((top t).mpr ht)];exact hp
 have:c=u:=by rw[<-g.2.1,<-gu.2.1,w8 ((DL Ic.nd Iu.nd).mpr fun p=>⟨h1 p,h2 p⟩)]
 rw[<-this]
 exact w
theorem wt{n k:Int}{B v u:List P2}{F:List En}(gv:Gd n v)(gu:Gd n u)(nB:B.Nodup)(sv:∀p∈B,p∈v)(su:∀p∈B,p∈u)(C:P2->List Int)(hC:∀t,i6 n B t->Rm n B t (C t))(q:P2->List P2)(ts:List P2)(df:ts.Perm ((0,n - 1)::B))(nd:ts.Nodup)(hq:∀t∈ts,Wy (C t).length (ptL (C t) u) (ptL (C t) v) (q t))
  (aU:∀t∈ts,∀q':List P2,Wy (C t).length (ptL (C t) u) (ptL (C t) v) q'->(q t).length<=q'.length) (L:Lv (Gd n) (tu n) u k [] F) {e:En} (he:e∈F) (hv:e.1=v):e.2.1=((ts.flatMap fun t=>(q t).map (bk (C t))).length:Int):=by
 have W:=Su gv gu nB sv su C hC q ts df nd hq
 obtain⟨e',h1,h2,h3⟩:=Dc L _ v gv W
 have:=uniq L.bf.nd h1 he (h2.trans hv.symm)
 subst this
 have h0:=(L.bf.le e' h1).1
 obtain⟨qs,k1,k2⟩:=Ol L e'.2.1.toNat e' h1 (by lia)
 rw[hv]at k2
 obtain⟨T,I⟩:=gv.inv
 obtain⟨m,m1,m2⟩:=low (I.lns nB sv) gu su C ts nd (fun t ht=>hC t (by have:=df.mem_iff.mp ht;exact gD.mp this)) qs v gv k2
 have le:∀l:List P2,(∀t∈l,t∈ts)->(l.flatMap fun t=>(q t).map (bk (C t))).length<=(l.map m).sum:=fun l=>by
  induction l with
  |nil=>intro _;simp
  |cons t l ih=>
   intro h
   have ht:=h t io
   have M:=hC t (by have:=df.mem_iff.mp ht;exact gD.mp this)
   obtain⟨q',r1,r2⟩:=m1 t ht
   rw[w8 (M.pi_part I sv),T1 M.rise gv.2.1]at r2
   have:=aU t ht q' r2
   have:=ih fun s hs=>h s (dg _ hs)
   rw[Iv,χ,bI,gq,FI]
   lia
 have:=le ts fun _ h=>h
 lia
theorem wq(c:Int)(p:P2)(ls:List P2)(hl:ls.length<=1000):R1 [.int c,T2 p,.lst (ls.map T2)]=.ok (.int (nxt ls p c)):=by
 unfold R1 Nv;walk_at "dz";rw[ζ (by rw[bI];omega),K1 (en:=T2) (bs:=fun l=>[T2 l]) (p:=pk c p) (g:=fun l=>D.int l.2) ls (fun x _=>rfl) (fun l _=>by
  unfold Ny;simp only[T2];walk_at "dz";rfl) (fun l _ _=>by
  unfold Nw;simp only[T2];walk_at "dz")]
 simp only[R.bind_ok];rw[show D.lst ((ls.filter (pk c p)).map fun l=>D.int l.2)=L (ends c p ls) by unfold L ends;rw[DI];rfl];walk_at "dz";rw[Qp];walk_at "dz";rfl
theorem Vd(ls:List P2)(p:P2)(xs:List Int)(v:Int):R0 [some (T2 p),some (.lst (ls.map T2)),some (L (xs++[v]))]=.ok (decide (v<p.2)):=by unfold R0;simp only[T2];walk_at "dz";rw[Dx];walk_at "dz"
theorem yi(ls:List P2)(hl:ls.length<=1000)(p:P2)(xs:List Int)(v:Int)(hx:xs.length<1000):Q9 [.im (T2 p),.im (.lst (ls.map T2)),.ow (L (xs++[v]))]=.nx [.im (T2 p),.im (.lst (ls.map T2)),.ow (L (xs++[v]++[nxt ls p v]))]:=by unfold Q9;walk_at "dz";rw[Dx];walk_at "dz";rw[wq _ _ _ hl];walk_at "dz";rw[Do (by simp;lia)];walk_at "dz"
theorem yh(ls:List P2)(hl:ls.length<=1000)(p:P2){c:Int}{l:List Int}{es:List P2}(h:Ch p.2 (nxt ls p) c l es):∀(f:Nat)(xs:List Int),l.length<=f->xs.length+l.length<1000 ->
  w4 R0 Q9 f [.im (T2 p),.im (.lst (ls.map T2)),.ow (L (xs++[c]))]=.nx [.im (T2 p),.im (.lst (ls.map T2)),.ow (L (xs++l))]:=by
 induction h with
 |last=>
  intro f xs hf hx
  obtain⟨f,rfl⟩:∃g,f=g+1:=⟨f - 1,by simp at hf;lia⟩
  rw[V8]
  simp only[Af,Ar,Ba,Ag]
  rw[Vd,v3,decide_eq_false (show ¬p.2<p.2 by lia),ξ θ]
 | @step c l es h r ih=>
  intro f xs hf hx
  rw[pp]at hf hx
  obtain⟨f,rfl⟩:∃g,f=g+1:=⟨f - 1,by lia⟩
  rw[V8]
  simp only[Af,Ar,Ba,Ag]
  rw[Vd,v3,decide_eq_true h,ζ rfl,yi ls hl p xs c (by lia),Et,ih f (xs++[c]) (by lia) (by simp;lia)]
  simp
theorem yg(ls:List P2)(hl:ls.length<=1000)(p:P2){l:List Int}{es:List P2}(h:Ch p.2 (nxt ls p) p.1 l es)(hn:l.length<=100):Q7 [T2 p,.lst (ls.map T2)]=.ok (TuI l):=by unfold Q7 Nj;walk_at "dz";have w:=yh ls hl p h 1000 [] (by lia) (by simp;lia);rw[HI,HI]at w;rw[show D.lst [D.int p.1]=L [p.1] from rfl];unfold F5;rw[w];walk_at "dz";rfl
theorem yf{n:Int}{ls:List P2}(I:Lns n ls)(hn:n<=60):∃(C:P2->List Int)(E:P2->List P2),∀t,i6 n ls t->Ch t.2 (nxt ls t) t.1 (C t) (E t)/\(C t).length<=60:=by
 have ex:∀t,∃q:List Int×List P2,i6 n ls t->Ch t.2 (nxt ls t) t.1 q.1 q.2/\q.1.length<=60:=fun t=>by
  by_cases h:i6 n ls t
  . have tt:=I.top (a:=t.1) (b:=t.2) h;have X:=Di I t;obtain⟨l,es,r⟩:=Ch.ex X.up (t.2 - t.1).toNat t.1 (by lia) (η _);have:=r.len X.up;exact⟨(l,es),fun _=>⟨r,by simp only;lia⟩⟩
  . exact⟨([],[]),fun z=>absurd z h⟩
 exact⟨fun t=>(Classical.choose (ex t)).1,fun t=>(Classical.choose (ex t)).2,fun t ht=>Classical.choose_spec (ex t) ht⟩
theorem wo(l:List Int):(TuI l).dep<=1:=by simp only[TuI,D.dep,(Li l).2];lia
theorem wm(a b:List Int):(d5 (TuI a) (TuI b)).isSome=true:=by obtain⟨r,h⟩:=Wv a b;simp only[TuI,d5,h,Option.isSome_some]
def soT{α:Type}(F:α->List Int)(ts:List α):List α:=sortB (fun a b=>ltT (TuI (F a)) (TuI (F b))) ts
theorem ye{α:Type}(F:α->List Int)(ts:List α):(soT F ts).Perm ts:=X3 _ _
theorem yd{α:Type}(F:α->List Int)(ts:List α)(hF:∀t∈ts,F t≠[]):p9 [.lst (ts.map fun t=>TuI (F t))]=some (.lst ((soT F ts).map fun t=>TuI (F t))):=by
 rw[Bb ts (fun t=>TuI (F t)) 1 (by lia) (fun t=>qV _) (fun t=>wo _) (fun _ _=>wm _ _) ?_,W9 (f:=fun t=>TuI (F t))]
 . rfl
 . rw[HL,HL,DQ,DQ];refine .inl (.inr ?_);intro d hd;obtain⟨t,ht,rfl⟩:=CP.mp hd;have:=hF t ht;cases e:F t with
   |nil=>exact absurd e this
   |cons a r=>simp only[TuI,gq,D8]
theorem yc{n:Int}{ls:List P2}(hl:ls.length<=57){C:P2->List Int}{E:P2->List P2}(hC:∀t,i6 n ls t->Ch t.2 (nxt ls t) t.1 (C t) (E t)/\(C t).length<=60) :
  N3 [.int n,.lst (ls.map T2)]=.ok (.lst ((soT C ((0,n - 1)::ls)).map fun t=>TuI (C t))):=by
 unfold N3 Kc
 walk_at "dz"
 rw[show Z6 [.lst (ls.map T2)]=some (.lst (ls.map T2)) from rfl]
 walk_at "dz"
 rw[show v6 (D.lst [D.tup [D.int 0,D.int (n - 1)]]) (D.lst (ls.map T2))=some (.lst (((0,n - 1)::ls).map T2)) by simp only[v6];rw[ζ (by simp;lia)];rfl]
 obtain⟨tops,ht⟩:∃tops:List P2,tops=(0,n - 1)::ls:=⟨_,rfl⟩
 have aC:tops.length<=58:=by rw[ht,pp];lia
 rw[<-ht]
 have kp:keeps true (D.lst (tops.map T2))=true:=by rw[Mg];exact Q2 _ _ fun x _=>V2 x
 simp only[R.of_some,v3,kp]
 walk_at "dz"
 rw[ζ (by rw[bI];lia),X0 (en:=T2) (bs:=fun q=>[T2 q]) (g:=fun q=>TuI (C q)) tops (fun x _=>rfl) (fun q hq=>by unfold Lz;walk_at "dz";have:=hC q (by rw[ht]at hq;exact gD.mp hq);exact yg ls (by lia) q this.1 (by lia))]
 walk_at "dz"
 rw[yd C tops fun t fF=>by have:=(hC t (by rw[ht]at fF;exact gD.mp fF)).1.ends.2;obtain⟨m,e⟩:=this;rw[e];simp]
 walk_at "dz"
theorem Oh(k:Int)(xs:List Int):dIn false (.int k) (TuI xs)=some (.bl (decide (k∈xs))):=by have:=jx k xs;unfold L at this;unfold TuI;exact this
theorem yb(r:Int)(p:P2):Bl [.int r,T2 p]=.ok (.bl (isLn r p)):=by
 have hs:=Qn r p;have e:isLn r p=if decide (0<=p.1)=true then(if decide (p.1<p.2)=true then(decide (p.2<r)&&!L7 r p.1 p.2) else false) else false:=by
  rw[FX];unfold isLn;rw[mV];by_cases c1:0<=p.1
  . by_cases c2:p.1<p.2
    . rw[ζ (decide_eq_true c1),ζ (decide_eq_true c2),ng,ET,mV,<-Bool.not_eq_true,yn];exact⟨fun h=>⟨h.2.2.1,fun z=>h.2.2.2 z.2⟩,fun h=>⟨c1,c2,h.1,fun z=>h.2 ⟨⟨c1,h.1⟩,z⟩⟩⟩
    . rw[ζ (decide_eq_true c1),decide_eq_false c2];simp;omega
  . rw[decide_eq_false c1];simp;omega
 unfold Bl Wr;walk_at "dz";rw[hs];simp only[Y6,U0,Z8];walk_at "dz";rw[e];by_cases c1:0<=p.1
 . rw[decide_eq_true c1];by_cases c2:p.1<p.2
   . rw[decide_eq_true c2];simp only[EE];walk_at "dz"
   . rw[decide_eq_false c2];simp only[EE,CM,DR];walk_at "dz"
 . rw[decide_eq_false c1];simp only[CM,DR];walk_at "dz"
theorem Og{R:List Int}{a:Int}(h:a∈R):Dj (R.map D.int) (.int a)=some (.int (ix R a)):=by simp only[Dj,Mq,ζ h];rfl
theorem Qi{n:Int}(R:List Int)(v:List P2)(hv:v.length<=60):W7 [TuI R,cD n v]=.ok (cD R.length (ptL R v)):=by
 unfold W7 Wq;walk_at "dz";rw[O3];walk_at "dz";rw[ζ (by rw[bI];lia),K1 (en:=T2) (bs:=fun l=>[.int l.1,.int l.2]) (p:=fun p=>decide (p.1∈R)&&decide (p.2∈R)) (g:=fun p=>T2 (ix R p.1,ix R p.2)) v (fun x _=>rfl) (fun l _=>by
  unfold Zb;walk_at "dz";rw[Oh,Oh];walk_at "dz") (fun l _ h=>by
  rw[ng,mV,mV]at h;unfold Za;walk_at "dz";simp only[T6,TuI];walk_at "dz";rw[Og h.1];walk_at "dz";rw[Og h.2];walk_at "dz";rfl)]
 simp only[L2.R.bind_ok];rw[show D.lst ((v.filter fun p=>decide (p.1∈R)&&decide (p.2∈R)).map fun p=>T2 (ix R p.1,ix R p.2))=D.lst ((ptA R v).map T2) by unfold ptA;rw[DI];rfl];have hA:(ptA R v).length<=60:=by unfold ptA;rw[bI];exact CL (EK _ _) hv
 unfold ptL;generalize ptA R v=A at hA;walk_at "dz";rw[show j8 [TuI R]=some (.int (R.length:Int)) by unfold TuI;simp[j8]];walk_at "dz";rw[ζ (by rw[bI];lia),K1 (en:=T2) (bs:=fun l=>[T2 l]) (p:=isLn R.length) (g:=T2) A (fun x _=>rfl) (fun l _=>by
  unfold Yz;walk_at "dz";rw[show j8 [TuI R]=some (.int (R.length:Int)) by unfold TuI;simp[j8]];walk_at "dz";rw[yb];walk_at "dz") (fun l _ h=>by
  unfold Yy;walk_at "dz")]
 walk_at "dz";rfl
theorem Of{l:List Int}{k:Int}(h0:0<=k)(h:k<l.length):dIx (TuI l) (.int k)=some (.int (l.getD k.toNat 0)):=by have e:dIx (TuI l) (.int k)=dIx (L l) (.int k):=rfl;have:=Ob (ns:=l) (k:=k.toNat) (by lia);rw[show((k.toNat:Nat):Int)=k by lia]at this;rw[e,this]
theorem qe{n:Int}{B v u:List P2}{t:P2}{R:List Int}(M:Rm n B t R)(gv:Gd n v)(gu:Gd n u)(sv:∀p∈B,p∈v)(su:∀p∈B,p∈u):∃q:List P2,Wy R.length (ptL R u) (ptL R v) q/\(∀q':List P2,Wy R.length (ptL R u) (ptL R v) q'->q.length<=q'.length)/\q.length<=16 /\
  X6 [TuI R,cD n v,cD n u]=.ok (.lst ((q.map (bk R)).map T2)):=by
 have g1:=Hf M gv sv
 have g2:=Hf M gu su
 obtain⟨k,F,L,es⟩:=Tb g2
 obtain⟨e,he,e1,e2⟩:=jt g1 g2 L
 obtain⟨q,q1,q2,q3⟩:=wx L es he (by lia)
 rw[e1]at q2 q3
 refine⟨q,q2,fun q' h=>?_,by lia,?_⟩
 . obtain⟨e',k1,k2,k3⟩:=Dc L q' _ g1 h;have:=uniq L.bf.nd k1 he (k2.trans e1.symm);subst this
   lia
 have cw:=Oj q _ g1 q2
 have h8:(R.length:Int)<=8:=g1.2.2.2
 have p1:=Qi (n:=n) R v (by have:=gv.len;lia)
 have p2:=Qi (n:=n) R u (by have:=gu.len;lia)
 have k1:=m9 n v
 have k2:=m9 n u
 have k3:=m9 R.length (ptL R v)
 have k4:=m9 R.length (ptL R u)
 have dl:j8 [TuI R]=some (.int (R.length:Int)):=by unfold TuI;simp[j8]
 generalize cD n v=X at *
 generalize cD n u=Y at *
 generalize cD R.length (ptL R v)=Z at *
 generalize cD R.length (ptL R u)=W at *
 unfold X6 Zv
 walk_at "dz"
 rw[p1]
 walk_at "dz"
 rw[T4 k3]
 walk_at "dz"
 rw[p2]
 walk_at "dz"
 rw[T4 k4]
 walk_at "dz"
 simp only[eIf]
 walk_at "dz"
 rw[dl]
 walk_at "dz"
 rw[decide_eq_true h8]
 walk_at "dz"
 rw[q3]
 walk_at "dz"
 rw[ζ (by rw[bI];lia),X0 (en:=T2) (bs:=fun l=>[.int l.1,.int l.2]) (g:=fun p=>T2 (bk R p)) q (fun x _=>rfl) (fun p hp=>by obtain⟨i1,i2,i3,i4⟩:=cw p hp;unfold jf;walk_at "dz";rw[Of i1 i2,Of i3 i4];walk_at "dz";rfl)]
 walk_at "dz"
 rw[DI]
 rfl
theorem y1v{n k:Int}{v u:List P2}{F:List En}(gv:Gd n v)(gu:Gd n u)(L:Lv (Gd n) (tu n) u k [] F){e:En}(he:e∈F)(hv:e.1=v):∃qs:List P2,Wy n u v qs/\(qs.length:Int)=e.2.1/\Bc [cD n v,cD n u]=.ok (.lst (qs.map T2)):=by
 obtain⟨T,I⟩:=gv.inv;obtain⟨B,hB⟩:∃B:List P2,B=v.filter fun p=>decide (p∈u):=⟨_,rfl⟩
 have nB:B.Nodup:=by rw[hB];exact I.nd.filter _
 have mB:∀p,p∈B↔p∈v/\p∈u:=fun p=>by rw[hB,CT,mV]
 have sv:∀p∈B,p∈v:=fun p h=>((mB p).mp h).1
 have su:∀p∈B,p∈u:=fun p h=>((mB p).mp h).2
 have lB:B.length<=5:=by rw[hB];exact CL (EK _ _) gv.len
 have J:=I.lns nB sv;obtain⟨C,E,hC⟩:=yf J (by have:=gv.2.2.2;lia);have hR:∀t,i6 n B t->Rm n B t (C t):=fun t ht=>Rm.of J ht (Di J t) (hC t ht).1
 obtain⟨ts,df⟩:∃ts,ts=soT C ((0,n - 1)::B):=⟨_,rfl⟩;have hU:ts.Perm ((0,n - 1)::B):=by rw[df];exact ye _ _
 have pO:ts.Nodup:=by rw[hU.nodup_iff,CO];exact⟨fun z=>(I.lin _ _ (sv _ z)).2.2.2 ⟨rfl,rfl⟩,nB⟩
 have top:∀t∈ts,i6 n B t:=fun t ht=>gD.mp (hU.mem_iff.mp ht)
 have ex:∀t,∃q:List P2,t∈ts->Wy (C t).length (ptL (C t) u) (ptL (C t) v) q/\(∀q':List P2,Wy (C t).length (ptL (C t) u) (ptL (C t) v) q'->q.length<=q'.length)/\q.length<=16/\X6 [TuI (C t),cD n v,cD n u]=.ok (.lst ((q.map (bk (C t))).map T2)):=fun t=>by
  by_cases h:t∈ts
  . obtain⟨q,hq⟩:=qe (hR t (top t h)) gv gu sv su;exact⟨q,fun _=>hq⟩
  . exact⟨[],fun z=>absurd z h⟩
 obtain⟨q,hq⟩:=Classical.axiomOfChoice ex;refine⟨ts.flatMap fun t=>(q t).map (bk (C t)),Su gv gu nB sv su C hR q ts hU pO fun t ht=>(hq t ht).1,(wt gv gu nB sv su C hR q ts hU pO (fun t ht=>(hq t ht).1) (fun t ht=>(hq t ht).2.1) L he hv).symm,?_⟩;have rm:=yc (n:=n) (ls:=B) (by lia) hC;rw[<-df]at rm;have lt:ts.length<=6:=by rw[hU.length_eq,pp];lia
 have kv:=m9 n v;have ku:=m9 n u;have c0:=Cb n v;have c1:=O3 n v;have d0:=Cb n u;have d1:=O3 n u;have lv:=gv.len;generalize cD n v=X at *;generalize cD n u=Y at *;unfold Bc Vj;walk_at "dz";rw[c0,d0];walk_at "dz";rw[c1];walk_at "dz";rw[ζ (by rw[bI];lia),K1 (en:=T2) (bs:=fun l=>[T2 l]) (p:=fun p=>decide (p∈u)) (g:=T2) v (fun x _=>rfl) (fun l _=>by
  unfold Xr;walk_at "dz";rw[d1];walk_at "dz";rw[Ec];walk_at "dz") (fun l _ h=>by
  unfold Xq;walk_at "dz"),<-hB]
 walk_at "dz";rw[c0];walk_at "dz";rw[rm];walk_at "dz";have fl:∀ds:List P2,(∀t∈ds,t∈ts)->(ds.flatMap fun t=>(q t).map (bk (C t))).length<=16 * ds.length:=fun ds=>by
  induction ds with
  |nil=>intro _;simp
  |cons a ds ih=>
   intro h
   have h1:=(hq a (h a io)).2.2.1
   have h2:=ih fun t ht=>h t (dg _ ht)
   rw[Iv,χ,bI,pp];lia
 obtain⟨au,w,ds,s,h1,h2⟩:=F7 (tg:=Tg.n 4) (g:=Mp) (en:=fun t=>TuI (C t)) (fun r ρ=>∃ds s,ts=ds++r/\ρ=[Sl.im X,Sl.im Y,Sl.im (D.lst (B.map T2)),Sl.ow (D.lst ((ds.flatMap fun t=>(q t).map (bk (C t))).map T2)),s]) ts [Sl.im X,Sl.im Y,Sl.im (D.lst (B.map T2)),Sl.ow (D.lst []),Sl.em] ⟨[],Sl.em,rfl,rfl⟩ (fun t r ρ ⟨ds,s,h1,h2⟩=>by
  subst h2;have ht:t∈ts:=by rw[h1];simp
  have hw:=(hq t ht).2.2.2;have hl:=fl ds fun x hx=>by rw[h1];exact DC _ hx
  have AH:=(hq t ht).2.2.1;have hd:ds.length<=6:=by rw[h1,χ]at lt;lia
  refine⟨[Sl.im X,Sl.im Y,Sl.im (D.lst (B.map T2)),Sl.ow (D.lst ((ds.flatMap fun t=>(q t).map (bk (C t))).map T2)),Sl.im (TuI (C t))],_,rfl,.inl ?_,ds++[t],Sl.im (TuI (C t)),by rw[h1];simp,rfl⟩;rw[List.flatMap_append,Iv,List.flatMap_nil,ED];generalize (ds.flatMap fun t=>(q t).map (bk (C t)))=A at hl;have hb:((q t).map (bk (C t))).length<=16:=by rw[bI];exact AH
  generalize (q t).map (bk (C t))=Bq at hw hb;unfold Mp;walk_at "dz";rw[hw];walk_at "dz";rw[show(D.lst (Bq.map T2)).noL=false by simp only[D.noL]];walk_at "dz";rw[show Y0 (.lst (A.map T2)) [.lst (Bq.map T2)]=some (.lst ((A++Bq).map T2)) by simp only[Y0,bI];rw[ζ (by lia),DA]];walk_at "dz")
 rw[w,h2];rw[ED]at h1;rw[h1];walk_at "dz"
theorem ya(ns:List Int)(eh:ns.length<=63):T5 [.scr ns]=.ok (.bl true):=by
 obtain⟨m,hm,em⟩:=ql (pkv ns 0);obtain⟨sp,dM,ep⟩:=Vf m (by lia) (m5 ns (some 1) none) (CL (Jx _ _ _) eh) 48271 (by lia);obtain⟨AI,AS,AJ⟩:=Vf m (by lia) (m5 ns (some 1) none) (CL (Jx _ _ _) eh) 69621 (by lia);obtain⟨v,gv,ec⟩:=Om sp (by lia);obtain⟨n,hn⟩:∃n:Int,n=((sp.length+3:Nat):Int):=⟨_,rfl⟩;rw[<-hn]at gv ec;obtain⟨u,gu,e2⟩:=yj gv AI (by lia) (by lia) (pkv ns 0 / 80);obtain⟨k,F,L0,ed⟩:=qp gu;obtain⟨S,hS⟩:∃S,S=sF n F:=⟨_,rfl⟩;have pm:S.Perm F:=by rw[hS];exact wz _ F
 have nd:(S.map fun e:En=>e.1).Nodup:=(pm.map fun e:En=>e.1).nodup_iff.mpr L0.bf.nd;have fl:=Z3 L0.bf.nd L0.bf.gd;have AK:S.length<=20349:=by rw[pm.length_eq];exact fl
 obtain⟨e,he,e1,_⟩:=jt gv gu L0;obtain⟨qs,w1,w2,w3⟩:=y1v gv gu L0 he e1;have ld:=ww gv w1;have ud:=y1r L0 (fun e=>pm.mem_iff) nd;have te:=y1n (n:=n) nd AK n;rw[<-hS]at ed;have i1:dInN true (cD n v) (faD n S)=some (.bl false):=by rw[Dv,decide_eq_true (CP.mpr ⟨e,pm.mem_iff.mpr he,e1⟩)];rfl
 have i2:dInN true (cD n u) (faD n S)=some (.bl false):=by obtain⟨e',dC,q⟩:=mem_ky.mp L0.bf.c0;rw[Dv,decide_eq_true (CP.mpr ⟨e',pm.mem_iff.mpr dC,q⟩)];rfl
 have i3:dIxN (faD n S) (cD n v)=some (.int e.2.1):=by rw[<-e1];exact Du nd (pm.mem_iff.mpr he)
 have kv:=m9 n v;have ku:=m9 n u;have kf:=Sy n S;have c0:=Cb n v;have kq:=Fu qs;have lq:((qs.map T2).length:Int)=e.2.1:=by rw[bI];exact w2
 generalize cD n v=X at *;generalize cD n u=Y at *;generalize faD n S=Z at *;generalize qs.map T2=W at *;unfold T5 Ou;walk_at "dz";rw[qA ns eh];walk_at "dz";rw[em];walk_at "dz";rw[ep];walk_at "dz";rw[ec];simp only[v3,show keeps false X=true from T4 kv];walk_at "dz";rw[em];walk_at "dz";rw[AJ];walk_at "dz";rw[Dn (by lia)];walk_at "dz";rw[e2];simp only[v3,show keeps false Y=true from T4 ku];walk_at "dz";rw[ed];walk_at "dz";rw[c0];walk_at "dz";rw[te];simp only[v3,kf];walk_at "dz";rw[i1];walk_at "dz";rw[i2];walk_at "dz";rw[ud];walk_at "dz";rw[w3];walk_at "dz";rw[kq];walk_at "dz";rw[ld];walk_at "dz";rw[i3];walk_at "dz";rw[decide_eq_true lq]
end K75
namespace K75
open PySem PySem.Spec PyProof.Rows L2
theorem walk{l:PySem.W.OpenLaw}{q:Program}{loose:List Str}{XP:(Str->Option Value)->Heap->Prop}{YP:World->Heap->Prop}{d:DefRec}{K:Params->Frag}(hn:l.most=some 63)(gl:d.params.defaults=[])
  (hY:∀(w:World)(h:Heap),YP w h->(K w.params).In h)
  (F:∀(w:World)(mg:Str->Option Value)(fa:Addr)(h:Heap),(K w.params).In h->h.Ns mainGlobals mg->mg d.name=some (.ref fa) ->
   ∃fd:FuncData,(∀(s:Shared)(u:Value),BindsTo s fd ⟨[u],[]⟩ [("_law_script",u)])/\∀base:Heap,(K w.params).In base->base.Ns mainGlobals mg->FnOk l.prog w (K w.params) mg base (CX1 l.prog w) 12 fa fd ["_law_script"] (spL (K w.params) false T5 1)) :
  PySem.W.WalkO q loose XP YP l.row.toRowW d [] (fun f vs=>PySem.call f vs):=
 L2.walk_of (n:=63) (k:=12) (x:="_law_script") (CX:=fun w=>CX1 l.prog w) (sp:=fun w=>(spL (K w.params) false T5 1)) hn (by decide) gl ⟨rfl,by decide,by decide⟩ hY F (fun _ _ a ns hl hO hS=>vn hO hS (ya ns hl)) fun _ _ _ _ _ ⟨_,_,_,_,_,_,z⟩=>z
end K75
open PySem PySem.W PyProof.Rows
set_option maxRecDepth 100000 in
set_option maxHeartbeats 0 in
theorem PySem.Challenge.cw_friezeyard_k75_whole_shortest_ways_holds : PySem.Challenge.rw_friezeyard_k75_whole_shortest_ways.Holds := by
 w_on;o_law
 refine holds_open (q:=K75.q) (loose:=K75.loose) (Xt:=K75.xtH) (XP:=XL K75.q []) (Yf:=K75.hook.obs) (Ya:=K75.hook.val)
  (YP:=K75.hook.says) (N:=4736) K75.left K75.hook.of K75.hook.keeps
  (fun s e=>xl_of s (Bool.and_eq_true_iff.mp e).1) XL.keeps (by rfl) (by rfl) (by rfl)
  (fun s e=>recFacts_of (Bool.and_eq_true_iff.mp e).2) (by rfl) (by assumption) (by decide +kernel)
  ⟨rfl,rfl,rfl,rfl,rfl,by decide +kernel⟩ ?hw ?hc
 (case hw=>w_witness2)
 refine K75.walk (l:=PySem.Challenge.rw_friezeyard_k75_whole_shortest_ways) (K:=K75.K) rfl rfl (fun w h Y=>Y) ?F
 case F=>
  intro w mg fa h KX G hmg
  k_fill
  refine' K75.all_mk KX G hmg ?A0 ?A1 ?A2 ?A3 ?A4 ?A5 ?A6 ?A7 ?A8 ?A9 ?A10 ?A11 ?A12 ?A13 ?A14 ?A15 ?A16 ?A17 ?A18 ?A19 ?A20 ?A21 ?A22 ?A23 ?A24 ?A25 ?A26 ?A27 ?A28 ?A29 ?A30 ?A31 ?A32 ?T
  (case A0=>apply L2.fat;k_is;k_is;k_is;k_is)
  (case A1=>apply L2.fat;k_is;k_is;k_is;k_is)
  (case A2=>apply L2.fat;k_is;k_is;k_is;k_is)
  (case A3=>apply L2.fat;k_is;k_is;k_is;k_is)
  (case A4=>apply L2.fat;k_is;k_is;k_is;k_is)
  (case A5=>apply L2.fat;k_is;k_is;k_is;k_is)
  (case A6=>apply L2.fat;k_is;k_is;k_is;k_is)
  (case A7=>apply L2.fat;k_is;k_is;k_is;k_is)
  (case A8=>apply L2.fat;k_is;k_is;k_is;k_is)
  (case A9=>apply L2.fat;k_is;k_is;k_is;k_is)
  (case A10=>apply L2.fat;k_is;k_is;k_is;k_is)
  (case A11=>apply L2.fat;k_is;k_is;k_is;k_is)
  (case A12=>apply L2.fat;k_is;k_is;k_is;k_is)
  (case A13=>apply L2.fat;k_is;k_is;k_is;k_is)
  (case A14=>apply L2.fat;k_is;k_is;k_is;k_is)
  (case A15=>apply L2.fat;k_is;k_is;k_is;k_is)
  (case A16=>apply L2.fat;k_is;k_is;k_is;k_is)
  (case A17=>apply L2.fat;k_is;k_is;k_is;k_is)
  (case A18=>apply L2.fat;k_is;k_is;k_is;k_is)
  (case A19=>apply L2.fat;k_is;k_is;k_is;k_is)
  (case A20=>apply L2.fat;k_is;k_is;k_is;k_is)
  (case A21=>apply L2.fat;k_is;k_is;k_is;k_is)
  (case A22=>apply L2.fat;k_is;k_is;k_is;k_is)
  (case A23=>apply L2.fat;k_is;k_is;k_is;k_is)
  (case A24=>apply L2.fat;k_is;k_is;k_is;k_is)
  (case A25=>apply L2.fat;k_is;k_is;k_is;k_is)
  (case A26=>apply L2.fat;k_is;k_is;k_is;k_is)
  (case A27=>apply L2.fat;k_is;k_is;k_is;k_is)
  (case A28=>apply L2.fat;k_is;k_is;k_is;k_is)
  (case A29=>apply L2.fat;k_is;k_is;k_is;k_is)
  (case A30=>apply L2.fat;k_is;k_is;k_is;k_is)
  (case A31=>apply L2.fat;k_is;k_is;k_is;k_is)
  (case A32=>apply L2.fat;k_is;k_is;k_is;k_is)
  (case T=>constructor<;>exact mg_none_of KX G (by k_is))
