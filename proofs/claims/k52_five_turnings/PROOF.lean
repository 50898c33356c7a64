import PyProof.Rows.All
import Wide.All
import OpenK.AllK
import Wide.FinOn
import Lean
import PyProof.EqAt
import PyProof.EqKinds
import PyProof.TupleCall
import KE.KIsAll
import KE.RegKIsAll
import PyProof.ExcArgsOwn
import PyProof.InstStoreFacts
import PyProof.Rows.MinMaxN
import PyProof.Rows.CallKwBuiltin
import KE.KMinKey
import KE.KDictOf
import PyProof.AttrMissSeq
import PyProof.SetKind
import PyProof.IsRules
import PyProof.SetNew
import PyProof.Rows.SetFrom
import KE.KSortAsk
import KE.KDictSum
import PyProof.Rows.TupDisplay
import PySem.Challenge.RW_friezeyard_k52_five_turnings
set_option compiler.extract_closed false
noncomputable section
open PySem.W (Frag codeIn hideAll hideAll_get hideAll_none keepIn kia_one)
set_option Elab.async false
set_option linter.all false
set_option maxRecDepth 100000
namespace L2
open PySem PySem.Spec PyProof.Rows
abbrev Key:=Sum Int Str
noncomputable def ze0:Key->Value->Bool
 | .inl k,v=>Value.isInt k v
 | .inr x,v=>Value.isStrOf x v
noncomputable def zzx (w:World):Key->Int
 | .inl k=>hashInt k
 | .inr x=>hashStr w x
theorem z0n:∀{k:Key} {v:Value},ze0 k v=true->(∃i t,k=Sum.inl i/\v=Value.int i t)\/(∃x t,k=Sum.inr x/\v=Value.str x t)
 | .inl i,v,h=>by
  obtain ⟨t,e⟩:=Value.isInt_shape (k:=i) (v:=v) h
  exact .inl ⟨i,t,rfl,e⟩
 | .inr x,v,h=>by
  obtain ⟨t,e⟩:=Value.isStrOf_shape (x:=x) (v:=v) h
  exact .inr ⟨x,t,rfl,e⟩
theorem zev (i:Int) (t:Tok):ze0 (.inl i) (.int i t)=true:=by simp [ze0,Value.isInt]
theorem zew (x:Str) (t:Tok):ze0 (.inr x) (.str x t)=true:=by simp [ze0,Value.isStrOf]
theorem zqd (a b:Int):decide ((Sum.inl a:Key)=Sum.inl b)=(a==b):=by
 by_cases e:a=b
 . subst e;simp
 . have h:¬(Sum.inl a:Key)=Sum.inl b:=fun q=>e (Sum.inl.inj q)
   rw [decide_eq_false h]
   exact (beq_eq_false_iff_ne.mpr e).symm
theorem zqe (a b:Str):decide ((Sum.inr a:Key)=Sum.inr b)=decide (a=b):=by
 by_cases e:a=b
 . subst e;simp
 . have h:¬(Sum.inr a:Key)=Sum.inr b:=fun q=>e (Sum.inr.inj q)
   rw [decide_eq_false h,decide_eq_false e]
theorem zqf (a:Int) (b:Str):decide ((Sum.inl a:Key)=Sum.inr b)=false:=decide_eq_false (fun q=>nomatch q)
theorem zqg (a:Str) (b:Int):decide ((Sum.inr a:Key)=Sum.inl b)=false:=decide_eq_false (fun q=>nomatch q)
noncomputable def z1t (prog:Program) (w:World):PySem.KeyKind prog w Key where
 is:=ze0
 hash:=zzx w
 inj:=fun v a b ha hb=>by
  rcases z0n ha with ⟨i,t,rfl,rfl⟩ | ⟨x,t,rfl,rfl⟩
  . rcases z0n hb with ⟨j,u,rfl,e⟩ | ⟨y,u,rfl,e⟩
    . injection e with e1 _;rw [e1]
    . exact nomatch e
  . rcases z0n hb with ⟨j,u,rfl,e⟩ | ⟨y,u,rfl,e⟩
    . exact nomatch e
    . injection e with e1 _;rw [e1]
 byValue:=fun k v h=>by
  rcases z0n h with ⟨i,t,rfl,rfl⟩ | ⟨x,t,rfl,rfl⟩<;>rfl
 pyHash:=fun hv h=>by
  rcases z0n hv with ⟨i,t,rfl,rfl⟩ | ⟨x,t,rfl,rfl⟩
  . exact wpAny_pyHash_int h
  . exact wpAny_pyHash_str h
 eqBool:=fun hu hv h=>by
  rcases z0n hu with ⟨i,t,rfl,rfl⟩ | ⟨x,t,rfl,rfl⟩
  . rcases z0n hv with ⟨j,u,rfl,rfl⟩ | ⟨y,u,rfl,rfl⟩
    . rw [zqd] at h;exact wpAny_eqBool_int h
    . rw [zqf] at h;exact SeqAt.EqAt.int_str i t y u _ _ _ _ h
  . rcases z0n hv with ⟨j,u,rfl,rfl⟩ | ⟨y,u,rfl,rfl⟩
    . rw [zqg] at h;exact SeqAt.EqAt.str_int x t j u _ _ _ _ h
    . rw [zqe] at h;exact wpAny_eqBool_str h
 «strs»:=fun k x t v h=>by
  rcases z0n h with ⟨i,u,rfl,e⟩ | ⟨y,u,rfl,e⟩
  . exact nomatch e
  . injection e with e1 _
    subst e1
    cases v<;>rfl
theorem zbc (prog:Program) (w:World) (i:Int) (t:Tok):(z1t prog w).is (.inl i) (.int i t)=true:=zev i t
theorem zbd (prog:Program) (w:World) (x:Str) (t:Tok):(z1t prog w).is (.inr x) (.str x t)=true:=zew x t
inductive V where
 | non | bl (b:Bool) | int (i:Int) | str (x:Str) | byt (b:Array UInt8) | flt (b:UInt64) | ref (a:Addr) | ty (n:String)
 deriving DecidableEq
def RelV:V->Value->Prop
 | .non,u=>u=Value.none
 | .bl b,u=>u=Value.bool b
 | .int i,u=>∃t,u=Value.int i t
 | .str x,u=>∃t,u=Value.str x t
 | .byt b,u=>∃t,u=Value.bytes b t
 | .flt b,u=>∃t,u=Value.float b t
 | .ref a,u=>u=Value.ref a
 | .ty n,u=>u=Value.type n
abbrev Vals:List V->List Value->Prop:=Paired RelV
theorem Vals.length {xs:List V} {us:List Value} (r:Vals xs us):xs.length=us.length:=Paired.length r
theorem Vals.get:∀{xs:List V} {us:List Value} {i:Nat} {x:V},Vals xs us->xs[i]?=some x->∃u,us[i]?=some u/\RelV x u
 | _,_,_,_,.nil,e=>by simp at e
 | _,_,0,_,.cons r _,e=>by simp at e;subst e;exact ⟨_,rfl,r⟩
 | _,_,i+1,x,.cons _ t,e=>by
  obtain ⟨u,h1,h2⟩:=Vals.get (i:=i) (x:=x) t (by simpa using e)
  exact ⟨u,by simpa using h1,h2⟩
theorem Vals.set {x:V} {u:Value} (r:RelV x u):∀{xs:List V} {us:List Value} (i:Nat),Vals xs us->Vals (xs.set i x) (us.set i u)
 | _,_,_,.nil=>.nil
 | _,_,0,.cons _ t=>.cons r t
 | _,_,i+1,.cons q t=>.cons q (Vals.set r i t)
theorem Vals.append:∀{xs ys:List V} {us ws:List Value},Vals xs us->Vals ys ws->Vals (xs++ys) (us++ws)
 | _,_,_,_,.nil,s=>s
 | _,_,_,_,.cons r t,s=>.cons r (Vals.append t s)
theorem Vals.take:∀{xs:List V} {us:List Value} (n:Nat),Vals xs us->Vals (xs.take n) (us.take n)
 | _,_,0,_=>.nil
 | _,_,_+1,.nil=>.nil
 | _,_,n+1,.cons r t=>.cons r (Vals.take n t)
theorem Vals.drop:∀{xs:List V} {us:List Value} (n:Nat),Vals xs us->Vals (xs.drop n) (us.drop n)
 | _,_,0,r=>r
 | _,_,_+1,.nil=>.nil
 | _,_,n+1,.cons _ t=>Vals.drop n t
def RelO:Option V->Option Value->Prop
 | some v,some u=>RelV v u
 | none,none=>True
 | _,_=>False
def KV {κ:Type}:List (κ×V)->List (κ×Value)->Prop:=Paired fun (p:κ×V) (q:κ×Value)=>p.1=q.1/\RelV p.2 q.2
noncomputable def kV:Key->V
 | .inl i=>.int i
 | .inr x=>.str x
def IsTp (h:Heap) (a:Addr) (its:Array Value):Prop:=∃o,h.get? a=some o/\o.cls=.type "tuple"/\(∃n,o.data=.seq its n)/\o.dict=none
theorem IsTp.tup {h:Heap} {a:Addr} {its:Array Value} (p:IsTp h a its):IsTup h a its:=by obtain ⟨o,e,c,d,_⟩:=p;exact ⟨o,e,c,d⟩
theorem IsTp.lt {h:Heap} {a:Addr} {its:Array Value} (p:IsTp h a its):a<h.objs.size:=by obtain ⟨o,e,_⟩:=p;exact Heap.lt_size e
theorem IsTp.mk' {h:Heap} {a:Addr} {its:Array Value} {n:Nat} {sl:Array (Option Value)} (e:h.get? a=some { cls:=.type "tuple",data:=.seq its n,slots:=sl }):IsTp h a its:=⟨_,e,rfl,⟨n,rfl⟩,rfl⟩
inductive HO where
 /-- a list -/
 | lst (xs:List V)
 /-- a tuple (never changes) -/
 | tup (xs:List V)
 /-- a dict whose keys are ints and texts;one whose keys are tuples of ints and texts (the empty one is both) -/
 | dK (kvs:List (Key×V)) | dT (kvs:List (List Key×V))
 /-- a set of ints: its members,its size -/
 | set (S:Int->Bool) (n:Nat)
 /-- an instance of the class at C,its dict at dx,its attributes -/
 | ins (C dx:Addr) (fs:List (Str×V))
 /-- the dict of the instance at x -/
 | own (x:Addr)
 /-- the dict of an exception -/
 | xd (fs:List (Str×V))
 /-- a bound method,f of x -/
 | met (f x:Addr)
 /-- a range object lo,lo+1,.. below hi -/
 | rng (lo hi:Int)
 /-- a thing that is known to the object (the script;a dict while a loop walks it): read,never written while it is so -/
 | frz (o:Obj) (u:HO)
 /-- a code object's table -/
 | tbl (ps:Array Value)
 /-- the table of a def that makes lambdas,all of the qualname q -/
 | ctb (q:Str)
 /-- any other thing,by what is true of its one object (a def of one's own: SetO a S n:=HO.ext fun h=>..) -/
 | ext (φ:Heap->Prop)
abbrev Hp:=Addr->Option HO
noncomputable def upd (H:Hp) (a:Addr) (o:HO):Hp:=fun b=>if b=a then some o else H b
theorem z0o {H:Hp} {a:Addr} {o:HO}:upd H a o a=some o:=by unfold upd;rw [if_pos rfl]
theorem z0j {H:Hp} {a b:Addr} {o:HO} (h:b≠a):upd H a o b=H b:=by unfold upd;rw [if_neg h]
theorem z0h {H:Hp} {a b:Addr} {o:HO} (h:H a=some o) (h':H b=none):a≠b:=by
 intro e;subst e;rw [h] at h';cases h'
section
variable (P:Program) (w:World)
def ObjOk (H:Hp) (h:Heap) (a:Addr):HO->Prop
 | .lst xs=>xs.length<=sizeLine/\∃(its:List Value) (n:Nat),Vals xs its/\h.get? a=some { cls:=.type "list",data:=.seq its.toArray n }
 | .tup xs=>xs.length<=sizeLine/\∃its:List Value,Vals xs its/\IsTp h a its.toArray
 | .dK kvs=>kvs.length<=sizeLine/\(a==sysModules)=false/\∃vs,KV kvs vs/\h.DictOf (z1t P w) a vs
 | .dT kvs=>kvs.length<=sizeLine/\(a==sysModules)=false/\∃xs:List (List Key×Addr×Value),
  Paired (fun (p:List Key×V) (q:List Key×Addr×Value)=>p.1=q.1/\H q.2.1=some (.tup (p.1.map kV))/\RelV p.2 q.2.2) kvs xs /\
  ∃o es ep,h.get? a=some o/\o.ExactDict/\o.data=.dict es ep/\es.toList=xs.map (entryOfKey (tupleKind (z1t P w)))/\(xs.map (·.1)).Nodup
 | .set S n=>h.SetOf (intKind P w) a S n
 | .ins C dx fs=>H dx=some (.own a)/\fs.length<=1000/\dx≠a/\h.get? a=some (PySem.W.instObj C dx) /\
  ∃mA,h.Ns1 dx mA/\(∀f,RelO (fs.lookup f) (mA f))/\PySem.Within mA (fs.map (·.1))
 | .own _=>∃o,h.get? a=some o
 | .xd fs=>∃mA,h.Ns1 a mA/\∀f,RelO (fs.lookup f) (mA f)
 | .rng lo hi=>∃t u v,h.get? a=some { cls:=.type "range",data:=.fields #[.int lo t,.int hi u,.int 1 v] }
 | .frz o u=>h.get? a=some o/\ObjOk H h a u
 | .tbl ps=>h.get? a=some { cls:=.none,data:=.fields ps }
 | .ctb q=>∃ps:Array Value,h.get? a=some { cls:=.none,data:=.fields ps }/\TriplesOk ps.toList/\∀(pos:Pos) (v:Value),codeAmong pos ps.toList=some v->∃c,v=.ref c/\H c=some (.own a)/\h.CodeRec (.ref c) q
 | .met f x=>h.get? a=some (PySem.W.methodObj (.ref f) (.ref x))
 | .ext φ=>φ h/\(∃o,h.get? a=some o)/\∀h1 h2:Heap,φ h1->(∀o,h1.get? a=some o->h2.get? a=some o)->φ h2
def HOk (H:Hp) (h:Heap):Prop:=∀a o,H a=some o->ObjOk P w H h a o
end
section
variable {P:Program} {w:World} {H H':Hp} {h h':Heap} {a:Addr} {o:HO}
theorem ObjOk.lt (x:ObjOk P w H h a o):a<h.objs.size:=by
 cases o with
 | lst xs=>obtain ⟨_,_,_,_,e⟩:=x;exact Heap.lt_size e
 | tup xs=>obtain ⟨_,_,_,p⟩:=x;exact p.lt
 | dK kvs=>obtain ⟨_,_,_,_,o,_,_,e,_⟩:=x;exact Heap.lt_size e
 | dT kvs=>obtain ⟨_,_,_,_,o,_,_,e,_⟩:=x;exact Heap.lt_size e
 | set S n=>obtain ⟨o,_,_,_,e,_⟩:=x;exact Heap.lt_size e
 | ins C dx fs=>obtain ⟨_,_,_,e,_⟩:=x;exact Heap.lt_size e
 | own y=>obtain ⟨_,e⟩:=x;exact Heap.lt_size e
 | xd fs=>obtain ⟨_,⟨_,_,_,e,_⟩,_⟩:=x;exact Heap.lt_size e
 | rng lo hi=>obtain ⟨_,_,_,e⟩:=x;exact Heap.lt_size e
 | frz ob u=>obtain ⟨e,_⟩:=x;exact Heap.lt_size e
 | tbl ps=>exact Heap.lt_size (show h.get? a=some _ from x)
 | ctb q=>obtain ⟨_,e,_⟩:=x;exact Heap.lt_size e
 | met f y=>exact Heap.lt_size (show h.get? a=some _ from x)
 | ext φ=>obtain ⟨_,⟨_,e⟩,_⟩:=x;exact Heap.lt_size e
theorem Paired.mapP {α β:Type} {F G:α->β->Prop}:∀{l₁:List α} {l₂:List β},Paired F l₁ l₂->(∀a b,F a b->G a b)->Paired G l₁ l₂
 | _,_,.nil,_=>.nil
 | _,_,.cons r t,f=>.cons (f _ _ r) (Paired.mapP t f)
theorem ObjOk.stay (x:ObjOk P w H h a o) (k:∀b u,(b=a\/H b=some (.own a))->h.get? b=some u->h'.get? b=some u)
  (ho:∀b,H b=some (.own a)->H' b=some (.own a)) (ht:∀b xs,H b=some (.tup xs)->H' b=some (.tup xs)):ObjOk P w H' h' a o:=by
 induction o with
 | lst xs=>obtain ⟨z,its,n,r,e⟩:=x;exact ⟨z,its,n,r,k _ _ (.inl rfl) e⟩
 | tup xs=>obtain ⟨z,its,r,ob,e,c⟩:=x;exact ⟨z,its,r,ob,k _ _ (.inl rfl) e,c⟩
 | dK kvs=>obtain ⟨z,y,vs,r,ob,es,ep,e,c⟩:=x;exact ⟨z,y,vs,r,ob,es,ep,k _ _ (.inl rfl) e,c⟩
 | dT kvs=>
  obtain ⟨z,y,xs,r,ob,es,ep,e,c⟩:=x
  exact ⟨z,y,xs,Paired.mapP r fun p q z=>⟨z.1,ht _ _ z.2.1,z.2.2⟩,ob,es,ep,k _ _ (.inl rfl) e,c⟩
 | set S n=>obtain ⟨ob,es,ep,t,e,c⟩:=x;exact ⟨ob,es,ep,t,k _ _ (.inl rfl) e,c⟩
 | ins C dx fs=>
  obtain ⟨d,z,ne,e,mA,⟨od,es,ep,e2,c⟩,r⟩:=x
  exact ⟨ho _ d,z,ne,k _ _ (.inl rfl) e,mA,⟨od,es,ep,k _ _ (.inr d) e2,c⟩,r⟩
 | own y=>obtain ⟨ob,e⟩:=x;exact ⟨ob,k _ _ (.inl rfl) e⟩
 | xd fs=>obtain ⟨mA,⟨od,es,ep,e,c⟩,r⟩:=x;exact ⟨mA,⟨od,es,ep,k _ _ (.inl rfl) e,c⟩,r⟩
 | rng lo hi=>obtain ⟨t,u,v,e⟩:=x;exact ⟨t,u,v,k _ _ (.inl rfl) e⟩
 | frz ob u ih=>obtain ⟨e,q⟩:=x;exact ⟨k _ _ (.inl rfl) e,ih q⟩
 | tbl ps=>
  have e:h.get? a=some { cls:=.none,data:=.fields ps }:=x
  show h'.get? a=some { cls:=.none,data:=.fields ps }
  exact k a _ (.inl rfl) e
 | ctb q=>
  obtain ⟨ps,e,t,c⟩:=x
  refine ⟨ps,k _ _ (.inl rfl) e,t,fun pos v hb=>?_⟩
  obtain ⟨b,rfl,z,c2,oc,vs,tq,e1,e2,e3⟩:=c pos v hb
  cases e1
  exact ⟨b,rfl,ho _ z,b,oc,vs,tq,rfl,k _ _ (.inr z) e2,e3⟩
 | met f y=>
  have e:h.get? a=some (PySem.W.methodObj (.ref f) (.ref y)):=x
  show h'.get? a=some (PySem.W.methodObj (.ref f) (.ref y))
  exact k a _ (.inl rfl) e
 | ext φ=>obtain ⟨p,⟨o,e⟩,st⟩:=x;exact ⟨st _ _ p fun o q=>k _ _ (.inl rfl) q,⟨o,k _ _ (.inl rfl) e⟩,st⟩
theorem HOk.lt (x:HOk P w H h) (e:H a=some o):a<h.objs.size:=(x a o e).lt
theorem HOk.fresh (x:HOk P w H h) (e:h.objs.size<=a):H a=none:=by
 cases q:H a with
 | none=>rfl
 | some u=>exact absurd (Nat.lt_of_lt_of_le (x.lt q) e) (Nat.lt_irrefl _)
theorem HOk.kept (x:HOk P w H h) (k:∀b u,h.get? b=some u->h'.get? b=some u):HOk P w H h':=fun a o e=>
 (x a o e).stay (fun b u _ q=>k b u q) (fun _ q=>q) fun _ _ q=>q
theorem HOk.laid (x:HOk P w H h) (k:∀b u,h.get? b=some u->h'.get? b=some u) (hp:h.objs.size<=a) (new:ObjOk P w (upd H a o) h' a o):HOk P w (upd H a o) h':=fun b u e=>by
 have hn:=x.fresh hp
 by_cases hb:b=a
 . subst hb;rw [z0o] at e;cases e;exact new
 . rw [z0j hb] at e
   exact (x b u e).stay (fun c v _ q=>k c v q) (fun c q=>by rw [z0j (z0h q hn)];exact q) fun c xs q=>by rw [z0j (z0h q hn)];exact q
end
def Rd (H:Hp) (a:Addr) (u:HO):Prop:=H a=some u\/∃o,H a=some (.frz o u)
theorem Rd.of {H:Hp} {a:Addr} {u:HO} (h:H a=some u):Rd H a u:=.inl h
theorem Rd.ok {P:Program} {w:World} {H:Hp} {h:Heap} {a:Addr} {u:HO} (r:Rd H a u) (x:HOk P w H h):ObjOk P w H h a u:=by
 rcases r with r | ⟨o,r⟩
 . exact x a u r
 . obtain ⟨_,q⟩:=x a _ r
   exact q
def Mut:Option HO->Prop
 | some (.lst _)=>True
 | some (.dK _)=>True
 | some (.dT _)=>True
 | some (.set _ _)=>True
 | some (.ins _ _ _)=>True
 | some (.ext _)=>True
 | _=>False
section
variable {P:Program} {w:World} {H:Hp} {h h':Heap} {x e:Addr} {o':HO}
theorem HOk.write (ok:HOk P w H h) (mu:Mut (H x)) (he:e=x\/H e=some (.own x)) (k:∀b u,b≠e->h.get? b=some u->h'.get? b=some u) (heo:∃u,h'.get? e=some u)
  (new:ObjOk P w (upd H x o') h' x o'):HOk P w (upd H x o') h':=fun b u q=>by
 have nown:∀c y,H c=some (.own y)->c≠x:=fun c y r z=>by subst z;rw [r] at mu;exact mu
 have ntup:∀c xs,H c=some (.tup xs)->c≠x:=fun c xs r z=>by subst z;rw [r] at mu;exact mu
 by_cases hb:b=x
 . subst hb;rw [z0o] at q;cases q;exact new
 . rw [z0j hb] at q
   by_cases hbe:b=e
   . have q':H b=some (.own x):=by
      rcases he with z | z
      . exact absurd (hbe.trans z) hb
      . rw [hbe];exact z
     rw [q] at q';cases q'
     obtain ⟨v,hv⟩:=heo
     exact ⟨v,by rw [hbe];exact hv⟩
   . refine (ok b u q).stay (fun c v hc r=>k c v ?_ r) (fun c r=>by rw [z0j (nown c b r)];exact r) fun c xs r=>by rw [z0j (ntup c xs r)];exact r
     rcases hc with rfl | hc
     . exact hbe
     . rintro rfl
       rcases he with z | z
       . exact nown c b hc z
       . rw [hc] at z;cases z;exact hb rfl
end
structure Un (fs ex:List Addr) (H H':Hp) (h h':Heap):Prop where
 keep:∀b o,h.get? b=some o->H b=none->b∉fs->b∉ex->h'.get? b=some o
 slot:∀b o,h.get? b=some o->H b=none->b∈fs->b∉ex->∃sl,h'.get? b=some { o with slots:=sl }
 free:∀b o,h.get? b=some o->H b=none->b∉ex->H' b=none
 there:∀b o,h.get? b=some o->b∉ex->∃o',h'.get? b=some o'
 tups:∀b xs,H b=some (.tup xs)->H' b=some (.tup xs)
 frzs:∀b o u,H b=some (.frz o u)->H' b=some (.frz o u)
 tbls:∀b ps,H b=some (.tbl ps)->∃more,H' b=some (.tbl (ps++more))
section
variable {fs ex:List Addr} {H H1 H2:Hp} {h h1 h2 h':Heap} {a x e:Addr} {o:HO}
theorem Un.any (u:Un fs ex H H1 h h1) {b:Addr} {ob:Obj} (q:h.get? b=some ob) (n:H b=none) (hx:b∉ex):∃sl,h1.get? b=some { ob with slots:=sl }:=by
 by_cases hb:b∈fs
 . exact u.slot b ob q n hb hx
 . exact ⟨ob.slots,u.keep b ob q n hb hx⟩
theorem Un.trans (a:Un fs ex H H1 h h1) (b:Un fs ex H1 H2 h1 h2):Un fs ex H H2 h h2 where
 keep:=fun c ob q n hc hx=>b.keep c ob (a.keep c ob q n hc hx) (a.free c ob q n hx) hc hx
 slot:=fun c ob q n hc hx=>by
  obtain ⟨sl,e1⟩:=a.slot c ob q n hc hx
  obtain ⟨sl',e2⟩:=b.slot c _ e1 (a.free c ob q n hx) hc hx
  exact ⟨sl',e2⟩
 free:=fun c ob q n hx=>by
  obtain ⟨o',e1⟩:=a.there c ob q hx
  exact b.free c o' e1 (a.free c ob q n hx) hx
 there:=fun c ob q hx=>by
  obtain ⟨o',e1⟩:=a.there c ob q hx
  exact b.there c o' e1 hx
 tups:=fun c xs q=>b.tups c xs (a.tups c xs q)
 frzs:=fun c ob xs q=>b.frzs c ob xs (a.frzs c ob xs q)
 tbls:=fun c ps q=>by
  obtain ⟨m1,e1⟩:=a.tbls c ps q
  obtain ⟨m2,e2⟩:=b.tbls c _ e1
  exact ⟨m1++m2,by rw [e2,Array.append_assoc]⟩
theorem Un.kept (k:∀b u,h.get? b=some u->h'.get? b=some u):Un fs ex H H h h':=
 ⟨fun b ob q _ _ _=>k b ob q,fun b ob q _ _ _=>⟨ob.slots,k b ob q⟩,fun _ _ _ n _=>n,fun b ob q _=>⟨ob,k b ob q⟩,fun _ _ q=>q,fun _ _ _ q=>q,fun _ ps q=>⟨#[],by rw [q];simp⟩⟩
theorem Un.refl:Un fs ex H H h h:=Un.kept fun _ _ q=>q
theorem Un.laid (k:∀b u,h.get? b=some u->h'.get? b=some u) (hp:h.objs.size<=a) (hn:H a=none):Un fs ex H (upd H a o) h h' where
 keep:=fun b u q _ _ _=>k b u q
 slot:=fun b u q _ _ _=>⟨u.slots,k b u q⟩
 free:=fun b u q n _=>by rw [z0j (Nat.ne_of_lt (Nat.lt_of_lt_of_le (Heap.lt_size q) hp))];exact n
 there:=fun b u q _=>⟨u,k b u q⟩
 tups:=fun b xs q=>by rw [z0j (z0h q hn)];exact q
 frzs:=fun b u xs q=>by rw [z0j (z0h q hn)];exact q
 tbls:=fun b ps q=>⟨#[],by rw [z0j (z0h q hn),q];simp⟩
theorem Un.write (mu:Mut (H x)) (he:e=x\/H e=some (.own x)) (k:∀b u,b≠e->h.get? b=some u->h'.get? b=some u) (heo:∃u,h'.get? e=some u):Un fs ex H (upd H x o) h h':=by
 have hx:∀b,H b=none->b≠x:=fun b n z=>by subst z;rw [n] at mu;exact mu
 have hb:∀b,H b=none->b≠e:=fun b n z=>by
  subst z
  rcases he with r | r
  . exact hx b n r
  . rw [n] at r;cases r
 have hm:∀b u,H b=some u->¬Mut (some u)->b≠x:=fun b u q nm z=>by subst z;rw [q] at mu;exact nm mu
 refine ⟨fun b u q n _ _=>k b u (hb b n) q,fun b u q n _ _=>⟨u.slots,k b u (hb b n) q⟩,fun b u q n _=>by rw [z0j (hx b n)];exact n,fun b u q _=>?_,
  fun b xs q=>by rw [z0j (hm b _ q fun z=>z)];exact q,fun b u xs q=>by rw [z0j (hm b _ q fun z=>z)];exact q,fun b ps q=>⟨#[],by rw [z0j (hm b _ q fun z=>z),q];simp⟩⟩
 by_cases hbe:b=e
 . subst hbe;exact heo
 . exact ⟨u,k b u hbe q⟩
end
noncomputable def trk (h:Heap) (H:Hp):List Addr:=(List.range h.objs.size).filter fun a=>(H a).isSome
noncomputable def zis (h:Heap) (H:Hp):Heap:=hideAll h (trk h H)
theorem zex (h:Heap) (H:Hp):(zis h H).objs.size=h.objs.size:=PySem.W.hideAll_size _ _
theorem zit {h:Heap} {H:Hp} {b:Addr} {o:Obj} (e:h.get? b=some o) (n:H b=none):(zis h H).get? b=some o:=
 hideAll_get _ e fun hm=>by
  have q:(H b).isSome=true:=(List.mem_filter.mp hm).2
  rw [n] at q;simp at q
theorem zmi {h:Heap} {H:Hp} {b:Addr} {o:Obj} (e:(zis h H).get? b=some o):h.get? b=some o/\H b=none:=by
 have e':h.get? b=some o:=PySem.W.of_hideAll (trk h H) e
 refine ⟨e',?_⟩
 cases q:H b with
 | none=>rfl
 | some x=>
  have hm:b∈trk h H:=List.mem_filter.mpr ⟨List.mem_range.mpr (Heap.lt_size e'),by simp [q]⟩
  have z:(zis h H).get? b=none:=hideAll_none (trk h H) hm
  rw [z] at e;cases e
noncomputable def z6g (g h:Heap) (L:Addr):List (Addr×Obj):=(List.range h.objs.size).filterMap fun a=>if a=L\/(g.get? a).isSome=true then none else (h.get? a).map fun o=>(a,o)
theorem zbe {g h:Heap} {L a:Addr} {o:Obj} (h1:a≠L) (h2:g.get? a=none) (h3:h.get? a=some o):(a,o)∈z6g g h L:=
 List.mem_filterMap.mpr ⟨a,List.mem_range.mpr (Heap.lt_size h3),by simp [h1,h2,h3]⟩
theorem z7k {g h:Heap} {L:Addr} {p:Addr×Obj} (hp:p∈z6g g h L):p.1≠L/\g.get? p.1=none/\h.get? p.1=some p.2:=by
 obtain ⟨b,_,e⟩:=List.mem_filterMap.mp hp
 split at e
 . cases e
 . rename_i hn
   cases q:h.get? b with
   | none=>rw [q] at e;simp at e
   | some u=>
    rw [q] at e
    simp only [Option.map_some,Option.some.injEq] at e
    subst e
    refine ⟨fun z=>hn (.inl z),?_,q⟩
    show g.get? b=none
    cases r:g.get? b with
    | none=>rfl
    | some v=>exact (hn (.inr (by simp [r]))).elim
noncomputable def rest (g h:Heap) (L d:Addr):List (Addr×Obj):=(z6g g h L).filter fun p=>decide (p.1≠d)
theorem z8i {g h:Heap} {L:Addr}:News g L h (z6g g h L):=fun p hp=>let ⟨a,b,c⟩:=z7k hp;⟨c,a,b⟩
structure Mod (K:Frag) (mg:Str->Option Value) (base:Heap):Prop where
 kin:K.In base
 glob:base.Ns mainGlobals mg
 blt:∃mb,base.Ns builtinsNs mb/\∀x:Str,x≠"__name__"->mb x=bootBuiltins x
 nolimit:base.NoLimit
structure Cx where
 prog:Program
 w:World
 K:Frag
 mg:Str->Option Value
 base:Heap
 A:Around
 N:List Str
 s₀:Shared
 H₀:Hp
 env:Env
 outer:List Env
 stack:List Env
 ex:List Addr
 fn:Str->Bool
 calm:Bool
 pn:List (Addr×Obj)
 xe:Value->Shared->Prop
noncomputable def frs (l:List Env):List Addr:=l.filterMap (·.frame)
abbrev Cx.fs (X:Cx):List Addr:=frs X.outer
def Vis (sc:Scope) (x:Str):Prop:=sc.names.lookup x=some .local\/sc.names.lookup x=some .cell\/sc.names.lookup x=some .free
def Loc (sc:Scope) (x:Str):Prop:=sc.names.lookup x=some .local\/sc.names.lookup x=some .cell
def zzy (env:Env) (h:Heap) (m:Str->Option Value) (x:Str) (u:Value):Prop:=
 (env.kindOf x=some .local/\m x=some u)\/((env.kindOf x=some .cell\/env.kindOf x=some .free)/\∃c,env.cells.lookup x=some c/\h.IsCell c (some u))
structure Cx.Ok (X:Cx):Prop where
 mod:Mod X.K X.mg X.base
 kind:X.env.scope.kind=.function
 glob:X.env.globals=mainGlobals
 blt:X.env.builtins=builtinsNs
 above:X.s₀.heap.objs.size<=X.env.locals
 inj:∀x y c,X.env.cells.lookup x=some c->X.env.cells.lookup y=some c->x=y
 has:∀x,(X.env.kindOf x=some .cell\/X.env.kindOf x=some .free)->∃c,X.env.cells.lookup x=some c
 cab:∀x c,X.fn x=true->X.env.cells.lookup x=some c->X.s₀.heap.objs.size<=c
 hd:X.calm=true->X.A.handled=none
 frames:X.A.frames=some X.stack
 stk:X.stack=X.outer\/(X.stack=X.env::X.outer/\X.env.frame=some X.env.locals)
 exf:∀b∈X.ex,b≠X.env.locals/\∀x c,X.env.cells.lookup x=some c->c≠b
 bs:∀b o,X.base.get? b=some o->X.s₀.heap.get? b=some o/\X.H₀ b=none
 bsz:X.base.objs.size<=X.s₀.heap.objs.size
 noex:∀b o,X.base.get? b=some o->b∉X.ex
 exfs:∀b∈X.ex,b∉X.fs
 funs:X.s₀.heap.FunFrames X.base X.outer
 frf:∀b∈X.fs,X.H₀ b=none
structure Inv (X:Cx) (pins:List (Addr×Obj)) (U:List (Option V)) (H:Hp) (s:Shared):Prop where
 ok:X.Ok
 os:s.os=X.s₀.os
 bare:AllBare s.gens
 base:Un X.fs X.ex X.H₀ H X.s₀.heap s.heap
 loc:∃m,s.heap.Ns X.env.locals m/\∀(i:Nat) (x:Str) (v:V),X.N[i]?=some x->U[i]?=some (some v)->Vis X.env.scope x->∃u,RelV v u/\zzy X.env s.heap m x u
 cell:∀x c,X.env.cells.lookup x=some c->∃v,s.heap.IsCell c v
 free:H X.env.locals=none
 freeC:∀x c,X.env.cells.lookup x=some c->H c=none
 pin:∀p∈X.pn++pins,s.heap.get? p.1=some p.2/\H p.1=none/\p.1≠X.env.locals/\p.1∉X.fs/\∀v,p.2.data≠.cell v
 hok:HOk X.prog X.w H s.heap
 len:U.length=X.N.length
section
variable {X:Cx} {pins:List (Addr×Obj)} {U:List (Option V)} {H H':Hp} {s:Shared} {h':Heap}
theorem Cx.Ok.nofr (ok:X.Ok) {b:Addr} {o:Obj} (e:X.base.get? b=some o):b∉X.fs:=fun hb=>by
 have:=(ok.funs.mem hb).1
 rw [e] at this;cases this
theorem Inv.bs (I:Inv X pins U H s):∀b o,X.base.get? b=some o->s.heap.get? b=some o/\H b=none:=fun b o e=>
 ⟨I.base.keep b o (I.ok.bs b o e).1 (I.ok.bs b o e).2 (I.ok.nofr e) (I.ok.noex b o e),I.base.free b o (I.ok.bs b o e).1 (I.ok.bs b o e).2 (I.ok.noex b o e)⟩
theorem Inv.bk (I:Inv X pins U H s):∀b o,X.base.get? b=some o->s.heap.get? b=some o:=fun b o e=>(I.bs b o e).1
theorem Inv.mod (I:Inv X pins U H s):Mod X.K X.mg X.base:=I.ok.mod
theorem Inv.kIn (I:Inv X pins U H s):X.K.In s.heap:=I.ok.mod.kin.keeps I.bk
theorem Inv.lt (I:Inv X pins U H s):X.env.locals<s.heap.objs.size:=let ⟨_,hn,_⟩:=I.loc;hn.lt
theorem Inv.sz (I:Inv X pins U H s):X.s₀.heap.objs.size<=s.heap.objs.size:=Nat.le_trans I.ok.above (Nat.le_of_lt I.lt)
theorem Inv.nofs (I:Inv X pins U H s) {a:Addr} (h:s.heap.objs.size<=a):a∉X.fs:=fun hb=>by
 obtain ⟨_,o,ho,_⟩:=I.ok.funs.mem hb
 exact absurd (Nat.lt_of_lt_of_le (Heap.lt_size ho) (Nat.le_trans I.sz h)) (Nat.lt_irrefl _)
theorem Inv.cne (I:Inv X pins U H s):∀x c,X.env.cells.lookup x=some c->c≠X.env.locals:=fun x c e z=>by
 obtain ⟨v,o,ho,hd⟩:=I.cell x c e
 obtain ⟨m,⟨o',es,ep,ho',hd',_⟩,_⟩:=I.loc
 rw [z,ho'] at ho;cases ho;rw [hd'] at hd;cases hd
theorem Inv.funs (I:Inv X pins U H s):s.heap.FunFrames X.base X.outer:=by
 have all:∀(l:List Env),(∀b∈frs l,b∈X.fs)->X.s₀.heap.FunFrames X.base l->s.heap.FunFrames X.base l:=by
  intro l
  induction l with
  | nil=>intro _ _;trivial
  | cons env r ih=>
   intro hs hl
   obtain ⟨hk,⟨L,o,hf,hn,ho,hd⟩,hr⟩:=hl
   have hL:L∈X.fs:=hs L (by unfold frs;rw [List.filterMap_cons,hf];exact List.mem_cons_self)
   obtain ⟨sl,e⟩:=I.base.slot L o ho (I.ok.frf L hL) hL fun z=>I.ok.exfs L z hL
   exact ⟨hk,⟨L,_,hf,hn,e,hd⟩,ih (fun b hb=>hs b (by unfold frs;rw [List.filterMap_cons,hf];exact List.mem_cons_of_mem _ hb)) hr⟩
 exact all X.outer (fun _ hb=>hb) I.ok.funs
theorem Inv.stack (I:Inv X pins U H s):s.heap.FunFrames X.base X.stack:=by
 rcases I.ok.stk with e | ⟨e,hf⟩
 . rw [e];exact I.funs
 . rw [e]
   obtain ⟨m,hn,_⟩:=I.loc
   refine .cons (by rw [I.ok.kind];decide) hf hn ?_ I.funs
   exact Heap.get?_none_of_le (Nat.le_trans I.ok.bsz I.ok.above)
theorem Inv.stkSub (I:Inv X pins U H s):∀b∈frs X.stack,b∈X.env.locals::X.fs:=fun b hb=>by
 rcases I.ok.stk with e | ⟨e,hf⟩
 . rw [e] at hb;exact List.mem_cons_of_mem _ hb
 . rw [e] at hb
   unfold frs at hb
   rw [List.filterMap_cons,hf] at hb
   exact hb
theorem Inv.stkFree (I:Inv X pins U H s):∀b∈frs X.stack,H b=none:=fun b hb=>by
 rcases List.mem_cons.mp (I.stkSub b hb) with e | hb
 . rw [e];exact I.free
 . obtain ⟨_,o,ho,_⟩:=I.ok.funs.mem hb
   exact I.base.free b o ho (I.ok.frf b hb) fun z=>I.ok.exfs b z hb
theorem Inv.step {g':Array GenState} {t':Nat} {d':Drawn} {ch:List Addr} (I:Inv X pins U H s)
  (hch:∀b∈ch,(b∈X.ex\/X.s₀.heap.objs.size<=b)/\b≠X.env.locals/\(∀x c,X.env.cells.lookup x=some c->c≠b)/\∀p∈X.pn++pins,p.1≠b)
  (keep:∀b o,b≠X.env.locals->b∉X.fs->b∉ch->s.heap.get? b=some o->H b=none->h'.get? b=some o)
  (slot:∀b o,b≠X.env.locals->b∈X.fs->b∉ch->s.heap.get? b=some o->H b=none->∃sl,h'.get? b=some { o with slots:=sl }) (free:∀b o,b∉ch->s.heap.get? b=some o->H b=none->H' b=none)
  (there:∀b o,b∉ch->s.heap.get? b=some o->∃o',h'.get? b=some o')
  (tups:∀b xs,H b=some (.tup xs)->H' b=some (.tup xs)) (frzs:∀b o u,H b=some (.frz o u)->H' b=some (.frz o u)) (tbls:∀b ps,H b=some (.tbl ps)->∃more,H' b=some (.tbl (ps++more)))
  (ns:∀m,s.heap.Ns X.env.locals m->h'.Ns X.env.locals m) (hok:HOk X.prog X.w H' h') (hg:AllBare g') :
  Inv X pins U H' { s with heap:=h',gens:=g',drawn:=d',toks:=t' }:=by
 have neL:∀b o,X.s₀.heap.get? b=some o->b≠X.env.locals:=fun b o e=>Nat.ne_of_lt (Nat.lt_of_lt_of_le (Heap.lt_size e) I.ok.above)
 have neC:∀b o,X.s₀.heap.get? b=some o->b∉X.ex->b∉ch:=fun b o e hx hb=>by
  rcases (hch b hb).1 with z | z
  . exact hx z
  . exact absurd (Nat.lt_of_lt_of_le (Heap.lt_size e) z) (Nat.lt_irrefl _)
 have cellK:∀x c,X.env.cells.lookup x=some c->∀v,s.heap.IsCell c v->h'.IsCell c v:=fun x c e v ⟨o,ho,hd⟩=>by
  have nch:c∉ch:=fun z=>(hch c z).2.2.1 x c e rfl
  by_cases hc:c∈X.fs
  . obtain ⟨sl,q⟩:=slot c o (I.cne x c e) hc nch ho (I.freeC x c e)
    exact ⟨_,q,hd⟩
  . exact ⟨o,keep c o (I.cne x c e) hc nch ho (I.freeC x c e),hd⟩
 refine ⟨I.ok,I.os,hg,⟨fun b o e n hb hx=>?_,fun b o e n hb hx=>?_,fun b o e n hx=>?_,fun b o e hx=>?_,fun b xs e=>tups b xs (I.base.tups b xs e),fun b o xs e=>frzs b o xs (I.base.frzs b o xs e),fun b ps e=>?_⟩,?_,fun x c e=>?_,?_,fun x c e=>?_,fun p hp=>?_,hok,I.len⟩
 . exact keep b o (neL b o e) hb (neC b o e hx) (I.base.keep b o e n hb hx) (I.base.free b o e n hx)
 . obtain ⟨sl,e1⟩:=I.base.slot b o e n hb hx
   obtain ⟨sl',e2⟩:=slot b _ (neL b o e) hb (neC b o e hx) e1 (I.base.free b o e n hx)
   exact ⟨sl',e2⟩
 . obtain ⟨o',e1⟩:=I.base.there b o e hx
   exact free b o' (neC b o e hx) e1 (I.base.free b o e n hx)
 . obtain ⟨o',e1⟩:=I.base.there b o e hx
   exact there b o' (neC b o e hx) e1
 . obtain ⟨m1,e1⟩:=I.base.tbls b ps e
   obtain ⟨m2,e2⟩:=tbls b _ e1
   exact ⟨m1++m2,by rw [e2,Array.append_assoc]⟩
 . obtain ⟨m,hn,hl⟩:=I.loc
   refine ⟨m,ns m hn,fun i x v e1 e2 e3=>?_⟩
   obtain ⟨u,r,l⟩:=hl i x v e1 e2 e3
   refine ⟨u,r,?_⟩
   rcases l with l | ⟨k,c,e,z⟩
   . exact .inl l
   . exact .inr ⟨k,c,e,cellK x c e _ z⟩
 . obtain ⟨v,z⟩:=I.cell x c e
   exact ⟨v,cellK x c e v z⟩
 . obtain ⟨m,⟨o,_,_,ho,_⟩,_⟩:=I.loc
   exact free _ o (fun z=>(hch _ z).2.1 rfl) ho I.free
 . obtain ⟨v,o,ho,hd⟩:=I.cell x c e
   exact free c o (fun z=>(hch c z).2.2.1 x c e rfl) ho (I.freeC x c e)
 . obtain ⟨e,n,ne,nf,d⟩:=I.pin p hp
   have nch:p.1∉ch:=fun z=>(hch p.1 z).2.2.2 p hp rfl
   exact ⟨keep p.1 p.2 ne nf nch e n,free p.1 p.2 nch e n,ne,nf,d⟩
theorem Inv.un {t':Nat} (I:Inv X pins U H s) (u:Un X.fs [] H H' s.heap h') (hok:HOk X.prog X.w H' h'):Inv X pins U H' { s with heap:=h',toks:=t' }:=by
 obtain ⟨m,⟨o,es,ep,ho,r⟩,_⟩:=id I.loc
 obtain ⟨sl,hL⟩:=u.any ho I.free (by simp)
 exact I.step (g':=s.gens) (d':=s.drawn) (ch:=[]) (fun _ z=>nomatch z) (fun b o _ hb _ e n=>u.keep b o e n hb (by simp)) (fun b o _ hb _ e n=>u.slot b o e n hb (by simp)) (fun b o _ e n=>u.free b o e n (by simp)) (fun b o _ e=>u.there b o e (by simp)) u.tups u.frzs u.tbls (fun m' hm=>by
  obtain ⟨o',es',ep',ho',r'⟩:=hm
  rw [ho] at ho';cases ho'
  exact ⟨_,es',ep',hL,r'⟩) hok I.bare
theorem Inv.call {g':Array GenState} {t':Nat} {d':Drawn} {ch:List Addr} (I:Inv X pins U H s) (u:Un (frs X.stack) ch H H' s.heap h') (hok:HOk X.prog X.w H' h') (hg:AllBare g')
  (hch:∀b∈ch,(b∈X.ex\/X.s₀.heap.objs.size<=b)/\b≠X.env.locals/\(∀x c,X.env.cells.lookup x=some c->c≠b)/\∀p∈X.pn++pins,p.1≠b) :
  Inv X pins U H' { s with heap:=h',gens:=g',drawn:=d',toks:=t' }:=by
 obtain ⟨m,⟨o,es,ep,ho,r⟩,_⟩:=id I.loc
 obtain ⟨sl,hL⟩:=u.any ho I.free fun z=>(hch _ z).2.1 rfl
 exact I.step (ch:=ch) hch (fun b o hL hb hc e n=>u.keep b o e n (fun z=>(List.mem_cons.mp (I.stkSub b z)).elim hL hb) hc) (fun b o _ _ hc e n=>u.any e n hc) (fun b o hc e n=>u.free b o e n hc) (fun b o hc e=>u.there b o e hc) u.tups u.frzs u.tbls (fun m' hm=>by
  obtain ⟨o',es',ep',ho',r'⟩:=hm
  rw [ho] at ho';cases ho'
  exact ⟨_,es',ep',hL,r'⟩) hok hg
theorem Inv.turned {t':Nat} {it:Addr} (I:Inv X pins U H s) (k:∀b o,b≠it->s.heap.get? b=some o->h'.get? b=some o) (hn:H it=none) (hL:it≠X.env.locals)
  (h1:it∈X.ex\/X.s₀.heap.objs.size<=it) (h2:∀x c,X.env.cells.lookup x=some c->c≠it) (h3:∀p∈X.pn++pins,p.1≠it):Inv X pins U H { s with heap:=h',toks:=t' }:=by
 have nit:∀b u,H b=some u->b≠it:=fun b u e z=>by rw [z,hn] at e;cases e
 refine I.step (g':=s.gens) (d':=s.drawn) (ch:=[it]) (fun b hb=>?_) (fun b o _ _ hc e _=>k b o (fun z=>hc (by simp [z])) e) (fun b o _ _ hc e _=>⟨o.slots,k b o (fun z=>hc (by simp [z])) e⟩) (fun _ _ _ _ n=>n)
  (fun b o hc e=>⟨o,k b o (fun z=>hc (by simp [z])) e⟩) (fun _ _ e=>e) (fun _ _ _ e=>e) (fun b ps e=>⟨#[],by rw [e];simp⟩) (fun m hm=>?_) (fun b u e=>?_) I.bare
 . have e:b=it:=by simpa using hb
   subst e
   exact ⟨h1,hL,h2,h3⟩
 . obtain ⟨o,es,ep,ho,r⟩:=hm
   exact ⟨o,es,ep,k _ o (Ne.symm hL) ho,r⟩
 . refine (I.hok b u e).stay (fun c v hc q=>k c v ?_ q) (fun _ q=>q) fun _ _ q=>q
   rcases hc with z | z
   . rw [z];exact nit b u e
   . exact nit c _ z
theorem Inv.tok (I:Inv X pins U H s) (t:Nat):Inv X pins U H { s with toks:=t }:=I.un (h':=s.heap) (t':=t) Un.refl I.hok
theorem Inv.kept {t':Nat} (I:Inv X pins U H s) (k:∀b u,s.heap.get? b=some u->h'.get? b=some u):Inv X pins U H { s with heap:=h',toks:=t' }:=I.un (Un.kept k) (I.hok.kept k)
theorem Inv.laid {a:Addr} {o:HO} {t':Nat} (I:Inv X pins U H s) (k:∀b u,s.heap.get? b=some u->h'.get? b=some u) (hp:s.heap.objs.size<=a) (new:ObjOk X.prog X.w (upd H a o) h' a o) :
 Inv X pins U (upd H a o) { s with heap:=h',toks:=t' }:=I.un (Un.laid k hp (I.hok.fresh hp)) (I.hok.laid k hp new)
theorem Inv.write {x e:Addr} {o:HO} {t':Nat} (I:Inv X pins U H s) (mu:Mut (H x)) (he:e=x\/H e=some (.own x)) (k:∀b u,b≠e->s.heap.get? b=some u->h'.get? b=some u) (heo:∃u,h'.get? e=some u)
 (new:ObjOk X.prog X.w (upd H x o) h' x o):Inv X pins U (upd H x o) { s with heap:=h',toks:=t' }:=I.un (Un.write mu he k heo) (I.hok.write mu he k heo new)
theorem Inv.pins_of {pins':List (Addr×Obj)} (I:Inv X pins U H s) (h:∀p∈pins',s.heap.get? p.1=some p.2/\H p.1=none/\p.1≠X.env.locals/\p.1∉X.fs/\∀v,p.2.data≠.cell v):Inv X pins' U H s:=
 ⟨I.ok,I.os,I.bare,I.base,I.loc,I.cell,I.free,I.freeC,fun p hp=>(List.mem_append.mp hp).elim (fun z=>I.pin p (List.mem_append_left _ z)) (h p),I.hok,I.len⟩
theorem zcp {N:List Str} (hN:N.Nodup) {i j:Nat} {x:Str} (a:N[i]?=some x) (b:N[j]?=some x):i=j:=by
 obtain ⟨h1,e1⟩:=List.getElem?_eq_some_iff.mp a
 obtain ⟨h2,e2⟩:=List.getElem?_eq_some_iff.mp b
 exact (List.getElem_inj hN).mp (e1.trans e2.symm)
theorem z9t {M:Model} {A:Around} {E:Value->Shared->Prop} {i:Nat} {x:Str} {v:V} {u:Value} {Q:Unit->Shared->Prop} (I:Inv X pins U H s) (hN:X.N.Nodup) (hi:X.N[i]?=some x) (hx:Loc X.env.scope x) (r:RelV v u)
  (h:∀s',Inv X pins (U.set i (some v)) H s'->(∃a,Heap.SameBut a s.heap s'.heap/\(a=X.env.locals\/X.env.cells.lookup x=some a))->Q () s') (hf:X.fn x=true\/X.env.scope.names.lookup x=some .local):wpAny M A (storeName X.env x u) Q E s:=by
 obtain ⟨m,hn,hl⟩:=id I.loc
 have hcls:(X.env.scope.kind==.class||(X.env.scope.kind==.module&&X.env.locals != X.env.globals))=false:=by rw [I.ok.kind];rfl
 have hiσ:i<U.length:=by rw [I.len];exact (List.getElem?_eq_some_iff.mp hi).1
 have cne:=I.cne
 have tracked:∀{a:Addr} {h':Heap},(∃o,s.heap.get? a=some o/\H a=none)->Heap.SameBut a s.heap h'->HOk X.prog X.w H h':=fun {a h'} ha hs b ob e=>by
  obtain ⟨_,_,hfree⟩:=ha
  refine (I.hok b ob e).stay (fun c w' hc q=>(hs.2 c ?_).trans q) (fun _ q=>q) fun _ _ q=>q
  rintro rfl
  rcases hc with rfl | hc
  . rw [hfree] at e;cases e
  . rw [hfree] at hc;cases hc
 rcases hx with hk | hk
 . refine wpAny_storeName_local hk hn (fun h' hn' hs=>?_) hcls
   obtain ⟨oL,_,_,hoL,_⟩:=id hn
   refine h _ ⟨I.ok,I.os,I.bare,⟨fun b o e n hb hx=>?_,fun b o e n hb hx=>?_,I.base.free,fun b o e hx=>?_,I.base.tups,I.base.frzs,I.base.tbls⟩,⟨_,hn',fun j y v' e1 e2 e3=>?_⟩,fun y c e=>?_,I.free,I.freeC,fun p hp=>?_,tracked ⟨oL,hoL,I.free⟩ hs,by simpa using I.len⟩ ⟨_,hs,.inl rfl⟩
   . exact (hs.2 b (Nat.ne_of_lt (Nat.lt_of_lt_of_le (Heap.lt_size e) I.ok.above))).trans (I.base.keep b o e n hb hx)
   . obtain ⟨sl,e1⟩:=I.base.slot b o e n hb hx
     exact ⟨sl,(hs.2 b (Nat.ne_of_lt (Nat.lt_of_lt_of_le (Heap.lt_size e) I.ok.above))).trans e1⟩
   . obtain ⟨o',e1⟩:=I.base.there b o e hx
     exact ⟨o',(hs.2 b (Nat.ne_of_lt (Nat.lt_of_lt_of_le (Heap.lt_size e) I.ok.above))).trans e1⟩
   . by_cases hj:j=i
     . subst hj
       rw [hi] at e1;cases e1
       rw [List.getElem?_set_self hiσ] at e2
       cases e2
       exact ⟨u,r,.inl ⟨hk,by simp⟩⟩
     . rw [List.getElem?_set_ne (Ne.symm hj)] at e2
       obtain ⟨u',r',q⟩:=hl j y v' e1 e2 e3
       refine ⟨u',r',?_⟩
       rcases q with ⟨k,e⟩ | ⟨k,c,e,z⟩
       . refine .inl ⟨k,?_⟩
         have:y≠x:=fun e=>hj (zcp hN e1 (e ▸ hi))
         simp [this,e]
       . exact .inr ⟨k,c,e,z.sameBut hs (cne y c e)⟩
   . obtain ⟨w',z⟩:=I.cell y c e
     exact ⟨w',z.sameBut hs (cne y c e)⟩
   . obtain ⟨e,n,ne,nf,d⟩:=I.pin p hp
     exact ⟨(hs.2 p.1 ne).trans e,n,ne,nf,d⟩
 . have hfn:X.fn x=true:=by
    rcases hf with z | z
    . exact z
    . rw [z] at hk;cases hk
   obtain ⟨c,hc⟩:=I.ok.has x (.inl hk)
   obtain ⟨w',z⟩:=I.cell x c hc
   refine wpAny_storeName_cell I.ok.kind hk hc z (fun h' hc' hs=>?_)
   obtain ⟨oc,hoc,hocd⟩:=id z
   refine h { s with heap:=h' } ⟨I.ok,I.os,I.bare,⟨fun b o e n hb hx=>?_,fun b o e n hb hx=>?_,I.base.free,fun b o e hx=>?_,I.base.tups,I.base.frzs,I.base.tbls⟩,⟨m,hn.sameBut hs (Ne.symm (cne x c hc)),fun j y v' e1 e2 e3=>?_⟩,fun y c' e=>?_,I.free,I.freeC,fun p hp=>?_,tracked ⟨oc,hoc,I.freeC x c hc⟩ hs,by simpa using I.len⟩ ⟨c,hs,.inr hc⟩
   . exact (hs.2 b (Nat.ne_of_lt (Nat.lt_of_lt_of_le (Heap.lt_size e) (I.ok.cab x c hfn hc)))).trans (I.base.keep b o e n hb hx)
   . obtain ⟨sl,e1⟩:=I.base.slot b o e n hb hx
     exact ⟨sl,(hs.2 b (Nat.ne_of_lt (Nat.lt_of_lt_of_le (Heap.lt_size e) (I.ok.cab x c hfn hc)))).trans e1⟩
   . obtain ⟨o',e1⟩:=I.base.there b o e hx
     exact ⟨o',(hs.2 b (Nat.ne_of_lt (Nat.lt_of_lt_of_le (Heap.lt_size e) (I.ok.cab x c hfn hc)))).trans e1⟩
   . by_cases hj:j=i
     . subst hj
       rw [hi] at e1;cases e1
       rw [List.getElem?_set_self hiσ] at e2
       cases e2
       exact ⟨u,r,.inr ⟨.inl hk,c,hc,hc'⟩⟩
     . rw [List.getElem?_set_ne (Ne.symm hj)] at e2
       obtain ⟨u',r',q⟩:=hl j y v' e1 e2 e3
       refine ⟨u',r',?_⟩
       rcases q with q | ⟨k,c',e,z'⟩
       . exact .inl q
       . refine .inr ⟨k,c',e,z'.sameBut hs ?_⟩
         rintro rfl
         exact hj (zcp hN e1 (I.ok.inj _ _ _ e hc ▸ hi))
   . by_cases hcc:c'=c
     . subst hcc;exact ⟨_,hc'⟩
     . obtain ⟨w2,z2⟩:=I.cell y c' e
       exact ⟨w2,z2.sameBut hs hcc⟩
   . obtain ⟨e,n,ne,nf,d⟩:=I.pin p hp
     refine ⟨(hs.2 p.1 ?_).trans e,n,ne,nf,d⟩
     intro q
     rw [q,hoc] at e
     have q':oc=p.2:=Option.some.inj e
     exact d w' (by rw [<-q'];exact hocd)
theorem zcq {M:Model} {A:Around} {E:Value->Shared->Prop} {i:Nat} {x:Str} {v:V} {u:Value} {Q:Unit->Shared->Prop} (I:Inv X pins U H s) (hN:X.N.Nodup) (hi:X.N[i]?=some x) (hx:Loc X.env.scope x) (r:RelV v u)
  (h:∀s',Inv X pins (U.set i (some v)) H s'->Q () s') (hf:X.fn x=true\/X.env.scope.names.lookup x=some .local):wpAny M A (storeName X.env x u) Q E s:=
 z9t I hN hi hx r (fun s' I' _=>h s' I') hf
theorem Inv.call' {s':Shared} {ch:List Addr} (I:Inv X pins U H s) (ho:s'.os=s.os) (u:Un (frs X.stack) ch H H' s.heap s'.heap) (hok:HOk X.prog X.w H' s'.heap) (hg:AllBare s'.gens)
  (hch:∀b∈ch,(b∈X.ex\/X.s₀.heap.objs.size<=b)/\b≠X.env.locals/\(∀x c,X.env.cells.lookup x=some c->c≠b)/\∀p∈X.pn++pins,p.1≠b):Inv X pins U H' s':=by
 obtain ⟨h',g',d',t',o'⟩:=s'
 have e:o'=s.os:=ho
 subst e
 exact I.call (g':=g') (t':=t') (d':=d') u hok hg hch
end
abbrev XK:=Value->Option Addr->Hp->Prop
abbrev St:=List (Option V)
abbrev VK:=V->Hp->Prop
abbrev TE:=St->Hp->VK->Prop
abbrev TT:=St->Hp->(Bool->Hp->Prop)->Prop
abbrev TA:=St->Hp->(List V->Hp->Prop)->Prop
structure Ends where
 nx:St->Hp->Prop
 rt:VK
 bk:St->Hp->Prop:=fun _ _=>False
 ct:St->Hp->Prop:=fun _ _=>False
abbrev TS:=Ends->St->Hp->Prop
def EP (X:Cx) (pins:List (Addr×Obj)) (U:St) (Q:VK) (u:Value) (s':Shared):Prop:=∃v H',Inv X pins U H' s'/\RelV v u/\Q v H'
def TP (X:Cx) (pins:List (Addr×Obj)) (U:St) (Q:Bool->Hp->Prop) (b:Bool) (s':Shared):Prop:=∃H',Inv X pins U H' s'/\Q b H'
def AP (X:Cx) (pins:List (Addr×Obj)) (U:St) (Q:List V->Hp->Prop) (us:List Value) (s':Shared):Prop:=∃vs H',Inv X pins U H' s'/\Vals vs us/\Q vs H'
def SP (X:Cx) (pins:List (Addr×Obj)) (D:Ends) (f:Flow) (s':Shared):Prop:=
 match f with
 | .next=>∃σ' H',Inv X pins σ' H' s'/\D.nx σ' H'
 | .brk=>∃σ' H',Inv X pins σ' H' s'/\D.bk σ' H'
 | .cont=>∃σ' H',Inv X pins σ' H' s'/\D.ct σ' H'
 | .ret u=>∃v σ' H',Inv X pins σ' H' s'/\RelV v u/\D.rt v H'
def PE (X:Cx) (e:Expr) (t:TE):Prop:=
 ∀(pins:List (Addr×Obj)) (s:Shared) (U:St) (H:Hp) (Q:VK),Inv X pins U H s->t U H Q->wpAny (model X.prog X.w) X.A (eval e X.env) (EP X pins U Q) X.xe s
def PT (X:Cx) (e:Expr) (t:TT):Prop:=
 ∀(pins:List (Addr×Obj)) (s:Shared) (U:St) (H:Hp) (Q:Bool->Hp->Prop),Inv X pins U H s->t U H Q->wpAny (model X.prog X.w) X.A (isTrue e X.env (eval e X.env)) (TP X pins U Q) X.xe s
def PW (X:Cx) (e:Expr) (t:TT):Prop:=
 ∀(whole:Sem Value) (pins:List (Addr×Obj)) (s:Shared) (U:St) (H:Hp) (Q:Bool->Hp->Prop),Inv X pins U H s->t U H Q->wpAny (model X.prog X.w) X.A (isTrue e X.env whole) (TP X pins U Q) X.xe s
theorem PW.pt {X:Cx} {e:Expr} {t:TT} (h:PW X e t):PT X e t:=h _
def PA (X:Cx) (es:List Expr) (t:TA):Prop:=
 ∀(pos:Pos) (pins:List (Addr×Obj)) (s:Shared) (U:St) (H:Hp) (Q:List V->Hp->Prop),Inv X pins U H s->t U H Q->wpAny (model X.prog X.w) X.A (spliced (backTo pos (starEach es X.env))) (AP X pins U Q) X.xe s
def PS (X:Cx) (st:Stmt) (t:TS):Prop:=
 ∀(pins:List (Addr×Obj)) (s:Shared) (U:St) (H:Hp) (D:Ends),Inv X pins U H s->t D U H->wpAny (model X.prog X.w) X.A (exec st X.env) (SP X pins D) X.xe s
def PSs (X:Cx) (st:List Stmt) (t:TS):Prop:=
 ∀(pins:List (Addr×Obj)) (s:Shared) (U:St) (H:Hp) (D:Ends),Inv X pins U H s->t D U H->wpAny (model X.prog X.w) X.A (execs st X.env) (SP X pins D) X.xe s
theorem thn {α:Type} {t:Sem α} {Q Q':α->Shared->Prop} {M:Model} {A:Around} {E:Value->Shared->Prop} {s:Shared} (h:wpAny M A t Q E s) (hQ:∀a s,Q a s->Q' a s):wpAny M A t Q' E s:=wpAny_mono h hQ fun _ _ x=>x
section
variable {X:Cx}
theorem bin {a b:Expr} {ta tb:TE} (ha:PE X a ta) (hb:PE X b tb) {pins:List (Addr×Obj)} {s:Shared} {U:St} {H:Hp} {R:V->V->Hp->Prop} (I:Inv X pins U H s) (h:ta U H fun x H1=>tb U H1 fun y H2=>R x y H2)
  {α:Type} {Q:α->Shared->Prop} {f:Value->Value->Sem α}
  (hf:∀v u s2 x y H2,Inv X pins U H2 s2->RelV x v->RelV y u->R x y H2->wpAny (model X.prog X.w) X.A (f v u) Q X.xe s2) :
  wpAny (model X.prog X.w) X.A (eval a X.env) (fun v s₁=>wpAny (model X.prog X.w) X.A (eval b X.env) (fun u s₂=>wpAny (model X.prog X.w) X.A (f v u) Q X.xe s₂) X.xe s₁) X.xe s:=by
 refine thn (ha pins s U H _ I h) fun v s1 ⟨x,H1,I1,r1,q1⟩=>?_
 refine thn (hb pins s1 U H1 _ I1 q1) fun u s2 ⟨y,H2,I2,r2,q2⟩=>?_
 exact hf v u s2 x y H2 I2 r1 r2 q2
noncomputable def zw0 (i:Nat):TE:=fun U H Q=>∃v,U[i]?=some (some v)/\Q v H
noncomputable def tC (v:V):TE:=fun _ H Q=>Q v H
theorem zey {i:Nat} {x:Str} {pos:Pos} (hN:X.N[i]?=some x) (hv:Vis X.env.scope x) (hd:(x==("__debug__":Str))=false:=by decide) (hcd:(x==("__classdict__":Str))=false:=by decide):PE X (.Name x pos) (zw0 i):=by
 intro pins s U H Q I h
 obtain ⟨v,e,h⟩:=h
 obtain ⟨m,hn,hl⟩:=I.loc
 obtain ⟨u,r,l⟩:=hl i x v hN e hv
 have fin:EP X pins U Q u s:=⟨v,H,I,r,h⟩
 rcases l with ⟨hk,hm⟩ | ⟨hk,c,hc,hcell⟩
 . exact wpAny_Name (wpAny_loadName_local I.ok.kind hk hn hm fin) hd
 . rcases hk with hk | hk
   . exact wpAny_Name (wpAny_loadName_cell I.ok.kind hk hc hcell fin) hd
   . exact wpAny_Name (wpAny_loadName_free I.ok.kind hk hc hcell fin hcd) hd
theorem pe_int {i j pos}:PE X (.Constant (.int i) j pos) (tC (.int i)):=fun _ _ _ H _ I h=>wpAny_Constant_int ⟨.int i,H,I.tok _,⟨_,rfl⟩,h⟩
theorem pe_bl {b j pos}:PE X (.Constant (.bool b) j pos) (tC (.bl b)):=fun _ _ _ H _ I h=>Constant_bool ⟨.bl b,H,I,rfl,h⟩
theorem pe_non {j pos}:PE X (.Constant .none j pos) (tC .non):=fun _ _ _ H _ I h=>Constant_none ⟨.non,H,I,rfl,h⟩
def Gl (X:Cx) (x:Str):Prop:=X.env.kindOf x=some .globalImplicit
theorem zmj {E:Value->Shared->Prop} {pins:List (Addr×Obj)} {s:Shared} {U:St} {H:Hp} {x:Str} {u:Value} {pos:Pos} {Q:Value->Shared->Prop} (I:Inv X pins U H s) (hg:Gl X x) (hm:X.mg x=some u) (h:Q u s)
  (hd:(x==("__debug__":Str))=false:=by decide):wpAny (model X.prog X.w) X.A (eval (.Name x pos) X.env) Q E s:=
 Calls.Name_function_global I.ok.kind hg (Calls.loadGlobal_global (by rw [I.ok.glob];exact I.mod.glob.keeps I.bk) hm h) hd
theorem z9u {E:Value->Shared->Prop} {pins:List (Addr×Obj)} {s:Shared} {U:St} {H:Hp} {x:Str} {u:Value} {pos:Pos} {Q:Value->Shared->Prop} (I:Inv X pins U H s) (hg:Gl X x) (hm:X.mg x=none) (hv:bootBuiltins x=some u) (h:Q u s)
  (hn:x≠"__name__":=by decide) (hd:(x==("__debug__":Str))=false:=by decide):wpAny (model X.prog X.w) X.A (eval (.Name x pos) X.env) Q E s:=by
 obtain ⟨mb,h1,h2⟩:=I.mod.blt
 exact Calls.Name_function_global I.ok.kind hg (Calls.loadGlobal_builtin (by rw [I.ok.glob];exact I.mod.glob.keeps I.bk) hm (by rw [I.ok.blt];exact h1.keeps I.bk) ((h2 x hn).trans hv) h) hd
theorem z6h {x:Str} {v:V} {u:Value} {pos:Pos} (hg:Gl X x) (hm:X.mg x=none) (hv:bootBuiltins x=some u) (r:RelV v u) (hn:x≠"__name__":=by decide) (hd:(x==("__debug__":Str))=false:=by decide):PE X (.Name x pos) (tC v):=
 fun _ _ _ H _ I h=>z9u I hg hm hv ⟨v,H,I,r,h⟩ hn hd
variable {a b:Expr} {pos:Pos}
variable {tA tB':TT} {rest:List Expr}
noncomputable def zyz (t u:TT):TT:=fun U H Q=>t U H fun c H1=>if c=true then u U H1 Q else Q false H1
noncomputable def tOr (t u:TT):TT:=fun U H Q=>t U H fun c H1=>if c=true then Q true H1 else u U H1 Q
noncomputable def zz0 (t:TT):TT:=fun U H Q=>t U H fun c H1=>Q (!c) H1
theorem zmk (ha:PT X a tA):PW X (.BoolOp .And [a] pos) tA:=by
 intro wh pins s U H Q I h
 refine isTrue_and (thn (ha pins s U H Q I h) fun c s1 e=>?_)
 cases c with
 | true=>exact isTrue_and_nil e
 | false=>exact e
theorem zqh (ha:PT X a tA):PW X (.BoolOp .Or [a] pos) tA:=by
 intro wh pins s U H Q I h
 refine isTrue_or (thn (ha pins s U H Q I h) fun c s1 e=>?_)
 cases c with
 | false=>exact isTrue_or_nil e
 | true=>exact e
theorem zqi (ha:PT X a tA) (hb:PW X (.BoolOp .And (b::rest) pos) tB'):PW X (.BoolOp .And (a::b::rest) pos) (zyz tA tB'):=by
 intro wh pins s U H Q I h
 refine isTrue_and (thn (ha pins s U H _ I h) fun c s1 ⟨H1,I1,q1⟩=>?_)
 cases c with
 | true=>exact hb wh pins s1 U H1 Q I1 q1
 | false=>exact ⟨H1,I1,q1⟩
theorem zw1 (ha:PT X a tA) (hb:PW X (.BoolOp .Or (b::rest) pos) tB'):PW X (.BoolOp .Or (a::b::rest) pos) (tOr tA tB'):=by
 intro wh pins s U H Q I h
 refine isTrue_or (thn (ha pins s U H _ I h) fun c s1 ⟨H1,I1,q1⟩=>?_)
 cases c with
 | true=>exact ⟨H1,I1,q1⟩
 | false=>exact hb wh pins s1 U H1 Q I1 q1
theorem zqj (ha:PT X a tA):PT X (.UnaryOp .Not a pos) (zz0 tA):=by
 intro pins s U H Q I h
 exact isTrue_not (ha pins s U H (fun c H1=>Q (!c) H1) I h)
theorem zqk {op} {t:TE} (h:PE X a t):PE X (.BoolOp op [a] pos) t:=fun pins s U H Q I hw=>BoolOp_one (h pins s U H Q I hw)
end
def SqL (K:Frag) (H:Hp) (a:Addr) (xs:List V):Prop:=
 Rd H a (.lst xs) \/
  ∃(o:Obj) (its:Array Value) (n:Nat),K.lookup a=some o/\o.cls=.type "list"/\o.dict=none/\o.data=.seq its n/\its.size<=sizeLine/\Vals xs its.toList
def SqT (K:Frag) (H:Hp) (a:Addr) (xs:List V):Prop:=
 Rd H a (.tup xs) \/
  ∃(o:Obj) (its:Array Value) (n:Nat),K.lookup a=some o/\o.cls=.type "tuple"/\o.data=.seq its n/\its.size<=sizeLine/\Vals xs its.toList
noncomputable def zz1:Value->Option V
 | .none=>some .non
 | .bool b=>some (.bl b)
 | .int i _=>some (.int i)
 | .str x _=>some (.str x)
 | .bytes b _=>some (.byt b)
 | .float b _=>some (.flt b)
 | .ref a=>some (.ref a)
 | .type n=>some (.ty n)
 | _=>none
theorem RelV.abs {x:V} {u:Value} (r:RelV x u):zz1 u=some x:=by
 cases x with
 | non=>cases r;rfl
 | bl _=>cases r;rfl
 | int _=>obtain ⟨t,rfl⟩:=r;rfl
 | str _=>obtain ⟨t,rfl⟩:=r;rfl
 | byt _=>obtain ⟨t,rfl⟩:=r;rfl
 | flt _=>obtain ⟨t,rfl⟩:=r;rfl
 | ref _=>cases r;rfl
 | ty _=>cases r;rfl
theorem RelV.inj {x y:V} {u:Value} (r:RelV x u) (q:RelV y u):x=y:=Option.some.inj (r.abs.symm.trans q.abs)
theorem Vals.inj:∀{xs ys:List V} {us:List Value},Vals xs us->Vals ys us->xs=ys
 | _,_,_,.nil,.nil=>rfl
 | _,_,_,.cons r t,.cons r' t'=>by rw [r.inj r',Vals.inj t t']
section
variable {X:Cx} {pins:List (Addr×Obj)} {U:St} {H:Hp} {s:Shared} {a:Addr} {xs ys:List V}
theorem SqL.of {K:Frag} (h:H a=some (.lst xs)):SqL K H a xs:=.inl (.inl h)
theorem SqT.of {K:Frag} (h:H a=some (.tup xs)):SqT K H a xs:=.inl (.inl h)
theorem Inv.list (I:Inv X pins U H s) (h:SqL X.K H a xs):∃its:List Value,Vals xs its/\PlainL s.heap a its.toArray/\xs.length<=sizeLine:=by
 rcases h with h | ⟨o,its,n,hk,hc,hd,hs,hz,r⟩
 . obtain ⟨z,its,n,r,e⟩:=h.ok I.hok
   exact ⟨its,r,⟨_,n,e,rfl,rfl,rfl⟩,z⟩
 . refine ⟨its.toList,r,⟨o,n,I.kIn a o hk,hc,hd,by simpa using hs⟩,?_⟩
   have e:=r.length
   simp only [Array.length_toList] at e
   lia
theorem Inv.tuple (I:Inv X pins U H s) (h:SqT X.K H a xs):∃its:List Value,Vals xs its/\IsTup s.heap a its.toArray/\xs.length<=sizeLine:=by
 rcases h with h | ⟨o,its,n,hk,hc,hs,hz,r⟩
 . obtain ⟨z,its,r,p⟩:=h.ok I.hok
   exact ⟨its,r,p.tup,z⟩
 . refine ⟨its.toList,r,⟨o,I.kIn a o hk,hc,n,by simpa using hs⟩,?_⟩
   have e:=r.length
   simp only [Array.length_toList] at e
   lia
theorem Inv.list_inj (I:Inv X pins U H s) (h:SqL X.K H a xs) (h':SqL X.K H a ys):xs=ys:=by
 obtain ⟨its,r,⟨o,n,e,_,_,d⟩,_⟩:=I.list h
 obtain ⟨its',r',⟨o',n',e',_,_,d'⟩,_⟩:=I.list h'
 rw [e] at e';cases e'
 rw [d] at d'
 injection d' with d1 _
 have:its=its':=by simpa using congrArg Array.toList d1
 subst this
 exact r.inj r'
theorem Inv.tuple_inj (I:Inv X pins U H s) (h:SqT X.K H a xs) (h':SqT X.K H a ys):xs=ys:=by
 obtain ⟨its,r,⟨o,e,_,n,d⟩,_⟩:=I.tuple h
 obtain ⟨its',r',⟨o',e',_,n',d'⟩,_⟩:=I.tuple h'
 rw [e] at e';cases e'
 rw [d] at d'
 injection d' with d1 _
 have:its=its':=by simpa using congrArg Array.toList d1
 subst this
 exact r.inj r'
end
abbrev Cx.wish (X:Cx) (E:Value->Shared->Prop):Cx:={ X with xe:=E }
abbrev Cx.nox (X:Cx):Cx:=X.wish fun _ _=>False
theorem Cx.Ok.wish {X:Cx} (ok:X.Ok) (E:Value->Shared->Prop):(X.wish E).Ok:=
 ⟨ok.mod,ok.kind,ok.glob,ok.blt,ok.above,ok.inj,ok.has,ok.cab,ok.hd,ok.frames,ok.stk,ok.exf,ok.bs,ok.bsz,ok.noex,ok.exfs,ok.funs,ok.frf⟩
theorem Cx.Ok.unwish {X:Cx} {E:Value->Shared->Prop} (ok:(X.wish E).Ok):X.Ok:=
 ⟨ok.mod,ok.kind,ok.glob,ok.blt,ok.above,ok.inj,ok.has,ok.cab,ok.hd,ok.frames,ok.stk,ok.exf,ok.bs,ok.bsz,ok.noex,ok.exfs,ok.funs,ok.frf⟩
section
variable {X:Cx} {pins:List (Addr×Obj)} {U:St} {H:Hp} {s:Shared} {E:Value->Shared->Prop}
theorem Inv.wish (I:Inv X pins U H s) (E:Value->Shared->Prop):Inv (X.wish E) pins U H s:=⟨I.ok.wish E,I.os,I.bare,I.base,I.loc,I.cell,I.free,I.freeC,I.pin,I.hok,I.len⟩
theorem Inv.unwish (I:Inv (X.wish E) pins U H s):Inv X pins U H s:=⟨I.ok.unwish,I.os,I.bare,I.base,I.loc,I.cell,I.free,I.freeC,I.pin,I.hok,I.len⟩
theorem SP.unwish {D:Ends} {f:Flow} {s':Shared} (h:SP (X.wish E) pins D f s'):SP X pins D f s':=by
 cases f with
 | next=>obtain ⟨σ',H',I,q⟩:=h;exact ⟨σ',H',I.unwish,q⟩
 | brk=>obtain ⟨σ',H',I,q⟩:=h;exact ⟨σ',H',I.unwish,q⟩
 | cont=>obtain ⟨σ',H',I,q⟩:=h;exact ⟨σ',H',I.unwish,q⟩
 | ret u=>obtain ⟨v,σ',H',I,r,q⟩:=h;exact ⟨v,σ',H',I.unwish,r,q⟩
theorem PE.nox {e:Expr} {t:TE} (h:PE X.nox e t):PE X e t:=fun pins s U H Q I hw=>
 wpAny_mono (h pins s U H Q (I.wish _) hw) (fun _ _ ⟨v,H',I',r,q⟩=>⟨v,H',I'.unwish,r,q⟩) fun _ _ z=>False.elim z
theorem PT.nox {e:Expr} {t:TT} (h:PT X.nox e t):PT X e t:=fun pins s U H Q I hw=>
 wpAny_mono (h pins s U H Q (I.wish _) hw) (fun _ _ ⟨H',I',q⟩=>⟨H',I'.unwish,q⟩) fun _ _ z=>False.elim z
theorem PSs.nox {st:List Stmt} {t:TS} (h:PSs X.nox st t):PSs X st t:=fun pins s U H D I hw=>
 wpAny_mono (h pins s U H D (I.wish _) hw) (fun _ _ q=>q.unwish) fun _ _ z=>False.elim z
end
section
variable {X:Cx} {st:Stmt} {rest:List Stmt} {t u:TS} {e:Expr} {te:TE} {pos:Pos}
noncomputable def zql:TS:=fun D U H=>D.nx U H
noncomputable def zz2 (t u:TS):TS:=fun D U H=>t { D with nx:=u D } U H
theorem pss_nil:PSs X [] zql:=fun _ _ U H _ I h=>wpAny_execs_nil ⟨U,H,I,h⟩
theorem ziu (h1:PS X st t) (h2:PSs X rest u):PSs X (st::rest) (zz2 t u):=by
 intro pins s U H D I h
 refine wpAny_execs_cons (thn (h1 pins s U H { D with nx:=u D } I h) fun f s1 q=>?_)
 cases f with
 | next=>
  obtain ⟨σ',H',I',q⟩:=q
  exact h2 pins s1 σ' H' D I' q
 | ret v=>exact q
 | brk=>exact q
 | cont=>exact q
theorem zml (h1:PS X st t):PSs X [st] t:=by
 intro pins s U H D I h
 refine wpAny_execs_cons (thn (h1 pins s U H D I h) fun f s1 q=>?_)
 cases f with
 | next=>exact wpAny_execs_nil q
 | ret v=>exact q
 | brk=>exact q
 | cont=>exact q
theorem Inv.quiet {pins:List (Addr×Obj)} {U:St} {H:Hp} {s:Shared} (I:Inv X pins U H s):interactive X.env=false:=by simp [interactive,I.ok.kind]
noncomputable def ziv (te:TE):TS:=fun D U H=>te U H fun _ H1=>D.nx U H1
theorem zez (he:PE X e te) (hs:swapsWith e none pos.line X.env=pure false:=by rfl):PS X (.Expr e pos) (ziv te):=by
 intro pins s U H D I h
 exact wpAny_Expr_any (thn (he pins s U H _ I h) fun v s1 ⟨x,H1,I1,r1,q1⟩=>⟨U,H1,I1,q1⟩) I.quiet hs
noncomputable def zw2 (te:TE):TS:=fun D U H=>te U H D.rt
theorem zky (he:PE X e te):PS X (.Return (some e) pos) (zw2 te):=by
 intro pins s U H D I h
 exact wpAny_Return_some (thn (he pins s U H _ I h) fun v s1 ⟨x,H1,I1,r1,q1⟩=>⟨x,U,H1,I1,r1,q1⟩)
noncomputable def zz3 (c:TT) (t u:TS):TS:=fun D U H=>c U H fun b H1=>if b=true then t D U H1 else u D U H1
theorem zw3 {c:Expr} {a b:List Stmt} {tc:TT} (hc:PT X c tc) (ha:PSs X a t) (hb:PSs X b u):PS X (.If c a b pos) (zz3 tc t u):=by
 intro pins s U H D I h
 refine wpAny_If (thn (hc pins s U H _ I h) fun d s1 ⟨H1,I1,q1⟩=>?_)
 cases d with
 | true=>exact ha pins s1 U H1 D I1 q1
 | false=>exact hb pins s1 U H1 D I1 q1
noncomputable def zkz:TS:=fun _ _ _=>False
theorem ps_never:PS X st zkz:=fun _ _ _ _ _ _ h=>h.elim
end
abbrev TG:=V->St->Hp->(St->Hp->Prop)->Prop
abbrev TGs:=List V->St->Hp->(St->Hp->Prop)->Prop
def PG (X:Cx) (target:Expr) (t:TG):Prop:=
 ∀(pins:List (Addr×Obj)) (s:Shared) (U:St) (H:Hp) (v:V) (u:Value) (Q:St->Hp->Prop),Inv X pins U H s->RelV v u->t v U H Q ->
  wpAny (model X.prog X.w) X.A (assign target X.env u) (fun _ s'=>∃σ' H',Inv X pins σ' H' s'/\Q σ' H') X.xe s
def PGs (X:Cx) (ts:List Expr) (t:TGs):Prop:=
 ∀(pins:List (Addr×Obj)) (s:Shared) (U:St) (H:Hp) (vs:List V) (us:List Value) (Q:St->Hp->Prop),Inv X pins U H s->Vals vs us->t vs U H Q ->
  wpAny (model X.prog X.w) X.A (assignInOrder ((assignEach ts X.env).map (·.2)) us) (fun _ s'=>∃σ' H',Inv X pins σ' H' s'/\Q σ' H') X.xe s
abbrev zq1:=V->V->V->Hp->(Hp->Prop)->Prop
def zz4 (X:Cx) (t:zq1):Prop:=
 ∀(pins:List (Addr×Obj)) (s:Shared) (U:St) (H:Hp) (o i v:V) (ov iv u:Value) (Q:Hp->Prop),Inv X pins U H s->RelV o ov->RelV i iv->RelV v u->t o i v H Q ->
  wpAny (model X.prog X.w) X.A (setItem ov iv u) (fun _ s'=>∃H',Inv X pins U H' s'/\Q H') X.xe s
section
variable {X:Cx} {pos:Pos}
noncomputable def z2e (i:Nat):TG:=fun v U H Q=>Q (U.set i (some v)) H
theorem zbf {i:Nat} {x:Str} (hN:X.N.Nodup) (hi:X.N[i]?=some x) (hx:Loc X.env.scope x) (hf:X.fn x=true\/X.env.scope.names.lookup x=some .local):PG X (.Name x pos) (z2e i):=by
 intro pins s U H v u Q I r h
 exact wpAny_assign_Name (zcq I hN hi hx r (fun s' I'=>⟨_,H,I',h⟩) hf)
noncomputable def zqm:TGs:=fun vs U H Q=>vs=[]/\Q U H
noncomputable def z6i (t:TG) (u:TGs):TGs:=fun vs U H Q=>∃v r,vs=v::r/\t v U H fun σ' H'=>u r σ' H' Q
theorem pgs_nil:PGs X [] zqm:=by
 intro pins s U H vs us Q I r h
 obtain ⟨e,h⟩:=h
 subst e
 cases r
 exact assignInOrder_nil ⟨U,H,I,h⟩
theorem z3n {e:Expr} {es:List Expr} {t:TG} {u:TGs} (h1:PG X e t) (h2:PGs X es u)
  (hs:(assignEach (e::es) X.env).map (·.2)=assign e X.env::(assignEach es X.env).map (·.2):=by rfl):PGs X (e::es) (z6i t u):=by
 intro pins s U H vs us Q I r h
 obtain ⟨v,vr,e1,h⟩:=h
 subst e1
 cases r with
 | cons r rr=>
  rw [hs]
  refine assignInOrder_cons (thn (h1 pins s U H _ _ _ I r h) fun _ s1 ⟨σ1,H1,I1,q1⟩=>?_)
  exact h2 pins s1 σ1 H1 _ _ Q I1 rr q1
noncomputable def zqn (K:Frag) (n:Nat) (t:TGs):TG:=fun v U H Q=>∃a xs,v=.ref a/\SqT K H a xs/\xs.length=n/\t xs U H Q
theorem zf0 {es:List Expr} {k:Nat} {t:TGs} {n:Nat} (hc:X.calm=true) (h:PGs X es t)
  (hn:(assignEach es X.env).length=n:=by rfl) (hst:(assignEach es X.env).findIdx? (·.1)=none:=by rfl):PG X (.Tuple es k pos) (zqn X.K n t):=by
 intro pins s U H v u Q I r hw
 obtain ⟨a,xs,e1,hq,hl,hw⟩:=hw
 subst e1
 cases r
 obtain ⟨its,rv,ht,hz⟩:=I.tuple hq
 refine assign_Tuple_tuple (I.ok.hd hc) ht (by simp [hn,<-hl,rv.length]) hst fun h' hx=>?_
 have I1:Inv X pins U H { s with heap:=h' }:=I.kept (t':=s.toks) fun b o e=>hx b o (Nat.ne_of_lt (Heap.lt_size e)) e
 exact h pins _ U H xs _ Q I1 (by simpa using rv) hw
noncomputable def zw4 (to ti:TE) (t:zq1):TG:=fun v U H Q=>to U H fun o H1=>ti U H1 fun i H2=>t o i v H2 fun H3=>Q U H3
theorem zqo {o i:Expr} {to ti:TE} {t:zq1} (ho:PE X o to) (hi:PE X i ti) (hs:zz4 X t)
  (ha:∀v,assign (.Subscript o i pos) X.env v=(do
   let ov <-holding [v] (eval o X.env)
   let iv <-holding [v,ov] (eval i X.env)
   standAt pos
   holding [v,ov,iv] (setItem ov iv v)
   release [v,ov,iv] []):=by intro _;rfl):PG X (.Subscript o i pos) (zw4 to ti t):=by
 intro pins s U H v u Q I r h
 rw [ha]
 refine wpAny_bind (wpAny_holding (thn (ho pins s U H _ I h) fun ov s1 ⟨x,H1,I1,r1,q1⟩=>?_))
 refine wpAny_bind (wpAny_holding (thn (hi pins s1 U H1 _ I1 q1) fun iv s2 ⟨y,H2,I2,r2,q2⟩=>?_))
 refine wpAny_bind (wpAny_standAt (wpAny_bind (wpAny_holding (thn (hs pins s2 U H2 x y v ov iv u _ I2 r1 r2 r q2) fun _ s3 ⟨H3,I3,q3⟩=>?_))))
 exact wpAny_release ⟨U,H3,I3,q3⟩
noncomputable def zf1 (te:TE) (g:TG):TS:=fun D U H=>te U H fun x H1=>g x U H1 D.nx
theorem zl0 {tg e:Expr} {te:TE} {g:TG} (he:PE X e te) (hg:PG X tg g) (hs:swapsWithSole [tg] e pos.line X.env=pure false:=by rfl) (hw:swappedStores [tg] e X.env=pure none:=by rfl)
  (h1:(assignEach [tg] X.env).map (·.2)=[assign tg X.env]:=by rfl):PS X (.Assign [tg] e pos) (zf1 te g):=by
 intro pins s U H D I h
 refine wpAny_Assign_stores (thn (he pins s U H _ I h) fun v s1 ⟨x,H1,I1,r1,q1⟩=>?_) hs hw
 rw [h1]
 exact thn (hg pins s1 U H1 x v _ I1 r1 q1) fun _ s2 q=>q
theorem zqp {i:Nat} {x:Str} {e:Expr} {te:TE} {pos':Pos} (hN:X.N.Nodup) (hi:X.N[i]?=some x) (hx:Loc X.env.scope x) (he:PE X e te) (hs:swapsWith e (some (.Name x pos')) pos.line X.env=pure false:=by rfl) (hf:X.fn x=true\/X.env.scope.names.lookup x=some .local) :
  PS X (.Assign [.Name x pos'] e pos) (zf1 te (z2e i)):=by
 intro pins s U H D I h
 refine wpAny_Assign_Name (thn (he pins s U H _ I h) fun v s1 ⟨y,H1,I1,r1,q1⟩=>?_) hs
 exact zcq I1 hN hi hx r1 (fun s2 I2=>⟨_,H1,I2,q1⟩) hf
end
section
variable {X:Cx} {pos:Pos}
noncomputable def zl1 (c:TT) (tb:TS):TS:=fun D U H=>∃W:Nat->St->Hp->Prop,(∃m,W m U H)/\∀m U H,W m U H ->
 c U H fun b H1=>if b=true then ∃N:St->Hp->Prop,(∀σ' H',N σ' H'->∃m',m'<m/\W m' σ' H')/\tb { D with nx:=N,ct:=N,bk:=D.nx } U H1 else D.nx U H1
theorem ziw {c:Expr} {body:List Stmt} {tc:TT} {tb:TS} (hp:PassesOwn (model X.prog X.w) X.A X.env X.xe) (hc:PT X c tc) (hb:PSs X body tb):PS X (.While c body [] pos) (zl1 tc tb):=by
 intro pins s U H D I h
 obtain ⟨W,⟨m0,w0⟩,turn⟩:=h
 refine wpAny_While (codeAny_whileLoop (fun n s'=>∃σ' H',Inv X pins σ' H' s'/\W n σ' H') ?_ m0 ⟨U,H,I,w0⟩)
 rintro n s1 ⟨σ1,H1,I1,w1⟩
 refine wpAny_passesOwn hp (thn (hc pins s1 σ1 H1 _ I1 (turn n σ1 H1 w1)) fun b s2 ⟨H2,I2,q2⟩=>?_)
 cases b with
 | true=>
  obtain ⟨N,hN,q2⟩:=q2
  rw [if_pos rfl]
  refine wpAny_passesOwn hp (thn (hb pins s2 σ1 H2 _ I2 q2) fun f s3 q3=>?_)
  cases f with
  | next=>
   obtain ⟨σ3,H3,I3,n3⟩:=q3
   obtain ⟨m',hm,w3⟩:=hN σ3 H3 n3
   exact ⟨m',hm,σ3,H3,I3,w3⟩
  | cont=>
   obtain ⟨σ3,H3,I3,n3⟩:=q3
   obtain ⟨m',hm,w3⟩:=hN σ3 H3 n3
   exact ⟨m',hm,σ3,H3,I3,w3⟩
  | brk=>exact q3
  | ret v=>exact q3
 | false=>
  rw [if_neg Bool.false_ne_true]
  exact wpAny_execs_nil ⟨σ1,H2,I2,q2⟩
end
structure It where
 go:Nat->Hp->Prop
 yld:Nat->Hp->V->Hp->Prop
 stop:Nat->Hp->Prop
def zf2 (X:Cx) (pins:List (Addr×Obj)) (H:Hp) (b:Addr):Prop:=
 H b=none/\b≠X.env.locals/\b∉X.fs/\(b∈X.ex\/X.s₀.heap.objs.size<=b)/\(∀x c,X.env.cells.lookup x=some c->c≠b)/\∀p∈X.pn++pins,p.1≠b
theorem Inv.fpOk {X:Cx} {pins:List (Addr×Obj)} {U:St} {H H':Hp} {s:Shared} {b:Addr} (I:Inv X pins U H s) (hb:s.heap.objs.size<=b) (hn:H' b=none):zf2 X pins H' b:=by
 refine ⟨hn,Nat.ne_of_gt (Nat.lt_of_lt_of_le I.lt hb),I.nofs hb,.inr (Nat.le_trans I.sz hb),fun x c e z=>?_,fun p hp z=>?_⟩
 . obtain ⟨v,q⟩:=I.cell x c e
   exact absurd (Nat.lt_of_lt_of_le q.lt (by rw [z];exact hb)) (Nat.lt_irrefl _)
 . exact absurd (Nat.lt_of_lt_of_le (Heap.lt_size (I.pin p hp).1) (by rw [z];exact hb)) (Nat.lt_irrefl _)
structure Turn (P:Program) (w:World) (K:Frag) (tg:Expr) (J:It) (fp:List Addr) (it:Addr) (tn:Nat->Heap->Prop):Prop where
 mem:it∈fp
 obj:∀i h,tn i h->∀b∈fp,∃o,h.get? b=some o/\∀v,o.data≠.cell v
 keep:∀i h h',tn i h->(∀b∈fp,∀o,h.get? b=some o->h'.get? b=some o)->tn i h'
 item:∀(X:Cx),X.prog=P->X.w=w->X.K=K->X.calm=true->∀(i:Nat) (pins:List (Addr×Obj)) (s:Shared) (U:St) (H:Hp) (E:Value->Shared->Prop),Inv X pins U H s->(∀b∈fp,zf2 X pins H b)->tn i s.heap->J.go i H ->
  wpAny (model P w) X.A (pyNext (.ref it)) (fun r s1=>∃u,r=some u /\
   wpAny (model P w) X.A (letOwnedTupleGo tg (.ref it) u) (fun _ s2=>∃x H',Inv X pins U H' s2/\RelV x u/\J.yld i H x H'/\tn (i+1) s2.heap/\∀b∈fp,H' b=none) E s1) E s
 done:∀(X:Cx),X.prog=P->X.w=w->X.K=K->X.calm=true->∀(i:Nat) (pins:List (Addr×Obj)) (s:Shared) (U:St) (H:Hp) (E:Value->Shared->Prop),Inv X pins U H s->(∀b∈fp,zf2 X pins H b)->tn i s.heap->J.stop i H ->
  wpAny (model P w) X.A (pyNext (.ref it)) (fun r s1=>r=none/\Inv X pins U H s1) E s
 self:∀(A:Around) (i:Nat) (s:Shared) (Q:Value->Shared->Prop) (E:Value->Shared->Prop),tn i s.heap->Q (.ref it) s->wpAny (model P w) A (pyIter (.ref it)) Q E s
abbrev TI:=St->Hp->(It->Hp->Prop)->Prop
def PIE (X:Cx) (pins:List (Addr×Obj)) (U:St) (tg:Expr) (R:It->Hp->Prop) (itv:Value) (s2:Shared):Prop:=
 ∃(it:Addr) (fp:List Addr) (tn:Nat->Heap->Prop) (J:It) (H':Hp),itv=.ref it/\Inv X pins U H' s2/\Turn X.prog X.w X.K tg J fp it tn/\tn 0 s2.heap/\(∀b∈fp,zf2 X pins H' b)/\R J H'
def PI (X:Cx) (tg iter:Expr) (wi:TI):Prop:=
 ∀(pins:List (Addr×Obj)) (s:Shared) (U:St) (H:Hp) (R:It->Hp->Prop),Inv X pins U H s->wi U H R ->
  wpAny (model X.prog X.w) X.A (eval iter X.env) (fun v s1=>wpAny (model X.prog X.w) X.A (pyIter v) (PIE X pins U tg R) X.xe s1) X.xe s
theorem zmm {M:Model} {A:Around} {E:Value->Shared->Prop} {s:Shared} {tg:Expr} {it:Addr} {u:Value} {o:Obj} {n:String} {vs:Array Value} {Q:Unit->Shared->Prop} (ho:s.heap.get? it=some o) (hc:o.cls=.type n) (hd:o.data=.fields vs)
  (hn:["enumerate","zip","dict_itemiterator","dict_reverseitemiterator","odict_iterator","itertools.zip_longest","itertools.pairwise"].contains n=false) (hQ:Q () s):wpAny M A (letOwnedTupleGo tg (.ref it) u) Q E s:=by
 unfold letOwnedTupleGo
 cases tg<;>first
  | exact wpAny_pure hQ
  | (cases u<;>first
   | exact wpAny_pure hQ
   | (refine wpAny_bind (wpAny_load ho ?_)
      rw [hc,hd]
      show wpAny M A (if (["enumerate","zip","dict_itemiterator","dict_reverseitemiterator","odict_iterator","itertools.zip_longest","itertools.pairwise"].contains n&&vs[0]?==some (rawInt _))=true then _ else _) Q E s
      rw [if_neg (by intro h;rw [hn,Bool.false_and] at h;cases h)]
      exact wpAny_pure hQ))
noncomputable def Itl (K:Frag) (a:Addr):It:=
 ⟨fun i H=>∃xs x,SqL K H a xs/\xs[i]?=some x,fun i H x H'=>H'=H/\∀xs,SqL K H a xs->xs[i]?=some x,fun i H=>∃xs,SqL K H a xs/\xs.length<=i⟩
noncomputable def Itt (K:Frag) (a:Addr):It:=
 ⟨fun i H=>∃xs x,SqT K H a xs/\xs[i]?=some x,fun i H x H'=>H'=H/\∀xs,SqT K H a xs->xs[i]?=some x,fun i H=>∃xs,SqT K H a xs/\xs.length<=i⟩
noncomputable def Itr (lo:Int) (n:Nat):It:=⟨fun i _=>i<n,fun i H x H'=>H'=H/\x=.int (lo+i),fun i _=>n<=i⟩
theorem zf3 {P:Program} {w:World} {K:Frag} {tg:Expr} (a it:Addr):Turn P w K tg (Itl K a) [it] it (fun i h=>h.IsListIter it a i) where
 mem:=by simp
 obj:=fun i h st b hb=>by
  have e:b=it:=by simpa using hb
  subst e
  obtain ⟨o,e,c,d⟩:=st
  exact ⟨o,e,fun v z=>by rw [d] at z;cases z⟩
 keep:=fun i h h' st k=>st.at fun o e=>k it (by simp) o e
 item:=by
  intro X hP hw hK hc i pins s U H E I hf st hg
  subst hP hw hK
  obtain ⟨xs,x,hq,hx⟩:=hg
  obtain ⟨its,rv,p,hz⟩:=I.list hq
  obtain ⟨u,hu,ru⟩:=rv.get hx
  obtain ⟨f0,f1,f2,f3,f4,f5⟩:=hf it (by simp)
  refine wpAny_pyNext_list_item st p.isList (x:=u) (by simpa using hu) fun h' st' sb=>?_
  have I1:Inv X pins U H { s with heap:=h' }:=I.turned (t':=s.toks) (fun b o hb e=>(sb.2 b hb).trans e) f0 f1 f3 f4 f5
  obtain ⟨o,e,c,d⟩:=id st'
  exact ⟨u,rfl,zmm (s:={ s with heap:=h' }) e c d (by decide) ⟨x,H,I1,ru,⟨rfl,fun ys hy=>by rw [I.list_inj hy hq];exact hx⟩,st',fun b hb=>(hf b hb).1⟩⟩
 done:=by
  intro X hP hw hK hc i pins s U H E I hf st hg
  subst hP hw hK
  obtain ⟨xs,hq,hx⟩:=hg
  obtain ⟨its,rv,p,hz⟩:=I.list hq
  obtain ⟨f0,f1,f2,f3,f4,f5⟩:=hf it (by simp)
  have hl:=rv.length
  exact wpAny_pyNext_list_end (I.ok.hd hc) st p.isList (by simp;lia) fun h' eb=>⟨rfl,I.turned (t':=s.toks) (fun b o hb e=>eb b o hb e) f0 f1 f3 f4 f5⟩
 self:=fun _ _ _ _ _ st h=>wpAny_pyIter_listiter st h
theorem ze1 {P:Program} {w:World} {K:Frag} {tg:Expr} (a it:Addr):Turn P w K tg (Itt K a) [it] it (fun i h=>h.IsTupleIter it a i) where
 mem:=by simp
 obj:=fun i h st b hb=>by
  have e:b=it:=by simpa using hb
  subst e
  obtain ⟨o,e,c,d⟩:=st
  exact ⟨o,e,fun v z=>by rw [d] at z;cases z⟩
 keep:=fun i h h' st k=>st.at fun o e=>k it (by simp) o e
 item:=by
  intro X hP hw hK hc i pins s U H E I hf st hg
  subst hP hw hK
  obtain ⟨xs,x,hq,hx⟩:=hg
  obtain ⟨its,rv,p,hz⟩:=I.tuple hq
  obtain ⟨u,hu,ru⟩:=rv.get hx
  obtain ⟨f0,f1,f2,f3,f4,f5⟩:=hf it (by simp)
  refine wpAny_pyNext_tuple_item st (show s.heap.IsTuple a its.toArray from p) (x:=u) (by simpa using hu) fun h' st' sb=>?_
  have I1:Inv X pins U H { s with heap:=h' }:=I.turned (t':=s.toks) (fun b o hb e=>(sb.2 b hb).trans e) f0 f1 f3 f4 f5
  obtain ⟨o,e,c,d⟩:=id st'
  exact ⟨u,rfl,zmm (s:={ s with heap:=h' }) e c d (by decide) ⟨x,H,I1,ru,⟨rfl,fun ys hy=>by rw [I.tuple_inj hy hq];exact hx⟩,st',fun b hb=>(hf b hb).1⟩⟩
 done:=by
  intro X hP hw hK hc i pins s U H E I hf st hg
  subst hP hw hK
  obtain ⟨xs,hq,hx⟩:=hg
  obtain ⟨its,rv,p,hz⟩:=I.tuple hq
  obtain ⟨f0,f1,f2,f3,f4,f5⟩:=hf it (by simp)
  have hl:=rv.length
  exact wpAny_pyNext_tuple_end (I.ok.hd hc) st (show s.heap.IsTuple a its.toArray from p) (by simp;lia) fun h' eb=>⟨rfl,I.turned (t':=s.toks) (fun b o hb e=>eb b o hb e) f0 f1 f3 f4 f5⟩
 self:=fun _ _ _ _ _ st h=>wpAny_pyIter_tupleiter st h
theorem ze2 {P:Program} {w:World} {K:Frag} {tg:Expr} (it:Addr) (lo:Int) (n:Nat):Turn P w K tg (Itr lo n) [it] it (fun i h=>IsRangeIter h it (lo+(i:Nat) * 1) ((n:Int) - (i:Nat)) 1) where
 mem:=by simp
 obj:=fun i h st b hb=>by
  have e:b=it:=by simpa using hb
  subst e
  exact ⟨_,st,fun v z=>by
   have z':Data.fields _=Data.cell v:=z
   cases z'⟩
 keep:=fun i h h' st k=>k it (by simp) _ st
 item:=by
  intro X hP hw hK hc i pins s U H E I hf st hg
  subst hP hw hK
  obtain ⟨f0,f1,f2,f3,f4,f5⟩:=hf it (by simp)
  have W:=Walks.range (prog:=X.prog) (w:=X.w) (I.ok.hd hc) it lo 1 n
  refine W.item i s _ _ hg st fun v h' tk hv st' kk=>?_
  obtain ⟨t,rfl⟩:=hv
  have I1:Inv X pins U H { s with heap:=h',toks:=tk }:=I.turned (fun b o hb e=>kk b o (by simpa using hb) e) f0 f1 f3 f4 f5
  refine ⟨_,rfl,zmm (s:={ s with heap:=h',toks:=tk }) (n:="range_iterator") st' rfl rfl (by decide) ⟨.int (lo+i),H,I1,⟨t,?_⟩,⟨rfl,rfl⟩,st',fun b hb=>(hf b hb).1⟩⟩
  rw [Int.mul_one]
 done:=by
  intro X hP hw hK hc i pins s U H E I hf st hg
  subst hP hw hK
  obtain ⟨f0,f1,f2,f3,f4,f5⟩:=hf it (by simp)
  exact wpAny_pyNext_range_end (I.ok.hd hc) st (by have:n<=i:=hg;lia) fun h' eb=>⟨rfl,I.turned (t':=s.toks) (fun b o hb e=>eb b o hb e) f0 f1 f3 f4 f5⟩
 self:=fun _ _ _ _ _ st h=>wpAny_pyIter_rangeiter st h
section
variable {X:Cx} {tg:Expr}
theorem zix {pins:List (Addr×Obj)} {U:St} {H:Hp} {s:Shared} {R:It->Hp->Prop} {E:Value->Shared->Prop} {lo hi:Int} {t u v:Tok} {tk:Nat} (I:Inv X pins U H s) (h1:-(2 ^ 62)<=lo) (h2:lo<2 ^ 62) (h3:-(2 ^ 62)<=hi) (h4:hi<2 ^ 62)
  (q:R (Itr lo (hi - lo).toNat) H):wpAny (model X.prog X.w) X.A (pyIter (.ref s.heap.objs.size)) (PIE X pins U tg R) E { s with heap:=s.heap.push { cls:=.type "range",data:=.fields #[.int lo t,.int hi u,.int 1 v] },toks:=tk }:=by
 refine wpAny_pyIter_range (IsRange.new ..) (small_one h1 h2 h3 h4) ?_
 have I1:Inv X pins U H { s with heap:=s.heap.push { cls:=.type "range",data:=.fields #[.int lo t,.int hi u,.int 1 v] },toks:=tk }:=I.kept fun b o e=>Heap.get?_push_of_some _ e
 refine ⟨(s.heap.push { cls:=.type "range",data:=.fields #[.int lo t,.int hi u,.int 1 v] }).objs.size,[(s.heap.push { cls:=.type "range",data:=.fields #[.int lo t,.int hi u,.int 1 v] }).objs.size],_,_,H,rfl,
  I1.kept (t':=tk) fun b o e=>Heap.get?_push_of_some _ e,ze2 _ lo (hi - lo).toNat,?_,fun b hb=>?_,q⟩
 . have e1:lo+((0:Nat):Int) * 1=lo:=by simp
   have e2:(((hi - lo).toNat:Nat):Int) - ((0:Nat):Int)=Builtin.Range.rangeSize lo hi 1:=by rw [rangeSize_one];split<;>lia
   show IsRangeIter _ _ (lo+((0:Nat):Int) * 1) ((((hi - lo).toNat:Nat):Int) - ((0:Nat):Int)) 1
   rw [e1,e2]
   exact Heap.get?_push_size _ rfl
 . have e:b=(s.heap.push { cls:=.type "range",data:=.fields #[.int lo t,.int hi u,.int 1 v] }).objs.size:=by simpa using hb
   subst e
   exact I1.fpOk (Nat.le_refl _) (I1.hok.fresh (Nat.le_refl _))
noncomputable def zzz (wi:TI) (g:TG) (tb:TS):TS:=fun D U H=>wi U H fun J H1=>∃W:Nat->Nat->St->Hp->Prop,(∃m,W 0 m U H1)/\∀i m U H,W i m U H ->
 (J.stop i H/\D.nx U H)\/(J.go i H/\∃N:St->Hp->Prop,(∀σ' H',N σ' H'->∃m',m'<m/\W (i+1) m' σ' H')/\∀x H',J.yld i H x H'->g x U H' fun σ2 H2=>tb { D with nx:=N,ct:=N,bk:=D.nx } σ2 H2)
noncomputable def z9v (fp:List Addr) (h:Heap):List (Addr×Obj):=fp.filterMap fun b=>(h.get? b).map fun o=>(b,o)
theorem z3o {fp:List Addr} {h:Heap} {b:Addr} {o:Obj} (hb:b∈fp) (e:h.get? b=some o):(b,o)∈z9v fp h:=List.mem_filterMap.mpr ⟨b,hb,by rw [e];rfl⟩
theorem zf4 {fp:List Addr} {h:Heap} {p:Addr×Obj} (hp:p∈z9v fp h):p.1∈fp/\h.get? p.1=some p.2:=by
 obtain ⟨b,hb,e⟩:=List.mem_filterMap.mp hp
 cases q:h.get? b with
 | none=>rw [q] at e;cases e
 | some o=>
  rw [q] at e
  have e':(b,o)=p:=Option.some.inj e
  subst e'
  exact ⟨hb,q⟩
theorem Inv.pinned {pins:List (Addr×Obj)} {U:St} {H:Hp} {s:Shared} {fp:List Addr} (I:Inv X pins U H s) (hf:∀b∈fp,zf2 X pins H b) (ho:∀b∈fp,∃o,s.heap.get? b=some o/\∀v,o.data≠.cell v):Inv X (pins++z9v fp s.heap) U H s:=
 I.pins_of fun p hp=>(List.mem_append.mp hp).elim (fun z=>I.pin p (List.mem_append_right _ z)) fun z=>by
  obtain ⟨hb,e⟩:=zf4 z
  obtain ⟨f0,f1,f2,_⟩:=hf p.1 hb
  obtain ⟨o,e',d⟩:=ho p.1 hb
  rw [e] at e';cases e'
  exact ⟨e,f0,f1,f2,d⟩
theorem Inv.unpinned {pins pl:List (Addr×Obj)} {U:St} {H:Hp} {s:Shared} (I:Inv X (pins++pl) U H s):Inv X pins U H s:=I.pins_of fun p hp=>I.pin p (List.mem_append_right _ (List.mem_append_left _ hp))
theorem zqq {iter:Expr} {body:List Stmt} {wi:TI} {g:TG} {tb:TS} {pos:Pos} (hp:PassesOwn (model X.prog X.w) X.A X.env X.xe) (hc:X.calm=true) (hi:PI X tg iter wi) (hg:PG X tg g) (hb:PSs X body tb)
  (hs:∀x,foldedSetIterable iter X.env x=pure x:=by intro _;rfl):PS X (.For tg iter body [] pos) (zzz wi g tb):=by
 intro pins s U H D I h
 refine wpAny_For (thn (hi pins s U H _ I h) fun v s1 h1=>thn h1 fun itv s2 h2=>?_) hs
 obtain ⟨it,fp,tn,J,H2,e,I2,T,st2,f2,W,⟨m0,w0⟩,turn⟩:=h2
 subst e
 have stat:∀{H':Hp},(∀b∈fp,H' b=none)->∀b∈fp,zf2 X pins H' b:=fun hn b hb=>⟨hn b hb,(f2 b hb).2⟩
 refine codeAny_forLoop_any (fun n s'=>∃i σ' H',Inv X pins σ' H' s'/\tn i s'.heap/\(∀b∈fp,H' b=none)/\W i n σ' H') ?_ m0 ⟨0,U,H2,I2,st2,fun b hb=>(f2 b hb).1,w0⟩
 rintro n s3 ⟨i,σ3,H3,I3,st3,fr3,w3⟩
 rcases turn i n σ3 H3 w3 with ⟨stop,qn⟩ | ⟨go,N,hN,step⟩
 . refine wpAny_passesOwn hp (thn (T.done X rfl rfl rfl hc i pins s3 σ3 H3 X.xe I3 (stat fr3) st3 stop) fun r s4 ⟨hr,I4⟩=>?_)
   subst hr
   exact wpAny_execs_nil ⟨σ3,H3,I4,qn⟩
 . refine wpAny_passesOwn hp (thn (T.item X rfl rfl rfl hc i pins s3 σ3 H3 X.xe I3 (stat fr3) st3 go) fun r s4 ⟨u,hr,h4⟩=>?_)
   subst hr
   refine wpAny_passesOwn hp (thn h4 fun _ s5 ⟨x,H5,I5,r5,y5,st5,fr5⟩=>?_)
   have I5':=I5.pinned (stat fr5) (T.obj _ _ st5)
   refine wpAny_passesOwn hp (thn (hg _ s5 σ3 H5 x u _ I5' r5 (step x H5 y5)) fun _ s6 ⟨σ6,H6,I6,q6⟩=>?_)
   refine wpAny_passesOwn hp (thn (hb _ s6 σ6 H6 _ I6 q6) fun f s7 q7=>?_)
   have again:∀{σ7:St} {H7:Hp},Inv X (pins++z9v fp s5.heap) σ7 H7 s7->N σ7 H7->∃m,m<n/\∃i σ' H',Inv X pins σ' H' s7/\tn i s7.heap/\(∀b∈fp,H' b=none)/\W i m σ' H':=fun {σ7 H7} I7 n7=>by
    obtain ⟨m',hm,w7⟩:=hN σ7 H7 n7
    refine ⟨m',hm,i+1,σ7,H7,I7.unpinned,T.keep _ _ _ st5 fun b hb o e=>(I7.pin (b,o) (List.mem_append_right _ (List.mem_append_right _ (z3o hb e)))).1,fun b hb=>?_,w7⟩
    obtain ⟨o,e,d⟩:=T.obj _ _ st5 b hb
    exact (I7.pin (b,o) (List.mem_append_right _ (List.mem_append_right _ (z3o hb e)))).2.1
   cases f with
   | next=>obtain ⟨σ7,H7,I7,n7⟩:=q7;exact again I7 n7
   | cont=>obtain ⟨σ7,H7,I7,n7⟩:=q7;exact again I7 n7
   | brk=>obtain ⟨σ7,H7,I7,q7⟩:=q7;exact ⟨σ7,H7,I7.unpinned,q7⟩
   | ret v=>obtain ⟨x7,σ7,H7,I7,r7,q7⟩:=q7;exact ⟨x7,σ7,H7,I7.unpinned,r7,q7⟩
end
abbrev R2:=V->V->Hp->VK->Prop
def OpR (X:Cx) (f:Value->Value->Sem Value) (r:R2):Prop:=
 ∀(pins:List (Addr×Obj)) (s:Shared) (U:St) (H:Hp) (x y:V) (v u:Value) (Q:VK),Inv X pins U H s->RelV x v->RelV y u->r x y H Q ->
  wpAny (model X.prog X.w) X.A (f v u) (EP X pins U Q) X.xe s
def UnR (X:Cx) (f:Value->Sem Value) (r:V->Hp->VK->Prop):Prop:=
 ∀(pins:List (Addr×Obj)) (s:Shared) (U:St) (H:Hp) (x:V) (v:Value) (Q:VK),Inv X pins U H s->RelV x v->r x H Q ->
  wpAny (model X.prog X.w) X.A (f v) (EP X pins U Q) X.xe s
def CallR (X:Cx) (f:Value) (r:List V->Hp->VK->Prop):Prop:=
 ∀(pins:List (Addr×Obj)) (s:Shared) (U:St) (H:Hp) (xs:List V) (us:List Value) (Q:VK),Inv X pins U H s->Vals xs us->r xs H Q ->
  wpAny (model X.prog X.w) X.A (call f us) (EP X pins U Q) X.xe s
def y00 (X:Cx) (r:V->Hp->(Bool->Hp->Prop)->Prop):Prop:=
 ∀(pins:List (Addr×Obj)) (s:Shared) (U:St) (H:Hp) (x:V) (v:Value) (Q:Bool->Hp->Prop),Inv X pins U H s->RelV x v->r x H Q ->
  wpAny (model X.prog X.w) X.A (truthy v) (TP X pins U Q) X.xe s
noncomputable def tOp (r:R2) (ta tb:TE):TE:=fun U H Q=>ta U H fun x H1=>tb U H1 fun y H2=>r x y H2 Q
noncomputable def tUn (r:V->Hp->VK->Prop) (ta:TE):TE:=fun U H Q=>ta U H fun x H1=>r x H1 Q
noncomputable def rI (C:Int->Int->Prop) (g:Int->Int->V):R2:=fun x y H Q=>∃i j,x=.int i/\y=.int j/\C i j/\Q (g i j) H
noncomputable def rI0 (g:Int->Int->V):R2:=fun x y H Q=>∃i j,x=.int i/\y=.int j/\Q (g i j) H
def rU (g:Int->V):V->Hp->VK->Prop:=fun x H Q=>∃i,x=.int i/\Q (g i) H
section
variable {X:Cx} {a b:Expr} {ta tb:TE} {pos:Pos}
theorem zw5 (ha:PE X a ta) (hb:PE X b tb) {pins:List (Addr×Obj)} {s:Shared} {U:St} {H:Hp} {R:V->V->Hp->Prop} (I:Inv X pins U H s)
  (h:ta U H fun x H1=>tb U H1 fun y H2=>R x y H2) {Q:Value->Shared->Prop} {f:Value->Value->Sem Value}
  (hf:∀v u s2 x y H2,Inv X pins U H2 s2->RelV x v->RelV y u->R x y H2->wpAny (model X.prog X.w) X.A (f v u) Q X.xe s2) :
  wpAny (model X.prog X.w) X.A (eval a X.env) (fun v s₁=>wpAny (model X.prog X.w) X.A (eval b X.env) (fun u s₂=>wpAny (model X.prog X.w) X.A (f v u) Q X.xe s₂) X.xe s₁) X.xe s:=by
 refine thn (ha pins s U H _ I h) fun v s1 ⟨x,H1,I1,r1,q1⟩=>?_
 refine thn (hb pins s1 U H1 _ I1 q1) fun u s2 ⟨y,H2,I2,r2,q2⟩=>?_
 exact hf v u s2 x y H2 I2 r1 r2 q2
theorem zw6 {op:Operator} {r:R2} (ho:OpR X (binaryOp op) r) (ha:PE X a ta) (hb:PE X b tb):PE X (.BinOp a op b pos) (tOp r ta tb):=by
 intro pins s U H Q I h
 exact wpAny_BinOp (zw5 ha hb I h fun v u s2 x y H2 I2 rx ry q=>ho pins s2 U H2 x y v u Q I2 rx ry q)
theorem zw7 {op:UnaryOp} {r:V->Hp->VK->Prop} (ho:UnR X (unaryOp op) r) (ha:PE X a ta):PE X (.UnaryOp op a pos) (tUn r ta):=by
 intro pins s U H Q I h
 exact UnaryOp_ (thn (ha pins s U H _ I h) fun v s1 ⟨x,H1,I1,r1,q1⟩=>ho pins s1 U H1 x v Q I1 r1 q1)
theorem opI {f:Value->Value->Sem Value} {C:Int->Int->Prop} {g:Int->Int->Int}
  (rule:∀(i j:Int) (t u:Tok) (s:Shared) (Q:Value->Shared->Prop) (E:Value->Shared->Prop),C i j->Q (.int (g i j) s.toks) { s with toks:=s.toks+1 }->wpAny (model X.prog X.w) X.A (f (.int i t) (.int j u)) Q E s) :
  OpR X f (rI C fun i j=>.int (g i j)):=by
 intro pins s U H x y v u Q I rx ry h
 obtain ⟨i,j,rfl,rfl,hc,q⟩:=h
 obtain ⟨t,rfl⟩:=rx
 obtain ⟨t',rfl⟩:=ry
 exact rule i j t t' s _ _ hc ⟨.int (g i j),H,I.tok _,⟨_,rfl⟩,q⟩
theorem zz5 {f:Value->Value->Sem Value} {g:Int->Int->Int}
  (rule:∀(i j:Int) (t u:Tok) (s:Shared) (Q:Value->Shared->Prop) (E:Value->Shared->Prop),Q (.int (g i j) s.toks) { s with toks:=s.toks+1 }->wpAny (model X.prog X.w) X.A (f (.int i t) (.int j u)) Q E s) :
  OpR X f (rI0 fun i j=>.int (g i j)):=by
 intro pins s U H x y v u Q I rx ry h
 obtain ⟨i,j,rfl,rfl,q⟩:=h
 obtain ⟨t,rfl⟩:=rx
 obtain ⟨t',rfl⟩:=ry
 exact rule i j t t' s _ _ ⟨.int (g i j),H,I.tok _,⟨_,rfl⟩,q⟩
theorem zvk {f:Value->Value->Sem Value} {g:Int->Int->Bool}
  (rule:∀(i j:Int) (t u:Tok) (s:Shared) (Q:Value->Shared->Prop) (E:Value->Shared->Prop),Q (.bool (g i j)) s->wpAny (model X.prog X.w) X.A (f (.int i t) (.int j u)) Q E s) :
  OpR X f (rI0 fun i j=>.bl (g i j)):=by
 intro pins s U H x y v u Q I rx ry h
 obtain ⟨i,j,rfl,rfl,q⟩:=h
 obtain ⟨t,rfl⟩:=rx
 obtain ⟨t',rfl⟩:=ry
 exact rule i j t t' s _ _ ⟨.bl (g i j),H,I,rfl,q⟩
def zmn (i j:Int):Prop:=0<j/\j<1073741824
def zz6 (i j:Int):Prop:=0<=j/\j<=1000000/\i.natAbs<2 ^ 64
def CMul (i j:Int):Prop:=(-(2 ^ 64)<i/\i<2 ^ 64)\/(-(2 ^ 64)<j/\j<2 ^ 64)
theorem CMul.ok {i j:Int} (h:CMul i j):IntMulOk i j:=by
 rcases h with ⟨h1,h2⟩ | ⟨h1,h2⟩
 . exact .of_left (intBits_le_64 h1 h2)
 . exact .of_right (intBits_le_64 h1 h2)
theorem op_add:OpR X (binaryOp .Add) (rI0 fun i j=>.int (i+j)):=zz5 fun _ _ _ _ _ _ _ q=>add_int q
theorem op_sub:OpR X (binaryOp .Sub) (rI0 fun i j=>.int (i - j)):=zz5 fun _ _ _ _ _ _ _ q=>sub_int q
theorem op_mul:OpR X (binaryOp .Mult) (rI CMul fun i j=>.int (i * j)):=opI fun _ _ _ _ _ _ _ hc q=>mul_int q hc.ok
theorem op_fdiv:OpR X (binaryOp .FloorDiv) (rI zmn fun i j=>.int (i / j)):=opI fun i j _ _ _ _ _ hc q=>by
 have h1:(0:Int)<j:=hc.1
 have h2:j<1073741824:=hc.2
 exact floordiv_int (by omega) (by rw [Int.fdiv_eq_ediv_of_nonneg i (by omega)];exact q) (.inl (PyProof.noPylong_small (by omega)))
theorem op_mod:OpR X (binaryOp .Mod) (rI (fun _ j=>0<j) fun i j=>.int (i % j)):=opI fun i j _ _ _ _ _ hc q=>by
 have h1:(0:Int)<j:=hc
 exact mod_int' (by lia) (by rw [Int.fmod_eq_emod_of_nonneg i (by lia)];exact q)
theorem unI {f:Value->Sem Value} {g:Int->Int}
  (rule:∀(i:Int) (t:Tok) (s:Shared) (Q:Value->Shared->Prop) (E:Value->Shared->Prop),Q (.int (g i) s.toks) { s with toks:=s.toks+1 }->wpAny (model X.prog X.w) X.A (f (.int i t)) Q E s) :
  UnR X f (rU fun i=>.int (g i)):=by
 intro pins s U H x v Q I rx h
 obtain ⟨i,rfl,q⟩:=h
 obtain ⟨t,rfl⟩:=rx
 exact rule i t s _ _ ⟨.int (g i),H,I.tok _,⟨_,rfl⟩,q⟩
theorem un_neg:UnR X (unaryOp .USub) (rU fun i=>.int (-i)):=unI fun _ _ _ _ _ q=>neg_int q
end
section
variable {X:Cx} {a b:Expr} {ta tb:TE} {pos:Pos}
theorem zqr {pins:List (Addr×Obj)} {U:St} {H:Hp} {s:Shared} {Q:VK} {k k':Bool} (I:Inv X pins U H s) (q:Q (.bl k) H) (e:k=k'):EP X pins U Q (.bool k') s:=by
 subst e
 exact ⟨.bl k,H,I,rfl,q⟩
theorem op_lt:OpR X (compareOp .Lt) (rI0 fun i j=>.bl (decide (i<j))):=zvk fun _ _ _ _ _ _ _ q=>lt_int q
theorem op_le:OpR X (compareOp .LtE) (rI0 fun i j=>.bl (decide (i<=j))):=zvk fun _ _ _ _ _ _ _ q=>le_int q
theorem op_gt:OpR X (compareOp .Gt) (rI0 fun i j=>.bl (decide (j<i))):=zvk fun _ _ _ _ _ _ _ q=>gt_int q
theorem op_ge:OpR X (compareOp .GtE) (rI0 fun i j=>.bl (decide (j<=i))):=zvk fun _ _ _ _ _ _ _ q=>ge_int q
theorem zl2:OpR X (compareOp .Is) (fun x y H Q=>y=.non/\Q (.bl (decide (x=.non))) H):=by
 intro pins s U H x y v u Q I rx ry h
 obtain ⟨rfl,q⟩:=h
 cases ry
 refine is_none_gen (zqr I q ?_)
 cases x<;>first
  | (cases rx;rfl)
  | (obtain ⟨t,rfl⟩:=rx;rfl)
theorem OpR.or {f:Value->Value->Sem Value} {r r':R2} (h:OpR X f r) (h':OpR X f r'):OpR X f (fun x y H Q=>r x y H Q\/r' x y H Q):=by
 intro pins s U H x y v u Q I rx ry q
 rcases q with q | q
 . exact h pins s U H x y v u Q I rx ry q
 . exact h' pins s U H x y v u Q I rx ry q
theorem z0a (b:Expr) {op:CmpOp} (h:op≠.In:=by decide) (h2:op≠.NotIn:=by decide):behindInMarks op b=false:=by
 have e1:(op==CmpOp.In)=false:=by cases op<;>first | rfl | exact absurd rfl h
 have e2:(op==CmpOp.NotIn)=false:=by cases op<;>first | rfl | exact absurd rfl h2
 cases b<;>simp [behindInMarks,e1,e2]
theorem zmo {op:CmpOp} {r:R2} (ho:OpR X (compareOp op) r) (ha:PE X a ta) (hb:PE X b tb) (hm:behindInMarks op b=false):PE X (.Compare a [op] [b] pos) (tOp r ta tb):=by
 intro pins s U H Q I h
 exact wpAny_Compare1 (zw5 ha hb I h fun v u s2 x y H2 I2 rx ry q=>ho pins s2 U H2 x y v u Q I2 rx ry q) hm
def zz7 (K:Frag) (x:V) (H:Hp) (k:Bool):Prop:=
 match x with
 | .non=>k=false
 | .bl b=>k=b
 | .int i=>k=(i != 0)
 | .str y=>y.length<=sizeLine/\k=((y.length:Int) != 0)
 | .byt y=>y.size<=sizeLine/\k=((y.size:Int) != 0)
 | .ref p=>(∃xs,SqL K H p xs/\k=!xs.isEmpty)\/(∃xs,SqT K H p xs/\k=!xs.isEmpty)\/∃kvs,H p=some (.dK kvs)/\k=!kvs.isEmpty
 | _=>False
theorem ze3 {κ:Type} {kvs:List (κ×V)} {vs:List (κ×Value)} (r:KV kvs vs):(!vs.isEmpty)=!kvs.isEmpty:=by
 cases r<;>rfl
theorem z7r {xs:List V} {its:List Value} (r:Vals xs its):(!its.toArray.isEmpty)=!xs.isEmpty:=by
 cases r<;>simp
theorem z7s:(sizeLine:Nat)<2 ^ 63:=by rw [sizeLine_eq];decide
theorem zl3:y00 X (fun x H Q=>∃k,zz7 X.K x H k/\Q k H):=by
 intro pins s U H x v Q I rx h
 obtain ⟨k,e,q⟩:=h
 have hl:=z7s
 have hs:sizeLine=16777216:=sizeLine_eq
 cases x with
 | non=>
  cases rx
  have e':k=false:=e
  subst e'
  exact truthy_none ⟨H,I,q⟩
 | bl b=>
  cases rx
  have e':k=b:=e
  subst e'
  exact wpAny_truthy_bool ⟨H,I,q⟩
 | int i=>
  obtain ⟨t,rfl⟩:=rx
  have e':k=(i != 0):=e
  subst e'
  exact PySem.P.truthy_int ⟨H,I,q⟩
 | str y=>
  obtain ⟨t,rfl⟩:=rx
  obtain ⟨hy,e'⟩:y.length<=sizeLine/\k=((y.length:Int) != 0):=e
  subst e'
  exact PySem.P.truthy_str (by lia) ⟨H,I.tok _,q⟩
 | byt y=>
  obtain ⟨t,rfl⟩:=rx
  obtain ⟨hy,e'⟩:y.size<=sizeLine/\k=((y.size:Int) != 0):=e
  subst e'
  exact PySem.W.truthy_bytes (by lia) ⟨H,I.tok _,q⟩
 | ref p=>
  cases rx
  have e':(∃xs,SqL X.K H p xs/\k=!xs.isEmpty)\/(∃xs,SqT X.K H p xs/\k=!xs.isEmpty)\/∃kvs,H p=some (.dK kvs)/\k=!kvs.isEmpty:=e
  rcases e' with ⟨xs,hx,e'⟩ | ⟨xs,hx,e'⟩ | ⟨kvs,hx,e'⟩
  . subst e'
    obtain ⟨its,r,pl,hz⟩:=I.list hx
    have hlen:=r.length
    exact wpAny_truthy_list pl.isList (by simp only [List.size_toArray];lia) ⟨H,I.tok _,by rw [z7r r];exact q⟩
  . subst e'
    obtain ⟨its,r,pl,hz⟩:=I.tuple hx
    have hlen:=r.length
    exact truthy_tuple pl (by simp only [List.size_toArray];lia) ⟨H,I.tok _,by rw [z7r r];exact q⟩
  . subst e'
    obtain ⟨hz,hS,vs,r,m⟩:kvs.length<=sizeLine/\(p==sysModules)=false/\∃vs,KV kvs vs/\s.heap.DictOf (z1t X.prog X.w) p vs:=I.hok p _ hx
    have hlen:kvs.length=vs.length:=Paired.length r
    exact wpAny_truthy_dict hS m (by lia) ⟨H,I.tok _,by rw [ze3 r];exact q⟩
 | _=>exact (show False from e).elim
theorem z5a {x:V} {us:List Value} (r:Vals [x] us):∃u,us=[u]/\RelV x u:=by
 cases r with
 | cons r1 r2=>cases r2;exact ⟨_,rfl,r1⟩
theorem zmp {x y:V} {us:List Value} (r:Vals [x,y] us):∃u w',us=[u,w']/\RelV x u/\RelV y w':=by
 cases r with
 | cons r1 r2=>
  cases r2 with
  | cons r3 r4=>cases r4;exact ⟨_,_,rfl,r1,r3⟩
theorem zf5 (hc:X.calm=true):CallR X (.builtin "max") (fun xs H Q=>∃i j,xs=[.int i,.int j]/\Q (.int (if j > i then j else i)) H):=by
 intro pins s U H xs us Q I r h
 obtain ⟨i,j,rfl,q⟩:=h
 obtain ⟨u,w',rfl,⟨t,rfl⟩,⟨t',rfl⟩⟩:=zmp r
 refine max_two_ints (I.ok.hd hc) fun h' tk k=>⟨_,H,I.kept k,?_,q⟩
 by_cases hj:j > i
 . rw [if_pos hj,if_pos hj];exact ⟨_,rfl⟩
 . rw [if_neg hj,if_neg hj];exact ⟨_,rfl⟩
theorem zf6 (hc:X.calm=true):CallR X (.builtin "min") (fun xs H Q=>∃i j,xs=[.int i,.int j]/\Q (.int (if j<i then j else i)) H):=by
 intro pins s U H xs us Q I r h
 obtain ⟨i,j,rfl,q⟩:=h
 obtain ⟨u,w',rfl,⟨t,rfl⟩,⟨t',rfl⟩⟩:=zmp r
 refine min_two_ints (I.ok.hd hc) fun h' tk k=>⟨_,H,I.kept k,?_,q⟩
 by_cases hj:j<i
 . rw [if_pos hj,if_pos hj];exact ⟨_,rfl⟩
 . rw [if_neg hj,if_neg hj];exact ⟨_,rfl⟩
theorem call_int1:CallR X (.type "int") (fun xs H Q=>(∃i,xs=[.int i]/\Q (.int i) H)\/∃k,xs=[.bl k]/\Q (.int (if k then 1 else 0)) H):=by
 intro pins s U H xs us Q I r h
 rcases h with ⟨i,rfl,q⟩ | ⟨k,rfl,q⟩
 . obtain ⟨u,rfl,t,rfl⟩:=z5a r
   exact call_int_int ⟨.int i,H,I,⟨_,rfl⟩,q⟩
 . obtain ⟨u,rfl,r1⟩:=z5a r
   cases r1
   exact call_int_bool ⟨.int (if k then 1 else 0),H,I.tok _,⟨_,rfl⟩,q⟩
end
structure ObjM (h:Heap) (x dx C:Addr) (mA:Str->Option Value):Prop where
 obj:h.get? x=some (PySem.W.instObj C dx)
 ns:h.Ns1 dx mA
 ne:dx≠x
theorem zf7 {h:Heap} {dx:Addr} {mA:Str->Option Value} (n:h.Ns1 dx mA):∃od,h.get? dx=some od/\∀name,PySem.W.lookIn name od=some (mA name):=by
 obtain ⟨o,es,ep,ho,hd,hk,_,hm⟩:=n
 refine ⟨o,ho,fun name=>?_⟩
 have e:=hm name
 unfold nsFind findBy at e
 rw [<-Array.find?_toList] at e
 unfold PySem.W.lookIn
 rw [hd]
 dsimp only
 split
 . rename_i y q
   rw [q] at e
   exact congrArg some e
 . rename_i q
   rw [q] at e
   have a:es.toList.any (·.refKey)=false:=by
    rw [List.any_eq_false]
    intro y hy
    obtain ⟨z,t,hkey⟩:=hk y (Array.mem_toList_iff.mp hy)
    simp [DictEntry.refKey,hkey]
   have a':¬es.toList.any (·.refKey)=true:=by rw [a];exact Bool.false_ne_true
   rw [if_neg a']
   exact congrArg some e
theorem ObjM.look {h:Heap} {x dx C:Addr} {mA:Str->Option Value} (I:ObjM h x dx C mA):∃od,PySem.W.InstAt h x (PySem.W.instObj C dx) C (some od)/\∀name,PySem.W.lookIn name od=some (mA name):=
 let ⟨od,ho,hl⟩:=zf7 I.ns
 ⟨od,⟨I.obj,rfl,rfl,ho⟩,hl⟩
theorem RelO.some_of {v:V} {o:Option Value} (r:RelO (some v) o):∃u,o=some u/\RelV v u:=by
 cases o with
 | none=>exact (show False from r).elim
 | some u=>exact ⟨u,rfl,r⟩
section
variable {P:Program} {w:World} {H:Hp} {h:Heap} {a C dx:Addr} {fs:List (Str×V)}
theorem zmq (hok:HOk P w H h) (e:H a=some (.ins C dx fs)):∃mA,ObjM h a dx C mA/\(∀f,RelO (fs.lookup f) (mA f))/\PySem.Within mA (fs.map (·.1))/\fs.length<=1000/\H dx=some (.own a):=by
 obtain ⟨d,z,ne,ob,mA,n,r,q⟩:=(show ObjOk P w H h a (.ins C dx fs) from hok a _ e)
 exact ⟨mA,⟨ob,n,ne⟩,r,q,z,d⟩
end
structure Cls (K:Frag) (C:Addr):Prop where
 pg:PySem.W.plainGet K C Str.empty=true
 hd:PySem.W.hasDictIn K C=true
 po:PySem.W.plainOver K C=true
 sa:PySem.W.findIn K (.ref C) "__setattr__"=some (some (.builtin "object.__setattr__"))
theorem Cls.get {K:Frag} {C:Addr} (c:Cls K C) (f:Str):PySem.W.plainGet K C f=true:=c.pg
section
variable {X:Cx} {pins:List (Addr×Obj)} {U:St} {H:Hp} {s:Shared} {A:Around} {E:Value->Shared->Prop} {Q:Value->Shared->Prop} {c:Value} {b:Bool}
inductive TyOf (K:Frag) (H:Hp):V->Value->Prop where
 | non:TyOf K H .non (.type "NoneType")
 | bl (x:Bool):TyOf K H (.bl x) (.type "bool")
 | int (i:Int):TyOf K H (.int i) (.type "int")
 | str (x:Str):TyOf K H (.str x) (.type "str")
 | flt (x:UInt64):TyOf K H (.flt x) (.type "float")
 | lst {a:Addr} {xs:List V} (e:H a=some (.lst xs)):TyOf K H (.ref a) (.type "list")
 | frz {a:Addr} {o:Obj} {xs:List V} (e:H a=some (.frz o (.lst xs))):TyOf K H (.ref a) (.type "list")
 | tup {a:Addr} {xs:List V} (e:H a=some (.tup xs)):TyOf K H (.ref a) (.type "tuple")
 | dK {a:Addr} {kvs:List (Key×V)} (e:H a=some (.dK kvs)):TyOf K H (.ref a) (.type "dict")
 | dT {a:Addr} {kvs:List (List Key×V)} (e:H a=some (.dT kvs)):TyOf K H (.ref a) (.type "dict")
 | ins {a C dx:Addr} {fs:List (Str×V)} (e:H a=some (.ins C dx fs)) (cl:Cls K C) (ha:PySem.W.findIn K (.ref C) "__class__"=some (some (.builtin "object.__class__")))
  (hn:PySem.W.specialIn K (.builtin "object.__class__") "__get__"=some (some (.builtin "getset_descriptor.__get__"))) (htk:PySem.W.takesIn K (.builtin "object.__class__")=some true)
  (hm:PySem.W.mroIn K C (.type "object")=some true):TyOf K H (.ref a) (.ref C)
theorem z13 {x:V} {u t:Value} (I:Inv X pins U H s) (rx:RelV x u) (ty:TyOf X.K H x t) (e:PySem.W.kitOne X.K t c=some b) (h:∀tk,Q (.bool b) { s with toks:=tk }) :
  wpAny (model X.prog X.w) A (call (.builtin "isinstance") [u,c]) Q E s:=by
 cases ty with
 | non=>cases (show u=Value.none from rx);exact kia_one PySem.W.kitx_none I.kIn True.intro e (fun z=>nomatch z) h
 | bl y=>cases (show u=Value.bool y from rx);exact kia_one PySem.W.kitx_bool I.kIn True.intro e (fun z=>nomatch z) h
 | int i=>obtain ⟨t,q⟩:=(show ∃t,u=Value.int i t from rx);cases q;exact kia_one PySem.W.kitx_int I.kIn True.intro e (fun z=>nomatch z) h
 | str y=>obtain ⟨t,q⟩:=(show ∃t,u=Value.str y t from rx);cases q;exact kia_one PySem.W.kitx_str I.kIn True.intro e (fun z=>nomatch z) h
 | flt y=>obtain ⟨t,q⟩:=(show ∃t,u=Value.float y t from rx);cases q;exact kia_one PySem.W.kitx_float I.kIn True.intro e (fun z=>nomatch z) h
 | @lst a xs ea=>
  cases (show u=Value.ref a from rx)
  obtain ⟨_,_,n,_,h1⟩:=(show ObjOk X.prog X.w H s.heap a (.lst xs) from I.hok a _ ea)
  exact kia_one PySem.W.kitx_list I.kIn ⟨_,h1,rfl⟩ e (fun z=>nomatch z) h
 | @frz a ob xs ea=>
  cases (show u=Value.ref a from rx)
  obtain ⟨_,_,_,n,_,h1⟩:=(show ObjOk X.prog X.w H s.heap a (.frz ob (.lst xs)) from I.hok a _ ea)
  exact kia_one PySem.W.kitx_list I.kIn ⟨_,h1,rfl⟩ e (fun z=>nomatch z) h
 | @tup a xs ea=>
  cases (show u=Value.ref a from rx)
  obtain ⟨_,_,_,p⟩:=(show ObjOk X.prog X.w H s.heap a (.tup xs) from I.hok a _ ea)
  obtain ⟨o,h1,h2,_⟩:=p
  exact kia_one PySem.W.kitx_tuple I.kIn ⟨o,h1,h2⟩ e (fun z=>nomatch z) h
 | @dK a kvs ea=>
  cases (show u=Value.ref a from rx)
  obtain ⟨_,_,vs,_,p⟩:=(show ObjOk X.prog X.w H s.heap a (.dK kvs) from I.hok a _ ea)
  obtain ⟨o,es,ep,h1,h2,_⟩:=p
  exact kia_one PySem.W.kitx_dict I.kIn ⟨o,h1,h2.1⟩ e (fun z=>nomatch z) h
 | @dT a kvs ea=>
  cases (show u=Value.ref a from rx)
  obtain ⟨_,_,xs,_,o,es,ep,h1,h2,_⟩:=(show ObjOk X.prog X.w H s.heap a (.dT kvs) from I.hok a _ ea)
  exact kia_one PySem.W.kitx_dict I.kIn ⟨o,h1,h2.1⟩ e (fun z=>nomatch z) h
 | @ins a C dx fs ea cl ha hn htk hm=>
  cases (show u=Value.ref a from rx)
  obtain ⟨mA,O,_⟩:=zmq I.hok ea
  obtain ⟨od,J,_⟩:=O.look
  exact kia_one (PySem.W.kitx_own (cl.get _) cl.hd ha hn htk hm) I.kIn J e (fun z=>nomatch z) h
end
structure Room (k:Nat) (A:Around):Prop where
 hd:A.handled=none
 dp:A.depth+3 * k+5<recursionLimit
 un:A.units+16 * k+200<cLine
theorem Room.mono {j k:Nat} {A:Around} (r:Room k A) (h:j<=k):Room j A:=⟨r.hd,by have:=r.dp;lia,by have:=r.un;lia⟩
theorem Room.deeper {k:Nat} {A:Around} (r:Room (k+1) A) (env:Env):Room k (A.deeper env):=
 ⟨r.hd,by have:=r.dp;show A.depth+1+3 * k+5<_;lia,by have:=r.un;show A.units+3+16 * k+200<_;lia⟩
theorem Room.depth {k:Nat} {A:Around} (r:Room k A):A.depth<recursionLimit:=by have:=r.dp;omega
theorem Room.units {k:Nat} {A:Around} (r:Room k A):A.units+64<cLine:=by have:=r.un;lia
noncomputable def zvl:TA:=fun _ H Q=>Q [] H
noncomputable def ze4 (ta:TE) (tr:TA):TA:=fun U H Q=>ta U H fun x H1=>tr U H1 fun xs H2=>Q (x::xs) H2
section
variable {X:Cx} {e:Expr} {es:List Expr} {te:TE} {t:TA} {pos:Pos}
theorem pa_nil:PA X [] zvl:=fun _ _ _ _ H Q I h=>Calls.spliced_nil ⟨[],H,I,.nil,h⟩
theorem z6j (ha:PE X e te) (hr:PA X es t) (hs:starEach (e::es) X.env=(false,eval e X.env)::starEach es X.env:=by rfl):PA X (e::es) (ze4 te t):=by
 intro pos pins s U H Q I h
 rw [hs]
 show wpAny _ _ (spliced ((false,eval e X.env)::backTo pos (starEach es X.env))) _ _ s
 refine Calls.spliced_cons (thn (ha pins s U H _ I h) fun u s1 ⟨x,H1,I1,r1,q1⟩=>?_)
 exact thn (hr pos pins s1 U H1 _ I1 q1) fun us s2 ⟨xs,H2,I2,r2,q2⟩=>⟨x::xs,H2,I2,.cons r1 r2,q2⟩
noncomputable def zz8 (t:TA):TE:=fun U H Q=>t U H fun xs H1=>xs.length<=sizeLine/\∀p,H1 p=none->Q (.ref p) (upd H1 p (.tup xs))
noncomputable def zz9 (t:TA):TE:=fun U H Q=>t U H fun xs H1=>xs.length<=sizeLine/\∀p,H1 p=none->Q (.ref p) (upd H1 p (.lst xs))
theorem zqs {x1} (h:PA X es t):PE X (.Tuple es x1 pos) (zz8 t):=by
 intro pins s U H Q I hq
 refine wpAny_Tuple_spliced (thn (h pos pins s U H _ I hq) fun us s1 ⟨xs,H1,I1,r,z,q⟩=>⟨by rw [<-r.length];exact z,?_⟩)
 have hf:H1 s1.heap.objs.size=none:=I1.hok.fresh (Nat.le_refl _)
 refine ⟨.ref s1.heap.objs.size,upd H1 s1.heap.objs.size (.tup xs),I1.laid (t':=s1.toks) (fun b u e=>Heap.get?_push_of_some _ e) (Nat.le_refl _) ?_,rfl,q _ hf⟩
 exact ⟨z,us,r,.mk' (Heap.get?_push_size _ rfl)⟩
theorem zqt (h:PA X es t):PE X (.List es pos) (zz9 t):=by
 intro pins s U H Q I hq
 refine wpAny_List_spliced (thn (h pos pins s U H _ I hq) fun us s1 ⟨xs,H1,I1,r,z,q⟩=>⟨by rw [<-r.length];exact z,?_⟩)
 have hf:H1 s1.heap.objs.size=none:=I1.hok.fresh (Nat.le_refl _)
 refine ⟨.ref s1.heap.objs.size,upd H1 s1.heap.objs.size (.lst xs),I1.laid (t':=s1.toks) (fun b u e=>Heap.get?_push_of_some _ e) (Nat.le_refl _) ?_,rfl,q _ hf⟩
 exact ⟨z,us,0,r,Heap.get?_push_size _ rfl⟩
end
abbrev Sp:=List V->Hp->VK->XK->Prop
abbrev CXT:=List Env->Hp->Shared->XK->Value->Shared->Prop
structure Env0 (P:Program) (w:World) (K:Frag) (mg:Str->Option Value) (base:Heap) (A:Around) (outer:List Env) (s:Shared) (H:Hp):Prop where
 frames:A.frames=some outer
 mod:Mod K mg base
 bs:∀b o,base.get? b=some o->s.heap.get? b=some o/\H b=none
 bsz:base.objs.size<=s.heap.objs.size
 funs:s.heap.FunFrames base outer
 frf:∀b∈frs outer,H b=none
 hok:HOk P w H s.heap
 bare:AllBare s.gens
def CE (outer:List Env) (P:Program) (w:World) (H:Hp) (s:Shared) (Q:VK) (u:Value) (s':Shared):Prop:=
 ∃v H',s'.os=s.os/\AllBare s'.gens/\Un (frs outer) [] H H' s.heap s'.heap/\HOk P w H' s'.heap/\RelV v u/\Q v H'
def CR (CX:CXT) (outer:List Env) (P:Program) (w:World) (H:Hp) (s:Shared) (Q:VK) (E:XK) (r:Result) (s':Shared):Prop:=
 match r with
 | .ok (.ret u)=>CE outer P w H s Q u s'
 | .ok _=>False
 | .error e=>CX outer H s E e s'
structure FnOk (P:Program) (w:World) (K:Frag) (mg:Str->Option Value) (base:Heap) (CX:CXT) (k:Nat) (f:Addr) (fd:FuncData) (ps:List Str) (sp:Sp):Prop where
 len:∀vs H Q E,sp vs H Q E->vs.length=ps.length
 run:∀(A:Around) (outer:List Env) (s:Shared) (H:Hp) (args:Args) (us:List Value) (vs:List V) (Q:VK) (E:XK),Room k A->Env0 P w K mg base A outer s H->BindsTo s fd args (ps.zip us)->Vals vs us->sp vs H Q E ->
  codeAny (model P w) A (.call (.ref f) args) (CR CX outer P w H s Q E) s
theorem FnOk.imp {P:Program} {w:World} {K:Frag} {mg:Str->Option Value} {base:Heap} {CX:CXT} {k:Nat} {f:Addr} {fd:FuncData} {ps:List Str} {sp sp':Sp} (F:FnOk P w K mg base CX k f fd ps sp)
  (h:∀vs H Q E,sp' vs H Q E->sp vs H Q E):FnOk P w K mg base CX k f fd ps sp':=
 ⟨fun vs H Q E q=>F.len vs H Q E (h _ _ _ _ q),fun A outer s H args us vs Q E hr he hb hv hs=>F.run A outer s H args us vs Q E hr he hb hv (h _ _ _ _ hs)⟩
section
variable {X:Cx} {pins:List (Addr×Obj)} {U:St} {H:Hp} {s s':Shared}
theorem Inv.env0 (I:Inv X pins U H s):Env0 X.prog X.w X.K X.mg X.base X.A X.stack s H:=
 ⟨I.ok.frames,I.ok.mod,I.bs,Nat.le_trans I.ok.bsz I.sz,I.stack,I.stkFree,I.hok,I.bare⟩
theorem Inv.after {Q:VK} {u:Value} (I:Inv X pins U H s) (h:CE X.stack X.prog X.w H s Q u s'):EP X pins U Q u s':=by
 obtain ⟨v,H',os,bare,un,hok,r,q⟩:=h
 obtain ⟨hh,g,d,t,os'⟩:=s'
 obtain rfl:os'=s.os:=os
 exact ⟨v,H',I.call (h':=hh) (g':=g) (d':=d) (t':=t) (ch:=[]) un hok bare (fun b z=>absurd z (by simp)),r,q⟩
end
noncomputable def zqu (sp:Sp) (dvs:List V) (E:XK) (t:TA):TE:=fun U H Q=>t U H fun vs H1=>sp (vs++dvs) H1 Q E
def Binds (K:Frag) (fd:FuncData) (ps:List Str) (ds:List Value):Prop:=
 ∀(s:Shared) (us:List Value),K.In s.heap->(us++ds).length=ps.length->BindsTo s fd ⟨us,[]⟩ (ps.zip (us++ds))
theorem Binds.all {K:Frag} {fd:FuncData} {ps:List Str} (h:∀us:List Value,us.length=ps.length->bindArgs fd ⟨us,[]⟩=pure (ps.zip us)):Binds K fd ps []:=fun s us _ hl=>by
 rw [List.append_nil] at hl ⊢
 exact .of_eq (h us hl)
def zcr (CX:CXT) (X:Cx) (E:XK):Prop:=∀(pins:List (Addr×Obj)) (U:St) (H:Hp) (s:Shared) (e:Value) (s':Shared),Inv X pins U H s->CX X.stack H s E e s'->X.xe e s'
section
variable {X:Cx} {CX:CXT} {k:Nat} {f:Addr} {fd:FuncData} {ps:List Str} {sp:Sp} {dvs:List V} {ds:List Value} {E:XK} {x:Str} {p pos:Pos} {e:Expr} {es:List Expr} {t:TA}
theorem zqv {pins:List (Addr×Obj)} {U:St} {H:Hp} {s:Shared} {Q:VK} {us:List Value} {vs:List V} (F:FnOk X.prog X.w X.K X.mg X.base CX k f fd ps sp) (hr:Room k X.A) (hb:Binds X.K fd ps ds) (hd:Vals dvs ds) (hx:zcr CX X E)
  (I:Inv X pins U H s) (r:Vals vs us) (h:sp (vs++dvs) H Q E):wpAny (model X.prog X.w) X.A (call (.ref f) us) (EP X pins U Q) X.xe s:=by
 have r2:Vals (vs++dvs) (us++ds):=r.append hd
 have hl:(us++ds).length=ps.length:=by rw [<-r2.length];exact F.len _ _ _ _ h
 refine wpAny_call (codeAny_mono (F.run X.A X.stack s H ⟨us,[]⟩ (us++ds) (vs++dvs) Q E hr I.env0 (hb s us I.kIn hl) r2 h) fun r s' hq=>?_)
 cases r with
 | error e=>exact hx pins U H s e s' I hq
 | ok fl=>
  cases fl with
  | ret u=>exact I.after hq
  | next=>exact False.elim hq
  | brk=>exact False.elim hq
  | cont=>exact False.elim hq
theorem zmr (F:FnOk X.prog X.w X.K X.mg X.base CX k f fd ps sp) (hr:Room k X.A) (hg:Gl X x) (hm:X.mg x=some (.ref f)) (hk:keepIn X.K (.ref f)=true) (hb:Binds X.K fd ps ds) (hd:Vals dvs ds) (hx:zcr CX X E)
  (ha:PA X (e::es) t) (hdb:(x==("__debug__":Str))=false:=by decide) (he:starEach (e::es) X.env=(false,eval e X.env)::starEach es X.env:=by rfl) (hpl:(backTo pos (starEach es X.env)).any (·.1)=false:=by rfl) :
  PE X (.Call (.Name x p) (e::es) [] pos) (zqu sp dvs E t):=by
 intro pins s U H Q I h
 refine wpAny_Call_Name_kw (zmj I hg hm ?_ hdb)
 refine PySem.W.callWith_K (h₀:=X.base) I.ok.mod.kin hk (thn (ha pos pins s U H _ I h) fun us s1 ⟨vs,H1,I1,r,q⟩=>⟨I1.kIn,?_⟩) he hpl
 exact zqv F hr hb hd hx I1 r q
end
structure FnScope (N P:List Str) (sc:Scope):Prop where
 kind:sc.kind=.function
 co:sc.isCoroutine=false
 gen:sc.isGenerator=false
 nd:N.Nodup
 pre:N.take P.length=P
 par:∀x∈P,sc.names.lookup x=some .local\/sc.names.lookup x=some .cell
 nofree:∀y∈sc.names,y.2≠.free
theorem z9w {kindOf:Str->Option NameKind} {x:Str}:∀{binds:List (Str×Value)} {m:Str->Option Value},(∀v,(x,v)∉binds)->bindL kindOf binds m x=m x
 | [],_,_=>rfl
 | (n,v)::r,m,h=>by
  unfold bindL
  rw [z9w fun w hw=>h w (List.mem_cons_of_mem _ hw)]
  split
  . have:x≠n:=by rintro rfl;exact h v List.mem_cons_self
    simp [this]
  . rfl
theorem z9x {kindOf:Str->Option NameKind} {x:Str}:∀{binds:List (Str×Value)} {m:Str->Option Value},(∀v,(x,v)∉binds)->bindC kindOf binds m x=m x
 | [],_,_=>rfl
 | (n,v)::r,m,h=>by
  unfold bindC
  rw [z9x fun w hw=>h w (List.mem_cons_of_mem _ hw)]
  split
  . rfl
  . have:x≠n:=by rintro rfl;exact h v List.mem_cons_self
    simp [this]
theorem z9y {kindOf:Str->Option NameKind} {x:Str} {v:Value}:∀{P:List Str} {vs:List Value} {i:Nat} {m:Str->Option Value},P.Nodup->P[i]?=some x->vs[i]?=some v->kindOf x=some .local ->
  bindL kindOf (P.zip vs) m x=some v
 | [],_,_,_,_,h,_,_=>by simp at h
 | _::_,[],_,_,_,_,h,_=>by simp at h
 | p::P,w::vs,0,m,nd,h1,h2,hk=>by
  simp at h1 h2;subst h1;subst h2
  show bindL kindOf ((p,w)::P.zip vs) m p=_
  unfold bindL
  rw [z9w fun v hv=>(List.nodup_cons.mp nd).1 (List.of_mem_zip hv).1,if_pos hk]
  simp
 | p::P,w::vs,i+1,m,nd,h1,h2,hk=>by
  show bindL kindOf ((p,w)::P.zip vs) m x=_
  unfold bindL
  exact z9y (i:=i) (List.nodup_cons.mp nd).2 (by simpa using h1) (by simpa using h2) hk
theorem z9z {kindOf:Str->Option NameKind} {x:Str} {v:Value}:∀{P:List Str} {vs:List Value} {i:Nat} {m:Str->Option Value},P.Nodup->P[i]?=some x->vs[i]?=some v->kindOf x≠some .local ->
  bindC kindOf (P.zip vs) m x=some v
 | [],_,_,_,_,h,_,_=>by simp at h
 | _::_,[],_,_,_,_,h,_=>by simp at h
 | p::P,w::vs,0,m,nd,h1,h2,hk=>by
  simp at h1 h2;subst h1;subst h2
  show bindC kindOf ((p,w)::P.zip vs) m p=_
  unfold bindC
  rw [z9x fun v hv=>(List.nodup_cons.mp nd).1 (List.of_mem_zip hv).1,if_neg hk]
  simp
 | p::P,w::vs,i+1,m,nd,h1,h2,hk=>by
  show bindC kindOf ((p,w)::P.zip vs) m x=_
  unfold bindC
  exact z9z (i:=i) (List.nodup_cons.mp nd).2 (by simpa using h1) (by simpa using h2) hk
noncomputable def z6k (N:List Str) (vs:List V):St:=vs.map some++List.replicate (N.length - vs.length) none
noncomputable def ziy (CX:CXT) (P:Program) (w:World) (K:Frag) (mg:Str->Option Value) (base:Heap) (N:List Str) (qual:Str) (scope:Scope) (f:Addr) (cd:Value) (A:Around) (outer:List Env) (s:Shared) (H:Hp) (E:XK):Cx where
 prog:=P
 w:=w
 K:=K
 mg:=mg
 base:=base
 A:=A.deeper (envOfC qual scope s.heap.objs.size f cd)
 N:=N
 s₀:=s
 H₀:=H
 env:=envOfC qual scope s.heap.objs.size f cd
 outer:=outer
 stack:=envOfC qual scope s.heap.objs.size f cd::outer
 ex:=[]
 calm:=true
 fn:=fun _=>true
 pn:=[]
 xe:=fun e s'=>wpAny (model P w) (A.deeper (envOfC qual scope s.heap.objs.size f cd)) (leaving (envOfC qual scope s.heap.objs.size f cd) e) (fun _ s''=>CX outer H s E e s'') (fun e' s''=>CX outer H s E e' s'') s'
theorem zcs {sc:Scope} {n:Nat} {x:Str} (h:sc.names.lookup x=some .cell):∃c,(cellsFrom n sc.names []).lookup x=some c:=by
 have q:=PySem.W.cellsFrom_some sc.names n [] (.inl h)
 exact Option.isSome_iff_exists.mp q
theorem zf8 {CX:CXT} {P:Program} {w:World} {K:Frag} {mg:Str->Option Value} {base:Heap} {N ps:List Str} {qual:Str} {scope:Scope} {f:Addr} {cd:Value} {A:Around} {outer:List Env} {s s1:Shared} {H:Hp} {E:XK} {us:List Value} {vs:List V}
  (S:FnScope N ps scope) (hd:A.handled=none) (e0:Env0 P w K mg base A outer s H) (hl:vs.length=ps.length) (r:Vals vs us)
  (x:InCallC s s.heap.objs.size (bindL (envOfC qual scope s.heap.objs.size f cd).kindOf (ps.zip us) fun _=>none) (cellsFrom (s.heap.objs.size+1) scope.names []) (bindC (envOfC qual scope s.heap.objs.size f cd).kindOf (ps.zip us) fun _=>none) s1) :
  Inv (ziy CX P w K mg base N qual scope f cd A outer s H E) [] (z6k N vs) H s1:=by
 have hpl:ps.length<=N.length:=by have:=congrArg List.length S.pre;rw [List.length_take] at this;lia
 obtain ⟨h1,tk,rfl,hk⟩:=x.done
 have noA:∀b:Addr,b∉(ziy CX P w K mg base N qual scope f cd A outer s H E).ex:=fun b z=>absurd (show b∈([]:List Addr) from z) (by simp)
 refine ⟨⟨e0.mod,S.kind,rfl,rfl,Nat.le_refl _,fun y z c h1 h2=>?_,fun y hy=>?_,fun y c _ h=>?_,fun _=>hd,Around.frames_deeper e0.frames,.inr ⟨rfl,rfl⟩,fun b z=>absurd z (noA b),e0.bs,e0.bsz,fun b _ _=>noA b,fun b z=>absurd z (noA b),e0.funs,e0.frf⟩,
  rfl,e0.bare,Un.kept hk,⟨_,x.toInCall.ns,fun i y v h1 h2 h3=>?_⟩,fun y c h=>⟨_,x.cell y c h⟩,e0.hok.fresh (Nat.le_refl _),fun y c h=>?_,fun p hp=>absurd (show p∈([]:List (Addr×Obj)) from hp) (by simp),e0.hok.kept hk,?_⟩
 . exact name_of_addr x.apart (PySem.mem_of_lookup h1) (PySem.mem_of_lookup h2)
 . have hy:scope.names.lookup y=some .cell\/scope.names.lookup y=some .free:=hy
   rcases hy with hy | hy
   . exact zcs hy
   . exact absurd rfl (S.nofree _ (PySem.mem_of_lookup hy))
 . exact Nat.le_of_lt (x.above y c (PySem.mem_of_lookup h))
 . have hi:i<vs.length:=by
    unfold z6k at h2
    by_cases hi:i<vs.length
    . exact hi
    . rw [List.getElem?_append_right (by simpa using hi)] at h2
      rw [List.getElem?_replicate] at h2
      split at h2<;>cases h2
   have ha:vs[i]?=some v:=by
    unfold z6k at h2
    rw [List.getElem?_append_left (by simpa using hi),List.getElem?_map] at h2
    cases e:vs[i]? with
    | none=>rw [e] at h2;cases h2
    | some a=>rw [e] at h2;cases h2;rfl
   obtain ⟨u,hu,rv⟩:=r.get ha
   have hp:ps[i]?=some y:=by
    rw [<-S.pre,List.getElem?_take_of_lt (by lia)];exact h1
   have ndP:ps.Nodup:=by rw [<-S.pre];exact S.nd.sublist (List.take_sublist _ _)
   refine ⟨u,rv,?_⟩
   rcases S.par y (List.mem_of_getElem? hp) with k | k
   . exact .inl ⟨k,z9y ndP hp hu k⟩
   . obtain ⟨c,e⟩:=zcs (n:=s.heap.objs.size+1) k
     refine .inr ⟨.inl k,c,e,?_⟩
     have q:=x.cell y c e
     rw [z9z ndP hp hu (by show scope.names.lookup y≠_;rw [k];decide)] at q
     exact q
 . exact e0.hok.fresh (Nat.le_of_lt (x.above y c (PySem.mem_of_lookup h)))
 . unfold z6k
   show _=N.length
   rw [List.length_append,List.length_map,List.length_replicate]
   lia
theorem zqw {CX:CXT} {P:Program} {w:World} {K:Frag} {mg:Str->Option Value} {base:Heap} {k:Nat} {f:Addr} {name qual:Str} {params:Arguments} {body:List Stmt} {scope:Scope} {dV kV doc pm cdv ct oc:Value} {an od:Option Addr}
  {osl:Array (Option Value)} {N ps:List Str} {sp:Sp} (lk:K.lookup f=some ⟨oc,od,.func (PySem.W.fnOf name qual params body scope dV kV doc pm an cdv ct),osl⟩) (hcd:codeIn K cdv qual=true) (S:FnScope N ps scope)
  (len:∀vs H Q E,sp vs H Q E->vs.length=ps.length)
  (hbody:∀(A:Around) (outer:List Env) (s:Shared) (H:Hp) (vs:List V) (Q:VK) (E:XK),Room k (A.deeper (envOfC qual scope s.heap.objs.size f cdv))->sp vs H Q E ->
   ∃t,PSs (ziy CX P w K mg base N qual scope f cdv A outer s H E) body t/\t { nx:=fun _ H'=>Q .non H',rt:=Q } (z6k N vs) H) :
  FnOk P w K mg base CX (k+1) f (PySem.W.fnOf name qual params body scope dV kV doc pm an cdv ct) ps sp:=by
 refine ⟨len,fun A outer s H args us vs Q E hr e0 hb r hsp=>?_⟩
 have hl:=len _ _ _ _ hsp
 have KX:K.In s.heap:=e0.mod.kin.keeps fun b o e=>(e0.bs b o e).1
 have lim:s.heap.NoLimit:=e0.mod.nolimit.keeps fun b o e=>(e0.bs b o e).1
 have hkind:∀y∈ps.zip us,scope.names.lookup y.1=some .local\/(scope.names.lookup y.1=some .cell/\((cellsFrom (s.heap.objs.size+1) scope.names []).lookup y.1).isSome=true):=fun ⟨n,v⟩ hy=>by
  rcases S.par n (List.of_mem_zip hy).1 with q | q
  . exact .inl q
  . exact .inr ⟨q,PySem.W.cellsFrom_some _ _ _ (.inl q)⟩
 refine codeAny_call_function hr.depth (KX _ _ lk) rfl S.co S.gen rfl (PySem.W.codeRec_of KX hcd) (hb _ _ _ _ ?_)
 refine wpAny_newFunctionEnv_cells S.kind hkind fun env he s1 x=>?_
 subst he
 refine ⟨lim.keeps x.toInCall.keep,codeAny_func ?_⟩
 obtain ⟨t,ht,hq⟩:=hbody A outer s H vs Q E (hr.deeper _) hsp
 have I:Inv (ziy CX P w K mg base N qual scope f cdv A outer s H E) [] (z6k N vs) H s1:=zf8 S hr.hd e0 hl r x
 refine wpAny_mono (ht [] s1 (z6k N vs) H _ I hq) (fun fl s' hs=>?_) fun e s' hs=>hs
 have fin:∀{σ':St} {H':Hp} {v:V} {u:Value},Inv (ziy CX P w K mg base N qual scope f cdv A outer s H E) [] σ' H' s'->RelV v u->Q v H'->CE outer P w H s Q u s':=
  fun {σ' H' v u} J rv q=>⟨v,H',J.os,J.bare,J.base,J.hok,rv,q⟩
 cases fl with
 | ret u=>
  obtain ⟨v,σ',H',J,rv,q⟩:=hs
  exact fin J rv q
 | next=>
  obtain ⟨σ',H',J,q⟩:=hs
  exact fin (v:=V.non) (u:=Value.none) J rfl q
 | brk=>
  obtain ⟨_,_,_,q⟩:=hs
  exact False.elim q
 | cont=>
  obtain ⟨_,_,_,q⟩:=hs
  exact False.elim q
section
variable {X:Cx} {x:Str} {p pos:Pos} {e:Expr} {es:List Expr} {t:TA} {id T:String} {r:List V->Hp->VK->Prop}
noncomputable def tCB (r:List V->Hp->VK->Prop) (t:TA):TE:=fun U H Q=>t U H fun vs H1=>r vs H1 Q
theorem z8j (hc:CallR X (.builtin id) r) (hg:Gl X x) (hm:X.mg x=none) (hv:bootBuiltins x=some (.builtin id)) (ha:PA X (e::es) t) (hn:x≠"__name__":=by decide) (hdb:(x==("__debug__":Str))=false:=by decide)
  (he:starEach (e::es) X.env=(false,eval e X.env)::starEach es X.env:=by rfl) (hpl:(backTo pos (starEach es X.env)).any (·.1)=false:=by rfl):PE X (.Call (.Name x p) (e::es) [] pos) (tCB r t):=by
 intro pins s U H Q I h
 refine wpAny_Call_Name_kw (z9u I hg hm hv ?_ hn hdb)
 exact PyProof.Rows.callWith_builtin1 (thn (ha pos pins s U H _ I h) fun us s1 ⟨vs,H1,I1,r1,q1⟩=>hc pins s1 U H1 vs us Q I1 r1 q1) he hpl
theorem za0 (hc:CallR X (.type T) r) (hg:Gl X x) (hm:X.mg x=none) (hv:bootBuiltins x=some (.type T)) (ha:PA X (e::es) t) (hn:x≠"__name__":=by decide) (hdb:(x==("__debug__":Str))=false:=by decide)
  (he:starEach (e::es) X.env=(false,eval e X.env)::starEach es X.env:=by rfl) (hpl:(backTo pos (starEach es X.env)).any (·.1)=false:=by rfl):PE X (.Call (.Name x p) (e::es) [] pos) (tCB r t):=by
 intro pins s U H Q I h
 refine wpAny_Call_Name_kw (z9u I hg hm hv ?_ hn hdb)
 exact PyProof.Rows.callWith_type1 (thn (ha pos pins s U H _ I h) fun us s1 ⟨vs,H1,I1,r1,q1⟩=>hc pins s1 U H1 vs us Q I1 r1 q1) he hpl
end
end L2
namespace HT
open PySem PyProof.Rows
theorem rcLt_int (A:Around) (s:Shared) (a:Int) (t:Tok) (c:Int) (u:Tok) (prog:Program) (w:World) (E:Value->Shared->Prop) (Q:Value->Shared->Prop) (h:Q (.bool (decide (a<c))) s) :
  wpAny (model prog w) A (richCompare .Lt (.int a t) (.int c u)) Q E s:=
 (PyProof.Rows.lt_int h:wpAny (model prog w) A (compareOp .Lt (.int a t) (.int c u)) Q E s)
section
open PySem.SeqAt
open PySem.AutoSeq1 (wpAny_loadPart')
open PySem.MeetsSeq PySem.MeetsSeq2 PySem.MeetsSeq3
end
section
def sIx (n d:Nat):Option Int->Nat
 | none=>d
 | some v=>if v<0 then (v+(n:Int)).toNat else min v.toNat n
end
end HT
namespace L2
open PySem PySem.Spec PyProof.Rows
abbrev TO:=St->Hp->(Option Int->Hp->Prop)->Prop
def PO (X:Cx) (e:Option Expr) (t:TO):Prop:=
 ∀(pins:List (Addr×Obj)) (s:Shared) (U:St) (H:Hp) (Q:Option Int->Hp->Prop),Inv X pins U H s->t U H Q ->
  wpAny (model X.prog X.w) X.A (evalPart e X.env) (fun u s'=>∃o H',Inv X pins U H' s'/\IsPart u o/\Q o H') X.xe s
noncomputable def zms:TO:=fun _ H Q=>Q none H
noncomputable def zw8 (t:TE):TO:=fun U H Q=>t U H fun x H1=>∃i,x=.int i/\Q (some i) H1
theorem z7t {ns:List Int}:∀{us:List Value},Vals (ns.map V.int) us->IntsAre us ns:=by
 induction ns with
 | nil=>intro us r;rw [List.map_nil] at r;cases r;exact .nil
 | cons n ns ih=>
  intro us r
  rw [List.map_cons] at r
  cases r with
  | cons r1 r2=>
   obtain ⟨t,e⟩:=r1
   subst e
   exact .cons n t (ih r2)
section
variable {X:Cx} {e:Expr} {te:TE} {lo hi:Option Expr} {tl th:TO} {pos p2:Pos}
theorem po_none:PO X none zms:=by
 intro pins s U H Q I h
 rw [evalPart_none]
 exact wpAny_pure ⟨none,H,I,.none,h⟩
theorem zmt (h:PE X e te):PO X (some e) (zw8 te):=by
 intro pins s U H Q I hw
 rw [evalPart_some]
 refine thn (h pins s U H _ I hw) fun u s1 ⟨x,H1,I1,r1,q1⟩=>?_
 obtain ⟨i,rfl,q⟩:=q1
 obtain ⟨t,rfl⟩:=r1
 exact ⟨some i,H1,I1,.int i t,q⟩
def SlR (X:Cx) (r:V->Option Int->Option Int->Hp->VK->Prop):Prop:=
 ∀(pins:List (Addr×Obj)) (s:Shared) (U:St) (H:Hp) (x:V) (v vl vu:Value) (lo hi:Option Int) (sl:Addr) (Q:VK),Inv X pins U H s->RelV x v->s.heap.IsSliceOf sl vl vu .none->IsPart vl lo->IsPart vu hi->r x lo hi H Q ->
  ∃T id,typeLookup (.type T) "__getitem__"=pure (some (.builtin id))/\s.TypeIs v T/\wpAny (model X.prog X.w) X.A (getItem v (.ref sl)) (EP X pins U Q) X.xe s
noncomputable def tSl (r:V->Option Int->Option Int->Hp->VK->Prop) (te:TE) (tl th:TO):TE:=fun U H Q=>te U H fun x H1=>tl U H1 fun l H2=>th U H2 fun u H3=>r x l u H3 Q
theorem ziz {r:V->Option Int->Option Int->Hp->VK->Prop} (hr:SlR X r) (he:PE X e te) (hl:PO X lo tl) (hu:PO X hi th):PE X (.Subscript e (.Slice lo hi none p2) pos) (tSl r te tl th):=by
 intro pins s U H Q I h
 refine Subscript_ (thn (he pins s U H _ I h) fun v s1 ⟨x,H1,I1,r1,q1⟩=>?_)
 refine wpAny_Slice (thn (hl pins s1 U H1 _ I1 q1) fun vl s2 ⟨l,H2,I2,pl,q2⟩=>thn (hu pins s2 U H2 _ I2 q2) fun vu s3 ⟨u,H3,I3,pu,q3⟩=>?_)
 rw [evalPart_none]
 refine wpAny_pure ?_
 have I4:Inv X pins U H3 { s3 with heap:=s3.heap.push { cls:=.type "slice",data:=.fields #[vl,vu,.none] } }:=I3.kept (t':=s3.toks) fun b ob q=>Heap.get?_push_of_some _ q
 obtain ⟨T,id,hT,ht,hg⟩:=hr pins { s3 with heap:=s3.heap.push { cls:=.type "slice",data:=.fields #[vl,vu,.none] } } U H3 x v vl vu l u s3.heap.objs.size Q I4 r1 (Heap.IsSliceOf.new ..) pl pu q3
 show wpAny (model X.prog X.w) X.A (subscriptTail e (.Slice lo hi none p2) v (.ref s3.heap.objs.size)) (EP X pins U Q) X.xe { s3 with heap:=s3.heap.push { cls:=.type "slice",data:=.fields #[vl,vu,.none] } }
 exact tail_any (ops:=[.ref s3.heap.objs.size,v]) ht hT hg (by with_unfolding_all rfl)
noncomputable def zq2 (xs:List V) (lo hi:Option Int):List V:=(xs.drop (HT.sIx xs.length 0 lo)).take (HT.sIx xs.length xs.length hi - HT.sIx xs.length 0 lo)
theorem zbg (xs:List V) (lo hi:Option Int):(zq2 xs lo hi).length<=xs.length:=by
 unfold zq2
 rw [List.length_take,List.length_drop]
 omega
end
noncomputable def ixN (n:Nat) (i:Int):Option Nat:=if 0<=i then (if i<n then some i.toNat else none) else if -(n:Int)<=i then some (i+n).toNat else none
noncomputable def atI {α:Type} (xs:List α) (i:Int):Option α:=(ixN xs.length i).bind fun j=>xs[j]?
theorem zmu {n:Nat} {i:Int} {j:Nat} (h:ixN n i=some j):seqIndex? i n=some j/\j<n/\-(n:Int)<=i/\i<n:=by
 unfold ixN at h
 by_cases h0:0<=i
 . rw [if_pos h0] at h
   by_cases h1:i<n
   . rw [if_pos h1] at h
     have e:i.toNat=j:=Option.some.inj h
     exact ⟨by rw [seqIndex_of h0 h1,e],by lia,by lia,h1⟩
   . rw [if_neg h1] at h;cases h
 . rw [if_neg h0] at h
   by_cases h1:-(n:Int)<=i
   . rw [if_pos h1] at h
     have e:(i+n).toNat=j:=Option.some.inj h
     exact ⟨by rw [seqIndex_neg (by lia) h1,e],by lia,h1,by lia⟩
   . rw [if_neg h1] at h;cases h
theorem zbh {α:Type} {xs:List α} {i:Int} {v:α} (h:atI xs i=some v):∃j,seqIndex? i xs.length=some j/\xs[j]?=some v/\j<xs.length/\-(xs.length:Int)<=i/\i<xs.length:=by
 unfold atI at h
 cases e:ixN xs.length i with
 | none=>rw [e] at h;cases h
 | some j=>
  rw [e] at h
  obtain ⟨h1,h2,h3,h4⟩:=zmu e
  exact ⟨j,h1,h,h2,h3,h4⟩
theorem z6l {α:Type} {xs:List α} {j:Nat} {v:α} (h:xs[j]?=some v):atI xs (j:Int)=some v:=by
 have hj:j<xs.length:=(List.getElem?_eq_some_iff.mp h).1
 have e:ixN xs.length (j:Int)=some j:=by
  unfold ixN
  rw [if_pos (by lia),if_pos (by lia)];simp
 unfold atI;rw [e];exact h
theorem zj0 {α:Type} (xs:List α) (v:α):atI (xs++[v]) (-1)=some v:=by
 have hl:(xs++[v]).length=xs.length+1:=by simp
 have e:ixN (xs++[v]).length (-1)=some xs.length:=by
  unfold ixN
  rw [hl,if_neg (by decide),if_pos (by lia)]
  congr 1
  lia
 unfold atI
 rw [e]
 show (xs++[v])[xs.length]?=some v
 simp
def zbi (b:Expr):Prop:=∀o i,subscripted b false o i=operate [o,i] (getItem o i)
def IxR (X:Cx) (r:R2):Prop:=
 ∀(value slice:Expr) (pins:List (Addr×Obj)) (s:Shared) (U:St) (H:Hp) (x y:V) (v u:Value) (Q:VK),Inv X pins U H s->RelV x v->RelV y u->r x y H Q ->
  subscripted slice false v u=operate [v,u] (getItem v u)->wpAny (model X.prog X.w) X.A (subscriptTail value slice v u) (EP X pins U Q) X.xe s
def MtR (X:Cx) (id:String) (r:V->List V->Hp->VK->Prop):Prop:=
 ∀(pins:List (Addr×Obj)) (s:Shared) (U:St) (H:Hp) (x:V) (xs:List V) (v:Value) (us:List Value) (Q:VK),Inv X pins U H s->RelV x v->Vals xs us->r x xs H Q ->
  wpAny (model X.prog X.w) X.A (call (.builtin id) (v::us)) (EP X pins U Q) X.xe s
section
variable {X:Cx} {a b:Expr} {ta tb:TE} {pos:Pos}
theorem IxR.or {r r':R2} (h:IxR X r) (h':IxR X r'):IxR X (fun x y H Q=>r x y H Q\/r' x y H Q):=by
 intro value slice pins s U H x y v u Q I rx ry q hs
 rcases q with q | q
 . exact h value slice pins s U H x y v u Q I rx ry q hs
 . exact h' value slice pins s U H x y v u Q I rx ry q hs
theorem zw9 {r:R2} (hr:IxR X r) (ha:PE X a ta) (hb:PE X b tb) (hs:zbi b):PE X (.Subscript a b pos) (tOp r ta tb):=by
 intro pins s U H Q I h
 exact Subscript_ (zw5 ha hb I h fun v u s2 x y H2 I2 rx ry q=>hr a b pins s2 U H2 x y v u Q I2 rx ry q (hs _ _))
noncomputable def zza (K:Frag):R2:=fun x y H Q=>∃p xs i v,x=.ref p/\y=.int i/\SqL K H p xs/\atI xs i=some v/\Q v H
noncomputable def zzb (K:Frag):R2:=fun x y H Q=>∃p xs i v,x=.ref p/\y=.int i/\SqT K H p xs/\atI xs i=some v/\Q v H
noncomputable def zzc:R2:=fun x y H Q=>∃z i c,x=.str z/\y=.int i/\z.length<=sizeLine/\atI z.cps.toList i=some c/\Q (.str ⟨#[c]⟩) H
theorem ix_list:IxR X (zza X.K):=by
 intro value slice pins s U H x y v u Q I rx ry h hs
 obtain ⟨p,xs,i,z,rfl,rfl,hq,he,q⟩:=h
 cases rx
 obtain ⟨t,rfl⟩:=ry
 obtain ⟨its,r,pl,hz⟩:=I.list hq
 obtain ⟨j,h1,h2,h3,h4,h5⟩:=zbh he
 obtain ⟨w,ew,rw'⟩:=r.get h2
 have hl:=r.length
 have hn:=z7s
 have fin:EP X pins U Q w s:=⟨z,H,I,rw',q⟩
 by_cases h0:0<=i
 . have hj:i.toNat=j:=by
    rw [seqIndex_of h0 h5] at h1
    exact Option.some.inj h1
   exact item_listR pl.isList h0 (by lia) (by rw [hj];simpa using ew) fin hs
 . have hj:(i+(its.toArray.size:Int)).toNat=j:=by
    rw [seqIndex_neg (by lia) h4] at h1
    rw [List.size_toArray,<-hl]
    exact Option.some.inj h1
   exact subscriptTail_builtinR (x:=w) pl.isList.typeIs slot_list_getitem.lookup
    (wpAny_getItem_list_neg (Q:=fun r s'=>r=w/\EP X pins U Q r s') pl.isList (by lia) (by rw [List.size_toArray]<;>lia) (by lia) (by rw [hj];simpa using ew) ⟨rfl,fin⟩) hs
theorem ix_tup:IxR X (zzb X.K):=by
 intro value slice pins s U H x y v u Q I rx ry h hs
 obtain ⟨p,xs,i,z,rfl,rfl,hq,he,q⟩:=h
 cases rx
 obtain ⟨t,rfl⟩:=ry
 obtain ⟨its,r,pl,hz⟩:=I.tuple hq
 obtain ⟨j,h1,h2,h3,h4,h5⟩:=zbh he
 obtain ⟨w,ew,rw'⟩:=r.get h2
 have hl:=r.length
 have hn:=z7s
 have fin:EP X pins U Q w s:=⟨z,H,I,rw',q⟩
 exact subscriptTail_builtinR (x:=w) pl.typeIs slot_tuple_getitem.lookup
  (getItem_tuple (j:=j) (Q:=fun r s'=>r=w/\EP X pins U Q r s') pl (by lia) (by lia) (by rw [List.size_toArray,<-hl];exact h1) (by simpa using ew) ⟨rfl,fin⟩) hs
theorem zqx:IxR X zzc:=by
 intro value slice pins s U H x y v u Q I rx ry h hs
 obtain ⟨z,i,c,rfl,rfl,hz,he,q⟩:=h
 obtain ⟨t,rfl⟩:=rx
 obtain ⟨t',rfl⟩:=ry
 obtain ⟨j,h1,h2,h3,h4,h5⟩:=zbh he
 have hl:z.cps.toList.length=z.length:=by simp [Str.length]
 rw [hl] at h1 h4 h5
 have hn:=z7s
 exact tail_any (typeIs_str s z t) slot_str_getitem.lookup (getItem_str (c:=c) (by
  have e1:decide (i < -(2 ^ 63:Int))=false:=decide_eq_false (by lia)
  have e2:decide (i ≥ 2 ^ 63)=false:=decide_eq_false (by lia)
  rw [e1,e2,Bool.or_false]) (by rw [h1];simpa using h2) ⟨.str ⟨#[c]⟩,H,I.tok _,⟨_,rfl⟩,q⟩) hs
noncomputable def rIx (K:Frag):R2:=fun x y H Q=>zza K x y H Q\/zzb K x y H Q\/zzc x y H Q
theorem ix_seq:IxR X (rIx X.K):=ix_list.or (ix_tup.or zqx)
theorem Inv.lst {pins:List (Addr×Obj)} {U:St} {H:Hp} {s:Shared} {p:Addr} {xs:List V} (I:Inv X pins U H s) (h:H p=some (.lst xs)) :
  ∃(its:List Value) (n:Nat),Vals xs its/\s.heap.get? p=some { cls:=.type "list",data:=.seq its.toArray n }/\xs.length<=sizeLine:=by
 obtain ⟨z,its,n,r,e⟩:=I.hok p _ h
 exact ⟨its,n,r,e,z⟩
theorem za1 (lo hi:Option Int) (n:Nat):(sliceBounds lo hi none n).1=((HT.sIx n 0 lo:Nat):Int)/\(sliceBounds lo hi none n).2.1=((HT.sIx n n hi:Nat):Int)/\(sliceBounds lo hi none n).2.2=1:=by
 refine ⟨?_,?_,rfl⟩
 . cases lo with
   | none=>simp [sliceBounds,HT.sIx]
   | some i=>
    simp only [sliceBounds,HT.sIx,Option.getD_none,show (1:Int) > 0 by decide,if_true]
    by_cases h:i<0
    . simp only [h,if_true]<;>lia
    . simp only [h,if_false]<;>lia
 . cases hi with
   | none=>simp [sliceBounds,HT.sIx]
   | some i=>
    simp only [sliceBounds,HT.sIx,Option.getD_none,show (1:Int) > 0 by decide,if_true]
    by_cases h:i<0
    . simp only [h,if_true]<;>lia
    . simp only [h,if_false]<;>lia
theorem z8k (its:List Value) (lo hi:Option Int):slicePick its.toArray lo hi none=((its.drop (HT.sIx its.length 0 lo)).take (HT.sIx its.length its.length hi - HT.sIx its.length 0 lo)).toArray:=by
 obtain ⟨h1,h2,h3⟩:=za1 lo hi its.toArray.size
 unfold slicePick
 rw [h1,h2,h3]
 simp only [sliceRange_one,pick_run,List.size_toArray]<;>rfl
def zzd (K:Frag):V->Option Int->Option Int->Hp->VK->Prop:=fun x lo hi H Q=>∃a xs,x=.ref a/\SqL K H a xs/\∀p,H p=none->Q (.ref p) (upd H p (.lst (zq2 xs lo hi)))
theorem zbj:SlR X (zzd X.K):=by
 intro pins s U H x v vl vu lo hi sl Q I rx hs pl pu h
 obtain ⟨a,xs,rfl,hx,q⟩:=h
 cases rx
 obtain ⟨its,r,ht,hz⟩:=I.list hx
 have hlen:=r.length
 refine ⟨"list",_,slot_list_getitem.lookup,ht.isList.typeIs,?_⟩
 refine wpAny_getItem_list_slice ht.isList hs pl pu .none (by simp) ?_ (by rw [List.size_toArray]<;>lia)
 rw [z8k,<-hlen]
 refine ⟨.ref s.heap.objs.size,_,I.laid (t':=s.toks) (o:=.lst (zq2 xs lo hi)) (fun b ob q=>Heap.get?_push_of_some _ q) (Nat.le_refl _) ?_,rfl,q _ (I.hok.fresh (Nat.le_refl _))⟩
 exact ⟨Nat.le_trans (zbg xs lo hi) hz,_,0,(r.drop (HT.sIx xs.length 0 lo)).take (HT.sIx xs.length xs.length hi - HT.sIx xs.length 0 lo),Heap.get?_push_size _ rfl⟩
theorem call_len_seq:CallR X (.builtin "len") (fun xs H Q=>∃p ys,xs=[.ref p]/\(SqL X.K H p ys\/SqT X.K H p ys)/\Q (.int ys.length) H):=by
 intro pins s U H xs us Q I r h
 obtain ⟨p,ys,rfl,hq,q⟩:=h
 obtain ⟨u,rfl,rx⟩:=z5a r
 cases rx
 have hn:=z7s
 rcases hq with hq | hq
 . obtain ⟨its,r',pl,hz⟩:=I.list hq
   have hlen:=r'.length
   exact Calls.call_len_list pl.isList (by simp only [List.size_toArray]<;>lia) ⟨.int ys.length,H,I.tok _,⟨s.toks+1,by rw [List.size_toArray,hlen]⟩,q⟩
 . obtain ⟨its,r',pl,hz⟩:=I.tuple hq
   have hlen:=r'.length
   exact len_tuple pl (by simp only [List.size_toArray]<;>lia) ⟨.int ys.length,H,I.tok _,⟨s.toks+1,by rw [List.size_toArray,hlen]⟩,q⟩
theorem za2:CallR X (.builtin "len") (fun xs H Q=>∃z,xs=[.str z]/\z.length<=sizeLine/\Q (.int z.length) H):=by
 intro pins s U H xs us Q I r h
 obtain ⟨z,rfl,hz,q⟩:=h
 obtain ⟨u,rfl,t,rfl⟩:=z5a r
 have hn:=z7s
 exact len_str (by lia) ⟨.int z.length,H,I.tok _,⟨_,rfl⟩,q⟩
theorem CallR.or {f:Value} {r r':List V->Hp->VK->Prop} (h:CallR X f r) (h':CallR X f r'):CallR X f (fun xs H Q=>r xs H Q\/r' xs H Q):=by
 intro pins s U H xs us Q I rs q
 rcases q with q | q
 . exact h pins s U H xs us Q I rs q
 . exact h' pins s U H xs us Q I rs q
theorem za3:CallR X (.type "list") (fun xs H Q=>∃p ys,xs=[.ref p]/\(SqL X.K H p ys\/SqT X.K H p ys)/\∀l,H l=none->Q (.ref l) (upd H l (.lst ys))):=by
 intro pins s U H xs us Q I r h
 obtain ⟨p,ys,rfl,hq,q⟩:=h
 obtain ⟨u,rfl,rx⟩:=z5a r
 cases rx
 have fin:∀(its:List Value),Vals ys its->ys.length<=sizeLine->∀(h':Heap) (c':Nat),(∀b o',s.heap.get? b=some o'->h'.get? b=some o') ->
   h'.get? s.heap.objs.size=some { cls:=.type "list",dict:=none,data:=.seq its.toArray c',slots:=#[] }->EP X pins U Q (.ref s.heap.objs.size) { s with heap:=h' }:=fun its r' hz h' c' kp e=>
  ⟨.ref s.heap.objs.size,_,I.laid (t':=s.toks) kp (Nat.le_refl _) (show ObjOk X.prog X.w _ h' _ (.lst ys) from ⟨hz,its,c',r',e⟩),rfl,q _ (I.hok.fresh (Nat.le_refl _))⟩
 rcases hq with hq | hq
 . obtain ⟨its,r',pl,hz⟩:=I.list hq
   have hlen:=r'.length
   obtain ⟨o,ho,hc,n,hd⟩:=pl.isList
   exact call_list_seq p (.inl rfl) ho hc hd (fun h' c' kp e=>fin its r' hz h' c' kp e) (by simp only [List.size_toArray]<;>lia)
 . obtain ⟨its,r',pl,hz⟩:=I.tuple hq
   have hlen:=r'.length
   obtain ⟨o,ho,hc,n,hd⟩:=pl
   exact call_list_seq p (.inr rfl) ho hc hd (fun h' c' kp e=>fin its r' hz h' c' kp e) (by simp only [List.size_toArray]<;>lia)
theorem z8l:CallR X (.type "tuple") (fun xs H Q=>∃p ys,xs=[.ref p]/\((SqL X.K H p ys/\∀l,H l=none->Q (.ref l) (upd H l (.tup ys)))\/(SqT X.K H p ys/\Q (.ref p) H))):=by
 intro pins s U H xs us Q I r h
 obtain ⟨p,ys,rfl,h⟩:=h
 obtain ⟨u,rfl,rx⟩:=z5a r
 cases rx
 rcases h with ⟨hq,q⟩ | ⟨hq,q⟩
 . obtain ⟨its,r',pl,hz⟩:=I.list hq
   have hlen:=r'.length
   refine call_tuple_list pl.isList (fun h' kp=>?_) (by simp only [List.size_toArray]<;>lia)
   have I1:Inv X pins U H { s with heap:=h' }:=I.kept (t':=s.toks) kp
   have I2:Inv X pins U (upd H h'.objs.size (.tup ys)) { s with heap:=h'.push { cls:=.type "tuple",data:=.seq its.toArray } }:=
    I1.laid (t':=s.toks) (fun b o e=>Heap.get?_push_of_some _ e) (Nat.le_refl _) (show ObjOk X.prog X.w _ _ _ (.tup ys) from ⟨hz,its,r',.mk' (Heap.get?_push_size _ rfl)⟩)
   exact ⟨.ref h'.objs.size,_,I2,rfl,q _ (I1.hok.fresh (Nat.le_refl _))⟩
 . obtain ⟨its,r',pl,hz⟩:=I.tuple hq
   exact call_tuple_same pl ⟨.ref p,H,I,rfl,q⟩
def tyV (K:Frag) (T:String) (x:V) (H:Hp):Prop:=match x with
 | .str _=>T="str"
 | .int _=>T="int"
 | .ref p=>(T="list"/\∃xs,SqL K H p xs)\/(T="tuple"/\∃o,K.lookup p=some o/\o.cls=.type "tuple"/\o.dict=none) \/
  (T="dict"/\((∃kvs,H p=some (.dK kvs))\/∃kvs,H p=some (.dT kvs)))\/(T="set"/\∃S n,H p=some (.set S n))
 | _=>False
theorem zqy {pins:List (Addr×Obj)} {U:St} {H:Hp} {s:Shared} {T:String} {x:V} {v:Value} (I:Inv X pins U H s) (r:RelV x v) (ty:tyV X.K T x H) :
  s.TypeIs v T/\∀a,v=.ref a->∃ob,s.heap.get? a=some ob/\ob.dict=none:=by
 cases x with
 | str z=>
  obtain ⟨t,rfl⟩:=r
  cases (show T="str" from ty)
  exact ⟨typeIs_str s z t,fun _ e=>nomatch e⟩
 | int i=>
  obtain ⟨t,rfl⟩:=r
  cases (show T="int" from ty)
  exact ⟨typeIs_int s i t,fun _ e=>nomatch e⟩
 | ref p=>
  cases r
  rcases ty with ⟨rfl,xs,hq⟩ | ⟨rfl,o,hk,hc,hd⟩ | ⟨rfl,hk⟩ | ⟨rfl,S,n,hk⟩
  . obtain ⟨its,_,pl,_⟩:=I.list hq
    refine ⟨pl.isList.typeIs,fun a e=>?_⟩
    cases e
    obtain ⟨o,n,e,c,hd,_⟩:=pl
    exact ⟨o,e,hd⟩
  . refine ⟨⟨o,I.kIn p o hk,hc⟩,fun a e=>?_⟩
    cases e
    exact ⟨o,I.kIn _ o hk,hd⟩
  . have z:∃o,s.heap.get? p=some o/\o.ExactDict:=by
     rcases hk with ⟨kvs,hk⟩ | ⟨kvs,hk⟩
     . obtain ⟨_,_,_,_,o,_,_,e,ex,_⟩:=I.hok p _ hk
       exact ⟨o,e,ex⟩
     . obtain ⟨_,_,_,_,o,_,_,e,ex,_⟩:=I.hok p _ hk
       exact ⟨o,e,ex⟩
    obtain ⟨o,e,ex⟩:=z
    refine ⟨⟨o,e,ex.1⟩,fun a e2=>?_⟩
    cases e2
    exact ⟨o,e,ex.2.1⟩
  . obtain ⟨o,_,_,_,e,ex,_⟩:=I.hok p _ hk
    refine ⟨⟨o,e,ex.1⟩,fun a e2=>?_⟩
    cases e2
    exact ⟨o,e,ex.2.1⟩
 | _=>exact False.elim ty
noncomputable def tBM (K:Frag) (T:String) (r:V->List V->Hp->VK->Prop) (to:TE) (t:TA):TE:=fun U H Q=>to U H fun x H1=>tyV K T x H1/\t U H1 fun xs H2=>r x xs H2 Q
variable {o e:Expr} {es:List Expr} {to:TE} {t:TA} {name:Str} {apos cpos:Pos} {T id:String} {r:V->List V->Hp->VK->Prop}
theorem zwa (pa:PlainAttrs T) (slot:Slot T name id) (hty:typeOf (.builtin id)=pure (.type "method_descriptor")) (hm:MtR X id r) (ho:PE X o to) (ha:PA X (e::es) t)
  (hbase:attributeBase o name X.env (eval o X.env)=eval o X.env:=by rfl)
  (hfew:((backTo cpos (starEach (e::es) X.env)).all (fun x=>!x.1)&&(backToKw cpos (keywordEach [] X.env)).all (fun x=>x.1.isSome)
   && decide ((e::es).length+([]:List Keyword).length+(if ([]:List Keyword).isEmpty then 0 else 1)<30))=true:=by rfl)
  (hline:(apos.endLine==cpos.line)=true:=by rfl) (hs:starEach (e::es) X.env=(false,eval e X.env)::starEach es X.env:=by rfl) (hplain:(backTo cpos (starEach es X.env)).any (·.1)=false:=by rfl) :
  PE X (.Call (.Attribute o name apos) (e::es) [] cpos) (tBM X.K T r to t):=by
 intro pins s U H Q I h
 refine wpAny_Call_method_late hbase hfew hline rfl (thn (ho pins s U H _ I h) fun v s1 ⟨x,H1,I1,r1,ty,q1⟩=>?_)
 obtain ⟨h1,h2⟩:=zqy I1 r1 ty
 refine ⟨T,id,pa,slot,hty,h1,h2,?_⟩
 have hA:=ha cpos pins s1 U H1 _ I1 q1
 rw [hs] at hA ⊢
 refine Calls.callWith_builtin (by show (false||(backTo cpos (starEach es X.env)).any (·.1))=false;rw [hplain]<;>rfl) (Calls.evalArgs_plain ?_)
 exact thn hA fun us s2 ⟨vs,H2,I2,r2,q2⟩=>hm pins s2 U H2 x vs v us Q I2 r1 r2 q2
end
def MtM (X:Cx) (id:String) (r:V->List V->Hp->VK->Prop):Prop:=
 ∀(pins:List (Addr×Obj)) (s:Shared) (U:St) (H:Hp) (x:V) (xs:List V) (v:Value) (us:List Value) (Q:VK),Inv X pins U H s->RelV x v->Vals xs us->r x xs H Q ->
  wpAny (model X.prog X.w) X.A (call (.builtin id) (v::us)) (EP X pins U Q) X.xe s
theorem Vals.one:∀{x:V} {us:List Value},Vals [x] us->∃u,us=[u]/\RelV x u
 | _,_,.cons r .nil=>⟨_,rfl,r⟩
section
variable {X:Cx} {pins:List (Addr×Obj)} {U:St} {H:Hp} {s:Shared} {l:Addr} {xs ys:List V}
theorem Inv.lset {its its':List Value} {n:Nat} {f:Array Value->Array Value} {t':Nat} (I:Inv X pins U H s) (hH:H l=some (.lst xs))
  (e:s.heap.get? l=some { cls:=.type "list",data:=.seq its.toArray n }) (hf:f its.toArray=its'.toArray) (hv:Vals ys its') (hz:ys.length<=sizeLine) :
  Inv X pins U (upd H l (.lst ys)) { s with heap:=s.heap.update l (Obj.mapSeq f),toks:=t' }:=by
 have q:=PySem.IsL.update e f
 rw [hf] at q
 refine I.write (x:=l) (e:=l) (by rw [hH];exact trivial) (.inl rfl) (fun b' u hb hu=>(Heap.get?_update_other s.heap (Obj.mapSeq f) (Ne.symm hb)).trans hu) ⟨_,q⟩ ?_
 exact ⟨hz,its',_,hv,q⟩
theorem Inv.lnew {its:List Value} {t':Nat} (I:Inv X pins U H s) (hv:Vals ys its) (hz:ys.length<=sizeLine) :
  Inv X pins U (upd H s.heap.objs.size (.lst ys)) { s with heap:=s.heap.push { cls:=.type "list",data:=.seq its.toArray },toks:=t' }:=
 I.laid (fun _ _ q=>Heap.get?_push_of_some _ q) (Nat.le_refl _) ⟨hz,its,0,hv,Heap.get?_push_size _ rfl⟩
theorem Inv.fresh (I:Inv X pins U H s):H s.heap.objs.size=none:=I.hok.fresh (Nat.le_refl _)
theorem Inv.lstM (I:Inv X pins U H s) (hH:H l=some (.lst xs)):xs.length<=sizeLine/\∃(its:List Value) (n:Nat),Vals xs its/\xs.length=its.length/\s.heap.get? l=some { cls:=.type "list",data:=.seq its.toArray n }:=by
 obtain ⟨z,its,n,r,e⟩:=I.hok l _ hH
 exact ⟨z,its,n,r,r.length,e⟩
theorem zj1 {n:Nat} (h:n<=sizeLine):Builtin.List.listTooLong n=false:=by
 unfold Builtin.List.listTooLong
 exact decide_eq_false (by lia)
end
section
variable {X:Cx}
def zf9:V->List V->Hp->VK->Prop:=fun x vs H Q=>∃l xs y,x=.ref l/\vs=[y]/\H l=some (.lst xs)/\xs.length<sizeLine/\Q .non (upd H l (.lst (xs++[y])))
theorem z14:MtM X "list.append" zf9:=by
 intro pins s U H x vs v us Q I rx rv h
 obtain ⟨l,xs,y,rfl,rfl,hH,hz,q⟩:=h
 cases rx
 obtain ⟨u,rfl,ru⟩:=rv.one
 obtain ⟨z,its,n,r,hl,e⟩:=I.lstM hH
 refine call_meets F.slot_list_append ⟨_,e,rfl⟩ F.entry_list_append (F.args_list_append_2 _ _) (PySem.list_append l its.toArray n u (by rw [List.size_toArray];lia)) ⟨e,?_⟩
 refine ⟨.non,_,I.lset (its':=its++[u]) hH e (by simp) (r.append (.cons ru .nil)) ?_,rfl,q⟩
 rw [List.length_append,List.length_singleton]
 lia
noncomputable def zze:R2:=fun x y H Q=>∃l b xs zs,x=.ref l/\y=.ref b/\H l=some (.lst xs)/\H b=some (.lst zs)/\xs.length+zs.length<=sizeLine/\∀p,H p=none->Q (.ref p) (upd H p (.lst (xs++zs)))
theorem zl4:OpR X (binaryOp .Add) zze:=by
 intro pins s U H x y v u Q I rx ry h
 obtain ⟨l,b,xs,zs,rfl,rfl,hH,hB,hz,q⟩:=h
 cases rx
 cases ry
 obtain ⟨z,its,n,r,hl,e⟩:=I.lstM hH
 obtain ⟨z2,its2,n2,r2,hl2,e2⟩:=I.lstM hB
 refine PySem.P.add_list e e2 ?_ (by rw [List.size_toArray,List.size_toArray];omega)
 have ea:its.toArray++its2.toArray=(its++its2).toArray:=by simp
 rw [ea]
 exact ⟨.ref _,_,I.lnew (t':=s.toks) (r.append r2) (by rw [List.length_append];omega),rfl,q _ I.fresh⟩
end
section
variable {κ:Type} [DecidableEq κ]
noncomputable def zct (kvs:List (κ×V)) (k:κ):Option V:=(kvs.find? fun kv=>decide (kv.1=k)).map (·.2)
noncomputable def zqz (kvs:List (κ×V)) (k:κ):List (κ×V):=kvs.filter fun kv=>decide (kv.1≠k)
theorem zcu {p:κ×V} {r:List (κ×V)} {k:κ} (e:p.1=k):zct (p::r) k=some p.2:=by simp [zct,List.find?_cons,e]
theorem zcv {p:κ×V} {r:List (κ×V)} {k:κ} (e:¬p.1=k):zct (p::r) k=zct r k:=by simp [zct,List.find?_cons,e]
theorem RelO.isSome_eq {o:Option V} {u:Option Value} (r:RelO o u):o.isSome=u.isSome:=by
 cases o with
 | none=>cases u with
  | none=>rfl
  | some _=>exact (show False from r).elim
 | some _=>cases u with
  | none=>exact (show False from r).elim
  | some _=>rfl
theorem RelO.getD {o:Option V} {u:Option Value} {d:V} {d':Value} (r:RelO o u) (rd:RelV d d'):RelV (o.getD d) (u.getD d'):=by
 cases o with
 | none=>cases u with
  | none=>exact rd
  | some _=>exact (show False from r).elim
 | some _=>cases u with
  | none=>exact (show False from r).elim
  | some _=>exact r
theorem KV.val {kvs:List (κ×V)} {vs:List (κ×Value)} (r:KV kvs vs) (k:κ):RelO (zct kvs k) (valueAt vs k):=by
 unfold KV at r
 induction r with
 | nil=>exact True.intro
 | @cons p q ps qs h t ih=>
  obtain ⟨h1,h2⟩:=h
  by_cases e:p.1=k
  . have e':q.1=k:=h1.symm.trans e
    have b:valueAt (q::qs) k=some q.2:=by simp [valueAt,List.find?_cons,e']
    rw [zcu e,b];exact h2
  . have e':¬q.1=k:=fun z=>e (h1.trans z)
    have b:valueAt (q::qs) k=valueAt qs k:=by simp [valueAt,List.find?_cons,e']
    rw [zcv e,b];exact ih
theorem KV.drop {kvs:List (κ×V)} {vs:List (κ×Value)} (r:KV kvs vs) (k:κ):KV (zqz kvs k) (without vs k):=by
 unfold KV at r ⊢
 unfold zqz without
 induction r with
 | nil=>exact .nil
 | @cons p q ps qs h t ih=>
  obtain ⟨h1,h2⟩:=h
  rw [List.filter_cons,List.filter_cons]
  by_cases e:p.1=k
  . have a:¬decide (p.1≠k)=true:=by simp [e]
    have b:¬decide (q.1≠k)=true:=by simp [h1.symm.trans e]
    rw [if_neg a,if_neg b];exact ih
  . have e':¬q.1=k:=fun z=>e (h1.trans z)
    have a:decide (p.1≠k)=true:=by simp [e]
    have b:decide (q.1≠k)=true:=by simp [e']
    rw [if_pos a,if_pos b];exact .cons ⟨h1,h2⟩ ih
theorem KV.length {kvs:List (κ×V)} {vs:List (κ×Value)} (r:KV kvs vs):kvs.length=vs.length:=Paired.length r
end
theorem zj2 {P:Program} {w:World} {k:Key} {u:Value} (r:RelV (kV k) u):(z1t P w).is k u=true:=by
 cases k with
 | inl i=>obtain ⟨t,e⟩:=(show ∃t,u=Value.int i t from r);subst e;exact zbc P w i t
 | inr x=>obtain ⟨t,e⟩:=(show ∃t,u=Value.str x t from r);subst e;exact zbd P w x t
theorem za4 {P:Program} {w:World}:∀{ks:List Key} {us:List Value},Vals (ks.map kV) us->ItemsAre (z1t P w) ks us
 | [],_,r=>by rw [List.map_nil] at r;cases r;exact .nil
 | k::ks,_,r=>by
  rw [List.map_cons] at r
  cases r with
  | cons h t=>exact .cons (zj2 h) (za4 t)
abbrev KT (H:Hp):List (List Key×V)->List (List Key×Addr×Value)->Prop:=Paired fun p q=>p.1=q.1/\H q.2.1=some (.tup (p.1.map kV))/\RelV p.2 q.2.2
theorem KT.val {H:Hp} {kvs:List (List Key×V)} {xs:List (List Key×Addr×Value)} (r:KT H kvs xs) (k:List Key):RelO (zct kvs k) ((atKey xs k).map (·.2)):=by
 induction r with
 | nil=>exact True.intro
 | @cons p q ps qs h t ih=>
  obtain ⟨h1,_,h2⟩:=h
  by_cases e:p.1=k
  . have e':q.1=k:=h1.symm.trans e
    have b:atKey (q::qs) k=some q.2:=by simp [atKey,List.find?_cons,e']
    rw [zcu e,b];exact h2
  . have e':¬q.1=k:=fun z=>e (h1.trans z)
    have b:atKey (q::qs) k=atKey qs k:=by simp [atKey,List.find?_cons,e']
    rw [zcv e,b];exact ih
section
variable {P:Program} {w:World} {H:Hp} {h:Heap} {a:Addr}
theorem zr0 {u:HO} (ok:HOk P w H h) (e:Rd H a u):ObjOk P w H h a u:=e.ok ok
theorem zfa {kvs:List (Key×V)} (ok:HOk P w H h) (e:Rd H a (.dK kvs)):kvs.length<=sizeLine/\(a==sysModules)=false/\∃vs,KV kvs vs/\h.DictOf (z1t P w) a vs:=
 show ObjOk P w H h a (.dK kvs) from zr0 ok e
theorem zcw {ks:List Key} (ok:HOk P w H h) (e:H a=some (.tup (ks.map kV))):(tupleKind (z1t P w)).is h ks a:=by
 obtain ⟨_,its,r,o,h1,h2,⟨n,h3⟩,_⟩:=(show ObjOk P w H h a (.tup (ks.map kV)) from ok a _ e)
 exact ⟨o,its.toArray,n,h1,h2,h3,by simpa using za4 r⟩
theorem zj3 {kvs:List (List Key×V)} (ok:HOk P w H h) (e:Rd H a (.dT kvs)):kvs.length<=sizeLine/\(a==sysModules)=false /\
  ∃xs,KT H kvs xs/\h.DictOfH (tupleKind (z1t P w)) a xs:=by
 obtain ⟨z,y,xs,r,o,es,ep,h1,h2,h3,h4,h5⟩:=(show ObjOk P w H h a (.dT kvs) from zr0 ok e)
 refine ⟨z,y,xs,r,o,es,ep,h1,h2,h3,h4,fun x hx=>?_,h5⟩
 have all:∀{l:List (List Key×V)} {m:List (List Key×Addr×Value)},KT H l m->∀x∈m,(tupleKind (z1t P w)).is h x.1 x.2.1:=by
  intro l m q
  induction q with
  | nil=>intro x hx;exact nomatch hx
  | @cons p q ps qs hq t ih=>
   intro x hx
   rcases List.mem_cons.mp hx with e | hx
   . subst e
     exact zcw ok (by rw [<-hq.1];exact hq.2.1)
   . exact ih x hx
 exact all r x hx
end
def DGet (H:Hp) (a:Addr) (y:V) (r:Option V):Prop:=
 (∃kvs k,Rd H a (.dK kvs)/\y=kV k/\r=zct kvs k)\/∃kvs k b,Rd H a (.dT kvs)/\y=.ref b/\H b=some (.tup (k.map kV))/\r=zct kvs k
theorem DGet.k {H:Hp} {a:Addr} {kvs:List (Key×V)} {k:Key} (e:H a=some (.dK kvs)):DGet H a (kV k) (zct kvs k):=.inl ⟨kvs,k,.inl e,rfl,rfl⟩
theorem DGet.t {H:Hp} {a b:Addr} {kvs:List (List Key×V)} {k:List Key} (e:H a=some (.dT kvs)) (eb:H b=some (.tup (k.map kV))):DGet H a (.ref b) (zct kvs k):=.inr ⟨kvs,k,b,.inl e,rfl,eb,rfl⟩
section
variable {X:Cx} {pins:List (Addr×Obj)} {U:St} {H:Hp} {s:Shared} {a:Addr} {y v:V} {u:Value} {o:Option V} {A:Around} {E:Value->Shared->Prop}
theorem Inv.big (I:Inv X pins U H s):sysModules<s.heap.objs.size:=by
 have h:mainGlobals<s.heap.objs.size:=(I.mod.glob.keeps I.bk).lt
 exact Nat.lt_trans (by decide) h
theorem zfb {Q:Value->Shared->Prop} (hu:A.units+1<cLine) (I:Inv X pins U H s) (g:DGet H a y (some v)) (ry:RelV y u) (h:∀w' s',Inv X pins U H s'->RelV v w'->Q w' s') :
  wpAny (model X.prog X.w) A (getItem (.ref a) u) Q E s:=by
 rcases g with ⟨kvs,k,e,ey,l⟩ | ⟨kvs,k,b,e,ey,eb,l⟩
 . subst ey
   obtain ⟨z,hd,vs,rel,dd⟩:=zfa I.hok e
   obtain ⟨w',hw,rw'⟩:=RelO.some_of (v:=v) (o:=valueAt vs k) (by rw [l];exact rel.val k)
   exact wpAny_getItem_of (zj2 ry) dd.mapOf hw (h w' _ (I.tok _) rw')
 . subst ey
   cases (show u=Value.ref b from ry)
   obtain ⟨z,hd,xs,rel,dd⟩:=zj3 I.hok e
   obtain ⟨w',hw,rw'⟩:=RelO.some_of (v:=v) (o:=(atKey xs k).map (·.2)) (by rw [l];exact rel.val k)
   obtain ⟨p,hp,hp2⟩:=Option.map_eq_some_iff.mp hw
   refine wpAny_getItem_heap (tupleKind_room_in1 hu) (zcw I.hok eb) dd hp ?_
   rw [hp2]
   exact h w' _ (I.tok _) rw'
theorem y01 {Q:Value->Shared->Prop} (hu:A.units+1<cLine) (I:Inv X pins U H s) (g:DGet H a y o) (ry:RelV y u) (h:∀s',Inv X pins U H s'->Q (.bool o.isSome) s') :
  wpAny (model X.prog X.w) A (compareOp .In u (.ref a)) Q E s:=by
 rcases g with ⟨kvs,k,e,ey,l⟩ | ⟨kvs,k,b,e,ey,eb,l⟩
 . subst ey
   obtain ⟨z,hd,vs,rel,dd⟩:=zfa I.hok e
   refine wpAny_in_of (zj2 ry) hd dd.mapOf ?_
   rw [<-(rel.val k).isSome_eq,<-l]
   exact h _ (I.tok _)
 . subst ey
   cases (show u=Value.ref b from ry)
   obtain ⟨z,hd,xs,rel,dd⟩:=zj3 I.hok e
   refine wpAny_in_heap (tupleKind_room_in1 hu) (zcw I.hok eb) hd dd ?_
   have q:=(rel.val k).isSome_eq
   rw [Option.isSome_map] at q
   rw [<-q,<-l]
   exact h _ (I.tok _)
theorem zmv {Q:Value->Shared->Prop} (hu:A.units+1<cLine) (I:Inv X pins U H s) (g:DGet H a y o) (ry:RelV y u) (h:∀s',Inv X pins U H s'->Q (.bool (!o.isSome)) s') :
  wpAny (model X.prog X.w) A (compareOp .NotIn u (.ref a)) Q E s:=by
 rcases g with ⟨kvs,k,e,ey,l⟩ | ⟨kvs,k,b,e,ey,eb,l⟩
 . subst ey
   obtain ⟨z,hd,vs,rel,dd⟩:=zfa I.hok e
   refine wpAny_notIn_of (zj2 ry) hd dd.mapOf ?_
   rw [<-(rel.val k).isSome_eq,<-l]
   exact h _ (I.tok _)
 . subst ey
   cases (show u=Value.ref b from ry)
   obtain ⟨z,hd,xs,rel,dd⟩:=zj3 I.hok e
   refine wpAny_notIn_heap (tupleKind_room_in1 hu) (zcw I.hok eb) hd dd ?_
   have q:=(rel.val k).isSome_eq
   rw [Option.isSome_map] at q
   rw [<-q,<-l]
   exact h _ (I.tok _)
theorem zmw {h':Heap} {t':Nat} {ob:HO} (I:Inv X pins U H s) (mu:Mut (H a)) (hs:Heap.SameBut a s.heap h') (he:∃q,h'.get? a=some q) (new:ObjOk X.prog X.w (upd H a ob) h' a ob) :
  Inv X pins U (upd H a ob) { s with heap:=h',toks:=t' }:=
 I.write (x:=a) (e:=a) mu (.inl rfl) (fun b q hb z=>(hs.2 b hb).trans z) he new
end
section
variable {X:Cx} {pins:List (Addr×Obj)} {U:St} {H:Hp} {s:Shared} {a:Addr} {kvs:List (Key×V)} {A:Around} {E:Value->Shared->Prop}
theorem zwb {Q:Value->Shared->Prop} (I:Inv X pins U H s) (e:Rd H a (.dK kvs)) (h:∀t s',Inv X pins U H s'->Q (.int kvs.length t) s'):wpAny (model X.prog X.w) A (call (.builtin "len") [.ref a]) Q E s:=by
 obtain ⟨z,hd,vs,rel,dd⟩:=zfa I.hok e
 refine call_len_dict hd dd (by rw [<-rel.length];rw [sizeLine_eq] at z;lia) ?_
 rw [<-rel.length]
 exact h _ _ (I.tok _)
end
theorem zbk {X:Cx} {pins:List (Addr×Obj)} {U:St} {H:Hp} {s:Shared} {a:Addr} {y:V} {o:Option V} (I:Inv X pins U H s) (g:DGet H a y o):s.TypeIs (.ref a) "dict":=by
 rcases g with ⟨kvs,k,e,_,_⟩ | ⟨kvs,k,b,e,_,_,_⟩
 . obtain ⟨_,_,vs,_,dd⟩:=zfa I.hok e
   exact dd.typeIs
 . obtain ⟨_,_,xs,_,dd⟩:=zj3 I.hok e
   exact dd.typeIs
structure M1 (X:Cx) (o:Expr) (m:Str) (apos:Pos) (e:Expr) (cpos:Pos):Prop where
 base:attributeBase o m X.env (eval o X.env)=eval o X.env
 few:((backTo cpos (starEach [e] X.env)).all (fun x=>!x.1)&&(backToKw cpos (keywordEach [] X.env)).all (fun x=>x.1.isSome)
  && decide (([e]:List Expr).length+([]:List Keyword).length+(if ([]:List Keyword).isEmpty then 0 else 1)<30))=true
 line:(apos.endLine==cpos.line)=true
 trees:backTo cpos (starEach [e] X.env)=[(false,eval e X.env)]
structure M2 (X:Cx) (o:Expr) (m:Str) (apos:Pos) (e f:Expr) (cpos:Pos):Prop where
 base:attributeBase o m X.env (eval o X.env)=eval o X.env
 few:((backTo cpos (starEach [e,f] X.env)).all (fun x=>!x.1)&&(backToKw cpos (keywordEach [] X.env)).all (fun x=>x.1.isSome)
  && decide (([e,f]:List Expr).length+([]:List Keyword).length+(if ([]:List Keyword).isEmpty then 0 else 1)<30))=true
 line:(apos.endLine==cpos.line)=true
 trees:backTo cpos (starEach [e,f] X.env)=[(false,eval e X.env),(false,eval f X.env)]
end L2
namespace Att
open PySem PySem.W PySem.Calls PyProof.Rows
theorem z6m {P:Params} {h:Heap}:∀(ns:List Int) (vs:List Value),WellAll P h vs (ns.map WData.int)->IntsAre vs ns:=by
 intro ns
 induction ns with
 | nil=>
  intro vs w
  rw [List.map_nil] at w
  cases w
  exact .nil
 | cons n ns ih=>
  intro vs w
  rw [List.map_cons] at w
  cases w with
  | cons a b=>
   cases a
   exact .cons _ _ (ih _ b)
theorem zfc {l:OpenLaw} {n:Nat} (hn:l.most=some n) {P:Params} {h:Heap} {args:List WData} {vals:List Value}
  (hpre:l.row.toRowW.claim.pre args=true) (hwl:WellAll P h vals args) :
  ∃a vs ns,vals=[Value.ref a]/\args=[WData.list (ns.map WData.int)]/\h.get? a=some { cls:=.type "list",data:=.seq vs.toArray }/\IntsAre vs ns/\ns.length<=n:=by
 have hsh:WShape.hasAll [] args [.list .int]=true:=(pre_splitW hpre).1
 have hc:l.pre.holds [] { args:=args }=true:=(pre_splitW hpre).2
 obtain ⟨d,r,rfl,h1,h2⟩:=hasAllW_cons hsh
 obtain rfl:=hasAllW_nil h2
 obtain ⟨xs,rfl,h3⟩:=hasW_list h1
 obtain ⟨ns,rfl⟩:=items_int h3
 have hlen:ns.length<=n:=by
  unfold OpenLaw.pre at hc
  have h4:(WTm.not (.lt (.lit (.int (n:Int))) (.len (.arg 0)))).holds [] { args:=[.list (ns.map .int)] }=true:=by
   have h4:=(holds_andW hc).1
   rw [hn] at h4
   exact h4
  have h5:=condW_of h4 (w_not (w_lt w_lit (w_len_list (w_arg rfl))))
  rw [List.length_map] at h5
  refine Nat.le_of_not_lt fun q=>?_
  have q':(n:Int)<((ns.length:Nat):Int):=by omega
  first
   | (rw [decide_eq_true q'] at h5;exact absurd h5 (by decide))
   | (simp at h5;omega)
 cases hwl with
 | cons w1 w2=>
  cases w2
  cases w1 with
  | list ho hall=>exact ⟨_,_,ns,rfl,rfl,ho,z6m ns _ hall,hlen⟩
theorem zfd (l:OpenLaw) (args:List WData):l.row.toRowW.claim.post args (.bool true) args=true:=
 postW_of (r:=l.row.toRowW) (X:=(true==true))
  (show WShape.has [] (.bool true) .bool=true by first | rfl | decide | simp [WShape.has,WShape.arms,WShape.armsAll])
  (show (WTm.eq .res (.lit (.bool true))).value [] { args:=args,res:=some (.bool true),after:=args }=some (.bool (true==true)) from w_eq_bool (w_res rfl) w_lit) rfl
theorem attach_call {l:OpenLaw} {n:Nat} {q:Program} {loose:List Str} {XP:(Str->Option Value)->Heap->Prop} {YP:World->Heap->Prop} {d:DefRec}
  (hn:l.most=some n) (hdf:d.params.defaults=[])
  (call:∀(w:World) (s₀ s₁:Shared) (mg mb:Str->Option Value) (fa:Addr) (o:Obj) (pm cd doc:Value) (a:Addr) (vs:List Value) (ns:List Int),
   Ground q loose [] XP w s₀ mg mb s₁.heap->YP w s₁.heap ->
   s₁.heap.get? fa=some o->o.data=.func (docDef d.name d.params d.body d.scope pm cd doc)->s₁.heap.CodeRec cd d.name->mg d.name=some (.ref fa) ->
   s₁.heap.get? a=some { cls:=.type "list",data:=.seq vs.toArray }->IntsAre vs ns->ns.length<=n->s₁.gens=#[] ->
   codeAny (model l.prog w) callerA (.call (.ref fa) ⟨[.ref a],[]⟩) (fun r s'=>r=.ok (.ret (.bool true))/\OldK s₁.heap s'.heap/\s'.os=s₁.os/\AllBare s'.gens) s₁) :
  WalkO q loose XP YP l.row.toRowW d [] (fun f vs=>PySem.call f vs):=by
 intro w s₀ s₁ mg mb G Y fa o pm cd doc dV kV ho hd hcd hD hmg hg args vals as hpre hlay hrd hwl hlo
 obtain rfl:dV=.none:=Dflts.none hD hdf
 obtain rfl:kV=.none:=Dflts.noKw hD
 obtain ⟨a,vs,ns,rfl,rfl,hobj,hints,hlen⟩:=zfc hn hpre hwl
 refine enter_call (codeAny_mono (call w s₀ s₁ mg mb fa o pm cd doc a vs ns G Y ho (fd_plain hd) hcd hmg hobj hints hlen hg) fun r s' hq=>?_)
 obtain ⟨rfl,h2,h3,h4⟩:=hq
 exact ⟨.inl ⟨.bool true,.bool true,[],rfl,fun _=>rfl,.bool true,zfd l _,fun _=>⟨List.Pairwise.nil,fun _ hm=>(nomatch hm)⟩⟩,h2,h3,h4⟩
section
def noObjs (h:Heap):Heap:={ h with objs:=#[] }
theorem noObjs_get (h:Heap) (b:Addr):(noObjs h).get? b=none:=by
 cases e:(noObjs h).get? b with
 | none=>rfl
 | some o=>exact absurd (Heap.lt_size e) (Nat.not_lt_zero _)
theorem fr_all {h:Heap} {L:Addr} {m:Str->Option Value} (n:h.Ns L m):Fr (noObjs h) L h m:=
 ⟨n,fun b o e=>(by rw [noObjs_get] at e;cases e),Nat.zero_le _⟩
end
end Att
namespace L2
open PySem PySem.Spec PyProof.Rows
theorem za5:∀{vs:List Value} {ns:List Int},IntsAre vs ns->Vals (ns.map V.int) vs
 | _,_,.nil=>.nil
 | _,_,.cons n t h=>.cons ⟨t,rfl⟩ (za5 h)
def zvm (H:Hp):Prop:=∀b,H b=none\/∃o xs,H b=some (.frz o (.lst xs))
theorem zj4 {P:Program} {w:World} {K:Frag} {mg mb:Str->Option Value} {CX:CXT} {k:Nat} {fa a:Addr} {fd:FuncData} {x:Str} {sp:Sp} {s₁:Shared} {vs:List Value} {ns:List Int}
  (KX:K.In s₁.heap) (hns:s₁.heap.Ns mainGlobals mg) (hb:s₁.heap.Ns builtinsNs mb) (hbb:∀x:Str,x≠"__name__"->mb x=bootBuiltins x) (hlim:s₁.heap.NoLimit) (hg:s₁.gens=#[])
  (ha:s₁.heap.get? a=some { cls:=.type "list",data:=.seq vs.toArray }) (hi:IntsAre vs ns) (hl:ns.length<=sizeLine) (hr:Room k callerA)
  (F:∀base:Heap,K.In base->base.Ns mainGlobals mg->FnOk P w K mg base CX k fa fd [x] sp) (hbind:∀(s:Shared) (u:Value),BindsTo s fd ⟨[u],[]⟩ [(x,u)])
  (hsp:∀H:Hp,zvm H->SqL K H a (ns.map V.int)->sp [.ref a] H (fun v _=>v=.bl true) fun _ _ _=>False)
  (hCX:∀H e s',CX [] H s₁ (fun _ _ _=>False) e s'->False) :
  codeAny (model P w) callerA (.call (.ref fa) ⟨[.ref a],[]⟩) (fun r s'=>r=.ok (.ret (.bool true))/\OldK s₁.heap s'.heap/\s'.os=s₁.os/\AllBare s'.gens) s₁:=by
 have rv:=za5 hi
 have lenV:=hi.length
 have core:∀H:Hp,zvm H->SqL K H a (ns.map V.int)->HOk P w H s₁.heap->(∀b,H b≠none->b=a)->(H a≠none->K.lookup a=none) ->
   codeAny (model P w) callerA (.call (.ref fa) ⟨[.ref a],[]⟩) (fun r s'=>r=.ok (.ret (.bool true))/\OldK s₁.heap s'.heap/\s'.os=s₁.os/\AllBare s'.gens) s₁:=by
  intro H hO hS hok hA hK
  have base_of:∀{b:Addr} {o:Obj},s₁.heap.get? b=some o->H b=none->(zis s₁.heap H).get? b=some o:=fun e n=>zit e n
  have noA:∀{b:Addr} {o:Obj} {es:Array DictEntry} {ep:Nat},s₁.heap.get? b=some o->o.data=.dict es ep->H b=none:=fun {b o es ep} e d=>by
   cases q:H b with
   | none=>rfl
   | some u=>
    have e':b=a:=hA b (by rw [q];simp)
    subst e'
    rw [ha] at e;cases e
    have d':Data.seq vs.toArray _=Data.dict es ep:=d
    cases d'
  have nsK:∀{b:Addr} {m:Str->Option Value},s₁.heap.Ns b m->(zis s₁.heap H).Ns b m:=fun {b m} ⟨o,es,ep,e,d,r⟩=>⟨o,es,ep,base_of e (noA e d),d,r⟩
  have hKb:K.In (zis s₁.heap H):=fun b o e=>base_of (KX b o e) (by
   cases q:H b with
   | none=>rfl
   | some u=>
    have e':b=a:=hA b (by rw [q];simp)
    subst e'
    rw [hK (by rw [q];simp)] at e;cases e)
  have hM:Mod K mg (zis s₁.heap H):=⟨hKb,nsK hns,⟨mb,nsK hb,hbb⟩,let ⟨mc,h1,h2⟩:=hlim;⟨mc,nsK h1,h2⟩⟩
  have e0:Env0 P w K mg (zis s₁.heap H) callerA [] s₁ H:=⟨rfl,hM,fun b o e=>zmi e,Nat.le_of_eq (zex _ _),trivial,fun b hb=>absurd (show b∈([]:List Addr) from hb) (by simp),hok,.of_eq hg⟩
  refine codeAny_mono ((F _ hKb (nsK hns)).run callerA [] s₁ H ⟨[.ref a],[]⟩ [.ref a] [.ref a] _ _ hr e0 (hbind s₁ (.ref a)) (.cons rfl .nil) (hsp H hO hS)) fun r s' h=>?_
  cases r with
  | error e=>exact (hCX H e s' h).elim
  | ok fl=>
   cases fl with
   | next=>exact False.elim h
   | brk=>exact False.elim h
   | cont=>exact False.elim h
   | ret u=>
    obtain ⟨v,H',os,bare,un,hok',r',q⟩:=h
    have q':v=.bl true:=q
    subst q'
    obtain rfl:u=Value.bool true:=r'
    refine ⟨rfl,OldK.of_keep fun b o e=>?_,os,bare⟩
    cases q:H b with
    | none=>exact un.keep b o e q (by intro z;exact absurd (show b∈([]:List Addr) from z) (by simp)) (by simp)
    | some u=>
     rcases hO b with z | ⟨ob,xs,z⟩
     . rw [q] at z;cases z
     . have z2:=un.frzs b ob _ z
       obtain ⟨e1,_⟩:=hok b _ z
       obtain ⟨e2,_⟩:=hok' b _ z2
       rw [e] at e1;cases e1
       exact e2
 cases hk:K.lookup a with
 | some o=>
  have e:=KX a o hk
  rw [ha] at e
  cases e
  refine core (fun _=>none) (fun _=>.inl rfl) (.inr ⟨_,vs.toArray,_,hk,rfl,rfl,rfl,by rw [List.size_toArray,lenV];exact hl,by simpa using rv⟩) (fun b u z=>by have z':(none:Option HO)=some u:=z;cases z') (fun b z=>absurd rfl z) fun z=>absurd rfl z
 | none=>
  refine core (fun b=>if b=a then some (.frz { cls:=.type "list",data:=.seq vs.toArray } (.lst (ns.map V.int))) else none) (fun b=>?_) (.inl (.inr ⟨{ cls:=.type "list",data:=.seq vs.toArray },if_pos rfl⟩)) (fun b u z=>?_) (fun b z=>?_) fun _=>hk
  . by_cases hb:b=a
    . exact .inr ⟨_,_,if_pos hb⟩
    . exact .inl (if_neg hb)
  . by_cases hb:b=a
    . have z':=(if_pos hb).symm.trans z
      cases z'
      subst hb
      exact ⟨ha,by rw [List.length_map];exact hl,vs,_,rv,ha⟩
    . have z':=(if_neg hb).symm.trans z
      cases z'
  . by_cases hb:b=a
    . exact hb
    . exact absurd (if_neg hb) z
theorem walk_of {l:PySem.W.OpenLaw} {n k:Nat} {q:Program} {loose:List Str} {XP:(Str->Option Value)->Heap->Prop} {YP:World->Heap->Prop} {d:DefRec} {K:Params->Frag} {CX:World->CXT} {sp:World->Sp} {x:Str}
  (hn:l.most=some n) (hn2:n<=sizeLine) (hdf:d.params.defaults=[]) (hr:Room k callerA)
  (hY:∀(w:World) (h:Heap),YP w h->(K w.params).In h)
  (F:∀(w:World) (mg:Str->Option Value) (fa:Addr) (h:Heap),(K w.params).In h->h.Ns mainGlobals mg->mg d.name=some (.ref fa) ->
   ∃fd:FuncData,(∀(s:Shared) (u:Value),BindsTo s fd ⟨[u],[]⟩ [(x,u)]) /\
    ∀base:Heap,(K w.params).In base->base.Ns mainGlobals mg->FnOk l.prog w (K w.params) mg base (CX w) k fa fd [x] (sp w))
  (hsp:∀(w:World) (H:Hp) (a:Addr) (ns:List Int),ns.length<=n->zvm H->SqL (K w.params) H a (ns.map V.int)->sp w [.ref a] H (fun v _=>v=.bl true) fun _ _ _=>False)
  (hCX:∀(w:World) (H:Hp) (s:Shared) (e:Value) (s':Shared),CX w [] H s (fun _ _ _=>False) e s'->False) :
  PySem.W.WalkO q loose XP YP l.row.toRowW d [] (fun f vs=>PySem.call f vs):=by
 refine Att.attach_call hn hdf fun w s₀ s₁ mg mb fa o pm cd doc a vs ns G Y ho hd hcd hmg hobj hints hlen hg=>?_
 have KX:=hY w _ Y
 obtain ⟨fd,hb,hF⟩:=F w mg fa _ KX G.T.g hmg
 exact zj4 KX G.T.g G.T.b G.T.builtins G.T.nolimit hg hobj hints (Nat.le_trans hlen hn2) hr hF hb (fun H hO hS=>hsp w H a ns hlen hO hS) fun H e s'=>hCX w H s₁ e s'
noncomputable def z33 (s:Stmt):Arguments:=match s with
 | .FunctionDef _ a _ _ _ _ _ _ _ _=>a
 | _=>{ posonlyargs:=[],args:=[],vararg:=none,kwonlyargs:=[],kw_defaults:=[],kwarg:=none,defaults:=[] }
noncomputable def z1u (s:Stmt):List Stmt:=match s with
 | .FunctionDef _ _ b _ _ _ _ _ _ _=>b
 | _=>[]
noncomputable def z03 (s:Stmt):Scope:=match s with
 | .FunctionDef _ _ _ _ _ _ sc _ _ _=>sc
 | _=>{ kind:=.function,names:=[],isGenerator:=false,isCoroutine:=false }
abbrev CX0:CXT:=fun _ _ _ _ _ _=>False
structure Fun (K:Frag) (x qual:Str) (st:Stmt) (f:Addr) (fd:FuncData):Prop where
 ex:∃(oc:Value) (od:Option Addr) (kV doc pm:Value) (an:Option Addr) (cdv ct:Value) (osl:Array (Option Value)),
  fd=PySem.W.fnOf x qual (z33 st) (z1u st) (z03 st) .none kV doc pm an cdv ct/\K.lookup f=some ⟨oc,od,.func fd,osl⟩/\codeIn K cdv qual=true
 kp:keepIn K (.ref f)=true
section
variable {P:Program} {w:World} {K:Frag} {mg:Str->Option Value} {base:Heap}
theorem Fun.ok {x qual:Str} {st:Stmt} {f:Addr} {fd:FuncData} {N ps:List Str} {k:Nat} {sp:Sp} (F:Fun K x qual st f fd) (S:FnScope N ps (z03 st)) (len:∀vs H Q E,sp vs H Q E->vs.length=ps.length)
  (hbody:∀(cdv:Value) (A:Around) (outer:List Env) (s:Shared) (H:Hp) (vs:List V) (Q:VK) (E:XK),Room k (A.deeper (envOfC qual (z03 st) s.heap.objs.size f cdv))->sp vs H Q E ->
   ∃t,PSs (ziy CX0 P w K mg base N qual (z03 st) f cdv A outer s H E).nox (z1u st) t/\t { nx:=fun _ H'=>Q .non H',rt:=Q } (z6k N vs) H):FnOk P w K mg base CX0 (k+1) f fd ps sp:=by
 obtain ⟨oc,od,kV,doc,pm,an,cdv,ct,osl,rfl,lk,hcd⟩:=F.ex
 refine zqw lk hcd S len fun A outer s H vs Q E hr hsp=>?_
 obtain ⟨t,h,q⟩:=hbody cdv A outer s H vs Q E hr hsp
 exact ⟨t,h.nox,q⟩
theorem Fun.binds {x qual:Str} {st:Stmt} {f:Addr} {fd:FuncData} {ps:List Str} (F:Fun K x qual st f fd)
  (h:∀(kV doc pm:Value) (an:Option Addr) (cdv ct:Value) (us:List Value),us.length=ps.length->bindArgs (PySem.W.fnOf x qual (z33 st) (z1u st) (z03 st) .none kV doc pm an cdv ct) ⟨us,[]⟩=pure (ps.zip us)):Binds K fd ps []:=by
 obtain ⟨oc,od,kV,doc,pm,an,cdv,ct,osl,rfl,lk,hcd⟩:=F.ex
 exact .all (h kV doc pm an cdv ct)
theorem zr1 {x qual:Str} {st:Stmt} {f:Addr} {oc:Value} {od an:Option Addr} {osl:Array (Option Value)} {kV doc pm cdv ct:Value} (l:K.lookup f=some ⟨oc,od,.func (PySem.W.fnOf x qual (z33 st) (z1u st) (z03 st) .none kV doc pm an cdv ct),osl⟩)
 (c:codeIn K cdv qual=true) (k:keepIn K (.ref f)=true):Fun K x qual st f (PySem.W.fnOf x qual (z33 st) (z1u st) (z03 st) .none kV doc pm an cdv ct):=⟨⟨oc,od,kV,doc,pm,an,cdv,ct,osl,rfl,l,c⟩,k⟩
end
theorem zfe {n:Nat} (h:n<=1000):n<sizeLine:=Nat.lt_of_le_of_lt h (by decide)
section
variable {X:Cx}
theorem pv (i:Nat) {x:Str} {pos:Pos} (hN:X.N[i]?=some x:=by rfl) (hv:Vis X.env.scope x:=by first | exact .inl rfl | exact .inr (.inl rfl) | exact .inr (.inr rfl)) (hd:(x==("__debug__":Str))=false:=by decide)
 (hcd:(x==("__classdict__":Str))=false:=by decide):PE X (.Name x pos) (zw0 i):=zey hN hv hd hcd
theorem call_lenD:CallR X (.builtin "len") (fun xs H Q=>∃a kvs,xs=[V.ref a]/\H a=some (.dK kvs)/\Q (.int kvs.length) H):=by
 intro pins s U H xs us Q I r h
 obtain ⟨a,kvs,rfl,ha,q⟩:=h
 obtain ⟨u,rfl,ru⟩:=z5a r
 cases ru
 exact zwb I (.inl ha) fun t s' I'=>⟨.int kvs.length,H,I',⟨t,rfl⟩,q⟩
end
def Same (H H':Hp):Prop:=∀b o,H b=some o->H' b=some o
theorem Same.refl (H:Hp):Same H H:=fun _ _ h=>h
theorem Same.trans {H H1 H2:Hp} (a:Same H H1) (b:Same H1 H2):Same H H2:=fun c o h=>b c o (a c o h)
theorem Same.free {H H':Hp} (e:Same H H') {l:Addr} (h:H' l=Option.none):H l=Option.none:=by
 cases q:H l with
 | none=>rfl
 | some o=>
  rw [e l o q] at h
  cases h
theorem Same.seq {K:Frag} {H H':Hp} {a:Addr} {xs:List V} (e:Same H H') (h:SqL K H a xs):SqL K H' a xs:=by
 rcases h with (h | ⟨o,h⟩) | h
 . exact .inl (.inl (e _ _ h))
 . exact .inl (.inr ⟨o,e _ _ h⟩)
 . exact .inr h
end L2
set_option maxHeartbeats 4000000
namespace L2
open PySem PySem.Spec PyProof.Rows
noncomputable def z0t (cells:List (Str×Addr)):List (Str×NameKind)->List (Str×Addr)->List (Str×Addr)
 | [],acc=>acc
 | (n,k)::r,acc=>z0t cells r (if k==.free then (n,(cells.lookup n).getD 0)::acc else acc)
theorem z40 {cells:List (Str×Addr)} {x:Str} {c:Addr}:∀{names:List (Str×NameKind)} {acc:List (Str×Addr)},
  (∀y∈names,y.2=.free->∃c,cells.lookup y.1=some c)->(∀y c,acc.lookup y=some c->cells.lookup y=some c)->(z0t cells names acc).lookup x=some c->cells.lookup x=some c
 | [],acc,_,ha,h=>ha x c h
 | (n,k)::r,acc,hf,ha,h=>by
  refine z40 (names:=r) (fun y hy=>hf y (List.mem_cons_of_mem _ hy)) (fun y c'=>?_) h
  by_cases hk:k=.free
  . subst hk
    obtain ⟨c0,e0⟩:=hf (n,.free) List.mem_cons_self rfl
    intro e
    have e1:(if (NameKind.free==NameKind.free)=true then (n,(cells.lookup n).getD 0)::acc else acc)=(n,(cells.lookup n).getD 0)::acc:=if_pos (show (NameKind.free==NameKind.free)=true from rfl)
    rw [e1,List.lookup_cons] at e
    cases hyn:y==n with
    | true=>
     rw [hyn] at e
     have e2:y=n:=by simpa using hyn
     subst e2
     have e3:=Option.some.inj e
     have e0':cells.lookup y=some c0:=e0
     rw [e0'] at e3 ⊢
     exact congrArg some e3
    | false=>rw [hyn] at e;exact ha y c' e
  . have e1:(if (k==NameKind.free)=true then (n,(cells.lookup n).getD 0)::acc else acc)=acc:=if_neg (by simpa using hk)
    rw [e1];exact ha y c'
theorem z49 {cells:List (Str×Addr)} {x:Str}:∀{names:List (Str×NameKind)} {acc:List (Str×Addr)},
  ((∃c,acc.lookup x=some c)\/∃y∈names,y.2=.free/\y.1=x)->∃c,(z0t cells names acc).lookup x=some c
 | [],acc,h=>by
  rcases h with h | ⟨y,hy,_⟩
  . exact h
  . cases hy
 | (n,k)::r,acc,h=>by
  refine z49 (names:=r) ?_
  by_cases hk:k=.free
  . subst hk
    have e1:(if (NameKind.free==NameKind.free)=true then (n,(cells.lookup n).getD 0)::acc else acc)=(n,(cells.lookup n).getD 0)::acc:=if_pos (show (NameKind.free==NameKind.free)=true from rfl)
    rw [e1,List.lookup_cons]
    cases hxn:x==n with
    | true=>exact .inl ⟨_,rfl⟩
    | false=>
     rcases h with h | ⟨y,hy,hf,e⟩
     . exact .inl h
     . rcases List.mem_cons.mp hy with z | z
       . subst z
         have e':n=x:=e
         subst e'
         simp at hxn
       . exact .inr ⟨y,z,hf,e⟩
  . have e1:(if (k==NameKind.free)=true then (n,(cells.lookup n).getD 0)::acc else acc)=acc:=if_neg (by simpa using hk)
    rw [e1]
    rcases h with h | ⟨y,hy,hf,e⟩
    . exact .inl h
    . rcases List.mem_cons.mp hy with z | z
      . subst z;exact absurd hf hk
      . exact .inr ⟨y,z,hf,e⟩
theorem z4o {scope:Scope} {env:Env} (hf:∀y∈scope.names,y.2=.free->∃c,env.cells.lookup y.1=some c):closureFor scope env=pure (z0t env.cells scope.names []):=by
 have go:∀(names:List (Str×NameKind)) (acc:List (Str×Addr)),(∀y∈names,y.2=.free->∃c,env.cells.lookup y.1=some c) ->
   (forIn names acc fun x cs=>if (x.2==NameKind.free)=true then do let a <-cellOf env x.1;pure (ForInStep.yield ((x.1,a)::cs)) else pure (ForInStep.yield cs):Sem (List (Str×Addr)))=pure (z0t env.cells names acc):=by
  intro names
  induction names with
  | nil=>intro acc _;rfl
  | cons p r ih=>
   intro acc h
   obtain ⟨n,k⟩:=p
   rw [List.forIn_cons]
   by_cases hk:k=.free
   . subst hk
     obtain ⟨c,e⟩:=h (n,.free) List.mem_cons_self rfl
     have e':env.cells.lookup n=some c:=e
     have e1:cellOf env n=pure c:=by unfold cellOf;rw [e']
     have e2:z0t env.cells ((n,NameKind.free)::r) acc=z0t env.cells r ((n,c)::acc):=by
      show z0t env.cells r (if (NameKind.free==NameKind.free)=true then (n,(env.cells.lookup n).getD 0)::acc else acc)=_
      rw [if_pos (show (NameKind.free==NameKind.free)=true from rfl),e'];rfl
     rw [e2,<-ih _ fun y hy=>h y (List.mem_cons_of_mem _ hy)]
     show ((if (NameKind.free==NameKind.free)=true then do let a <-cellOf env n;pure (ForInStep.yield ((n,a)::acc)) else pure (ForInStep.yield acc)) >>= _:Sem _)=_
     rw [if_pos (show (NameKind.free==NameKind.free)=true from rfl),e1]
     rfl
   . have hk':(k==NameKind.free)=false:=by simpa using hk
     have e2:z0t env.cells ((n,k)::r) acc=z0t env.cells r acc:=by
      show z0t env.cells r (if (k==NameKind.free)=true then _ else acc)=_
      rw [if_neg (by rw [hk'];exact Bool.false_ne_true)]
     rw [e2,<-ih _ fun y hy=>h y (List.mem_cons_of_mem _ hy)]
     show ((if (k==NameKind.free)=true then do let a <-cellOf env n;pure (ForInStep.yield ((n,a)::acc)) else pure (ForInStep.yield acc)) >>= _:Sem _)=_
     rw [if_neg (by rw [hk'];exact Bool.false_ne_true)]
     rfl
 have:=go scope.names [] hf
 unfold closureFor
 simpa using this
theorem za6 {prog:Program} {w:World} {A:Around} {R:Result->Shared->Prop} {s:Shared} {elt target iter:Expr} {ifs:List Expr} {scope:Scope} {pos:Pos} {it acc:Value} {env:Env} (I:Nat->Shared->Prop)
  (turn:∀n s,I n s->wpAny (model prog w) A (pyNext it) (fun r s₁=>match r with
   | none=>R (.ok .next) s₁
   | some v=>wpAny (model prog w) A (letOwnedTupleGo target it v) (fun _ s₁'=>wpAny (model prog w) A (assign target env v) (fun _ s₂=>
    wpAny (model prog w) A (forIn ifs true fun c r=>if r=true then do let ok <-isTrue c env (eval c env);pure (ForInStep.yield ok) else pure (ForInStep.yield r)) (fun ok s₃=>
     if ok=true then wpAny (model prog w) A (eval elt env) (fun x s₄=>
      wpAny (model prog w) A (call (.builtin "list.append") [acc,x]) (fun _ s₅=>∃m,m<n/\I m s₅) (fun _ _=>False) s₄) (fun _ _=>False) s₃
     else ∃m,m<n/\I m s₃) (fun _ _=>False) s₂) (fun _ _=>False) s₁') (fun _ _=>False) s₁) (fun _ _=>False) s)
  (n:Nat) (h:I n s) :
  codeAny (model prog w) A (.compLoop (.ListComp elt [⟨target,iter,ifs,0⟩] scope pos) 0 it acc env) R s:=by
 refine codeAny_loop rfl I (fun n s hI=>?_) n h
 show wpAny _ A ((compTurn (.ListComp elt [⟨target,iter,ifs,0⟩] scope pos) 0 it acc env).onRaise (fun x=>do noteFrame x env;theTreesLotGoes x)) _ _ s
 refine wpAny_noted ?_
 rw [compTurn_list]
 refine wpAny_bind (wpAny_standAt (wpAny_bind (wpAny_mono (turn n s hI) (fun r s₁ h₁=>?_) fun _ _ h'=>h'.elim)))
 cases r with
 | none=>exact wpAny_pure h₁
 | some v=>
  refine wpAny_bind (wpAny_mono h₁ (fun _ s₁' h₁'=>?_) fun _ _ h'=>h'.elim)
  refine wpAny_bind (wpAny_mono h₁' (fun _ s₂ h₂=>wpAny_bind (wpAny_mono h₂ (fun ok s₃ h₃=>?_) fun _ _ h'=>h'.elim)) fun _ _ h'=>h'.elim)
  cases ok with
  | false=>exact wpAny_pure ⟨rfl,h₃⟩
  | true=>
   exact wpAny_bind (wpAny_bind (wpAny_mono h₃ (fun x s₄ h₄=>wpAny_bind (wpAny_mono h₄ (fun _ s₅ h₅=>wpAny_pure (wpAny_pure ⟨rfl,h₅⟩)) fun _ _ h'=>h'.elim)) fun _ _ h'=>h'.elim))
theorem z2f {env:Env}:∀{names:List (Str×NameKind)} {x:Str},
  (names.map fun (n,k)=>if (k==NameKind.free&&env.scope.kind==.function&&env.kindOf n==some .cell) then (n,NameKind.cell) else (n,k)).lookup x =
   (names.lookup x).map fun k=>if (k==NameKind.free&&env.scope.kind==.function&&env.kindOf x==some .cell) then NameKind.cell else k
 | [],_=>rfl
 | (n,k)::r,x=>by
  have ih:=@z2f env r x
  show List.lookup x ((if (k==NameKind.free&&env.scope.kind==.function&&env.kindOf n==some .cell)=true then (n,NameKind.cell) else (n,k))::_)=_
  cases hx:x==n with
  | true=>
   have e:x=n:=by simpa using hx
   subst e
   by_cases hc:(k==NameKind.free&&env.scope.kind==.function&&env.kindOf x==some .cell)=true
   . rw [if_pos hc];simp only [List.lookup_cons,hx,Option.map_some,hc,if_true]
   . rw [if_neg hc];simp only [List.lookup_cons,hx,Option.map_some,hc,if_false];rfl
  | false=>
   by_cases hc:(k==NameKind.free&&env.scope.kind==.function&&env.kindOf n==some .cell)=true
   . rw [if_pos hc];simp only [List.lookup_cons,hx];exact ih
   . rw [if_neg hc];simp only [List.lookup_cons,hx];exact ih
noncomputable def z0d (X:Cx) (sc:Scope) (N':List Str) (fp:List Addr) (s₃:Shared) (H₃:Hp):Cx:=
 { X with env:=compEnvC sc (z0t X.env.cells sc.names []) s₃.heap.objs.size X.env,N:=N',s₀:=s₃,H₀:=H₃,outer:=X.stack,ex:=fp,fn:=fun _=>false,pn:=[],xe:=fun _ _=>False }
noncomputable def zil (ix:List Nat) (U:St):St:=ix.map fun j=>(U[j]?).getD none
structure CompOk (X:Cx) (sc:Scope) (caps:List Str) (ix:List Nat):Prop where
 calm:X.calm=true
 kind:sc.kind=.function
 ncell:∀y∈sc.names,y.2≠.cell
 free:∀y∈sc.names,y.2=.free->X.env.kindOf y.1=some .cell\/X.env.kindOf y.1=some .free
 names:∀y∈sc.names,y.2=.local->sc.names.lookup y.1=some .local
 cap:∀(j:Nat) x,caps[j]?=some x->sc.names.lookup x=some .free/\∃i,ix[j]?=some i/\X.N[i]?=some x
 len:ix.length=caps.length
noncomputable def za7 (fsc:Scope) (N:List Str) (sc:Scope) (caps:List Str) (ix:List Nat):Bool:=
 sc.kind==.function&&sc.names.all (fun y=>y.2 != .cell)&&sc.names.all (fun y=>y.2 != .free||(fsc.names.lookup y.1==some .cell||fsc.names.lookup y.1==some .free)) &&
  sc.names.all (fun y=>y.2 != .local||sc.names.lookup y.1==some .local)&&caps.all (fun x=>sc.names.lookup x==some .free)&&(ix.map fun i=>N[i]?)==caps.map some
theorem z10 {X:Cx} {sc:Scope} {caps:List Str} {ix:List Nat} (hc:X.calm=true) (h:za7 X.env.scope X.N sc caps ix=true):CompOk X sc caps ix:=by
 unfold za7 at h
 simp only [Bool.and_eq_true] at h
 obtain ⟨⟨⟨⟨⟨h1,h2⟩,h3⟩,h4⟩,h5⟩,h6⟩:=h
 have e6:(ix.map fun i=>X.N[i]?)=caps.map some:=by simpa using h6
 have elen:ix.length=caps.length:=by simpa using congrArg List.length e6
 refine ⟨hc,by simpa using h1,fun y hy=>?_,fun y hy hf=>?_,fun y hy hl=>?_,fun j x hj=>⟨?_,?_⟩,elen⟩
 . have:=List.all_eq_true.mp h2 y hy
   simpa using this
 . have:=List.all_eq_true.mp h3 y hy
   rw [hf] at this
   simp only [bne_self_eq_false,Bool.false_or,Bool.or_eq_true,beq_iff_eq] at this
   exact this
 . have:=List.all_eq_true.mp h4 y hy
   rw [hl] at this
   simpa using this
 . have:=List.all_eq_true.mp h5 x (List.mem_of_getElem? hj)
   simpa using this
 . have hjl:j<ix.length:=by rw [elen];exact (List.getElem?_eq_some_iff.mp hj).1
   refine ⟨ix[j],List.getElem?_eq_getElem hjl,?_⟩
   have q:=congrArg (fun l=>l[j]?) e6
   simp only [List.getElem?_map,List.getElem?_eq_getElem hjl,hj,Option.map_some] at q
   exact Option.some.inj q
section
variable {X:Cx} {sc:Scope} {tgs caps:List Str} {ix:List Nat} {pins:List (Addr×Obj)} {U:St} {H:Hp} {s:Shared} {fp:List Addr}
theorem CompOk.free_cell (C:CompOk X sc caps ix) (I:Inv X pins U H s):∀y∈sc.names,y.2=.free->∃c,X.env.cells.lookup y.1=some c:=fun y hy hf=>I.ok.has y.1 (C.free y hy hf)
theorem CompOk.sub (C:CompOk X sc caps ix) (I:Inv X pins U H s) {x:Str} {c:Addr} (h:(z0t X.env.cells sc.names []).lookup x=some c):X.env.cells.lookup x=some c:=
 z40 (C.free_cell I) (fun _ _ e=>by cases e) h
theorem ze5 (C:CompOk X sc caps ix) (I:Inv X pins U H s) (hf:∀b∈fp,zf2 X pins H b) (hl:∀b∈fp,b<s.heap.objs.size) {h':Heap} {t':Nat} {m:Str->Option Value} (hn:h'.Ns s.heap.objs.size m)
  (hk:∀b o,s.heap.get? b=some o->h'.get? b=some o) :
  Inv (z0d X sc (tgs++caps) fp s H) [] (List.replicate tgs.length none++zil ix U) H { s with heap:=h',toks:=t' }:=by
 have sub:∀{x c},(z0t X.env.cells sc.names []).lookup x=some c->X.env.cells.lookup x=some c:=fun h=>C.sub I h
 have clt:∀{x c},X.env.cells.lookup x=some c->c<s.heap.objs.size:=fun {x c} h=>by
  obtain ⟨v,q⟩:=I.cell x c h
  exact q.lt
 refine ⟨⟨I.ok.mod,C.kind,I.ok.glob,I.ok.blt,Nat.le_refl _,fun x y c h1 h2=>I.ok.inj x y c (sub h1) (sub h2),fun x hx=>?_,fun x c hfn _=>?_,I.ok.hd,I.ok.frames,.inl rfl,fun b hb=>⟨?_,fun x c h z=>?_⟩,fun b o e=>I.bs b o e,Nat.le_trans I.ok.bsz I.sz,fun b o e hb=>?_,fun b hb hfs=>?_,I.stack,I.stkFree⟩,
  rfl,I.bare,Un.kept hk,⟨m,hn,fun i x v e1 e2 e3=>?_⟩,fun x c h=>?_,I.hok.fresh (Nat.le_refl _),fun x c h=>I.freeC x c (sub h),fun p hp=>absurd (show p∈([]:List (Addr×Obj)) from hp) (by simp),I.hok.kept hk,?_⟩
 . -- a cell or free name of the block has a cell
   have hx':(relabel sc X.env).names.lookup x=some .cell\/(relabel sc X.env).names.lookup x=some .free:=hx
   have e:(relabel sc X.env).names.lookup x=(sc.names.lookup x).map fun k=>if (k==NameKind.free&&X.env.scope.kind==.function&&X.env.kindOf x==some .cell) then NameKind.cell else k:=z2f
   rw [e] at hx'
   cases q:sc.names.lookup x with
   | none=>rw [q] at hx';rcases hx' with z | z<;>cases z
   | some k=>
    have hm:(x,k)∈sc.names:=PySem.mem_of_lookup q
    have hkf:k=.free:=by
     rw [q] at hx'
     simp only [Option.map_some] at hx'
     by_cases hkk:k=.free
     . exact hkk
     . have:(k==NameKind.free)=false:=by simpa using hkk
       simp only [this,Bool.false_and,Bool.false_eq_true,if_false] at hx'
       rcases hx' with z | z
       . exact absurd (Option.some.inj z) (C.ncell _ hm)
       . exact Option.some.inj z
    subst hkf
    exact z49 (.inr ⟨_,hm,rfl,rfl⟩)
 . exact absurd (show false=true from hfn) Bool.false_ne_true
 . exact Nat.ne_of_lt (hl b hb)
 . exact (hf b hb).2.2.2.2.1 x c (sub h) z
 . obtain ⟨_,_,_,hx,_⟩:=hf b hb
   rcases hx with z | z
   . exact I.ok.noex b o e z
   . exact absurd (Nat.lt_of_lt_of_le (Heap.lt_size e) (Nat.le_trans I.ok.bsz z)) (Nat.lt_irrefl _)
 . obtain ⟨_,h1,h2,_⟩:=hf b hb
   rcases List.mem_cons.mp (I.stkSub b hfs) with z | z
   . exact h1 z
   . exact h2 z
 . -- the captured names' values
   have hi:tgs.length<=i:=by
    by_cases hi:i<tgs.length
    . rw [List.getElem?_append_left (by simpa using hi),List.getElem?_replicate] at e2
      split at e2<;>cases e2
    . lia
   have e1':caps[i - tgs.length]?=some x:=by
    have:(tgs++caps)[i]?=some x:=e1
    rw [List.getElem?_append_right hi] at this
    exact this
   rw [List.getElem?_append_right (by simpa using hi),List.length_replicate] at e2
   obtain ⟨hfr,j,hj,hjN⟩:=C.cap _ x e1'
   have e2':U[j]?=some (some v):=by
    unfold zil at e2
    rw [List.getElem?_map,hj] at e2
    simp only [Option.map_some] at e2
    have e2:=Option.some.inj e2
    cases q:U[j]? with
    | none=>rw [q] at e2;cases e2
    | some o=>rw [q] at e2;exact congrArg some e2
   have hmem:(x,NameKind.free)∈sc.names:=PySem.mem_of_lookup hfr
   have hkind:=C.free _ hmem rfl
   obtain ⟨m0,hn0,hl0⟩:=I.loc
   have hvis:Vis X.env.scope x:=hkind.elim (fun z=>.inr (.inl z)) fun z=>.inr (.inr z)
   obtain ⟨u,r,look⟩:=hl0 j x v hjN e2' hvis
   refine ⟨u,r,?_⟩
   rcases look with ⟨k,_⟩ | ⟨_,c,hc,z⟩
   . rcases hkind with q | q
     . rw [show X.env.kindOf x=some .cell from q] at k;cases k
     . rw [show X.env.kindOf x=some .free from q] at k;cases k
   . obtain ⟨c',hc'⟩:=z49 (cells:=X.env.cells) (names:=sc.names) (acc:=[]) (x:=x) (.inr ⟨_,hmem,rfl,rfl⟩)
     have hcc:c'=c:=by have:=sub hc';rw [hc] at this;exact (Option.some.inj this).symm
     subst hcc
     refine .inr ⟨?_,c',hc',?_⟩
     . have e:(relabel sc X.env).names.lookup x=(sc.names.lookup x).map fun k=>if (k==NameKind.free&&X.env.scope.kind==.function&&X.env.kindOf x==some .cell) then NameKind.cell else k:=z2f
       show (relabel sc X.env).names.lookup x=some .cell\/(relabel sc X.env).names.lookup x=some .free
       rw [e,hfr]
       simp only [Option.map_some]
       split
       . exact .inl rfl
       . exact .inr rfl
     . obtain ⟨o,ho,hd⟩:=z
       exact ⟨o,hk _ o ho,hd⟩
 . obtain ⟨v,o,ho,hd⟩:=I.cell x c (sub h)
   exact ⟨v,o,hk _ o ho,hd⟩
 . show _=(tgs++caps).length
   unfold zil
   rw [List.length_append,List.length_replicate,List.length_map,List.length_append,C.len]
inductive PTs (X:Cx):List Expr->TT->Prop where
 | nil:PTs X [] (fun _ H Q=>Q true H)
 | one {c:Expr} {t:TT} (h:PT X c t):PTs X [c] t
theorem PTs.run {X:Cx} {ifs:List Expr} {t:TT} (h:PTs X ifs t) {pins:List (Addr×Obj)} {s:Shared} {U:St} {H:Hp} {Q:Bool->Hp->Prop} (I:Inv X pins U H s) (q:t U H Q) :
  wpAny (model X.prog X.w) X.A (forIn ifs true fun c r=>if r=true then do let ok <-isTrue c X.env (eval c X.env);pure (ForInStep.yield ok) else pure (ForInStep.yield r)) (TP X pins U Q) X.xe s:=by
 cases h with
 | nil=>exact wpAny_tests_nil ⟨H,I,q⟩
 | one h=>exact wpAny_tests_one (h pins s U H Q I q)
def zr2 (J:It) (D:Addr) (B:V->Hp->(List V->Hp->Prop)->Prop) (cs:St) (tt:TT) (te:TE) (Q:VK) (H1:Hp):Prop:=
 ∃W:Nat->Nat->List V->Hp->Prop,(∃m,W 0 m [] (upd H1 D (.lst [])))/\∀i m ys H,W i m ys H ->
  H D=some (.lst ys)/\((J.stop i H/\Q (.ref D) H)\/(J.go i H/\∀x H',J.yld i H x H'->B x H' fun vals H2=>tt (vals.map some++cs) H2 fun b H3=>
   if b=true then te (vals.map some++cs) H3 fun y H4=>H4 D=some (.lst ys)/\ys.length<sizeLine/\∃m',m'<m/\W (i+1) m' (ys++[y]) (upd H4 D (.lst (ys++[y])))
   else ∃m',m'<m/\W (i+1) m' ys H3))
noncomputable def za8 (wi:TI) (B:V->Hp->(List V->Hp->Prop)->Prop) (ix:List Nat) (tt:TT) (te:TE):TE:=fun U H Q=>wi U H fun J H1=>∀D,H1 D=none->zr2 J D B (zil ix U) tt te Q H1
variable {elt tg iter:Expr} {ifs:List Expr} {pos:Pos} {g:TG} {B:V->Hp->(List V->Hp->Prop)->Prop} {tt:TT} {te:TE}
theorem z7u (C:CompOk X sc caps ix) (hg:∀fp s H,PG (z0d X sc (tgs++caps) fp s H) tg g)
  (hB:∀(x:V) (σt cs:St) (H:Hp) (Q:St->Hp->Prop),σt.length=tgs.length->B x H (fun vals H2=>Q (vals.map some++cs) H2)->g x (σt++cs) H fun σ2 H2=>(∃vals:List V,vals.length=tgs.length/\σ2=vals.map some++cs)/\Q σ2 H2)
  (ht:∀fp s H,PTs (z0d X sc (tgs++caps) fp s H) ifs tt) (he:∀fp s H,PE (z0d X sc (tgs++caps) fp s H) elt te)
  {J:It} {it:Addr} {tn:Nat->Heap->Prop} {Q:VK} {E:Value->Shared->Prop} (I2:Inv X pins U H s) (T:Turn X.prog X.w X.K tg J fp it tn) (st:tn 0 s.heap) (hf:∀b∈fp,zf2 X pins H b)
  (hw:∀D,H D=none->zr2 J D B (zil ix U) tt te Q H) {RR:Value->Addr->Result->Shared->Prop}
  (hRR:∀D Cc H' s' m,s'.heap.Ns Cc m->Inv X pins U H' s'->zf2 X pins H' Cc->Q (.ref D) H'->RR (.ref D) Cc (.ok .next) s') :
  wpAny (model X.prog X.w) X.A (newList []) (fun acc s₃=>wpAny (model X.prog X.w) X.A (newFunctionEnv sc X.env.globals (z0t X.env.cells sc.names []) [] X.env.qual none .none (some X.env)) (fun cenv s₄=>
   codeAny (model X.prog X.w) X.A (.compStart (.ListComp elt [⟨tg,iter,ifs,0⟩] sc pos) 0 (.ref it) acc { cenv with scope:=relabel sc X.env }) (RR acc cenv.locals) s₄) E s₃) E s:=by
 refine wpAny_newObj_type (wpAny_newFunctionEnv C.ncell (by intro y hy;simp at hy) (fun h₁ hns₁ hsb₁=>?_) C.kind)
 have I3:Inv X pins U (upd H s.heap.objs.size (.lst [])) { s with heap:=s.heap.push { cls:=.type "list",dict:=none,data:=.seq ([]:List Value).toArray } }:=I2.lnew (t':=s.toks) (its:=[]) .nil (Nat.zero_le _)
 have hD0:H s.heap.objs.size=none:=I2.fresh
 have lt0:∀b∈fp,b<s.heap.objs.size:=fun b hb=>by
  obtain ⟨o,e,_⟩:=T.obj _ _ st b hb
  exact Heap.lt_size e
 have hfD:∀b∈fp,b≠s.heap.objs.size:=fun b hb=>Nat.ne_of_lt (lt0 b hb)
 have hf3:∀b∈fp,zf2 X pins (upd H s.heap.objs.size (.lst [])) b:=fun b hb=>⟨by rw [z0j (hfD b hb)];exact (hf b hb).1,(hf b hb).2⟩
 generalize hs3:({ s with heap:=s.heap.push { cls:=.type "list",dict:=none,data:=.seq ([]:List Value).toArray } }:Shared)=s₃ at I3 hns₁ hsb₁ ⊢
 have hs3h:s₃.heap=s.heap.push { cls:=.type "list",dict:=none,data:=.seq ([]:List Value).toArray }:=by rw [<-hs3]
 have st3:tn 0 s₃.heap:=T.keep _ _ _ st fun b _ o e=>by rw [hs3h];exact Heap.get?_push_of_some _ e
 have hl3:∀b∈fp,b<s₃.heap.objs.size:=fun b hb=>by rw [hs3h,Heap.size_push];exact Nat.lt_succ_of_lt (lt0 b hb)
 generalize hDD:s.heap.objs.size=D at *
 have hk1:∀b o,s₃.heap.get? b=some o->h₁.get? b=some o:=fun b o e=>hsb₁.extBut b o (Nat.ne_of_lt (Heap.lt_size e)) (Heap.get?_push_of_some _ e)
 have I4:=ze5 (tgs:=tgs) (t':=s₃.toks+([]:List (Str×Value)).length) C I3 hf3 hl3 hns₁ hk1
 have st4:tn 0 h₁:=T.keep _ _ _ st3 fun b _ o e=>hk1 b o e
 have fr4:∀b∈fp,(upd H D (.lst [])) b=none:=fun b hb=>(hf3 b hb).1
 generalize hXc:z0d X sc (tgs++caps) fp s₃ (upd H D (.lst []))=Xc at I4
 have hprog:Xc.prog=X.prog:=by rw [<-hXc];rfl
 have hww:Xc.w=X.w:=by rw [<-hXc];rfl
 have hKK:Xc.K=X.K:=by rw [<-hXc];rfl
 have hcalm:Xc.calm=true:=by rw [<-hXc];exact C.calm
 have hA:Xc.A=X.A:=by rw [<-hXc];rfl
 have henv:Xc.env=compEnvC sc (z0t X.env.cells sc.names []) s₃.heap.objs.size X.env:=by rw [<-hXc];rfl
 have hxe:Xc.xe=fun _ _=>False:=by rw [<-hXc];rfl
 have hg':=hg fp s₃ (upd H D (.lst []))
 have ht':=ht fp s₃ (upd H D (.lst []))
 have he':=he fp s₃ (upd H D (.lst []))
 rw [hXc] at hg' ht' he'
 obtain ⟨W,⟨m0,w0⟩,turn⟩:=hw D hD0
 have stat:∀{H':Hp},(∀b∈fp,H' b=none)->∀b∈fp,zf2 Xc [] H' b:=fun {H'} hn b hb=>by
  refine ⟨hn b hb,?_,?_,.inl ?_,fun x c e z=>?_,fun p hp=>?_⟩
  . rw [henv];exact Nat.ne_of_lt (hl3 b hb)
  . rw [<-hXc]
    intro z
    obtain ⟨_,h1,h2,_⟩:=hf b hb
    rcases List.mem_cons.mp (I3.stkSub b z) with q | q
    . exact h1 q
    . exact h2 q
  . rw [<-hXc];exact hb
  . rw [henv] at e
    exact (hf b hb).2.2.2.2.1 x c (C.sub I2 e) z
  . rw [<-hXc] at hp
    exact absurd (show p∈([]:List (Addr×Obj)) from hp) (by simp)
 have loop:∀s₄:Shared,s₄={ s₃ with heap:=h₁,toks:=s₃.toks+([]:List (Str×Value)).length } ->
   codeAny (model X.prog X.w) X.A (.compLoop (.ListComp elt [⟨tg,iter,ifs,0⟩] sc pos) 0 (.ref it) (.ref D) (compEnvC sc (z0t X.env.cells sc.names []) s₃.heap.objs.size X.env)) (RR (.ref D) s₃.heap.objs.size) s₄:=by
  intro s₄ hs4
  rw [<-hprog,<-hww,<-hA,<-henv]
  refine za6 (fun n s'=>∃(i:Nat) (ys:List V) (σt:St) (H':Hp),σt.length=tgs.length/\Inv Xc [] (σt++zil ix U) H' s'/\tn i s'.heap/\(∀b∈fp,H' b=none)/\W i n ys H') ?_ m0
   ⟨0,[],List.replicate tgs.length none,upd H D (.lst []),by simp,by rw [hs4];exact I4,by rw [hs4];exact st4,fr4,w0⟩
  rintro n s5 ⟨i,ys,σt,H5,hσ,I5,st5,fr5,w5⟩
  obtain ⟨hD5,hturn⟩:=turn i n ys H5 w5
  rcases hturn with ⟨stop,q⟩ | ⟨go,step⟩
  . rw [hprog,hww]
    refine thn (T.done Xc hprog hww hKK hcalm i [] s5 _ H5 _ I5 (stat fr5) st5 stop) fun r s6 ⟨hr,I6⟩=>?_
    subst hr
    obtain ⟨m6,hn6,_⟩:=I6.loc
    rw [henv] at hn6
    have hcb:∀b∈fp,(b∈X.ex\/X.s₀.heap.objs.size<=b)/\b≠X.env.locals/\(∀x c,X.env.cells.lookup x=some c->c≠b)/\∀p∈X.pn++pins,p.1≠b:=fun b hb=>⟨(hf b hb).2.2.2.1,(hf b hb).2.1,(hf b hb).2.2.2.2.1,(hf b hb).2.2.2.2.2⟩
    have hos:s6.os=s₃.os:=by have:=I6.os;rw [<-hXc] at this;exact this
    have un6:Un (frs X.stack) fp (upd H D (.lst [])) H5 s₃.heap s6.heap:=by have:=I6.base;rw [<-hXc] at this;exact this
    have hok6:HOk X.prog X.w H5 s6.heap:=by have:=I6.hok;rw [hprog,hww] at this;exact this
    have I7:Inv X pins U H5 s6:=I3.call' hos un6 hok6 I6.bare hcb
    refine hRR D _ H5 s6 m6 hn6 I7 ?_ q
    have hCn:H5 s₃.heap.objs.size=none:=by have:=I6.free;rw [henv] at this;exact this
    exact I3.fpOk (Nat.le_refl _) hCn
  . rw [hprog,hww]
    refine thn (T.item Xc hprog hww hKK hcalm i [] s5 _ H5 _ I5 (stat fr5) st5 go) fun r s6 ⟨u,hr,h6⟩=>?_
    subst hr
    refine thn h6 fun _ s7 ⟨x,H7,I7,r7,y7,st7,fr7⟩=>?_
    have I7':=I7.pinned (stat fr7) (T.obj _ _ st7)
    have hst:=hg' _ s7 _ H7 x u _ I7' r7 (hB x σt (zil ix U) H7 (fun σ2 H2=>tt σ2 H2 fun b H3=>if b=true then te σ2 H3 fun y H4=>H4 D=some (.lst ys)/\ys.length<sizeLine/\∃m',m'<n/\W (i+1) m' (ys++[y]) (upd H4 D (.lst (ys++[y]))) else ∃m',m'<n/\W (i+1) m' ys H3) hσ (step x H7 y7))
    rw [hprog,hww,hxe] at hst
    refine thn hst fun _ s8 ⟨σ8,H8,I8,⟨vals,hvl,hσ8⟩,q8⟩=>?_
    have again:∀{H9:Hp} {s9:Shared},Inv Xc ([]++z9v fp s7.heap) σ8 H9 s9->tn (i+1) s9.heap/\∀b∈fp,H9 b=none:=fun {H9 s9} I9=>
     ⟨T.keep _ _ _ st7 fun b hb o e=>(I9.pin (b,o) (List.mem_append_right _ (List.mem_append_right _ (z3o hb e)))).1,fun b hb=>by
      obtain ⟨o,e,d⟩:=T.obj _ _ st7 b hb
      exact (I9.pin (b,o) (List.mem_append_right _ (List.mem_append_right _ (z3o hb e)))).2.1⟩
    subst hσ8
    have hts:=ht'.run I8 q8
    rw [hprog,hww,hxe] at hts
    refine thn hts fun ok s9 ⟨H9,I9,q9⟩=>?_
    cases ok with
    | false=>
     rw [if_neg Bool.false_ne_true] at q9 ⊢
     obtain ⟨m',hm,w9⟩:=q9
     obtain ⟨a1,a2⟩:=again I9
     exact ⟨m',hm,i+1,ys,vals.map some,H9,by simpa using hvl,I9.unpinned,a1,a2,w9⟩
    | true=>
     rw [if_pos rfl] at q9 ⊢
     have hev:=he' _ s9 _ H9 _ I9 q9
     rw [hprog,hww,hxe] at hev
     refine thn hev fun uy s10 ⟨y,H10,I10,r10,hD10,hz10,m',hm,w10⟩=>?_
     have hap:=z14 (X:=Xc) _ s10 _ H10 (.ref D) [y] (.ref D) [uy] (fun v H11=>v=.non/\H11=upd H10 D (.lst (ys++[y]))) I10 rfl (.cons r10 .nil) ⟨D,ys,y,rfl,rfl,hD10,hz10,rfl,rfl⟩
     rw [hprog,hww,hxe] at hap
     refine thn hap fun _ s11 ⟨v,H11,I11,_,_,e11⟩=>?_
     subst e11
     obtain ⟨a1,a2⟩:=again I11
     exact ⟨m',hm,i+1,ys++[y],vals.map some,_,by simpa using hvl,I11.unpinned,a1,a2,w10⟩
 refine codeAny_compStart_list (loop _ rfl) (T.self X.A 0 _ _ _ st4 (loop _ rfl))
theorem zmx {wi:TI} (C:CompOk X sc caps ix) (hi:PI X tg iter wi) (hg:∀fp s H,PG (z0d X sc (tgs++caps) fp s H) tg g)
  (hB:∀(x:V) (σt cs:St) (H:Hp) (Q:St->Hp->Prop),σt.length=tgs.length->B x H (fun vals H2=>Q (vals.map some++cs) H2)->g x (σt++cs) H fun σ2 H2=>(∃vals:List V,vals.length=tgs.length/\σ2=vals.map some++cs)/\Q σ2 H2)
  (ht:∀fp s H,PTs (z0d X sc (tgs++caps) fp s H) ifs tt) (he:∀fp s H,PE (z0d X sc (tgs++caps) fp s H) elt te)
  (hs:∀x,foldedSetIterable iter X.env x=pure x:=by intro _;rfl):PE X (.ListComp elt [⟨tg,iter,ifs,0⟩] sc pos) (za8 wi B ix tt te):=by
 intro pins s U H Q I h
 rw [eval_ListComp]
 refine wpAny_comprehension_free (use:=none) rfl hs (z4o (C.free_cell I)) C.kind C.names (thn (hi pins s U H _ I h) fun v s1 h1=>thn h1 fun itv s2 h2=>?_)
 obtain ⟨it,fp,tn,J,H2,e,I2,T,st2,f2,hw⟩:=h2
 subst e
 refine z7u (RR:=fun acc Cc=>compPost (model X.prog X.w) X.A X.xe none (EP X pins U Q) acc Cc) C hg hB ht he I2 T st2 f2 hw ?_
 intro D Cc H' s' m hn I' hfp q
 refine ⟨m,hn,fun h' sb=>⟨.ref D,H',?_,rfl,q⟩⟩
 exact I'.turned (t':=s'.toks) (fun b o hb e=>sb.extBut b o hb e) hfp.1 hfp.2.1 hfp.2.2.2.1 hfp.2.2.2.2.1 hfp.2.2.2.2.2
theorem zbl {wi:TI} {k:Nat} {x:Str} {spos px:Pos} (hN:X.N.Nodup) (hk:X.N[k]?=some x) (hx:X.env.scope.names.lookup x=some .local) (C:CompOk X sc caps ix) (hi:PI X tg iter wi) (hg:∀fp s H,PG (z0d X sc (tgs++caps) fp s H) tg g)
  (hB:∀(x:V) (σt cs:St) (H:Hp) (Q:St->Hp->Prop),σt.length=tgs.length->B x H (fun vals H2=>Q (vals.map some++cs) H2)->g x (σt++cs) H fun σ2 H2=>(∃vals:List V,vals.length=tgs.length/\σ2=vals.map some++cs)/\Q σ2 H2)
  (ht:∀fp s H,PTs (z0d X sc (tgs++caps) fp s H) ifs tt) (he:∀fp s H,PE (z0d X sc (tgs++caps) fp s H) elt te)
  (hsw:swapsWith (.ListComp elt [⟨tg,iter,ifs,0⟩] sc pos) (some (.Name x px)) spos.line X.env=pure true:=by rfl)
  (hs:∀x,foldedSetIterable iter X.env x=pure x:=by intro _;rfl):PS X (.Assign [.Name x px] (.ListComp elt [⟨tg,iter,ifs,0⟩] sc pos) spos) (zf1 (za8 wi B ix tt te) (z2e k)):=by
 intro pins s U H D0 I h
 rw [exec_Assign_Name_used _ _ _ _ hsw]
 refine wpAny_bind (wpAny_standAt (wpAny_bind ?_))
 show wpAny _ X.A (do let _ <-comprehension (.ListComp elt [⟨tg,iter,ifs,0⟩] sc pos) sc X.env _ (newList []) false (eval iter X.env) (some (assign (.Name x px) X.env))) _ _ s
 refine wpAny_bind (wpAny_mono (wpAny_comprehension_free (use:=some (assign (.Name x px) X.env)) (Q:=fun _ s'=>SP X pins D0 .next s') rfl hs (z4o (C.free_cell I)) C.kind C.names
  (thn (hi pins s U H _ I h) fun v s1 h1=>thn h1 fun itv s2 h2=>?_)) (fun _ s' hq=>wpAny_pure (wpAny_pure hq)) fun _ _ e=>e)
 obtain ⟨it,fp,tn,J,H2,e,I2,T,st2,f2,hw⟩:=h2
 subst e
 refine z7u (RR:=fun acc Cc=>compPost (model X.prog X.w) X.A X.xe (some (assign (.Name x px) X.env)) (fun _ s'=>SP X pins D0 .next s') acc Cc) C hg hB ht he I2 T st2 f2 hw ?_
 intro D Cc H' s' m hn I' hfp q
 show wpAny _ X.A (assign (.Name x px) X.env (.ref D)) _ _ _
 refine wpAny_assign_Name (z9t I' hN hk (.inl hx) (v:=.ref D) rfl (fun s'' I'' hch=>?_) (.inr hx))
 obtain ⟨a,sb,ha⟩:=hch
 have hne:Cc≠a:=by
  rcases ha with z | z
  . rw [z];exact hfp.2.1
  . exact fun e=>hfp.2.2.2.2.1 x a z e.symm
 refine ⟨m,hn.sameBut sb hne,fun h' sb'=>⟨_,H',?_,q⟩⟩
 exact I''.turned (t':=s''.toks) (fun b o hb e=>sb'.extBut b o hb e) hfp.1 hfp.2.1 hfp.2.2.2.1 hfp.2.2.2.2.1 hfp.2.2.2.2.2
end
section
variable {X:Cx}
theorem PE.imp {e:Expr} {t t':TE} (h:PE X e t) (hi:∀U H Q,t' U H Q->t U H Q):PE X e t':=fun pins s U H Q I q=>h pins s U H Q I (hi U H Q q)
theorem PT.imp {e:Expr} {t t':TT} (h:PT X e t) (hi:∀U H Q,t' U H Q->t U H Q):PT X e t':=fun pins s U H Q I q=>h pins s U H Q I (hi U H Q q)
theorem OpR.imp {f:Value->Value->Sem Value} {r r':R2} (h:OpR X f r) (hi:∀x y H Q,r' x y H Q->r x y H Q):OpR X f r':=fun pins s U H x y v u Q I rx ry q=>h pins s U H x y v u Q I rx ry (hi x y H Q q)
theorem UnR.imp {f:Value->Sem Value} {r r':V->Hp->VK->Prop} (h:UnR X f r) (hi:∀x H Q,r' x H Q->r x H Q):UnR X f r':=fun pins s U H x v Q I rx q=>h pins s U H x v Q I rx (hi x H Q q)
theorem CallR.imp {f:Value} {r r':List V->Hp->VK->Prop} (h:CallR X f r) (hi:∀xs H Q,r' xs H Q->r xs H Q):CallR X f r':=fun pins s U H xs us Q I rx q=>h pins s U H xs us Q I rx (hi xs H Q q)
end
noncomputable def zff (i:Nat):TE:=fun U H Q=>match U[i]? with | some (some v)=>Q v H | _=>False
theorem pw {X:Cx} (i:Nat) {x:Str} {pos:Pos} (hN:X.N[i]?=some x:=by rfl) (hv:Vis X.env.scope x:=by first | exact .inl rfl | exact .inr (.inl rfl) | exact .inr (.inr rfl)) (hd:(x==("__debug__":Str))=false:=by decide)
  (hcd:(x==("__classdict__":Str))=false:=by decide):PE X (.Name x pos) (zff i):=
 (zey hN hv hd hcd).imp fun U H Q q=>by
  unfold zff at q
  unfold zw0
  split at q
  . rename_i v e;exact ⟨v,e,q⟩
  . exact q.elim
noncomputable def cI (g:Int->Int->V):R2:=fun x y H Q=>match x,y with | .int i,.int j=>Q (g i j) H | _,_=>False
noncomputable def cIC (C:Int->Int->Prop) (g:Int->Int->V):R2:=fun x y H Q=>match x,y with | .int i,.int j=>C i j/\Q (g i j) H | _,_=>False
theorem OpR.cI {X:Cx} {f:Value->Value->Sem Value} {g:Int->Int->V} (h:OpR X f (rI0 g)):OpR X f (cI g):=h.imp fun x y H Q q=>by
 cases x<;>cases y<;>first | exact ⟨_,_,rfl,rfl,q⟩ | exact q.elim
theorem OpR.cIC {X:Cx} {f:Value->Value->Sem Value} {C:Int->Int->Prop} {g:Int->Int->V} (h:OpR X f (rI C g)):OpR X f (cIC C g):=h.imp fun x y H Q q=>by
 cases x<;>cases y<;>first | exact ⟨_,_,rfl,rfl,q.1,q.2⟩ | exact q.elim
section
variable {X:Cx}
theorem z2r:OpR X (binaryOp .Add) (cI fun i j=>.int (i+j)):=op_add.cI
theorem ze6:OpR X (binaryOp .Sub) (cI fun i j=>.int (i - j)):=op_sub.cI
theorem zr3:OpR X (binaryOp .Mult) (cIC CMul fun i j=>.int (i * j)):=op_mul.cIC
theorem zcx:OpR X (binaryOp .FloorDiv) (cIC zmn fun i j=>.int (i / j)):=op_fdiv.cIC
theorem z4p:OpR X (binaryOp .Mod) (cIC (fun _ j=>0<j) fun i j=>.int (i % j)):=op_mod.cIC
theorem zr4:OpR X (compareOp .Lt) (cI fun i j=>.bl (decide (i<j))):=op_lt.cI
theorem y02:OpR X (compareOp .LtE) (cI fun i j=>.bl (decide (i<=j))):=op_le.cI
theorem zq3:OpR X (compareOp .Gt) (cI fun i j=>.bl (decide (j<i))):=op_gt.cI
theorem y03:OpR X (compareOp .GtE) (cI fun i j=>.bl (decide (j<=i))):=op_ge.cI
def cU (g:Int->V):V->Hp->VK->Prop:=fun x H Q=>match x with | .int i=>Q (g i) H | _=>False
theorem zr5:UnR X (unaryOp .USub) (cU fun i=>.int (-i)):=un_neg.imp fun x H Q q=>by
 cases x<;>first | exact ⟨_,rfl,q⟩ | exact q.elim
end
noncomputable def z63 (H:Hp) (p:Addr):Option (List V):=match H p with
 | some (.lst xs)=>some xs
 | some (.tup xs)=>some xs
 | some (.frz _ (.lst xs))=>some xs
 | some (.frz _ (.tup xs))=>some xs
 | _=>none
theorem zcy {K:Frag} {H:Hp} {p:Addr} {xs:List V} (h:z63 H p=some xs):SqL K H p xs\/SqT K H p xs:=by
 unfold z63 at h
 split at h
 all_goals first | (cases h;done) | skip
 . rename_i ys e;cases h;exact .inl (.inl (.inl e))
 . rename_i ys e;cases h;exact .inr (.inl (.inl e))
 . rename_i o ys e;cases h;exact .inl (.inl (.inr ⟨_,e⟩))
 . rename_i o ys e;cases h;exact .inr (.inl (.inr ⟨_,e⟩))
theorem za9 {H:Hp} {p:Addr} {xs:List V} (h:H p=some (.lst xs)):z63 H p=some xs:=by unfold z63;rw [h]
theorem zaa {H:Hp} {p:Addr} {xs:List V} (h:H p=some (.tup xs)):z63 H p=some xs:=by unfold z63;rw [h]
def zab (x:V) (H:Hp) (Q:Bool->Hp->Prop):Prop:=match x with
 | .bl b=>Q b H
 | .int i=>Q (i != 0) H
 | .non=>Q false H
 | .str y=>y.length<=sizeLine/\Q ((y.length:Int) != 0) H
 | .ref p=>(match z63 H p with
  | some xs=>Q (!xs.isEmpty) H
  | none=>(match H p with | some (.dK kvs)=>Q (!kvs.isEmpty) H | _=>False))
 | _=>False
theorem zcz {K:Frag} {x:V} {H:Hp} {Q:Bool->Hp->Prop} (h:zab x H Q):∃k,zz7 K x H k/\Q k H:=by
 cases x with
 | bl b=>exact ⟨b,rfl,h⟩
 | int i=>exact ⟨_,rfl,h⟩
 | non=>exact ⟨_,rfl,h⟩
 | str y=>exact ⟨_,⟨h.1,rfl⟩,h.2⟩
 | ref p=>
  unfold zab at h
  dsimp only at h
  split at h
  . rename_i xs e
    rcases zcy (K:=K) e with z | z
    . exact ⟨_,.inl ⟨xs,z,rfl⟩,h⟩
    . exact ⟨_,.inr (.inl ⟨xs,z,rfl⟩),h⟩
  . split at h
    . rename_i kvs e;exact ⟨_,.inr (.inr ⟨kvs,e,rfl⟩),h⟩
    . exact h.elim
 | _=>exact h.elim
noncomputable def y04 (t:TE):TT:=fun U H Q=>t U H fun x H'=>zab x H' Q
section
variable {X:Cx} {a b c:Expr} {ta tb:TE} {pos:Pos}
theorem zr6 (ha:PE X a ta) (he:∀whole,isTrue a X.env whole=(do let v <-whole;standAt a.pos;holding [v] (truthy v)):=by intro _;rfl):PT X a (y04 ta):=by
 intro pins s U H Q I h
 exact isTrue_plain (thn (ha pins s U H _ I h) fun v s1 ⟨x,H1,I1,r1,q1⟩=>zl3 pins s1 U H1 x v Q I1 r1 (zcz q1)) (he _)
noncomputable def zmy (t:TE):TT:=fun U H Q=>t U H fun x H'=>match x with | .bl k=>Q k H' | _=>False
theorem zmz {op:CmpOp} {r:R2} (ho:OpR X (compareOp op) r) (ha:PE X a ta) (hb:PE X b tb) (hm:behindInMarks op b=false):PT X (.Compare a [op] [b] pos) (zmy (tOp r ta tb)):=by
 intro pins s U H Q I h
 refine wpAny_isTrue_Compare1 (thn (ha pins s U H _ I h) fun v s1 ⟨x,H1,I1,r1,q1⟩=>thn (hb pins s1 U H1 _ I1 q1) fun u s2 ⟨y,H2,I2,r2,q2⟩=>
  thn (ho pins s2 U H2 x y v u _ I2 r1 r2 q2) fun c s3 ⟨z,H3,I3,r3,q3⟩=>?_) hm
 cases z<;>first | exact q3.elim | skip
 cases r3
 exact wpAny_truthy_bool ⟨H3,I3,q3⟩
end
section
variable {c:Expr} {ta tb:TE}
noncomputable def zr7 (ta tb:TE):TE:=fun U H Q=>ta U H fun x H1=>match x with | .bl c=>(if c=true then tb U H1 Q else Q (.bl false) H1) | _=>False
noncomputable def zzf (ta tb:TE):TE:=fun U H Q=>ta U H fun x H1=>match x with | .bl c=>(if c=true then Q (.bl true) H1 else tb U H1 Q) | _=>False
end
section
variable {X:Cx} {a b c:Expr} {ta tb:TE} {pos:Pos} {rest:List Expr}
theorem zn0 (ha:PE X a ta) (hb:PE X (.BoolOp .And (b::rest) pos) tb):PE X (.BoolOp .And (a::b::rest) pos) (zr7 ta tb):=by
 intro pins s U H Q I h
 refine BoolOp_and (thn (ha pins s U H _ I h) fun v s1 ⟨x,H1,I1,r1,q1⟩=>?_)
 cases x<;>first | exact q1.elim | skip
 rename_i k
 cases r1
 refine wpAny_truthy_bool ?_
 cases k with
 | true=>exact ite_tt (hb pins s1 U H1 Q I1 (by simpa using q1))
 | false=>exact ite_ff ⟨.bl false,H1,I1,rfl,by simpa using q1⟩
theorem zr8 (ha:PE X a ta) (hb:PE X (.BoolOp .Or (b::rest) pos) tb):PE X (.BoolOp .Or (a::b::rest) pos) (zzf ta tb):=by
 intro pins s U H Q I h
 refine BoolOp_or (thn (ha pins s U H _ I h) fun v s1 ⟨x,H1,I1,r1,q1⟩=>?_)
 cases x<;>first | exact q1.elim | skip
 rename_i k
 cases r1
 refine wpAny_truthy_bool ?_
 cases k with
 | true=>exact ite_tt ⟨.bl true,H1,I1,rfl,by simpa using q1⟩
 | false=>exact ite_ff (hb pins s1 U H1 Q I1 (by simpa using q1))
noncomputable def zwc (ta:TE):TE:=fun U H Q=>ta U H fun x H1=>zab x H1 fun k H2=>Q (.bl (!k)) H2
theorem zn1 (ha:PE X a ta):PE X (.UnaryOp .Not a pos) (zwc ta):=by
 intro pins s U H Q I h
 refine UnaryOp_ (thn (ha pins s U H _ I h) fun v s1 ⟨x,H1,I1,r1,q1⟩=>not_of ?_)
 exact thn (zl3 pins s1 U H1 x v _ I1 r1 (zcz q1)) fun k s2 ⟨H2,I2,q2⟩=>⟨.bl (!k),H2,I2,rfl,q2⟩
noncomputable def z8m (H:Hp):V->Option String
 | .non=>some "NoneType"
 | .bl _=>some "bool"
 | .int _=>some "int"
 | .str _=>some "str"
 | .ref a=>(match H a with
  | some (.lst _)=>some "list"
  | some (.frz _ (.lst _))=>some "list"
  | some (.tup _)=>some "tuple"
  | some (.dK _)=>some "dict"
  | some (.dT _)=>some "dict"
  | _=>none)
 | _=>none
noncomputable def zfg (t c:String):Bool:=t==c||(t=="bool"&&c=="int")
noncomputable def z6n (c:String):Bool:=["int","bool","str","list","tuple","dict"].contains c
theorem z15 {K:Frag} {t c:String} (ht:["NoneType","bool","int","str","list","tuple","dict"].contains t=true) (hc:z6n c=true):PySem.W.kitOne K (.type t) (.type c)=some (zfg t c):=by
 have h1:t="NoneType"\/t="bool"\/t="int"\/t="str"\/t="list"\/t="tuple"\/t="dict":=by simpa using ht
 have h2:c="int"\/c="bool"\/c="str"\/c="list"\/c="tuple"\/c="dict":=by simpa [z6n] using hc
 rcases h1 with rfl | rfl | rfl | rfl | rfl | rfl | rfl<;>rcases h2 with rfl | rfl | rfl | rfl | rfl | rfl<;>first | rfl | (with_unfolding_all rfl)
theorem zj5:CallR X (.builtin "isinstance") (fun xs H Q=>match xs with
  | [x,.ty c]=>z6n c=true/\(match z8m H x with | some t=>Q (.bl (zfg t c)) H | none=>False)
  | _=>False):=by
 intro pins s U H xs us Q I r h
 split at h
 . rename_i x c
   obtain ⟨hc,h⟩:=h
   obtain ⟨u,w',rfl,ru,rw'⟩:=zmp r
   cases rw'
   split at h
   . rename_i t et
     have fin:∀(tk:Nat),EP X pins U Q (.bool (zfg t c)) { s with toks:=tk }:=fun tk=>⟨.bl _,H,I.tok _,rfl,h⟩
     cases x<;>simp only [z8m] at et
     case non=>cases et;exact z13 I ru .non (z15 (by decide) hc) fin
     case bl b=>cases et;exact z13 I ru (.bl b) (z15 (by decide) hc) fin
     case int b=>cases et;exact z13 I ru (.int b) (z15 (by decide) hc) fin
     case str b=>cases et;exact z13 I ru (.str b) (z15 (by decide) hc) fin
     case ref a=>
      split at et<;>first | (cases et;done) | skip
      . rename_i ys e;cases et;exact z13 I ru (.lst e) (z15 (by decide) hc) fin
      . rename_i o ys e;cases et;exact z13 I ru (.frz e) (z15 (by decide) hc) fin
      . rename_i ys e;cases et;exact z13 I ru (.tup e) (z15 (by decide) hc) fin
      . rename_i ys e;cases et;exact z13 I ru (.dK e) (z15 (by decide) hc) fin
      . rename_i ys e;cases et;exact z13 I ru (.dT e) (z15 (by decide) hc) fin
     all_goals cases et
   . exact h.elim
 . exact h.elim
theorem zfh (hc:X.calm=true):CallR X (.builtin "sum") (fun xs H Q=>match xs with
  | [.ref p]=>∃ns:List Int,z63 H p=some (ns.map V.int)/\Q (.int ns.sum) H
  | _=>False):=by
 intro pins s U H xs us Q I r h
 split at h
 . rename_i p
   obtain ⟨ns,e,q⟩:=h
   obtain ⟨u,rfl,ru⟩:=z5a r
   cases ru
   have key:∀{its:List Value},Vals (ns.map V.int) its->∃ys:Array (Int×Tok),its.toArray=intItems ys/\preSum (numAt ys) ys.size=ns.sum:=fun {its} rv=>by
    have hi:=z7t rv
    obtain ⟨ys,hx⟩:=hi.allInts.items
    refine ⟨ys,hx,?_⟩
    have e1:ns=ys.toList.map (·.1):=by
     rw [<-nums_intItems,<-hx]
     exact (show numsOf its.toArray.toList=ns from hi.numsOf).symm
    rw [preSum_eq,List.take_of_length_le (by simp),e1]
   rcases zcy (K:=X.K) e with hq | hq
   . obtain ⟨its,rv,pl,_⟩:=I.list hq
     obtain ⟨ys,hx,es⟩:=key rv
     refine sum_intListG (I.ok.hd hc) (hx ▸ pl.isList) fun h' tk t' hk=>?_
     rw [es]
     exact ⟨.int ns.sum,H,I.kept hk,⟨_,rfl⟩,q⟩
   . obtain ⟨its,rv,pl,_⟩:=I.tuple hq
     obtain ⟨ys,hx,es⟩:=key rv
     refine PySem.W.ktm_sumG (I.ok.hd hc) (hx ▸ pl) fun h' tk t' hk=>?_
     rw [es]
     exact ⟨.int ns.sum,H,I.kept hk,⟨_,rfl⟩,q⟩
 . exact h.elim
abbrev zn2 (s:Shared) (L:Addr):List (Addr×Obj):=z6g (Att.noObjs s.heap) s.heap L
section
variable {pins:List (Addr×Obj)} {U:St} {H:Hp} {s:Shared} {h':Heap} {m:Str->Option Value}
theorem z7v {L:Addr} (N:News (Att.noObjs s.heap) L h' (zn2 s L)):∀b o,b≠L->s.heap.get? b=some o->h'.get? b=some o:=fun b o hb e=>(N (b,o) (zbe hb (Att.noObjs_get _ _) e)).1
theorem Inv.frn {tk:Nat} (I:Inv X pins U H s) (hn:s.heap.Ns X.env.locals m) (F:Fr (Att.noObjs s.heap) X.env.locals h' m) (N:News (Att.noObjs s.heap) X.env.locals h' (zn2 s X.env.locals)):Inv X pins U H { s with heap:=h',toks:=tk }:=by
 have kept:=z7v N
 refine I.step (g':=s.gens) (d':=s.drawn) (ch:=[]) (fun _ z=>nomatch z) (fun b o hL _ _ e _=>kept b o hL e) (fun b o hL _ _ e _=>⟨o.slots,kept b o hL e⟩) (fun _ _ _ _ n=>n) (fun b o _ e=>?_) (fun _ _ e=>e) (fun _ _ _ e=>e) (fun b ps e=>⟨#[],by rw [e];simp⟩) (fun m' hm=>?_) (fun b u e=>?_) I.bare
 . by_cases hb:b=X.env.locals
   . subst hb
     obtain ⟨o',_,_,ho',_⟩:=F.ns
     exact ⟨o',ho'⟩
   . exact ⟨o,kept b o hb e⟩
 . rw [hm.eq_nsMap,<-hn.eq_nsMap];exact F.ns
 . refine (I.hok b u e).stay (fun c v hc q=>kept c v ?_ q) (fun _ q=>q) fun _ _ q=>q
   intro z
   rcases hc with hc | hc
   . rw [<-hc,z,I.free] at e;cases e
   . rw [z,I.free] at hc;cases hc
theorem Inv.frnew {tk:Nat} {D:Addr} {ob:Obj} {o:HO} (I:Inv X pins U H s) (hn:s.heap.Ns X.env.locals m) (F:Fr (Att.noObjs s.heap) X.env.locals h' m) (N:News (Att.noObjs s.heap) X.env.locals h' ((D,ob)::zn2 s X.env.locals))
  (hD:s.heap.get? D=none) (new:ObjOk X.prog X.w (upd H D o) h' D o):H D=none/\Inv X pins U (upd H D o) { s with heap:=h',toks:=tk }:=by
 have kept:=z7v (fun p hp=>N p (.tail _ hp))
 have hDL:D≠X.env.locals:=(N (D,ob) (.head _)).2.1
 have neD:∀b o,s.heap.get? b=some o->b≠D:=fun b o e z=>by rw [z,hD] at e;cases e
 have HD:H D=none:=by
  cases q:H D with
  | none=>rfl
  | some u=>
   have:=(I.hok D u q).lt
   obtain ⟨v,hv⟩:∃v,s.heap.get? D=some v:=by
    have z:=I.hok D u q
    cases u with
    | lst xs=>obtain ⟨_,_,_,_,e⟩:=z;exact ⟨_,e⟩
    | tup xs=>obtain ⟨_,_,_,o,e,_⟩:=z;exact ⟨_,e⟩
    | dK kvs=>obtain ⟨_,_,_,_,o,_,_,e,_⟩:=z;exact ⟨_,e⟩
    | dT kvs=>obtain ⟨_,_,_,_,o,_,_,e,_⟩:=z;exact ⟨_,e⟩
    | set S n=>obtain ⟨_,_,_,_,e,_⟩:=z;exact ⟨_,e⟩
    | ins C dx fs=>obtain ⟨_,_,_,e,_⟩:=z;exact ⟨_,e⟩
    | own x=>exact z
    | xd fs=>obtain ⟨mA,n1,_⟩:=z;obtain ⟨o,_,_,e,_⟩:=n1;exact ⟨o,e⟩
    | met f x=>exact ⟨_,z⟩
    | rng lo hi=>obtain ⟨_,_,_,e⟩:=z;exact ⟨_,e⟩
    | frz o u=>exact ⟨_,z.1⟩
    | tbl ps=>exact ⟨_,z⟩
    | ctb q=>obtain ⟨_,e,_⟩:=z;exact ⟨_,e⟩
    | ext φ=>exact z.2.1
   rw [hD] at hv;cases hv
 refine ⟨HD,I.step (g':=s.gens) (d':=s.drawn) (ch:=[]) (fun _ z=>nomatch z) (fun b o hL _ _ e _=>kept b o hL e) (fun b o hL _ _ e _=>⟨o.slots,kept b o hL e⟩) (fun b ob _ e n=>by rw [z0j (neD b ob e)];exact n) (fun b o _ e=>?_)
  (fun b xs e=>by rw [z0j (z0h e HD)];exact e) (fun b u xs e=>by rw [z0j (z0h e HD)];exact e) (fun b ps e=>⟨#[],by rw [z0j (z0h e HD),e];simp⟩) (fun m' hm=>?_) (fun b u e=>?_) I.bare⟩
 . by_cases hb:b=X.env.locals
   . subst hb
     obtain ⟨o',_,_,ho',_⟩:=F.ns
     exact ⟨o',ho'⟩
   . exact ⟨o,kept b o hb e⟩
 . rw [hm.eq_nsMap,<-hn.eq_nsMap];exact F.ns
 . by_cases hb:b=D
   . subst hb
     rw [z0o] at e
     cases e
     exact new
   . rw [z0j hb] at e
     refine (I.hok b u e).stay (fun c v hc q=>kept c v ?_ q) (fun c q=>?_) fun c xs q=>?_
     . intro z
       rcases hc with hc | hc
       . rw [<-hc,z,I.free] at e;cases e
       . rw [z,I.free] at hc;cases hc
     . rw [z0j (z0h q HD)];exact q
     . rw [z0j (z0h q HD)];exact q
end
theorem zfi:CallR X (.type "int") (fun xs H Q=>match xs with | [.int i]=>Q (.int i) H | [.bl k]=>Q (.int (if k then 1 else 0)) H | _=>False):=call_int1.imp fun xs H Q q=>by
 split at q
 . exact .inl ⟨_,rfl,q⟩
 . exact .inr ⟨_,rfl,q⟩
 . exact q.elim
theorem ze7 (hc:X.calm=true):CallR X (.builtin "max") (fun xs H Q=>match xs with | [.int i,.int j]=>Q (.int (if j > i then j else i)) H | _=>False):=(zf5 hc).imp fun xs H Q q=>by
 split at q
 . exact ⟨_,_,rfl,q⟩
 . exact q.elim
theorem ze8 (hc:X.calm=true):CallR X (.builtin "min") (fun xs H Q=>match xs with | [.int i,.int j]=>Q (.int (if j<i then j else i)) H | _=>False):=(zf6 hc).imp fun xs H Q q=>by
 split at q
 . exact ⟨_,_,rfl,q⟩
 . exact q.elim
end
noncomputable def ItS (S:Hp->Prop) (xs:List V):It:=⟨fun i H=>S H/\i<xs.length,fun i H x H'=>H'=H/\xs[i]?=some x,fun i H=>S H/\xs.length<=i⟩
theorem Turn.conv {P:Program} {w:World} {K:Frag} {tg:Expr} {J J':It} {fp:List Addr} {it:Addr} {tn:Nat->Heap->Prop} (T:Turn P w K tg J fp it tn) (h1:∀i H,J'.go i H->J.go i H) (h2:∀i H x H',J'.go i H->J.yld i H x H'->J'.yld i H x H')
  (h3:∀i H,J'.stop i H->J.stop i H):Turn P w K tg J' fp it tn where
 mem:=T.mem
 obj:=T.obj
 keep:=T.keep
 item:=fun X a b c d i pins s U H E I hf st hg=>thn (T.item X a b c d i pins s U H E I hf st (h1 i H hg)) fun r s1 ⟨u,e,h⟩=>⟨u,e,thn h fun _ s2 ⟨x,H',I',r',y',st',fr'⟩=>⟨x,H',I',r',h2 i H x H' hg y',st',fr'⟩⟩
 done:=fun X a b c d i pins s U H E I hf st hg=>T.done X a b c d i pins s U H E I hf st (h3 i H hg)
 self:=T.self
section
variable {X:Cx} {tg:Expr}
def zq4 (x:V) (H1:Hp) (R:It->Hp->Prop):Prop:=match x with
 | .ref a=>(match H1 a with
  | some (.lst xs)=>R (ItS (fun H'=>Rd H' a (.lst xs)) xs) H1
  | some (.frz _ (.lst xs))=>R (ItS (fun H'=>Rd H' a (.lst xs)) xs) H1
  | some (.tup xs)=>R (ItS (fun H'=>H' a=some (.tup xs)) xs) H1
  | _=>False)
 | _=>False
theorem zj6 {a:Addr} {H:Hp} {R:It->Hp->Prop} {xs:List V} (h:Rd H a (.lst xs)) (r:R (ItS (fun H'=>Rd H' a (.lst xs)) xs) H):zq4 (.ref a) H R:=by
 unfold zq4
 rcases h with h | ⟨o,h⟩
 . dsimp only;rw [h];exact r
 . dsimp only;rw [h];exact r
theorem zj7 {a:Addr} {H:Hp} {R:It->Hp->Prop} {xs:List V} (h:H a=some (.tup xs)) (r:R (ItS (fun H'=>H' a=some (.tup xs)) xs) H):zq4 (.ref a) H R:=by
 unfold zq4
 dsimp only;rw [h];exact r
noncomputable def y05 (K:Frag) (tl:TE):TI:=fun U H R=>tl U H fun x H1=>zq4 x H1 R
theorem zr9 {l:Expr} {tl:TE} (hl:PE X l tl):PI X tg l (y05 X.K tl):=by
 intro pins s U H R I h
 refine thn (hl pins s U H _ I h) fun v s1 ⟨x,H1,I1,r1,q1⟩=>?_
 cases x<;>first | exact q1.elim | skip
 rename_i a
 cases r1
 unfold zq4 at q1
 dsimp only at q1
 have asList:∀xs,Rd H1 a (.lst xs)->R (ItS (fun H'=>Rd H' a (.lst xs)) xs) H1->wpAny (model X.prog X.w) X.A (pyIter (.ref a)) (PIE X pins U tg R) X.xe s1:=fun xs hq q=>by
  obtain ⟨its,rv,p,hz⟩:=I1.list (.inl hq)
  refine wpAny_pyIter_list p.isList ?_
  refine ⟨s1.heap.objs.size,[s1.heap.objs.size],_,_,H1,rfl,I1.kept (t':=s1.toks) fun b o e=>Heap.get?_push_of_some _ e,(zf3 a _).conv ?_ ?_ ?_,⟨_,Heap.get?_push_size _ rfl,rfl,rfl⟩,fun b hb=>?_,q⟩
  . exact fun i H' ⟨h1,h2⟩=>⟨xs,xs[i],.inl h1,by simp [h2]⟩
  . exact fun i H' x H'' ⟨h1,h2⟩ ⟨e,y⟩=>⟨e,y xs (.inl h1)⟩
  . exact fun i H' ⟨h1,h2⟩=>⟨xs,.inl h1,h2⟩
  . have e:b=s1.heap.objs.size:=by simpa using hb
    subst e
    exact I1.fpOk (Nat.le_refl _) (I1.hok.fresh (Nat.le_refl _))
 split at q1
 . rename_i xs e;exact asList xs (.inl e) q1
 . rename_i o xs e;exact asList xs (.inr ⟨o,e⟩) q1
 . rename_i xs e
   obtain ⟨its,rv,p,hz⟩:=I1.tuple (.of e)
   refine wpAny_pyIter_tuple (show s1.heap.IsTuple a its.toArray from p) ?_
   refine ⟨s1.heap.objs.size,[s1.heap.objs.size],_,_,H1,rfl,I1.kept (t':=s1.toks) fun b o e=>Heap.get?_push_of_some _ e,(ze1 a _).conv ?_ ?_ ?_,⟨_,Heap.get?_push_size _ rfl,rfl,rfl⟩,fun b hb=>?_,q1⟩
   . exact fun i H' ⟨h1,h2⟩=>⟨xs,xs[i],.of h1,by simp [h2]⟩
   . exact fun i H' x H'' ⟨h1,h2⟩ ⟨e,y⟩=>⟨e,y xs (.of h1)⟩
   . exact fun i H' ⟨h1,h2⟩=>⟨xs,.of h1,h2⟩
   . have e:b=s1.heap.objs.size:=by simpa using hb
     subst e
     exact I1.fpOk (Nat.le_refl _) (I1.hok.fresh (Nat.le_refl _))
 . exact q1.elim
noncomputable def zim (lo:Int) (n:Nat):List V:=(List.range n).map fun (i:Nat)=>V.int (lo+i)
theorem z8n (lo:Int) (n:Nat):(zim lo n).length=n:=by simp [zim]
theorem zn3 (lo:Int) (n i:Nat) (h:i<n):(zim lo n)[i]?=some (.int (lo+i)):=by simp [zim,h]
noncomputable def iR1 (ta:TA):TI:=fun U H R=>ta U H fun vs H1=>match vs with | [.int j]=>(-(2 ^ 62)<=j/\j<2 ^ 62)/\R (ItS (fun _=>True) (zim 0 j.toNat)) H1 | _=>False
theorem z5b (lo:Int) (n:Nat):(∀i (H:Hp),(ItS (fun _=>True) (zim lo n)).go i H->(Itr lo n).go i H)/\(∀i H x H',(ItS (fun _=>True) (zim lo n)).go i H->(Itr lo n).yld i H x H'->(ItS (fun _=>True) (zim lo n)).yld i H x H') /\
  (∀i (H:Hp),(ItS (fun _=>True) (zim lo n)).stop i H->(Itr lo n).stop i H):=by
 refine ⟨fun i H ⟨_,h⟩=>?_,fun i H x H' ⟨_,h⟩ ⟨e,y⟩=>⟨e,?_⟩,fun i H ⟨_,h⟩=>?_⟩
 . rw [z8n] at h;exact h
 . rw [z8n] at h;rw [y];exact zn3 lo n i h
 . rw [z8n] at h;exact h
end
def zzg (J:It) (g:TG) (tb:TS) (D:Ends) (U:St) (H1:Hp):Prop:=∃W:Nat->Nat->St->Hp->Prop,(∃m,W 0 m U H1)/\∀i m U H,W i m U H ->
 (J.stop i H/\D.nx U H)\/(J.go i H/\∃N:St->Hp->Prop,(∀σ' H',N σ' H'->∃m',m'<m/\W (i+1) m' σ' H')/\∀x H',J.yld i H x H'->g x U H' fun σ2 H2=>tb { D with nx:=N,ct:=N,bk:=D.nx } σ2 H2)
noncomputable def zra (wi:TI) (g:TG) (tb:TS):TS:=fun D U H=>wi U H fun J H1=>zzg J g tb D U H1
theorem zn4 {X:Cx} {tg iter:Expr} {body:List Stmt} {wi:TI} {g:TG} {tb:TS} {pos:Pos} (hp:PassesOwn (model X.prog X.w) X.A X.env X.xe) (hc:X.calm=true) (hi:PI X tg iter wi) (hg:PG X tg g) (hb:PSs X body tb)
 (hs:∀x,foldedSetIterable iter X.env x=pure x:=by intro _;rfl):PS X (.For tg iter body [] pos) (zra wi g tb):=zqq hp hc hi hg hb hs
theorem Same.upd_new {H:Hp} {a:Addr} {o:HO} (h:H a=none):Same H (upd H a o):=fun b u e=>by rw [z0j (z0h e h)];exact e
theorem Same.upd_at {H H1:Hp} {a:Addr} {o:HO} (s:Same H H1) (h:H a=none):Same H (upd H1 a o):=fun b u e=>by rw [z0j (z0h e h)];exact s b u e
section
variable {X:Cx} {tg:Expr} {a:Expr} {ta:TA} {p pos:Pos}
theorem zwd (hg:Gl X "range") (hm:X.mg "range"=none) (ha:PA X [a] ta) (hs:starEach [a] X.env=[(false,eval a X.env)]:=by rfl):PI X tg (.Call (.Name "range" p) [a] [] pos) (iR1 ta):=by
 intro pins s U H R I h
 refine Call_ (z9u I hg hm boot_range (PyProof.Rows.callWith_type1 (thn (ha pos pins s U H _ I h) fun us s1 ⟨vs,H1,I1,r1,q1⟩=>?_) hs rfl))
 dsimp only at q1
 split at q1
 . rename_i j
   obtain ⟨⟨h1,h2⟩,q⟩:=q1
   obtain ⟨u,rfl,t,rfl⟩:=z5a r1
   refine call_range_1 (thn (zix (tg:=tg) (R:=fun J H1=>∃J',(∀i H,J'.go i H->J.go i H)/\(∀i H x H',J'.go i H->J.yld i H x H'->J'.yld i H x H')/\(∀i H,J'.stop i H->J.stop i H)/\R J' H1) I1 (by lia) (by lia) h1 h2 ?_) fun itv s2 h2=>?_)
   . refine ⟨_,(z5b 0 (j - 0).toNat).1,(z5b 0 (j - 0).toNat).2.1,(z5b 0 (j - 0).toNat).2.2,?_⟩
     simpa using q
   . obtain ⟨it,fp,tn,J,H2,e,I2,T,st,hf,J',c1,c2,c3,r⟩:=h2
     exact ⟨it,fp,tn,J',H2,e,I2,T.conv c1 c2 c3,st,hf,r⟩
 . exact q1.elim
end
def cB1:V->Hp->(List V->Hp->Prop)->Prop:=fun x H R=>R [x] H
def cBT (n:Nat):V->Hp->(List V->Hp->Prop)->Prop:=fun x H R=>match x with
 | .ref a=>(match H a with | some (.tup xs)=>xs.length=n/\R xs H | _=>False)
 | _=>False
section
variable {X:Cx} {sc:Scope} {caps:List Str} {ix:List Nat} {elt iter:Expr} {ifs:List Expr} {pos px py pz tpos:Pos} {tt:TT} {te:TE} {wi:TI} {x y z:Str} {kt:Nat}
theorem zzh (x:V) (σt cs:St) (H:Hp) (Q:St->Hp->Prop) (hl:σt.length=1) (h:cB1 x H (fun vals H2=>Q (vals.map some++cs) H2)):z2e 0 x (σt++cs) H fun σ2 H2=>(∃vals:List V,vals.length=1/\σ2=vals.map some++cs)/\Q σ2 H2:=by
 match σt,hl with
 | [t],_=>exact ⟨⟨[x],rfl,rfl⟩,h⟩
theorem y06 {K:Frag} (x:V) (σt cs:St) (H:Hp) (Q:St->Hp->Prop) (hl:σt.length=2) (h:cBT 2 x H (fun vals H2=>Q (vals.map some++cs) H2)) :
  zqn K 2 (z6i (z2e 0) (z6i (z2e 1) zqm)) x (σt++cs) H fun σ2 H2=>(∃vals:List V,vals.length=2/\σ2=vals.map some++cs)/\Q σ2 H2:=by
 cases x<;>first | exact h.elim | skip
 rename_i a
 unfold cBT at h
 dsimp only at h
 split at h
 . rename_i xs e
   obtain ⟨hn,h⟩:=h
   match σt,hl,xs,hn with
   | [t,t'],_,[v,v'],_=>exact ⟨a,[v,v'],rfl,.of e,rfl,v,[v'],rfl,v',[],rfl,rfl,⟨[v,v'],rfl,rfl⟩,h⟩
 . exact h.elim
theorem y07 {K:Frag} (x:V) (σt cs:St) (H:Hp) (Q:St->Hp->Prop) (hl:σt.length=3) (h:cBT 3 x H (fun vals H2=>Q (vals.map some++cs) H2)) :
  zqn K 3 (z6i (z2e 0) (z6i (z2e 1) (z6i (z2e 2) zqm))) x (σt++cs) H fun σ2 H2=>(∃vals:List V,vals.length=3/\σ2=vals.map some++cs)/\Q σ2 H2:=by
 cases x<;>first | exact h.elim | skip
 rename_i a
 unfold cBT at h
 dsimp only at h
 split at h
 . rename_i xs e
   obtain ⟨hn,h⟩:=h
   match σt,hl,xs,hn with
   | [t,t',t''],_,[v,v',v''],_=>exact ⟨a,[v,v',v''],rfl,.of e,rfl,v,[v',v''],rfl,v',[v''],rfl,v'',[],rfl,rfl,⟨[v,v',v''],rfl,rfl⟩,h⟩
 . exact h.elim
theorem zn5 {tgs:List Str} {i:Nat} {x:Str} {px:Pos} (hN:(tgs++caps).Nodup) (hi:(tgs++caps)[i]?=some x) (hx:sc.names.lookup x=some .local) (fp:List Addr) (s:Shared) (H:Hp):PG (z0d X sc (tgs++caps) fp s H) (.Name x px) (z2e i):=
 zbf (X:=z0d X sc (tgs++caps) fp s H) hN hi (.inl (lookup_relabel_local hx)) (.inr (lookup_relabel_local hx))
theorem zj8 (C:CompOk X sc caps ix) (hN:([x]++caps).Nodup) (hx:sc.names.lookup x=some .local) (hi:PI X (.Name x px) iter wi) (ht:∀fp s H,PTs (z0d X sc ([x]++caps) fp s H) ifs tt) (he:∀fp s H,PE (z0d X sc ([x]++caps) fp s H) elt te)
  (hs:∀x,foldedSetIterable iter X.env x=pure x:=by intro _;rfl):PE X (.ListComp elt [⟨.Name x px,iter,ifs,0⟩] sc pos) (za8 wi cB1 ix tt te):=
 zmx (tgs:=[x]) C hi (fun fp s H=>zn5 hN rfl hx fp s H) zzh ht he hs
theorem zj9 {v:Str} {k:Nat} {spos pv:Pos} (hNX:X.N.Nodup) (hk:X.N[k]?=some v) (hv:X.env.scope.names.lookup v=some .local) (C:CompOk X sc caps ix) (hN:([x]++caps).Nodup) (hx:sc.names.lookup x=some .local) (hi:PI X (.Name x px) iter wi)
  (ht:∀fp s H,PTs (z0d X sc ([x]++caps) fp s H) ifs tt) (he:∀fp s H,PE (z0d X sc ([x]++caps) fp s H) elt te)
  (hsw:swapsWith (.ListComp elt [⟨.Name x px,iter,ifs,0⟩] sc pos) (some (.Name v pv)) spos.line X.env=pure true:=by rfl) (hs:∀x,foldedSetIterable iter X.env x=pure x:=by intro _;rfl) :
  PS X (.Assign [.Name v pv] (.ListComp elt [⟨.Name x px,iter,ifs,0⟩] sc pos) spos) (zf1 (za8 wi cB1 ix tt te) (z2e k)):=
 zbl (tgs:=[x]) hNX hk hv C hi (fun fp s H=>zn5 hN rfl hx fp s H) zzh ht he hsw hs
theorem zwe (hc:X.calm=true) (hN:([x,y]++caps).Nodup) (hx:sc.names.lookup x=some .local) (hy:sc.names.lookup y=some .local) (fp:List Addr) (s:Shared) (H:Hp) :
  PG (z0d X sc ([x,y]++caps) fp s H) (.Tuple [.Name x px,.Name y py] kt tpos) (zqn X.K 2 (z6i (z2e 0) (z6i (z2e 1) zqm))):=
 zf0 (X:=z0d X sc ([x,y]++caps) fp s H) hc (z3n (zn5 hN rfl hx fp s H) (z3n (zn5 hN rfl hy fp s H) pgs_nil))
theorem zwf (hc:X.calm=true) (hN:([x,y,z]++caps).Nodup) (hx:sc.names.lookup x=some .local) (hy:sc.names.lookup y=some .local) (hz:sc.names.lookup z=some .local) (fp:List Addr) (s:Shared) (H:Hp) :
  PG (z0d X sc ([x,y,z]++caps) fp s H) (.Tuple [.Name x px,.Name y py,.Name z pz] kt tpos) (zqn X.K 3 (z6i (z2e 0) (z6i (z2e 1) (z6i (z2e 2) zqm)))):=
 zf0 (X:=z0d X sc ([x,y,z]++caps) fp s H) hc (z3n (zn5 hN rfl hx fp s H) (z3n (zn5 hN rfl hy fp s H) (z3n (zn5 hN rfl hz fp s H) pgs_nil)))
theorem zja {v:Str} {k:Nat} {spos pv:Pos} (hNX:X.N.Nodup) (hk:X.N[k]?=some v) (hv:X.env.scope.names.lookup v=some .local) (C:CompOk X sc caps ix) (hN:([x,y]++caps).Nodup) (hx:sc.names.lookup x=some .local) (hy:sc.names.lookup y=some .local)
  (hi:PI X (.Tuple [.Name x px,.Name y py] kt tpos) iter wi) (ht:∀fp s H,PTs (z0d X sc ([x,y]++caps) fp s H) ifs tt) (he:∀fp s H,PE (z0d X sc ([x,y]++caps) fp s H) elt te)
  (hsw:swapsWith (.ListComp elt [⟨.Tuple [.Name x px,.Name y py] kt tpos,iter,ifs,0⟩] sc pos) (some (.Name v pv)) spos.line X.env=pure true:=by rfl) (hs:∀x,foldedSetIterable iter X.env x=pure x:=by intro _;rfl) :
  PS X (.Assign [.Name v pv] (.ListComp elt [⟨.Tuple [.Name x px,.Name y py] kt tpos,iter,ifs,0⟩] sc pos) spos) (zf1 (za8 wi (cBT 2) ix tt te) (z2e k)):=
 zbl (tgs:=[x,y]) hNX hk hv C hi (fun fp s H=>zwe C.calm hN hx hy fp s H) y06 ht he hsw hs
theorem zjb {v:Str} {k:Nat} {spos pv:Pos} (hNX:X.N.Nodup) (hk:X.N[k]?=some v) (hv:X.env.scope.names.lookup v=some .local) (C:CompOk X sc caps ix) (hN:([x,y,z]++caps).Nodup) (hx:sc.names.lookup x=some .local) (hy:sc.names.lookup y=some .local) (hz:sc.names.lookup z=some .local)
  (hi:PI X (.Tuple [.Name x px,.Name y py,.Name z pz] kt tpos) iter wi) (ht:∀fp s H,PTs (z0d X sc ([x,y,z]++caps) fp s H) ifs tt) (he:∀fp s H,PE (z0d X sc ([x,y,z]++caps) fp s H) elt te)
  (hsw:swapsWith (.ListComp elt [⟨.Tuple [.Name x px,.Name y py,.Name z pz] kt tpos,iter,ifs,0⟩] sc pos) (some (.Name v pv)) spos.line X.env=pure true:=by rfl) (hs:∀x,foldedSetIterable iter X.env x=pure x:=by intro _;rfl) :
  PS X (.Assign [.Name v pv] (.ListComp elt [⟨.Tuple [.Name x px,.Name y py,.Name z pz] kt tpos,iter,ifs,0⟩] sc pos) spos) (zf1 (za8 wi (cBT 3) ix tt te) (z2e k)):=
 zbl (tgs:=[x,y,z]) hNX hk hv C hi (fun fp s H=>zwf C.calm hN hx hy hz fp s H) y07 ht he hsw hs
noncomputable def zn6 (n:Nat) (t:TGs):TG:=fun v U H Q=>match v with
 | .ref a=>(match H a with | some (.tup xs)=>xs.length=n/\t xs U H Q | _=>False)
 | _=>False
noncomputable def zl5 (t:TG) (u:TGs):TGs:=fun vs U H Q=>match vs with | v::r=>t v U H fun σ' H'=>u r σ' H' Q | []=>False
noncomputable def zrb:TGs:=fun vs U H Q=>match vs with | []=>Q U H | _=>False
theorem PGs.imp {es:List Expr} {t t':TGs} (h:PGs X es t) (hi:∀vs U H Q,t' vs U H Q->t vs U H Q):PGs X es t':=fun pins s U H vs us Q I r q=>h pins s U H vs us Q I r (hi vs U H Q q)
theorem PG.imp {e:Expr} {t t':TG} (h:PG X e t) (hi:∀v U H Q,t' v U H Q->t v U H Q):PG X e t':=fun pins s U H v u Q I r q=>h pins s U H v u Q I r (hi v U H Q q)
theorem zjc:PGs X [] zrb:=pgs_nil.imp fun vs U H Q q=>by
 cases vs with
 | nil=>exact ⟨rfl,q⟩
 | cons _ _=>exact q.elim
theorem zfj {e:Expr} {es:List Expr} {t:TG} {u:TGs} (h1:PG X e t) (h2:PGs X es u) (hs:(assignEach (e::es) X.env).map (·.2)=assign e X.env::(assignEach es X.env).map (·.2):=by rfl):PGs X (e::es) (zl5 t u):=(z3n h1 h2 hs).imp fun vs U H Q q=>by
 cases vs with
 | nil=>exact q.elim
 | cons v r=>exact ⟨v,r,rfl,q⟩
theorem zn7 {es:List Expr} {k:Nat} {t:TGs} {n:Nat} (hc:X.calm=true) (h:PGs X es t)
  (hn:(assignEach es X.env).length=n:=by rfl) (hst:(assignEach es X.env).findIdx? (·.1)=none:=by rfl):PG X (.Tuple es k pos) (zn6 n t):=(zf0 hc h hn hst).imp fun v U H Q q=>by
 cases v<;>first | exact q.elim | skip
 rename_i a
 unfold zn6 at q
 dsimp only at q
 split at q
 . rename_i xs e;exact ⟨a,xs,rfl,.of e,q.1,q.2⟩
 . exact q.elim
end
theorem zzi {α:Type} (a:α) (r:List α):atI (a::r) 0=some a:=z6l (j:=0) rfl
theorem zzj {α:Type} (a b:α) (r:List α):atI (a::b::r) 1=some b:=z6l (j:=1) rfl
section
variable {prog:Program} {w:World} {A:Around} {E:Value->Shared->Prop} {s:Shared}
theorem zd0 {it t:Addr} {items:Array Value} (hne:t≠it):∀(n i:Nat) (s:Shared) (Q:List Value->Shared->Prop),s.heap.IsListIter it t i->s.heap.IsList t items->i+n<=items.size ->
  (∀h',h'.IsListIter it t (i+n)->Heap.SameBut it s.heap h'->Q ((items.toList.drop i).take n) { s with heap:=h' })->wpAny (model prog w) A (draw (.ref it) n) Q E s
 | 0,i,s,Q,hit,_,_,k=>by
  show wpAny _ _ (pure []) Q E s
  exact wpAny_pure (by simpa using k s.heap hit (Heap.SameBut.refl ..))
 | n+1,i,s,Q,hit,ht,hle,k=>by
  have hlt:i<items.size:=by lia
  show wpAny _ _ (pyNext (.ref it) >>= _) Q E s
  refine wpAny_bind (wpAny_pyNext_list_item hit ht (x:=items[i]) (by simp [hlt]) fun g1 it1 sb1=>?_)
  refine wpAny_bind (wpAny_holding (zd0 hne n (i+1) _ _ it1 (ht.extBut sb1.extBut hne) (by lia) fun g2 it2 sb2=>wpAny_pure ?_))
  have hd:items.toList.drop i=items[i]::items.toList.drop (i+1):=by simp [List.drop_eq_getElem_cons,hlt]
  have z:=k g2 (by rw [show i+(n+1)=i+1+n by lia];exact it2) (sb1.trans sb2)
  rw [hd,List.take_succ_cons] at z
  exact z
theorem zfk {t:Addr} {items:Array Value} {Q:List Value->Shared->Prop} (hh:A.handled=none) (ht:s.heap.IsList t items)
  (k:∀h',(∀b o,s.heap.get? b=some o->h'.get? b=some o)->Q items.toList { s with heap:=h' }):wpAny (model prog w) A (unpackItems (.ref t) items.size none) Q E s:=by
 have hlt:t≠s.heap.objs.size:=by obtain ⟨o,ho,_⟩:=ht;exact Nat.ne_of_lt (Heap.lt_size ho)
 have old:∀{b:Addr} {o:Obj},s.heap.get? b=some o->b≠s.heap.objs.size:=fun e=>Nat.ne_of_lt (Heap.lt_size e)
 unfold unpackItems
 refine wpAny_bind ?_
 . unfold notIterableAtAll
   refine wpAny_bind (wpAny_specialOf ht.typeIs slot_list_iter.lookup ?_)
   refine wpAny_pure ?_
   simp only [Bool.false_eq_true,if_false]
   refine wpAny_bind (wpAny_holding (wpAny_pyIter_list ht ?_))
   refine wpAny_bind (wpAny_holding (zd0 hlt items.size 0 _ _ ⟨_,Heap.get?_push_size _ rfl,rfl,rfl⟩ (ht.push _) (by lia) fun g1 it1 sb1=>?_))
   have hall:List.take items.size (List.drop 0 items.toList)=items.toList:=by
    rw [List.drop_zero];exact List.take_of_length_le (by simp)
   rw [hall]
   rw [if_neg (by simp)]
   have ht1:g1.IsList t items:=(ht.push _).extBut sb1.extBut hlt
   refine wpAny_bind (wpAny_holding (wpAny_pyNext_list_end hh it1 ht1 (by simp) fun g2 eb2=>?_))
   simp only [Option.isSome_none,Bool.false_eq_true,if_false]
   exact wpAny_pure (k g2 fun b o e=>eb2 b o (old e) (sb1.extBut b o (old e) (Heap.get?_push_of_some _ e)))
theorem ze9 {env:Env} {elts:List Expr} {x1} {pos:Pos} {t:Addr} {items:Array Value} {Q:Unit->Shared->Prop} (hh:A.handled=none) (ht:s.heap.IsList t items)
  (hn:(assignEach elts env).length=items.size) (hstar:(assignEach elts env).findIdx? (·.1)=none)
  (h:∀h',(∀b o,s.heap.get? b=some o->h'.get? b=some o)->wpAny (model prog w) A (assignInOrder ((assignEach elts env).map (·.2)) items.toList) Q E { s with heap:=h' }) :
  wpAny (model prog w) A (assign (.Tuple elts x1 pos) env (.ref t)) Q E s:=by
 rw [assign_Tuple]
 refine wpAny_bind (wpAny_standAt ?_)
 unfold unpack
 rw [hn,hstar]
 exact wpAny_bind (wpAny_holding (zfk hh ht h))
end
section
variable {X:Cx} {pos:Pos}
noncomputable def zfl (n:Nat) (t:TGs):TG:=fun v U H Q=>match v with
 | .ref a=>(match H a with
  | some (.tup xs)=>xs.length=n/\t xs U H Q
  | some (.lst xs)=>xs.length=n/\t xs U H Q
  | _=>False)
 | _=>False
theorem zn8 {es:List Expr} {k:Nat} {t:TGs} {n:Nat} (hc:X.calm=true) (h:PGs X es t)
  (hn:(assignEach es X.env).length=n:=by rfl) (hst:(assignEach es X.env).findIdx? (·.1)=none:=by rfl):PG X (.Tuple es k pos) (zfl n t):=by
 intro pins s U H v u Q I r hw
 cases v<;>first | exact hw.elim | skip
 rename_i a
 unfold zfl at hw
 dsimp only at hw
 split at hw
 . rename_i xs e
   exact zn7 hc h hn hst pins s U H (.ref a) u Q I r (by unfold zn6;dsimp only;rw [e];exact hw)
 . rename_i xs e
   obtain ⟨hl,hw⟩:=hw
   cases r
   obtain ⟨its,rv,ht,hz⟩:=I.list (.of e)
   refine ze9 (I.ok.hd hc) ht.isList (by simp [hn,<-hl,rv.length]) hst fun h' hx=>?_
   exact h pins _ U H xs _ Q (I.kept (t':=s.toks) hx) (by simpa using rv) hw
 . exact hw.elim
theorem few {n:Nat} (h:n<=1000):n<=sizeLine:=Nat.le_of_lt (zfe h)
def zvn:List V->Hp->VK->Prop:=fun xs H Q=>match xs with
 | [x,.ty c]=>z6n c=true/\(match z8m H x with | some t=>Q (.bl (zfg t c)) H | none=>False)
 | _=>False
def zn9:List V->Hp->VK->Prop:=fun xs H Q=>match xs with
 | [.ref p]=>∃ns:List Int,z63 H p=some (ns.map V.int)/\Q (.int ns.sum) H
 | _=>False
def zrc:List V->Hp->VK->Prop:=fun xs H Q=>match xs with | [.int i]=>Q (.int i) H | [.bl k]=>Q (.int (if k then 1 else 0)) H | _=>False
def zna:List V->Hp->VK->Prop:=fun xs H Q=>match xs with | [.int i,.int j]=>Q (.int (if j > i then j else i)) H | _=>False
def znb:List V->Hp->VK->Prop:=fun xs H Q=>match xs with | [.int i,.int j]=>Q (.int (if j<i then j else i)) H | _=>False
section
variable {H:Hp} {Q:VK} {p:Addr} {i j:Int} {x:V} {cs:String}
theorem zrd:zvn [x,.ty cs] H Q=(z6n cs=true/\(match z8m H x with | some t=>Q (.bl (zfg t cs)) H | none=>False)):=rfl
theorem zfm:zn9 [.ref p] H Q=∃ns:List Int,z63 H p=some (ns.map V.int)/\Q (.int ns.sum) H:=rfl
theorem znc:zna [.int i,.int j] H Q=Q (.int (if j > i then j else i)) H:=rfl
theorem znd:znb [.int i,.int j] H Q=Q (.int (if j<i then j else i)) H:=rfl
end
theorem zwg:CallR X (.builtin "isinstance") zvn:=zj5
theorem zre (hc:X.calm=true):CallR X (.builtin "sum") zn9:=zfh hc
theorem zfn:CallR X (.type "int") zrc:=zfi
theorem zrf (hc:X.calm=true):CallR X (.builtin "max") zna:=ze7 hc
theorem zrg (hc:X.calm=true):CallR X (.builtin "min") znb:=ze8 hc
end
inductive NK where
 | i (n:Int)
 | t (ks:List NK)
noncomputable instance:DecidableEq NK:=fun a b=>Classical.propDecidable (a=b)
mutual
noncomputable def NK.dep:NK->Nat
 | .i _=>0
 | .t ks=>z41 ks+1
noncomputable def z41:List NK->Nat
 | []=>0
 | k::ks=>max k.dep (z41 ks)
end
mutual
noncomputable def NK.hs:NK->Int
 | .i n=>hashInt n
 | .t ks=>reduceHash (Builtin.Tuple.tupleHashOf (zrh ks))
noncomputable def zrh:List NK->List Int
 | []=>[]
 | k::ks=>k.hs::zrh ks
end
mutual
noncomputable def NK.dr:NK->Nat
 | .i _=>1
 | .t ks=>zvo ks+1
noncomputable def zvo:List NK->Nat
 | []=>0
 | k::ks=>k.dr+zvo ks
end
mutual
def NKv (h:Heap):NK->Value->Prop
 | .i n,v=>∃t,v=.int n t
 | .t ks,v=>∃a its,v=.ref a/\h.IsTuple a its/\NKvs h ks its.toList
def NKvs (h:Heap):List NK->List Value->Prop
 | [],vs=>vs=[]
 | k::ks,vs=>∃v r,vs=v::r/\NKv h k v/\NKvs h ks r
end
theorem NKvs.len {h:Heap}:∀{ks:List NK} {vs:List Value},NKvs h ks vs->ks.length=vs.length
 | [],_,q=>by simp only [NKvs] at q;rw [q];rfl
 | k::ks,_,q=>by
  simp only [NKvs] at q
  obtain ⟨v,r,rfl,_,q⟩:=q
  simp only [List.length_cons,NKvs.len q]
theorem zfo {h:Heap} {a:Addr} {x y:Array Value} (p:h.IsTuple a x) (q:h.IsTuple a y):x=y:=by
 obtain ⟨o,e,c,n,d⟩:=p
 obtain ⟨o',e',c',n',d'⟩:=q
 rw [e] at e';cases e'
 rw [d] at d';cases d';rfl
mutual
theorem NKv.inj {h:Heap}:∀{k j:NK} {v:Value},NKv h k v->NKv h j v->k=j
 | .i n,.i m,v,p,q=>by
  simp only [NKv] at p q
  obtain ⟨t,rfl⟩:=p;obtain ⟨t',e⟩:=q
  cases e;rfl
 | .i n,.t ks,v,p,q=>by
  simp only [NKv] at p q
  obtain ⟨t,rfl⟩:=p;obtain ⟨_,_,e,_⟩:=q;cases e
 | .t ks,.i m,v,p,q=>by
  simp only [NKv] at p q
  obtain ⟨t,rfl⟩:=q;obtain ⟨_,_,e,_⟩:=p;cases e
 | .t ks,.t js,v,p,q=>by
  simp only [NKv] at p q
  obtain ⟨a,its,rfl,p1,p2⟩:=p
  obtain ⟨b,its',e,q1,q2⟩:=q
  cases e
  cases zfo p1 q1
  rw [NKvs.inj p2 q2]
theorem NKvs.inj {h:Heap}:∀{ks js:List NK} {vs:List Value},NKvs h ks vs->NKvs h js vs->ks=js
 | [],[],_,_,_=>rfl
 | [],j::js,_,p,q=>by
  simp only [NKvs] at p q;subst p;obtain ⟨_,_,e,_⟩:=q;cases e
 | k::ks,[],_,p,q=>by
  simp only [NKvs] at p q;subst q;obtain ⟨_,_,e,_⟩:=p;cases e
 | k::ks,j::js,_,p,q=>by
  simp only [NKvs] at p q
  obtain ⟨v,r,rfl,p1,p2⟩:=p
  obtain ⟨_,_,e,q1,q2⟩:=q
  cases e
  rw [NKv.inj p1 q1,NKvs.inj p2 q2]
end
mutual
theorem NKv.stay {h h':Heap} (st:∀a its,h.IsTuple a its->h'.IsTuple a its):∀{k:NK} {v:Value},NKv h k v->NKv h' k v
 | .i n,v,p=>by simp only [NKv] at p ⊢;exact p
 | .t ks,v,p=>by
  simp only [NKv] at p ⊢
  obtain ⟨a,its,e,p1,p2⟩:=p
  exact ⟨a,its,e,st _ _ p1,NKvs.stay st p2⟩
theorem NKvs.stay {h h':Heap} (st:∀a its,h.IsTuple a its->h'.IsTuple a its):∀{ks:List NK} {vs:List Value},NKvs h ks vs->NKvs h' ks vs
 | [],_,p=>by simp only [NKvs] at p ⊢;exact p
 | k::ks,_,p=>by
  simp only [NKvs] at p ⊢
  obtain ⟨v,r,e,p1,p2⟩:=p
  exact ⟨v,r,e,NKv.stay st p1,NKvs.stay st p2⟩
end
section
variable {prog:Program} {w:World}
theorem zfp:∀(m:Nat) {k:NK} {v:Value} {A:Around} {E:Value->Shared->Prop} {s:Shared} {Q:Int->Shared->Prop},k.dep<=m->A.units+m<cLine->NKv s.heap k v->Q k.hs { s with toks:=s.toks+k.dr }->wpAny (model prog w) A (pyHash v) Q E s
 | m,.i n,v,A,E,s,Q,hd,hu,p,q=>by
  simp only [NKv] at p
  obtain ⟨t,rfl⟩:=p
  exact wpAny_pyHash_int q
 | 0,.t ks,v,A,E,s,Q,hd,hu,p,q=>by simp only [NK.dep] at hd;lia
 | m+1,.t ks,v,A,E,s,Q,hd,hu,p,q=>by
  simp only [NKv] at p
  obtain ⟨a,its,rfl,⟨o,e,c,n,d⟩,p2⟩:=p
  simp only [NK.dep] at hd
  show wpAny (model prog w) A (pyHashByItsType (.ref a)) Q E s
  refine W.pyHash_slot (T:="tuple") ⟨o,e,c⟩ F.slot_tuple_hash F.entry_tuple_hash (F.args_tuple_hash_1 _) rfl (.inr (by lia)) ?_
  refine wpAny_bind (wpAny_of_eq (show slotArgs "__hash__" 0 ⟨[.ref a],[]⟩=pure (.ref a,[]) from rfl) ?_)
  show wpAny (model prog w) A.in1 (Builtin.Tuple.tupleItemsOf (.ref a) >>= _) _ _ s
  refine wpAny_bind (wpAny_tupleItemsOf e d ?_)
  refine wpAny_bind ?_
  have go:∀(ks:List NK) (vs:List Value) (b:Array Int) (s':Shared) (Q':Array Int->Shared->Prop),z41 ks<=m->NKvs s'.heap ks vs->(∀b':Array Int,b'.toList=b.toList++zrh ks->Q' b' { s' with toks:=s'.toks+zvo ks }) ->
    wpAny (model prog w) A.in1 (forIn vs b fun x r=>do
     let h <-pyHash x
     pure (ForInStep.yield (r.push h))) Q' E s':=by
   intro ks
   induction ks with
   | nil=>
    intro vs b s' Q' _ p hq
    simp only [NKvs] at p;subst p
    exact wpAny_pure (hq b (by simp [zrh]))
   | cons k ks ih=>
    intro vs b s' Q' hd p hq
    simp only [NKvs] at p
    obtain ⟨v,r,rfl,p1,p2⟩:=p
    simp only [z41] at hd
    rw [List.forIn_cons]
    refine wpAny_bind (wpAny_bind (zfp m (by lia) (by show A.units+1+m<cLine;lia) p1 ?_))
    refine wpAny_pure ?_
    refine ih r (b.push k.hs) _ Q' (by lia) p2 fun b' hb'=>?_
    have:=hq b' (by rw [hb'];simp [zrh])
    simpa only [zvo,Nat.add_assoc] using this
  rw [<-Array.forIn_toList]
  refine go ks its.toList #[] s _ (by lia) p2 fun b' hb'=>?_
  show wpAny (model prog w) A.in1 (retInt (Builtin.Tuple.tupleHashOf b'.toList)) _ _ _
  refine wpAny_mono (wpAny_ret_mkInt (Q:=fun v s'=>∃n t,v=Value.int n t/\Q (reduceHash n) s') ⟨_,_,rfl,?_⟩) (fun fin s' h=>?_) fun _ _ h=>h
  . rw [hb']
    simpa only [NK.hs,NK.dr,Nat.add_assoc,List.nil_append] using q
  . obtain ⟨v,rfl,n,t,rfl,hq⟩:=h
    exact ⟨n,t,rfl,hq⟩
theorem zri {s:Shared}:∀(m:Nat) {k j:NK} {u v:Value} {A:Around},k.dep<=m->A.units+m<cLine->NKv s.heap k u->NKv s.heap j v->SeqAt.EqAt A s u v (decide (k=j))
 | m,.i n,.i n',u,v,A,hd,hu,p,q=>by
  simp only [NKv] at p q
  obtain ⟨t,rfl⟩:=p;obtain ⟨t',rfl⟩:=q
  have:decide (NK.i n=NK.i n')=(n==n'):=by
   by_cases h:n=n'
   . rw [h];simp
   . rw [decide_eq_false (fun e=>h (NK.i.inj e))];simp [h]
  rw [this]
  exact .int_int _ _ _ _
 | m,.i n,.t js,u,v,A,hd,hu,p,q=>by
  simp only [NKv] at p q
  obtain ⟨t,rfl⟩:=p;obtain ⟨a,its,rfl,q1,_⟩:=q
  rw [decide_eq_false (fun e=>by cases e)]
  exact .int_tuple _ _ q1 (by lia)
 | m,.t ks,.i n',u,v,A,hd,hu,p,q=>by
  simp only [NKv] at p q
  obtain ⟨t,rfl⟩:=q;obtain ⟨a,its,rfl,q1,_⟩:=p
  rw [decide_eq_false (fun e=>by cases e)]
  exact .tuple_int _ _ q1 (by lia)
 | 0,.t ks,.t js,u,v,A,hd,hu,p,q=>by simp only [NK.dep] at hd;lia
 | m+1,.t ks,.t js,u,v,A,hd,hu,p,q=>by
  have p0:=p
  have q0:=q
  simp only [NKv] at p q
  obtain ⟨a,its,rfl,p1,p2⟩:=p
  obtain ⟨b,its2,rfl,q1,q2⟩:=q
  simp only [NK.dep] at hd
  by_cases hab:a=b
  . subst hab
    rw [decide_eq_true (NKv.inj p0 q0)]
    exact .same _
  . have l1:=p2.len
    have l2:=q2.len
    simp only [Array.length_toList] at l1 l2
    have at':∀(ks:List NK) (vs:List Value),NKvs s.heap ks vs->∀j v,vs[j]?=some v->NKv s.heap (ks.getD j (.i 0)) v/\(ks.getD j (.i 0)).dep<=z41 ks:=by
     intro ks
     induction ks with
     | nil=>intro vs p j v e;simp only [NKvs] at p;subst p;simp at e
     | cons k ks ih=>
      intro vs p j v e
      simp only [NKvs] at p
      obtain ⟨v0,r,rfl,r1,r2⟩:=p
      cases j with
      | zero=>simp at e;subst e;exact ⟨r1,by simp only [List.getD_cons_zero,z41];lia⟩
      | succ j=>
       simp only [List.getElem?_cons_succ] at e
       obtain ⟨x1,x2⟩:=ih r r2 j v e
       exact ⟨x1,by simp only [List.getD_cons_succ,z41];lia⟩
    have q:=SeqAt.RcAt.tuples (A:=A) p1 q1 (by lia) (e:=fun j=>decide (ks.getD j (.i 0)=js.getD j (.i 0))) fun j h1 h2=>by
     obtain ⟨x1,x2⟩:=at' ks _ p2 j its[j] (by simp [h1])
     obtain ⟨y1,y2⟩:=at' js _ q2 j its2[j] (by simp [h2])
     exact zri m (by lia) (by show A.units+1+m<cLine;lia) x1 y1
    have eb:((List.range (min its.size its2.size)).all (fun j=>decide (ks.getD j (.i 0)=js.getD j (.i 0)))&&its.size==its2.size)=decide (NK.t ks=NK.t js):=by
     rw [Bool.eq_iff_iff,Bool.and_eq_true,List.all_eq_true,decide_eq_true_eq,beq_iff_eq]
     constructor
     . rintro ⟨h1,h2⟩
       congr 1
       refine List.ext_getElem (by lia) fun j hj hj'=>?_
       have:=h1 j (List.mem_range.mpr (by lia))
       rw [decide_eq_true_eq,List.getD_eq_getElem?_getD,List.getD_eq_getElem?_getD,List.getElem?_eq_getElem hj,List.getElem?_eq_getElem hj'] at this
       exact this
     . intro e
       cases e
       exact ⟨fun j _=>decide_eq_true rfl,by lia⟩
    rw [eb] at q
    exact .of_refs hab q
end
section
variable {prog:Program} {w:World}
theorem zd1 {A:Around} {E:Value->Shared->Prop} {s:Shared}:∀(m:Nat) {k:NK} {v:Value} {Q:Bool->Shared->Prop},k.dep<=m->NKv s.heap k v->Q true s->wpAny (model prog w) A (eqIsQuiet m v) Q E s
 | m,.i n,v,Q,hd,p,q=>by
  simp only [NKv] at p
  obtain ⟨t,rfl⟩:=p
  rw [eqIsQuiet.eq_3 _ _ (fun a e=>by cases e)]
  exact wpAny_pure q
 | 0,.t ks,v,Q,hd,p,q=>by simp only [NK.dep] at hd;lia
 | m+1,.t ks,v,Q,hd,p,q=>by
  simp only [NKv] at p
  obtain ⟨a,its,rfl,⟨o,e,c,n,d⟩,p2⟩:=p
  simp only [NK.dep] at hd
  rw [eqIsQuiet.eq_2]
  refine wpAny_bind (wpAny_specialOf (T:="tuple") ⟨o,e,c⟩ F.slot_tuple_eq.lookup ?_)
  show wpAny (model prog w) A (isInstance (.ref a) (.type "tuple") >>= _) _ _ s
  refine wpAny_bind (wpAny_isInstance (T:="tuple") (b:=true) ⟨o,e,c⟩ (by rfl) ?_)
  show wpAny (model prog w) A (seqItems? (.ref a) >>= _) _ _ s
  refine wpAny_bind (wpAny_seqItems e d ?_)
  refine wpAny_bind ?_
  have go:∀(ks:List NK) (vs:List Value) (Q':Option Bool×Unit->Shared->Prop),z41 ks<=m->NKvs s.heap ks vs->Q' (none,()) s ->
    wpAny (model prog w) A (forIn vs ((none,()):Option Bool×Unit) fun y __s=>do
     let __do_lift <-eqIsQuiet m y
     if (!__do_lift)=true then pure (ForInStep.done (some false,()))
      else pure (ForInStep.yield (none,()))) Q' E s:=by
   intro ks
   induction ks with
   | nil=>
    intro vs Q' _ p hq
    simp only [NKvs] at p;subst p
    exact wpAny_pure hq
   | cons k ks ih=>
    intro vs Q' hd p hq
    simp only [NKvs] at p
    obtain ⟨v,r,rfl,p1,p2⟩:=p
    simp only [z41] at hd
    rw [List.forIn_cons]
    refine wpAny_bind (wpAny_bind (zd1 m (by lia) p1 ?_))
    refine wpAny_pure ?_
    exact ih r Q' (by lia) p2 hq
  show wpAny (model prog w) A (forIn its ((none,()):Option Bool×Unit) _) _ _ s
  rw [<-Array.forIn_toList]
  refine go ks its.toList _ (by lia) p2 ?_
  exact wpAny_pure q
noncomputable def deepKind (prog:Program) (w:World):HeapKind prog w NK where
 is:=fun h k a=>NKv h k (.ref a)/\k.dep<=8
 hash:=NK.hs
 draws:=NK.dr
 room:=fun A=>A.units+8<cLine
 inj:=fun p q=>NKv.inj p.1 q.1
 keeps:=fun {h h' k a d o es ep} p e eo sb=>⟨NKv.stay (fun b its t=>by
  obtain ⟨ob,eb,cb,n,db⟩:=t
  have hne:b≠d:=fun z=>by
   subst z
   rw [e] at eb;cases eb
   rw [eo] at db;cases db
  exact ⟨ob,(sb.2 b hne).trans eb,cb,n,db⟩) p.1,p.2⟩
 pyHash:=fun {A E s k a Q} hr p q=>zfp 8 p.2 hr p.1 q
 eqBool:=fun {A E s x y a b Q} hr p p' q=>zri 8 p.2 hr p.1 p'.1 prog w E Q q
 quiet:=fun {A E s k a Q} p q=>zd1 8 p.2 p.1 q
end
noncomputable def dnE (x:NK×Addr×Value):DictEntry:={ hash:=x.1.hs,key:=.ref x.2.1,val:=x.2.2 }
def dnP (a:Addr) (ks:List (NK×Addr)) (xs:List V) (o:Obj) (h:Heap):Prop:=
 h.get? a=some o/\∃(vs:List Value) (es:Array DictEntry) (ep:Nat),Vals xs vs/\ks.length=vs.length/\o.ExactDict/\o.data=.dict es ep/\es.toList=((ks.zip vs).map fun q=>(q.1.1,q.1.2,q.2)).map dnE
theorem dnP.stay {a:Addr} {ks:List (NK×Addr)} {xs:List V} {o:Obj}:∀h1 h2:Heap,dnP a ks xs o h1->(∀o,h1.get? a=some o->h2.get? a=some o)->dnP a ks xs o h2:=fun _ _ p k=>⟨k _ p.1,p.2⟩
mutual
def NKr (H:Hp):NK->V->Prop
 | .i n,v=>v=.int n
 | .t ks,v=>∃a ys,v=.ref a/\H a=some (.tup ys)/\NKrs H ks ys
def NKrs (H:Hp):List NK->List V->Prop
 | [],vs=>vs=[]
 | k::ks,vs=>∃v r,vs=v::r/\NKr H k v/\NKrs H ks r
end
mutual
theorem NKr.mono {H H':Hp} (st:∀a ys,H a=some (.tup ys)->H' a=some (.tup ys)):∀{k:NK} {v:V},NKr H k v->NKr H' k v
 | .i n,v,p=>by simp only [NKr] at p ⊢;exact p
 | .t ks,v,p=>by
  simp only [NKr] at p ⊢
  obtain ⟨a,ys,e,p1,p2⟩:=p
  exact ⟨a,ys,e,st _ _ p1,NKrs.mono st p2⟩
theorem NKrs.mono {H H':Hp} (st:∀a ys,H a=some (.tup ys)->H' a=some (.tup ys)):∀{ks:List NK} {vs:List V},NKrs H ks vs->NKrs H' ks vs
 | [],_,p=>by simp only [NKrs] at p ⊢;exact p
 | k::ks,_,p=>by
  simp only [NKrs] at p ⊢
  obtain ⟨v,r,e,p1,p2⟩:=p
  exact ⟨v,r,e,NKr.mono st p1,NKrs.mono st p2⟩
end
section
variable {X:Cx} {pins:List (Addr×Obj)} {U:St} {H:Hp} {s:Shared}
mutual
theorem zjd (I:Inv X pins U H s):∀{k:NK} {x:V} {u:Value},NKr H k x->RelV x u->NKv s.heap k u
 | .i n,x,u,p,r=>by
  simp only [NKr] at p;subst p
  obtain ⟨t,rfl⟩:=r
  simp only [NKv];exact ⟨t,rfl⟩
 | .t ks,x,u,p,r=>by
  simp only [NKr] at p
  obtain ⟨a,ys,rfl,p1,p2⟩:=p
  cases r
  obtain ⟨its,r1,t1,_⟩:=I.tuple (.of p1)
  simp only [NKv]
  exact ⟨a,its.toArray,rfl,t1,zl6 I p2 r1⟩
theorem zl6 (I:Inv X pins U H s):∀{ks:List NK} {xs:List V} {us:List Value},NKrs H ks xs->Vals xs us->NKvs s.heap ks us
 | [],_,_,p,r=>by simp only [NKrs] at p;subst p;cases r;simp only [NKvs]
 | k::ks,_,_,p,r=>by
  simp only [NKrs] at p
  obtain ⟨v,q,rfl,p1,p2⟩:=p
  cases r with
  | cons a1 a2=>
   simp only [NKvs]
   exact ⟨_,_,rfl,zjd I p1 a1,zl6 I p2 a2⟩
end
end
def KL (K:Frag) (a:Addr) (xs:List V):Prop:=∃(o:Obj) (its:Array Value) (n:Nat),K.lookup a=some o/\o.cls=.type "list"/\o.dict=none/\o.data=.seq its n/\its.size<=sizeLine/\Vals xs its.toList
def XO (K:Frag) (c:String) (a:Addr) (od:Option Addr) (o:HO):Prop:=∃C:Addr,PySem.W.nsIn K mainGlobals (c:Str)=some (some (.ref C))/\o=.ext fun h=>∃ob,h.get? a=some ob/\ob.cls=.ref C/\(∃vs,ob.data=.fields vs)/\ob.dict=od
noncomputable def zzk (c:String):List Str:=if c="Fallen" then ["corner"] else if c="Crossed" then ["one","other"] else if c="NotFull" then ["line"] else []
inductive D where
 | non | bl (b:Bool) | int (i:Int) | str (x:Str) | tup (ds:List D) | lst (ds:List D)
 | dk (ks:List Key) (ds:List D) | dt (ks:List (List Key)) (ds:List D) | dn (ks:List NK) (ds:List D) | scr (ns:List Int) | exc (c:String) (fs:List D)
def DN (H:Hp) (a:Addr) (qs:List (NK×Addr)):Prop:=(qs.map (·.1)).Nodup/\(∀q∈qs,NKr H q.1 (.ref q.2)/\q.1.dep<=8)/\(a==sysModules)=false/\qs.length<=sizeLine
theorem DN.tk {H H':Hp} {a:Addr} {qs:List (NK×Addr)} (h:DN H a qs) (st:∀a ys,H a=some (.tup ys)->H' a=some (.tup ys)):DN H' a qs:=
 ⟨h.1,fun q hq=>⟨NKr.mono st (h.2.1 q hq).1,(h.2.1 q hq).2⟩,h.2.2⟩
mutual
def RD (K:Frag) (H:Hp):D->V->Prop
 | .non,v=>v=.non
 | .bl b,v=>v=.bl b
 | .int i,v=>v=.int i
 | .str x,v=>v=.str x
 | .tup ds,v=>∃a xs,v=.ref a/\H a=some (.tup xs)/\RDs K H ds xs
 | .lst ds,v=>∃a xs,v=.ref a/\H a=some (.lst xs)/\RDs K H ds xs
 | .dk ks ds,v=>∃a xs,v=.ref a/\H a=some (.dK (ks.zip xs))/\ks.length=xs.length/\RDs K H ds xs
 | .dt ks ds,v=>∃a xs,v=.ref a/\H a=some (.dT (ks.zip xs))/\ks.length=xs.length/\RDs K H ds xs
 | .dn ks ds,v=>∃a qs xs o,v=.ref a/\H a=some (.ext (dnP a qs xs o))/\qs.map (·.1)=ks/\DN H a qs/\RDs K H ds xs
 | .scr ns,v=>∃a,v=.ref a/\((∃o,H a=some (.frz o (.lst (ns.map V.int))))\/KL K a (ns.map V.int))
 | .exc c fs,v=>∃a od o,v=.ref a/\XO K c a od o/\H a=some o/\(fs=[]\/∃(dx:Addr) (ns:List Int) (ob:Obj),od=some dx/\H dx=some (.frz ob (.xd ((zzk c).zip (ns.map V.int))))/\fs=ns.map D.int)
def RDs (K:Frag) (H:Hp):List D->List V->Prop
 | [],xs=>xs=[]
 | d::ds,xs=>∃x r,xs=x::r/\RD K H d x/\RDs K H ds r
end
mutual
noncomputable def D.noL:D->Bool
 | .lst _=>false
 | .dk _ _=>false
 | .dt _ _=>false
 | .dn _ _=>false
 | .tup ds=>z4a ds
 | _=>true
noncomputable def z4a:List D->Bool
 | []=>true
 | d::ds=>d.noL&&z4a ds
end
mutual
noncomputable def D.pl:D->Bool
 | .dk _ _=>false
 | .dt _ _=>false
 | .dn _ _=>false
 | .scr _=>false
 | .exc _ _=>false
 | .tup ds=>pls ds
 | .lst ds=>pls ds
 | _=>true
noncomputable def pls:List D->Bool
 | []=>true
 | d::ds=>d.pl&&pls ds
end
noncomputable def D.shal:D->Bool
 | .lst ds=>z4a ds
 | .dk _ ds=>z4a ds
 | .dt _ ds=>z4a ds
 | .dn _ ds=>z4a ds
 | d=>d.noL
def Imm:HO->Prop
 | .tup _=>True
 | .frz _ _=>True
 | .ext φ=>∀a qs xs o,φ≠dnP a qs xs o
 | _=>False
theorem XO.imm {K:Frag} {c:String} {a:Addr} {od:Option Addr} {o:HO} (h:XO K c a od o):Imm o:=by
 obtain ⟨C,_,rfl⟩:=h
 intro b qs xs o0 e
 obtain ⟨ob,hob⟩:∃ob:Obj,ob={ cls:=.ref C,dict:=od,data:=.fields #[] }:=⟨_,rfl⟩
 have hg:∀(i:Nat) (o:Obj),({ objs:=Array.replicate (a+1) ob }:Heap).get? i=some o->o=ob:=fun i o q=>by
  by_cases hi:i<a+1
  . have z:({ objs:=Array.replicate (a+1) ob }:Heap).get? i=some ob:=by
     unfold Heap.get?
     rw [Array.getElem?_replicate,if_pos hi,hob]
    rw [z] at q;cases q;rfl
  . unfold Heap.get? at q
    rw [Array.getElem?_replicate,if_neg hi] at q;cases q
 have h1:(fun h:Heap=>∃ob,h.get? a=some ob/\ob.cls=.ref C/\(∃vs,ob.data=.fields vs)/\ob.dict=od) { objs:=Array.replicate (a+1) ob }:=by
  refine ⟨ob,?_,by rw [hob],⟨#[],by rw [hob]⟩,by rw [hob]⟩
  unfold Heap.get?
  rw [Array.getElem?_replicate,if_pos (Nat.lt_succ_self a),hob]
 rw [e] at h1
 obtain ⟨g,vs,es,ep,_,_,_,d,_⟩:=h1
 rw [hg _ _ g,hob] at d
 cases d
def TK (H H':Hp):Prop:=∀a o,Imm o->H a=some o->H' a=some o
section
variable {K:Frag} {H H':Hp}
mutual
theorem RD.tk (hs:TK H H'):∀{d:D} {v:V},d.noL=true->RD K H d v->RD K H' d v
 | .non,_,_,h=>by simp only [RD] at h ⊢;exact h
 | .bl _,_,_,h=>by simp only [RD] at h ⊢;exact h
 | .int _,_,_,h=>by simp only [RD] at h ⊢;exact h
 | .str _,_,_,h=>by simp only [RD] at h ⊢;exact h
 | .tup ds,_,n,h=>by
  simp only [RD] at h ⊢
  obtain ⟨a,xs,e,h1,h2⟩:=h
  exact ⟨a,xs,e,hs _ _ trivial h1,RDs.tk hs (by simpa only [D.noL] using n) h2⟩
 | .lst ds,_,n,h=>by simp [D.noL] at n
 | .dk _ ds,_,n,h=>by simp [D.noL] at n
 | .dt _ ds,_,n,h=>by simp [D.noL] at n
 | .dn _ ds,_,n,h=>by simp [D.noL] at n
 | .exc c fs,_,n,h=>by
  simp only [RD] at h ⊢
  obtain ⟨a,od,o,e,h1,h2,h3⟩:=h
  refine ⟨a,od,o,e,h1,hs _ _ h1.imm h2,?_⟩
  rcases h3 with h3 | ⟨dx,xs,ob,q1,q2,q3⟩
  . exact .inl h3
  . exact .inr ⟨dx,xs,ob,q1,hs _ _ trivial q2,q3⟩
 | .scr ns,_,n,h=>by
  simp only [RD] at h ⊢
  obtain ⟨a,e,h1⟩:=h
  refine ⟨a,e,?_⟩
  rcases h1 with ⟨o,h1⟩ | h1
  . exact .inl ⟨o,hs _ _ trivial h1⟩
  . exact .inr h1
theorem RDs.tk (hs:TK H H'):∀{ds:List D} {xs:List V},z4a ds=true->RDs K H ds xs->RDs K H' ds xs
 | [],_,_,h=>by simp only [RDs] at h ⊢;exact h
 | d::ds,_,n,h=>by
  simp only [RDs] at h ⊢
  simp only [z4a,Bool.and_eq_true] at n
  obtain ⟨x,r,e,h1,h2⟩:=h
  exact ⟨x,r,e,RD.tk hs n.1 h1,RDs.tk hs n.2 h2⟩
end
mutual
theorem RD.mono (hs:Same H H'):∀{d:D} {v:V},RD K H d v->RD K H' d v
 | .non,_,h=>by simp only [RD] at h ⊢;exact h
 | .bl _,_,h=>by simp only [RD] at h ⊢;exact h
 | .int _,_,h=>by simp only [RD] at h ⊢;exact h
 | .str _,_,h=>by simp only [RD] at h ⊢;exact h
 | .tup ds,_,h=>by
  simp only [RD] at h ⊢
  obtain ⟨a,xs,e,h1,h2⟩:=h
  exact ⟨a,xs,e,hs _ _ h1,RDs.mono hs h2⟩
 | .lst ds,_,h=>by
  simp only [RD] at h ⊢
  obtain ⟨a,xs,e,h1,h2⟩:=h
  exact ⟨a,xs,e,hs _ _ h1,RDs.mono hs h2⟩
 | .dk _ ds,_,h=>by
  simp only [RD] at h ⊢
  obtain ⟨a,xs,e,h1,hl,h2⟩:=h
  exact ⟨a,xs,e,hs _ _ h1,hl,RDs.mono hs h2⟩
 | .dn _ ds,_,h=>by
  simp only [RD] at h ⊢
  obtain ⟨a,qs,xs,o,e,h1,hk,hd,h2⟩:=h
  exact ⟨a,qs,xs,o,e,hs _ _ h1,hk,hd.tk fun b ys q=>hs _ _ q,RDs.mono hs h2⟩
 | .dt _ ds,_,h=>by
  simp only [RD] at h ⊢
  obtain ⟨a,xs,e,h1,hl,h2⟩:=h
  exact ⟨a,xs,e,hs _ _ h1,hl,RDs.mono hs h2⟩
 | .exc c fs,_,h=>by
  simp only [RD] at h ⊢
  obtain ⟨a,od,o,e,h1,h2,h3⟩:=h
  refine ⟨a,od,o,e,h1,hs _ _ h2,?_⟩
  rcases h3 with h3 | ⟨dx,xs,ob,q1,q2,q3⟩
  . exact .inl h3
  . exact .inr ⟨dx,xs,ob,q1,hs _ _ q2,q3⟩
 | .scr ns,_,h=>by
  simp only [RD] at h ⊢
  obtain ⟨a,e,h1⟩:=h
  refine ⟨a,e,?_⟩
  rcases h1 with ⟨o,h1⟩ | h1
  . exact .inl ⟨o,hs _ _ h1⟩
  . exact .inr h1
theorem RDs.mono (hs:Same H H'):∀{ds:List D} {xs:List V},RDs K H ds xs->RDs K H' ds xs
 | [],_,h=>by simp only [RDs] at h ⊢;exact h
 | d::ds,_,h=>by
  simp only [RDs] at h ⊢
  obtain ⟨x,r,e,h1,h2⟩:=h
  exact ⟨x,r,e,RD.mono hs h1,RDs.mono hs h2⟩
end
theorem RDs.length:∀{ds:List D} {xs:List V},RDs K H ds xs->ds.length=xs.length
 | [],_,h=>by simp only [RDs] at h;subst h;rfl
 | d::ds,_,h=>by
  simp only [RDs] at h
  obtain ⟨x,r,rfl,_,h2⟩:=h
  simp [RDs.length h2]
theorem RDs.get:∀{ds:List D} {xs:List V} {i:Nat} {x:V},RDs K H ds xs->xs[i]?=some x->∃d,ds[i]?=some d/\RD K H d x
 | [],_,i,x,h,e=>by simp only [RDs] at h;subst h;simp at e
 | d::ds,_,i,x,h,e=>by
  simp only [RDs] at h
  obtain ⟨y,r,rfl,h1,h2⟩:=h
  cases i with
  | zero=>simp at e;subst e;exact ⟨d,rfl,h1⟩
  | succ i=>simp at e;obtain ⟨d',e1,e2⟩:=RDs.get h2 e;exact ⟨d',by simpa using e1,e2⟩
theorem RDs.get':∀{ds:List D} {xs:List V} {i:Nat} {d:D},RDs K H ds xs->ds[i]?=some d->∃x,xs[i]?=some x/\RD K H d x
 | [],_,i,d,h,e=>by simp at e
 | d'::ds,_,i,d,h,e=>by
  simp only [RDs] at h
  obtain ⟨y,r,rfl,h1,h2⟩:=h
  cases i with
  | zero=>simp at e;subst e;exact ⟨y,rfl,h1⟩
  | succ i=>simp at e;obtain ⟨x',e1,e2⟩:=RDs.get' h2 e;exact ⟨x',by simpa using e1,e2⟩
theorem RDs.append:∀{ds es:List D} {xs ys:List V},RDs K H ds xs->RDs K H es ys->RDs K H (ds++es) (xs++ys)
 | [],_,_,_,h,h'=>by simp only [RDs] at h;subst h;exact h'
 | d::ds,es,_,ys,h,h'=>by
  simp only [RDs] at h
  obtain ⟨x,r,rfl,h1,h2⟩:=h
  simp only [List.cons_append,RDs]
  exact ⟨x,r++ys,rfl,h1,RDs.append h2 h'⟩
theorem RDs.nil:RDs K H [] []:=by simp only [RDs]
theorem RDs.cons {d:D} {x:V} {ds:List D} {xs:List V} (h:RD K H d x) (h':RDs K H ds xs):RDs K H (d::ds) (x::xs):=by simp only [RDs];exact ⟨x,xs,rfl,h,h'⟩
theorem RDs.one {d:D} {x:V} (h:RD K H d x):RDs K H [d] [x]:=.cons h .nil
theorem RDs.take:∀{ds:List D} {xs:List V} (n:Nat),RDs K H ds xs->RDs K H (ds.take n) (xs.take n)
 | _,_,0,_=>by simp [RDs]
 | [],_,n+1,h=>by simp only [RDs] at h;subst h;simp [RDs]
 | d::ds,_,n+1,h=>by
  simp only [RDs] at h
  obtain ⟨x,r,rfl,h1,h2⟩:=h
  simp only [List.take_succ_cons]
  exact .cons h1 (RDs.take n h2)
theorem RDs.drop:∀{ds:List D} {xs:List V} (n:Nat),RDs K H ds xs->RDs K H (ds.drop n) (xs.drop n)
 | _,_,0,h=>h
 | [],_,n+1,h=>by simp only [RDs] at h;subst h;simp [RDs]
 | d::ds,_,n+1,h=>by
  simp only [RDs] at h
  obtain ⟨x,r,rfl,h1,h2⟩:=h
  exact RDs.drop n h2
theorem RDs.set:∀{ds:List D} {xs:List V} (n:Nat) {d:D} {x:V},RDs K H ds xs->RD K H d x->RDs K H (ds.set n d) (xs.set n x)
 | [],_,n,_,_,h,_=>by simp only [RDs] at h;subst h;simp [RDs]
 | d::ds,_,0,_,_,h,h'=>by
  simp only [RDs] at h
  obtain ⟨x,r,rfl,h1,h2⟩:=h
  exact .cons h' h2
 | d::ds,_,n+1,_,_,h,h'=>by
  simp only [RDs] at h
  obtain ⟨x,r,rfl,h1,h2⟩:=h
  exact .cons h1 (RDs.set n h2 h')
theorem RDs.ofInts:∀(ns:List Int),RDs K H (ns.map D.int) (ns.map V.int)
 | []=>by simp only [List.map,RDs]
 | n::ns=>by
  simp only [List.map]
  exact RDs.cons (by simp only [RD]) (RDs.ofInts ns)
end
mutual
noncomputable def eqD:D->D->Bool
 | .non,.non=>true
 | .bl a,.bl b=>a==b
 | .bl a,.int j=>(if a then 1 else 0)==j
 | .int i,.bl b=>i==(if b then 1 else 0)
 | .int i,.int j=>i==j
 | .str a,.str b=>a==b
 | .tup ds,.tup es=>z4n ds es
 | .lst ds,.lst es=>z4n ds es
 | _,_=>false
noncomputable def z4n:List D->List D->Bool
 | [],[]=>true
 | d::ds,e::es=>eqD d e&&z4n ds es
 | _,_=>false
end
mutual
noncomputable def D.dep:D->Nat
 | .tup ds=>z2s ds+1
 | .lst ds=>z2s ds+1
 | _=>0
noncomputable def z2s:List D->Nat
 | []=>0
 | d::ds=>max d.dep (z2s ds)
end
mutual
theorem zd2:∀d:D,d.pl=true->eqD d d=true
 | .non,_=>rfl
 | .bl b,_=>by simp [eqD]
 | .int b,_=>by simp [eqD]
 | .str b,_=>by simp [eqD]
 | .tup ds,h=>by simp only [eqD];exact z6o ds (by simpa only [D.pl] using h)
 | .lst ds,h=>by simp only [eqD];exact z6o ds (by simpa only [D.pl] using h)
 | .dk _ _,h=>by simp [D.pl] at h
 | .dt _ _,h=>by simp [D.pl] at h
 | .dn _ _,h=>by simp [D.pl] at h
 | .scr _,h=>by simp [D.pl] at h
 | .exc _ _,h=>by simp [D.pl] at h
theorem z6o:∀ds:List D,pls ds=true->z4n ds ds=true
 | [],_=>rfl
 | d::ds,h=>by
  simp only [pls,Bool.and_eq_true] at h
  simp only [z4n,zd2 d h.1,z6o ds h.2,Bool.and_self]
end
mutual
theorem RD.inj {K:Frag} {H:Hp}:∀{d e:D} {v:V},d.pl=true->e.pl=true->RD K H d v->RD K H e v->d=e
 | .non,e,v,_,p,h,h'=>by
  simp only [RD] at h;subst h
  cases e<;>simp only [RD] at h'<;>first | (exfalso;simp [D.pl] at p;done) | rfl | (cases h';done) | (obtain ⟨a,xs,z,_⟩:=h';cases z)
 | .bl b,e,v,_,p,h,h'=>by
  simp only [RD] at h;subst h
  cases e<;>simp only [RD] at h'<;>first | (exfalso;simp [D.pl] at p;done) | (cases h';rfl) | (cases h';done) | (obtain ⟨a,xs,z,_⟩:=h';cases z)
 | .int b,e,v,_,p,h,h'=>by
  simp only [RD] at h;subst h
  cases e<;>simp only [RD] at h'<;>first | (exfalso;simp [D.pl] at p;done) | (cases h';rfl) | (cases h';done) | (obtain ⟨a,xs,z,_⟩:=h';cases z)
 | .str b,e,v,_,p,h,h'=>by
  simp only [RD] at h;subst h
  cases e<;>simp only [RD] at h'<;>first | (exfalso;simp [D.pl] at p;done) | (cases h';rfl) | (cases h';done) | (obtain ⟨a,xs,z,_⟩:=h';cases z)
 | .dk _ _,e,v,p,_,h,h'=>by simp [D.pl] at p
 | .dt _ _,e,v,p,_,h,h'=>by simp [D.pl] at p
 | .dn _ _,e,v,p,_,h,h'=>by simp [D.pl] at p
 | .scr _,e,v,p,_,h,h'=>by simp [D.pl] at p
 | .exc _ _,e,v,p,_,h,h'=>by simp [D.pl] at p
 | .tup ds,e,v,p,p',h,h'=>by
  simp only [RD] at h
  obtain ⟨a,xs,rfl,h1,h2⟩:=h
  cases e<;>simp only [RD] at h'
  case tup es=>
   obtain ⟨b,ys,z,h3,h4⟩:=h'
   cases z
   rw [h1] at h3;cases h3
   rw [RDs.inj (by simpa only [D.pl] using p) (by simpa only [D.pl] using p') h2 h4]
  case lst es=>
   obtain ⟨b,ys,z,h3,h4⟩:=h'
   cases z
   rw [h1] at h3;cases h3
  all_goals first | (exfalso;simp [D.pl] at p';done) | cases h'
 | .lst ds,e,v,p,p',h,h'=>by
  simp only [RD] at h
  obtain ⟨a,xs,rfl,h1,h2⟩:=h
  cases e<;>simp only [RD] at h'
  case tup es=>
   obtain ⟨b,ys,z,h3,h4⟩:=h'
   cases z
   rw [h1] at h3;cases h3
  case lst es=>
   obtain ⟨b,ys,z,h3,h4⟩:=h'
   cases z
   rw [h1] at h3;cases h3
   rw [RDs.inj (by simpa only [D.pl] using p) (by simpa only [D.pl] using p') h2 h4]
  all_goals first | (exfalso;simp [D.pl] at p';done) | cases h'
theorem RDs.inj {K:Frag} {H:Hp}:∀{ds es:List D} {xs:List V},pls ds=true->pls es=true->RDs K H ds xs->RDs K H es xs->ds=es
 | [],es,xs,_,_,h,h'=>by
  simp only [RDs] at h;subst h
  cases es<;>simp only [RDs] at h'
  . rfl
  . obtain ⟨x,r,z,_⟩:=h';cases z
 | d::ds,es,xs,p,p',h,h'=>by
  simp only [RDs] at h
  obtain ⟨x,r,rfl,h1,h2⟩:=h
  simp only [pls,Bool.and_eq_true] at p
  cases es with
  | nil=>simp only [RDs] at h';cases h'
  | cons e es=>
   simp only [RDs] at h'
   obtain ⟨y,r',z,h3,h4⟩:=h'
   cases z
   simp only [pls,Bool.and_eq_true] at p'
   rw [RD.inj p.1 p'.1 h1 h3,RDs.inj p.2 p'.2 h2 h4]
end
theorem zbm:∀{ds:List D} {d:D},pls ds=true->d∈ds->d.pl=true
 | e::ds,d,h,m=>by
  simp only [pls,Bool.and_eq_true] at h
  rcases List.mem_cons.mp m with rfl | m
  . exact h.1
  . exact zbm h.2 m
theorem z67:∀{ds:List D} {d:D},d∈ds->d.dep<=z2s ds
 | d'::ds,d,h=>by
  simp only [z2s]
  rcases List.mem_cons.mp h with rfl | h
  . lia
  . have:=z67 h;lia
theorem z8o:∀{ds es:List D},ds.length=es.length->z4n ds es=(List.range ds.length).all fun j=>eqD (ds.getD j .non) (es.getD j .non)
 | [],[],_=>rfl
 | [],_::_,h=>by simp at h
 | _::_,[],h=>by simp at h
 | d::ds,e::es,h=>by
  simp only [z4n,List.length_cons]
  rw [z8o (by simpa using h),List.range_succ_eq_map,List.all_cons,List.all_map]
  rfl
theorem z8p:∀{ds es:List D},ds.length≠es.length->z4n ds es=false
 | [],[],h=>absurd rfl h
 | [],_::_,_=>rfl
 | _::_,[],_=>rfl
 | d::ds,e::es,h=>by
  simp only [z4n]
  rw [z8p (by intro z;exact h (by simp [z])),Bool.and_false]
section
variable {X:Cx} {pins:List (Addr×Obj)} {U:St} {H:Hp} {s:Shared}
theorem Inv.tupA (I:Inv X pins U H s) {a:Addr} {xs:List V} (h:H a=some (.tup xs)):∃its:List Value,Vals xs its/\s.heap.IsTuple a its.toArray:=by
 obtain ⟨its,r,t,_⟩:=I.tuple (.of h)
 exact ⟨its,r,t⟩
theorem Inv.lstA (I:Inv X pins U H s) {a:Addr} {xs:List V} (h:H a=some (.lst xs)):∃its:List Value,Vals xs its/\s.heap.IsList a its.toArray:=by
 obtain ⟨its,r,t,_⟩:=I.list (.of h)
 exact ⟨its,r,t.isList⟩
inductive Shp (X:Cx) (H:Hp) (s:Shared):D->V->Value->Prop
 | non:Shp X H s .non .non .none
 | bl (b:Bool):Shp X H s (.bl b) (.bl b) (.bool b)
 | int (i:Int) (t:Tok):Shp X H s (.int i) (.int i) (.int i t)
 | str (c:Str) (t:Tok):Shp X H s (.str c) (.str c) (.str c t)
 | tup {ds:List D} {a:Addr} {xs:List V} {its:List Value} (p:pls ds=true) (h:H a=some (.tup xs)) (q:RDs X.K H ds xs) (r:Vals xs its) (t:s.heap.IsTuple a its.toArray):Shp X H s (.tup ds) (.ref a) (.ref a)
 | lst {ds:List D} {a:Addr} {xs:List V} {its:List Value} (p:pls ds=true) (h:H a=some (.lst xs)) (q:RDs X.K H ds xs) (r:Vals xs its) (t:s.heap.IsList a its.toArray):Shp X H s (.lst ds) (.ref a) (.ref a)
theorem shp (I:Inv X pins U H s) {d:D} {x:V} {u:Value} (p:d.pl=true) (h:RD X.K H d x) (r:RelV x u):Shp X H s d x u:=by
 cases d<;>simp only [RD] at h<;>first | (exfalso;simp [D.pl] at p;done) | skip
 . subst h;cases r;exact .non
 . subst h;cases r;exact .bl _
 . subst h;obtain ⟨t,rfl⟩:=r;exact .int _ _
 . subst h;obtain ⟨t,rfl⟩:=r;exact .str _ _
 . obtain ⟨a,xs,rfl,h1,h2⟩:=h
   cases r
   obtain ⟨its,v,t⟩:=I.tupA h1
   exact .tup (by simpa only [D.pl] using p) h1 h2 v t
 . obtain ⟨a,xs,rfl,h1,h2⟩:=h
   cases r
   obtain ⟨its,v,t⟩:=I.lstA h1
   exact .lst (by simpa only [D.pl] using p) h1 h2 v t
def zwh (X:Cx) (H:Hp) (s:Shared) (A:Around) (n:Nat):Prop:=∀{d e:D} {x y:V} {u v:Value},d.pl=true->e.pl=true->d.dep<=n->RD X.K H d x->RD X.K H e y->RelV x u->RelV y v->SeqAt.EqAt A s u v (eqD d e)
theorem zfq {A:Around} {n:Nat} (ih:zwh X H s A n) {ds es:List D} {xs ys:List V} {its its2:List Value} (pd:pls ds=true) (pe:pls es=true) (hdn:z2s ds<=n) (hxs:RDs X.K H ds xs) (hys:RDs X.K H es ys) (r:Vals xs its) (r2:Vals ys its2) (j:Nat)
  (h1:j<its.toArray.size) (h2:j<its2.toArray.size):SeqAt.EqAt A s its.toArray[j] its2.toArray[j] (eqD (ds.getD j .non) (es.getD j .non)):=by
 have h1':j<its.length:=by simpa using h1
 have h2':j<its2.length:=by simpa using h2
 have l1:=r.length
 have l2:=r2.length
 obtain ⟨u1,e1,q1⟩:=r.get (i:=j) (x:=xs[j]'(by lia)) (by simp)
 obtain ⟨u2,e2,q2⟩:=r2.get (i:=j) (x:=ys[j]'(by lia)) (by simp)
 obtain ⟨d1,g1,w1⟩:=hxs.get (i:=j) (x:=xs[j]'(by lia)) (by simp)
 obtain ⟨d2,g2,w2⟩:=hys.get (i:=j) (x:=ys[j]'(by lia)) (by simp)
 have ea:its.toArray[j]=u1:=by
  rw [List.getElem?_eq_getElem h1'] at e1;simpa using e1
 have eb:its2.toArray[j]=u2:=by
  rw [List.getElem?_eq_getElem h2'] at e2;simpa using e2
 have ga:ds.getD j .non=d1:=by rw [List.getD_eq_getElem?_getD,g1];rfl
 have gb:es.getD j .non=d2:=by rw [List.getD_eq_getElem?_getD,g2];rfl
 rw [ea,eb,ga,gb]
 exact ih (zbm pd (List.mem_of_getElem? g1)) (zbm pe (List.mem_of_getElem? g2)) (Nat.le_trans (z67 (List.mem_of_getElem? g1)) hdn) w1 w2 q1 q2
theorem zne {ds es:List D} {xs ys:List V} {its its2:List Value} (hxs:RDs X.K H ds xs) (hys:RDs X.K H es ys) (r:Vals xs its) (r2:Vals ys its2) :
  ((List.range (min its.toArray.size its2.toArray.size)).all (fun j=>eqD (ds.getD j .non) (es.getD j .non))&&its.toArray.size==its2.toArray.size)=z4n ds es:=by
 have lx:=hxs.length;have ly:=hys.length;have l1:=r.length;have l2:=r2.length
 simp only [List.size_toArray]
 by_cases hl:ds.length=es.length
 . rw [z8o hl]
   have:its.length=its2.length:=by lia
   rw [this,Nat.min_self,show its2.length=ds.length by lia]
   simp
 . rw [z8p hl]
   have:(its.length==its2.length)=false:=by simp;lia
   rw [this,Bool.and_false]
theorem znf {ds es:List D} {xs ys:List V} {its its2:List Value} (hxs:RDs X.K H ds xs) (hys:RDs X.K H es ys) (r:Vals xs its) (r2:Vals ys its2) (hl:ds.length=es.length) :
  ((List.range its.toArray.size).all fun j=>eqD (ds.getD j .non) (es.getD j .non))=z4n ds es:=by
 have lx:=hxs.length;have ly:=hys.length;have l1:=r.length;have l2:=r2.length
 rw [z8o hl,List.size_toArray,show its.length=ds.length by lia]
theorem zzl {A:Around} {n:Nat} (hu:A.units<cLine) (ih:zwh X H s A.in1 n) {d e:D} {x y:V} {u v:Value} (hn:d.dep<=n+1) (sx:Shp X H s d x u) (sy:Shp X H s e y v):SeqAt.RcAt A s u v (eqD d e)/\SeqAt.RcNeAt A s u v (!eqD d e):=by
 cases sx with
 | non=>cases sy with
  | non=>exact ⟨.none_none,.none_none⟩
  | bl _=>exact ⟨.none_bool _,.none_bool _⟩
  | int _ _=>exact ⟨.none_int _ _,.none_int _ _⟩
  | str _ _=>exact ⟨.none_str _ _,.none_str _ _⟩
  | tup p2 h2 q2 r2 t2=>exact ⟨.none_tuple t2 hu,.none_tuple t2 hu⟩
  | lst p2 h2 q2 r2 t2=>exact ⟨.none_list t2 hu,.none_list t2 hu⟩
 | bl _=>cases sy with
  | non=>exact ⟨.bool_none _,.bool_none _⟩
  | bl _=>exact ⟨.bool_bool _ _,.bool_bool _ _⟩
  | int _ _=>exact ⟨.bool_int _ _ _,.bool_int _ _ _⟩
  | str _ _=>exact ⟨.bool_str _ _ _,.bool_str _ _ _⟩
  | tup p2 h2 q2 r2 t2=>exact ⟨.bool_tuple _ t2 hu,.bool_tuple _ t2 hu⟩
  | lst p2 h2 q2 r2 t2=>exact ⟨.bool_list _ t2 hu,.bool_list _ t2 hu⟩
 | int _ _=>cases sy with
  | non=>exact ⟨.int_none _ _,.int_none _ _⟩
  | bl _=>exact ⟨.int_bool _ _ _,.int_bool _ _ _⟩
  | int _ _=>exact ⟨.int_int _ _ _ _,.int_int _ _ _ _⟩
  | str _ _=>exact ⟨.int_str _ _ _ _,.int_str _ _ _ _⟩
  | tup p2 h2 q2 r2 t2=>exact ⟨.int_tuple _ _ t2 hu,.int_tuple _ _ t2 hu⟩
  | lst p2 h2 q2 r2 t2=>exact ⟨.int_list _ _ t2 hu,.int_list _ _ t2 hu⟩
 | str _ _=>cases sy with
  | non=>exact ⟨.str_none _ _,.str_none _ _⟩
  | bl _=>exact ⟨.str_bool _ _ _,.str_bool _ _ _⟩
  | int _ _=>exact ⟨.str_int _ _ _ _,.str_int _ _ _ _⟩
  | str _ _=>exact ⟨.str_str _ _ _ _,.str_str _ _ _ _⟩
  | tup p2 h2 q2 r2 t2=>exact ⟨.str_tuple _ _ t2 hu,.str_tuple _ _ t2 hu⟩
  | lst p2 h2 q2 r2 t2=>exact ⟨.str_list _ _ t2 hu,.str_list _ _ t2 hu⟩
 | tup p h q r t=>cases sy with
  | non=>exact ⟨.tuple_none t hu,.tuple_none t hu⟩
  | bl _=>exact ⟨.tuple_bool _ t hu,.tuple_bool _ t hu⟩
  | int _ _=>exact ⟨.tuple_int _ _ t hu,.tuple_int _ _ t hu⟩
  | str _ _=>exact ⟨.tuple_str _ _ t hu,.tuple_str _ _ t hu⟩
  | tup p2 h2 q2 r2 t2 => 
   simp only [D.dep] at hn
   have z:=zfq ih p p2 (Nat.le_of_succ_le_succ hn) q q2 r r2
   simp only [eqD]
   rw [<-zne q q2 r r2]
   exact ⟨.tuples t t2 hu z,.tuples t t2 hu z⟩
  | lst p2 h2 q2 r2 t2=>exact ⟨.tuple_list t t2 hu,.tuple_list t t2 hu⟩
 | lst p h q r t=>cases sy with
  | non=>exact ⟨.list_none t hu,.list_none t hu⟩
  | bl _=>exact ⟨.list_bool _ t hu,.list_bool _ t hu⟩
  | int _ _=>exact ⟨.list_int _ _ t hu,.list_int _ _ t hu⟩
  | str _ _=>exact ⟨.list_str _ _ t hu,.list_str _ _ t hu⟩
  | tup p2 h2 q2 r2 t2=>exact ⟨.list_tuple t t2 hu,.list_tuple t t2 hu⟩
  | lst p2 h2 q2 r2 t2 => 
   rename_i ds _ xs its es _ ys its2
   simp only [D.dep] at hn
   have z:=zfq ih p p2 (Nat.le_of_succ_le_succ hn) q q2 r r2
   have lx:=q.length;have ly:=q2.length;have l1:=r.length;have l2:=r2.length
   simp only [eqD]
   by_cases hl:ds.length=es.length
   . have hsz:its.toArray.size=its2.toArray.size:=by simp;lia
     rw [<-znf q q2 r r2 hl]
     exact ⟨.lists t t2 hsz hu z,.lists t t2 hsz hu z⟩
   . have hsz:(its.toArray.size != its2.toArray.size)=true:=by simp;lia
     rw [z8p hl]
     exact ⟨.lists_lengths t t2 hsz hu,.lists_lengths t t2 hsz hu⟩
theorem zd3 (I:Inv X pins U H s):∀(n:Nat) {A:Around} {d e:D} {x y:V} {u v:Value},d.pl=true->e.pl=true->d.dep<=n->A.units+n<cLine->RD X.K H d x->RD X.K H e y->RelV x u->RelV y v->SeqAt.EqAt A s u v (eqD d e):=by
 have key:∀(n:Nat) {A:Around} {d e:D} {x y:V} {u v:Value},A.units<cLine->(∀m,m+1=n->zwh X H s A.in1 m)->d.pl=true->e.pl=true->d.dep<=n->RD X.K H d x->RD X.K H e y->RelV x u->RelV y v->SeqAt.EqAt A s u v (eqD d e):=by
  intro n A d e x y u v hu ih hpd hpe hn hx hy ru rv
  have sx:=shp I hpd hx ru
  have sy:=shp I hpe hy rv
  have back:∀{a b:Addr},u=.ref a->v=.ref b->x=.ref a->y=.ref b->1<=d.dep->SeqAt.EqAt A s u v (eqD d e):=fun {a b} eu ev ex ey h1=>by
   subst eu ev ex ey
   by_cases hab:a=b
   . subst hab
     rw [RD.inj hpd hpe hx hy,zd2 _ hpe]
     exact .same _
   . exact .of_refs hab (zzl (n:=n - 1) hu (ih (n - 1) (by lia)) (by lia) sx sy).1
  cases sx with
  | non=>cases sy with
   | non=>exact .same _
   | bl _=>exact .none_bool _
   | int _ _=>exact .none_int _ _
   | str _ _=>exact .none_str _ _
   | tup p2 h2 q2 r2 t2=>exact .none_tuple t2 hu
   | lst p2 h2 q2 r2 t2=>exact .none_list t2 hu
  | bl _=>cases sy with
   | non=>exact .bool_none _
   | bl _=>exact .bool_bool _ _
   | int _ _=>exact .bool_int _ _ _
   | str _ _=>exact .bool_str _ _ _
   | tup p2 h2 q2 r2 t2=>exact .bool_tuple _ t2 hu
   | lst p2 h2 q2 r2 t2=>exact .bool_list _ t2 hu
  | int _ _=>cases sy with
   | non=>exact .int_none _ _
   | bl _=>exact .int_bool _ _ _
   | int _ _=>exact .int_int _ _ _ _
   | str _ _=>exact .int_str _ _ _ _
   | tup p2 h2 q2 r2 t2=>exact .int_tuple _ _ t2 hu
   | lst p2 h2 q2 r2 t2=>exact .int_list _ _ t2 hu
  | str _ _=>cases sy with
   | non=>exact .str_none _ _
   | bl _=>exact .str_bool _ _ _
   | int _ _=>exact .str_int _ _ _ _
   | str _ _=>exact .str_str _ _ _ _
   | tup p2 h2 q2 r2 t2=>exact .str_tuple _ _ t2 hu
   | lst p2 h2 q2 r2 t2=>exact .str_list _ _ t2 hu
  | tup p h q r t=>cases sy with
   | non=>exact .tuple_none t hu
   | bl _=>exact .tuple_bool _ t hu
   | int _ _=>exact .tuple_int _ _ t hu
   | str _ _=>exact .tuple_str _ _ t hu
   | tup p2 h2 q2 r2 t2=>exact back rfl rfl rfl rfl (by simp only [D.dep];exact Nat.succ_pos _)
   | lst p2 h2 q2 r2 t2=>exact .tuple_list t t2 hu
  | lst p h q r t=>cases sy with
   | non=>exact .list_none t hu
   | bl _=>exact .list_bool _ t hu
   | int _ _=>exact .list_int _ _ t hu
   | str _ _=>exact .list_str _ _ t hu
   | tup p2 h2 q2 r2 t2=>exact .list_tuple t t2 hu
   | lst p2 h2 q2 r2 t2=>exact back rfl rfl rfl rfl (by simp only [D.dep];exact Nat.succ_pos _)
 intro n
 induction n with
 | zero=>exact fun p q hn hu=>key 0 (by lia) (fun m z=>nomatch z) p q hn
 | succ n ih=>exact fun {A d e x y u v} p q hn hu=>key (n+1) (by lia) (fun m z=>by cases z;exact fun p q hn=>ih p q hn (by show A.units+1+n<cLine;lia)) p q hn
theorem zl7 (I:Inv X pins U H s) {n:Nat} {A:Around} {d e:D} {x y:V} {u v:Value} (hpd:d.pl=true) (hpe:e.pl=true) (hn:d.dep<=n) (hu:A.units+1+n<cLine) (hx:RD X.K H d x) (hy:RD X.K H e y) (ru:RelV x u) (rv:RelV y v):SeqAt.RcAt A s u v (eqD d e)/\SeqAt.RcNeAt A s u v (!eqD d e):=
 zzl (n:=n) (by lia) (fun p q h=>zd3 I n p q h (by show A.units+1+n<cLine;lia)) (by lia) (shp I hpd hx ru) (shp I hpe hy rv)
end
section
variable {X:Cx}
open Classical in
noncomputable def hitD (K:Frag) (H:Hp) (d:D) (u:Value):Bool:=match zz1 u with
 | some v=>decide (∃e,e.pl=true/\RD K H e v/\eqD e d=true)
 | none=>false
open Classical in
theorem zfr {K:Frag} {H:Hp} {d e:D} {y:V} {u:Value} (pe:e.pl=true) (r:RelV y u) (h:RD K H e y):hitD K H d u=eqD e d:=by
 unfold hitD
 rw [r.abs]
 dsimp only
 rw [Bool.eq_iff_iff]
 rw [decide_eq_true_iff]
 exact ⟨fun ⟨e',p',h',q⟩=>by rw [RD.inj pe p' h h'];exact q,fun q=>⟨e,pe,h,q⟩⟩
theorem z4q {K:Frag} {H:Hp} {d:D}:∀{es:List D} {xs:List V} {us:List Value},pls es=true->RDs K H es xs->Vals xs us->us.any (hitD K H d)=es.any fun e=>eqD e d
 | [],_,_,_,h,r=>by
  simp only [RDs] at h;subst h;cases r;rfl
 | e::es,_,_,p,h,r=>by
  simp only [RDs] at h
  simp only [pls,Bool.and_eq_true] at p
  obtain ⟨x,xs,rfl,h1,h2⟩:=h
  cases r with
  | cons r1 r2=>rw [List.any_cons,List.any_cons,zfr p.1 r1 h1,z4q p.2 h2 r2]
theorem z6p {A:Around} {pins:List (Addr×Obj)} {U:St} {H:Hp} {s:Shared} (I:Inv X pins U H s) (hu:A.units+1+20<cLine) {d:D} {x:V} {v:Value} (pd:d.pl=true) (hx:RD X.K H d x) (rx:RelV x v):∀{es:List D} {xs:List V} {us:List Value},
  pls es=true->RDs X.K H es xs->Vals xs us->z2s es<=20->∀u∈us,SeqAt.EqAt A.in1 s u v (hitD X.K H d u)
 | [],_,_,_,h,r,_=>by
  simp only [RDs] at h;subst h;cases r
  intro u hu;cases hu
 | e::es,_,_,p,h,r,hd=>by
  simp only [RDs] at h
  simp only [pls,Bool.and_eq_true] at p
  obtain ⟨y,xs,rfl,h1,h2⟩:=h
  simp only [z2s] at hd
  cases r with
  | cons r1 r2=>
   intro u hm
   rcases List.mem_cons.mp hm with z | hm
   . subst z
     rw [zfr p.1 r1 h1]
     exact zd3 I 20 p.1 pd (by lia) (by show A.units+1+20<cLine;lia) h1 hx r1 rx
   . exact z6p I hu pd hx rx p.2 h2 r2 (by lia) u hm
end
structure Ex where
 cls:String
 fs:List D
inductive R (α:Type) where
 | ok (a:α) | er (x:Ex) | st
noncomputable def R.bind {α β:Type} (r:R α) (f:α->R β):R β:=match r with
 | .ok a=>f a
 | .er x=>.er x
 | .st=>.st
def Rk {α:Type} (EX:Ex->Prop) (r:R α) (k:α->Prop):Prop:=match r with
 | .ok a=>k a
 | .er x=>EX x
 | .st=>False
section
variable {α β:Type} {EX:Ex->Prop}
noncomputable def R.of (o:Option α):R α:=match o with
 | some a=>.ok a
 | none=>.st
theorem R.of_some (a:α):R.of (some a)=R.ok a:=rfl
theorem Rk.of {o:Option α} {k:α->Prop} (h:Rk EX (R.of o) k):∃a,o=some a/\k a:=by
 cases o with
 | none=>exact h.elim
 | some a=>exact ⟨a,rfl,h⟩
theorem R.bind_ok (a:α) (f:α->R β):(R.ok a).bind f=f a:=rfl
theorem Rk.bind {r:R α} {f:α->R β} {k:β->Prop}:Rk EX (r.bind f) k=Rk EX r fun a=>Rk EX (f a) k:=by cases r<;>rfl
theorem Rk.mono {r:R α} {k k':α->Prop} (h:Rk EX r k) (hk:∀a,k a->k' a):Rk EX r k':=by
 cases r with
 | ok a=>exact hk a h
 | er x=>exact h
 | st=>exact h
end
def Ext (H0 H H0' H':Hp):Prop:=Same H0 H0'/\Same H0' H'/\∀a,H a≠none->H0 a=none->H0' a=none
theorem Ext.refl {H0 H:Hp} (h:Same H0 H):Ext H0 H H0 H:=⟨Same.refl _,h,fun _ _ e=>e⟩
theorem z6q {α:Type} {o:Option α} {x:α} (h:o=some x):o≠none:=by rw [h];exact fun z=>nomatch z
theorem Same.ne {H H':Hp} (h:Same H H') {a:Addr} (n:H a≠none):H' a≠none:=by
 cases e:H a with
 | none=>exact absurd e n
 | some o=>exact z6q (h a o e)
theorem Ext.trans {H0 H H0' H' H0'' H'':Hp} (s:Same H H') (a:Ext H0 H H0' H') (b:Ext H0' H' H0'' H''):Ext H0 H H0'' H'':=
 ⟨a.1.trans b.1,b.2.1,fun c h1 h2=>b.2.2 c (s.ne h1) (a.2.2 c h1 h2)⟩
theorem Ext.grow {H0 H H0' H' H'':Hp} (a:Ext H0 H H0' H') (s:Same H' H''):Ext H0 H H0' H'':=⟨a.1,a.2.1.trans s,a.2.2⟩
theorem Ext.new {H0 H:Hp} {p:Addr} {o:HO} (h:Same H0 H) (hp:H p=none):Ext H0 H (upd H0 p o) (upd H p o):=by
 have h0:H0 p=none:=by
  cases e:H0 p with
  | none=>rfl
  | some u=>rw [h p u e] at hp;cases hp
 refine ⟨Same.upd_new h0,fun b u e=>?_,fun a h1 h2=>?_⟩
 . by_cases hb:b=p
   . subst hb;rw [z0o] at e ⊢;exact e
   . rw [z0j hb] at e ⊢;exact h b u e
 . have ha:a≠p:=fun z=>h1 (by rw [z];exact hp)
   rw [z0j ha];exact h2
def OB (K:Frag) (H0 H:Hp) (a:Addr):D->Prop
 | .lst ds=>∃xs,H a=some (.lst xs)/\RDs K H0 ds xs
 | .dk ks ds=>∃xs,H a=some (.dK (ks.zip xs))/\ks.length=xs.length/\RDs K H0 ds xs
 | .dt ks ds=>∃xs,H a=some (.dT (ks.zip xs))/\ks.length=xs.length/\RDs K H0 ds xs
 | .dn ks ds=>∃qs xs o,H a=some (.ext (dnP a qs xs o))/\qs.map (·.1)=ks/\DN H0 a qs/\RDs K H0 ds xs
 | _=>False
section
variable {K:Frag} {H0 H H0' H':Hp} {a:Addr} {d:D}
theorem OB.some (h:OB K H0 H a d):∃o,H a=some o/\¬Imm o:=by
 cases d<;>simp only [OB] at h
 . obtain ⟨xs,h,_⟩:=h;exact ⟨_,h,fun z=>z⟩
 . obtain ⟨xs,h,_⟩:=h;exact ⟨_,h,fun z=>z⟩
 . obtain ⟨xs,h,_⟩:=h;exact ⟨_,h,fun z=>z⟩
 . obtain ⟨qs,xs,o,h,_⟩:=h;exact ⟨_,h,fun z=>z _ _ _ _ rfl⟩
theorem OB.mono (h:OB K H0 H a d) (s0:Same H0 H0') (s:Same H H'):OB K H0' H' a d:=by
 cases d<;>simp only [OB] at h ⊢
 . obtain ⟨xs,h,r⟩:=h;exact ⟨_,s _ _ h,r.mono s0⟩
 . obtain ⟨xs,h,l,r⟩:=h;exact ⟨_,s _ _ h,l,r.mono s0⟩
 . obtain ⟨xs,h,l,r⟩:=h;exact ⟨_,s _ _ h,l,r.mono s0⟩
 . obtain ⟨qs,xs,o,h,k,n,r⟩:=h;exact ⟨qs,xs,o,s _ _ h,k,n.tk fun b ys q=>s0 _ _ q,r.mono s0⟩
theorem OB.at (h:OB K H0 H a d) (e:H' a=H a):OB K H0 H' a d:=by
 cases d<;>simp only [OB] at h ⊢
 . obtain ⟨xs,h,r⟩:=h;exact ⟨_,e.trans h,r⟩
 . obtain ⟨xs,h,l,r⟩:=h;exact ⟨_,e.trans h,l,r⟩
 . obtain ⟨xs,h,l,r⟩:=h;exact ⟨_,e.trans h,l,r⟩
 . obtain ⟨qs,xs,o,h,k,n,r⟩:=h;exact ⟨qs,xs,o,e.trans h,k,n,r⟩
theorem OB.tk (h:OB K H0 H a d) (n:d.shal=true) (t:TK H0 H0'):OB K H0' H a d:=by
 cases d<;>simp only [OB,D.shal] at h n ⊢
 . obtain ⟨xs,h,r⟩:=h;exact ⟨_,h,r.tk t n⟩
 . obtain ⟨xs,h,l,r⟩:=h;exact ⟨_,h,l,r.tk t n⟩
 . obtain ⟨xs,h,l,r⟩:=h;exact ⟨_,h,l,r.tk t n⟩
 . obtain ⟨qs,xs,o,h,k,m,r⟩:=h;exact ⟨qs,xs,o,h,k,m.tk fun b ys q=>t _ _ trivial q,r.tk t n⟩
theorem OB.rd (h:OB K H0 H a d) (s0:Same H0 H0') (e:H0' a=H a):RD K H0' d (.ref a):=by
 cases d<;>simp only [OB,RD] at h ⊢
 . obtain ⟨xs,h,r⟩:=h;exact ⟨_,_,rfl,e.trans h,r.mono s0⟩
 . obtain ⟨xs,h,l,r⟩:=h;exact ⟨_,_,rfl,e.trans h,l,r.mono s0⟩
 . obtain ⟨xs,h,l,r⟩:=h;exact ⟨_,_,rfl,e.trans h,l,r.mono s0⟩
 . obtain ⟨qs,xs,o,h,k,n,r⟩:=h;exact ⟨_,qs,xs,o,rfl,e.trans h,k,n.tk fun b ys q=>s0 _ _ q,r.mono s0⟩
end
def Out (K:Frag) (fr:Bool) (H0 H:Hp) (d:D) (v:V) (H':Hp):Prop:=
 Same H H'/\∃H0',Ext H0 H H0' H'/\(if fr=true then ∃p,v=.ref p/\H p=none/\H0' p=none/\OB K H0' H' p d else RD K H0' d v)
section
variable {K:Frag} {fr:Bool} {H0 H H0' H':Hp} {d:D} {v:V}
theorem Out.val (s:Same H H') (e:Ext H0 H H0' H') (r:RD K H0' d v):Out K false H0 H d v H':=⟨s,H0',e,by rw [if_neg Bool.false_ne_true];exact r⟩
theorem Out.pure (s:Same H0 H) (r:RD K H0 d v):Out K false H0 H d v H:=.val (Same.refl _) (.refl s) r
theorem Out.fresh {p:Addr} (s:Same H H') (e:Ext H0 H H0' H') (hp:H p=none) (hp0:H0' p=none) (o:OB K H0' H' p d):Out K true H0 H d (.ref p) H':=⟨s,H0',e,by rw [if_pos rfl];exact ⟨p,rfl,hp,hp0,o⟩⟩
theorem Out.rd (o:Out K false H0 H d v H'):Same H H'/\∃H0',Ext H0 H H0' H'/\RD K H0' d v:=by
 obtain ⟨s,H0',e,r⟩:=o
 rw [if_neg Bool.false_ne_true] at r
 exact ⟨s,H0',e,r⟩
theorem Out.weak (o:Out K fr H0 H d v H'):Out K false H0 H d v H':=by
 cases fr with
 | false=>exact o
 | true=>
  obtain ⟨s,H0',e,r⟩:=o
  rw [if_pos rfl] at r
  obtain ⟨p,rfl,hp,hp0,ob⟩:=r
  obtain ⟨u,hu,_⟩:=ob.some
  have e2:Ext H0 H (upd H0' p u) H':=by
   refine ⟨e.1.trans (Same.upd_new hp0),fun b w q=>?_,fun a h1 h2=>?_⟩
   . by_cases hb:b=p
     . subst hb;rw [z0o] at q;cases q;exact hu
     . rw [z0j hb] at q;exact e.2.1 b w q
   . rw [z0j (fun z=>h1 (by rw [z];exact hp))];exact e.2.2 a h1 h2
  exact .val s e2 (ob.rd (Same.upd_new hp0) (by rw [z0o,hu]))
theorem Out.after {H1 H1':Hp} (s:Same H H1) (e:Ext H0 H H1' H1) (o:Out K fr H1' H1 d v H'):Out K fr H0 H d v H':=by
 obtain ⟨s',H0',e',r⟩:=o
 refine ⟨s.trans s',H0',e.trans s e',?_⟩
 cases fr with
 | false=>exact r
 | true=>
  rw [if_pos rfl] at r ⊢
  obtain ⟨p,rfl,hp,r⟩:=r
  refine ⟨p,rfl,?_,r⟩
  cases q:H p with
  | none=>rfl
  | some u=>rw [s p u q] at hp;cases hp
end
abbrev DE:=List (Option D)
def RE (K:Frag) (H:Hp) (ρ:DE) (U:St):Prop:=ρ.length=U.length/\∀(i:Nat) d,ρ[i]?=some (some d)->∃v,U[i]?=some (some v)/\RD K H d v
theorem RE.mono {K:Frag} {H H':Hp} {ρ:DE} {U:St} (h:RE K H ρ U) (s:Same H H'):RE K H' ρ U:=⟨h.1,fun i d e=>by
 obtain ⟨v,h1,h2⟩:=h.2 i d e
 exact ⟨v,h1,h2.mono s⟩⟩
structure XW where
 hb:Hp
 p:Ex->Hp->Prop
abbrev F0:XW:=⟨fun _=>none,fun _ _=>False⟩
theorem F0.same (H:Hp):Same F0.hb H:=fun _ _ z=>nomatch z
def XW.at (W:XW) (x:Ex):Prop:=∀H',Same W.hb H'->W.p x H'
noncomputable def TEd (K:Frag) (EX:XW) (fr:Bool) (f:DE->R D):TE:=fun U H Q=>Same EX.hb H/\∃ρ H0,Same H0 H/\RE K H0 ρ U/\Rk EX.at (f ρ) fun d=>∀v H',Out K fr H0 H d v H'->Q v H'
noncomputable def TAd (K:Frag) (EX:XW) (f:DE->R (List D)):TA:=fun U H Q=>Same EX.hb H/\∃ρ H0,Same H0 H/\RE K H0 ρ U/\Rk EX.at (f ρ) fun ds=>∀vs H' H0',Same H H'->Ext H0 H H0' H'->RDs K H0' ds vs->Q vs H'
noncomputable def TTd (K:Frag) (EX:XW) (f:DE->R Bool):TT:=fun U H Q=>Same EX.hb H/\∃ρ H0,Same H0 H/\RE K H0 ρ U/\Rk EX.at (f ρ) fun b=>∀H',Same H H'->Q b H'
noncomputable def z02 (i:Nat):DE->R D:=fun ρ=>match ρ[i]? with | some (some d)=>.ok d | _=>.st
noncomputable def eC (d:D):DE->R D:=fun _=>.ok d
noncomputable def eOp (o:D->D->Option D) (fa fb:DE->R D):DE->R D:=fun ρ=>(fa ρ).bind fun x=>(fb ρ).bind fun y=>R.of (o x y)
noncomputable def eUn (o:D->Option D) (fa:DE->R D):DE->R D:=fun ρ=>(fa ρ).bind fun x=>R.of (o x)
noncomputable def z08:DE->R (List D):=fun _=>.ok []
noncomputable def z01 (f:DE->R D) (fs:DE->R (List D)):DE->R (List D):=fun ρ=>(f ρ).bind fun d=>(fs ρ).bind fun ds=>.ok (d::ds)
noncomputable def z0r (m:List D->R D) (fs:DE->R (List D)):DE->R D:=fun ρ=>(fs ρ).bind m
noncomputable def eCB (m:List D->Option D) (fs:DE->R (List D)):DE->R D:=fun ρ=>(fs ρ).bind fun ds=>R.of (m ds)
noncomputable def z59 (fs:DE->R (List D)):DE->R D:=fun ρ=>(fs ρ).bind fun ds=>if ds.length<=1000 then .ok (.tup ds) else .st
noncomputable def zac (fs:DE->R (List D)):DE->R D:=fun ρ=>(fs ρ).bind fun ds=>if ds.length<=1000 then .ok (.lst ds) else .st
noncomputable def eIf (t:DE->R Bool) (fa fb:DE->R D):DE->R D:=fun ρ=>(t ρ).bind fun b=>if b=true then fa ρ else fb ρ
noncomputable def zin (t u:DE->R Bool):DE->R Bool:=fun ρ=>(t ρ).bind fun b=>if b=true then u ρ else .ok false
noncomputable def bOr (t u:DE->R Bool):DE->R Bool:=fun ρ=>(t ρ).bind fun b=>if b=true then .ok true else u ρ
noncomputable def zje (t:DE->R Bool):DE->R Bool:=fun ρ=>(t ρ).bind fun b=>.ok (!b)
noncomputable def asB:D->Option Bool
 | .bl b=>some b
 | _=>none
noncomputable def z24 (tr:D->Option Bool) (f:DE->R D):DE->R Bool:=fun ρ=>(f ρ).bind fun d=>R.of (tr d)
noncomputable def zbn (fa fb:DE->R D):DE->R D:=fun ρ=>(fa ρ).bind fun x=>(R.of (asB x)).bind fun b=>if b=true then fb ρ else .ok (.bl false)
noncomputable def eOr (fa fb:DE->R D):DE->R D:=fun ρ=>(fa ρ).bind fun x=>(R.of (asB x)).bind fun b=>if b=true then .ok (.bl true) else fb ρ
def OpD (K:Frag) (fr:Bool) (o:D->D->Option D) (r:R2):Prop:=∀(H0 H:Hp) (x y:V) (d e z:D) (Q:VK),Same H0 H->RD K H0 d x->RD K H0 e y->o d e=some z->(∀v H',Out K fr H0 H z v H'->Q v H')->r x y H Q
def UnD (K:Frag) (fr:Bool) (o:D->Option D) (r:V->Hp->VK->Prop):Prop:=∀(H0 H:Hp) (x:V) (d z:D) (Q:VK),Same H0 H->RD K H0 d x->o d=some z->(∀v H',Out K fr H0 H z v H'->Q v H')->r x H Q
def z5c (K:Frag) (fr:Bool) (m:List D->Option D) (r:List V->Hp->VK->Prop):Prop:=∀(H0 H:Hp) (xs:List V) (ds:List D) (z:D) (Q:VK),Same H0 H->RDs K H0 ds xs->m ds=some z->(∀v H',Out K fr H0 H z v H'->Q v H')->r xs H Q
def zwi (K:Frag) (tr:D->Option Bool) (r:V->Hp->(Bool->Hp->Prop)->Prop):Prop:=∀(H0 H:Hp) (x:V) (d:D) (b:Bool) (Q:Bool->Hp->Prop),Same H0 H->RD K H0 d x->tr d=some b->Q b H->r x H Q
section
variable {K:Frag} {EX:XW} {fr:Bool} {U:St} {H:Hp} {Q:VK}
theorem TEd.go {f:DE->R D} {ρ:DE} {H0:Hp} {k:D->Prop} (sx:Same EX.hb H) (s:Same H0 H) (e:RE K H0 ρ U) (h:Rk EX.at (f ρ) k) (hk:∀d,k d->∀v H' H0',Same H H'->Ext H0 H H0' H'->RD K H0' d v->Q v H'):TEd K EX false f U H Q:=
 ⟨sx,ρ,H0,s,e,h.mono fun d z v H' o=>by
  obtain ⟨s',H0',e',r⟩:=o.rd
  exact hk d z v H' H0' s' e' r⟩
theorem TAd.go {f:DE->R (List D)} {ρ:DE} {H0:Hp} {k:List D->Prop} {Q:List V->Hp->Prop} (sx:Same EX.hb H) (s:Same H0 H) (e:RE K H0 ρ U) (h:Rk EX.at (f ρ) k) (hk:∀d,k d->∀v H' H0',Same H H'->Ext H0 H H0' H'->RDs K H0' d v->Q v H'):TAd K EX f U H Q:=
 ⟨sx,ρ,H0,s,e,h.mono fun d z v H' H0' s' e' r=>hk d z v H' H0' s' e' r⟩
theorem TTd.go {f:DE->R Bool} {ρ:DE} {H0:Hp} {k:Bool->Prop} {Q:Bool->Hp->Prop} (sx:Same EX.hb H) (s:Same H0 H) (e:RE K H0 ρ U) (h:Rk EX.at (f ρ) k) (hk:∀b,k b->∀H',Same H H'->Q b H'):TTd K EX f U H Q:=
 ⟨sx,ρ,H0,s,e,h.mono fun b z H' s'=>hk b z H' s'⟩
theorem TEd.weak {f:DE->R D} (h:TEd K EX false f U H Q):TEd K EX fr f U H Q:=by
 obtain ⟨sx,ρ,H0,s,e,h⟩:=h
 exact ⟨sx,ρ,H0,s,e,h.mono fun d z v H' o=>z v H' o.weak⟩
theorem zwj {i:Nat} (h:TEd K EX false (z02 i) U H Q):∃v,U[i]?=some (some v)/\Q v H:=by
 obtain ⟨sx,ρ,H0,s,e,h⟩:=h
 unfold z02 at h
 split at h
 . rename_i d q
   obtain ⟨v,h1,h2⟩:=e.2 i d q
   exact ⟨v,h1,h v H (.pure s h2)⟩
 . exact h.elim
theorem zbo {d:D} {v:V} (hd:∀H0,RD K H0 d v) (h:TEd K EX false (eC d) U H Q):tC v U H Q:=by
 obtain ⟨sx,ρ,H0,s,e,h⟩:=h
 exact h v H (.pure s (hd _))
theorem zvp {o:D->D->Option D} {r:R2} {fa fb:DE->R D} (ho:OpD K fr o r) (h:TEd K EX fr (eOp o fa fb) U H Q):tOp r (TEd K EX false fa) (TEd K EX false fb) U H Q:=by
 obtain ⟨sx,ρ,H0,s,e,h⟩:=h
 unfold eOp at h
 rw [Rk.bind] at h
 refine TEd.go sx s e h fun d h v H1 H1' s1 e1 r1=>?_
 rw [Rk.bind] at h
 refine TEd.go (sx.trans s1) e1.2.1 (e.mono e1.1) h fun d2 h v2 H2 H2' s2 e2 r2=>?_
 obtain ⟨z,hz,h⟩:=h.of
 exact ho H2' H2 v v2 d d2 z Q e2.2.1 (r1.mono e2.1) r2 hz fun w H3 o=>h w H3 (o.after (s1.trans s2) (e1.trans s1 e2))
theorem y08 {o:D->Option D} {r:V->Hp->VK->Prop} {fa:DE->R D} (ho:UnD K fr o r) (h:TEd K EX fr (eUn o fa) U H Q):tUn r (TEd K EX false fa) U H Q:=by
 obtain ⟨sx,ρ,H0,s,e,h⟩:=h
 unfold eUn at h
 rw [Rk.bind] at h
 refine TEd.go sx s e h fun d h v H1 H1' s1 e1 r1=>?_
 obtain ⟨z,hz,h⟩:=h.of
 exact ho H1' H1 v d z Q e1.2.1 r1 hz fun w H3 o=>h w H3 (o.after s1 e1)
theorem zrj {Q:List V->Hp->Prop} (h:TAd K EX z08 U H Q):zvl U H Q:=by
 obtain ⟨sx,ρ,H0,s,e,h⟩:=h
 exact h [] H H0 (Same.refl _) (.refl s) .nil
theorem zfs {Q:List V->Hp->Prop} {f:DE->R D} {fs:DE->R (List D)} (h:TAd K EX (z01 f fs) U H Q):ze4 (TEd K EX false f) (TAd K EX fs) U H Q:=by
 obtain ⟨sx,ρ,H0,s,e,h⟩:=h
 unfold z01 at h
 rw [Rk.bind] at h
 refine TEd.go sx s e h fun d h v H1 H1' s1 e1 r1=>?_
 rw [Rk.bind] at h
 refine TAd.go (sx.trans s1) e1.2.1 (e.mono e1.1) h fun ds h vs H2 H2' s2 e2 r2=>?_
 exact h (v::vs) H2 H2' (s1.trans s2) (e1.trans s1 e2) (.cons (r1.mono e2.1) r2)
theorem zvq {m:List D->Option D} {r:List V->Hp->VK->Prop} {fs:DE->R (List D)} (hm:z5c K fr m r) (h:TEd K EX fr (eCB m fs) U H Q):tCB r (TAd K EX fs) U H Q:=by
 obtain ⟨sx,ρ,H0,s,e,h⟩:=h
 unfold eCB at h
 rw [Rk.bind] at h
 refine TAd.go sx s e h fun ds h vs H1 H1' s1 e1 r1=>?_
 obtain ⟨z,hz,h⟩:=h.of
 exact hm H1' H1 vs ds z Q e1.2.1 r1 hz fun w H3 o=>h w H3 (o.after s1 e1)
theorem zft {n:Nat} (h:n<=1000):n<=sizeLine:=Nat.le_trans h (by decide)
theorem zwk {fs:DE->R (List D)} (h:TEd K EX false (z59 fs) U H Q):zz8 (TAd K EX fs) U H Q:=by
 obtain ⟨sx,ρ,H0,s,e,h⟩:=h
 unfold z59 at h
 rw [Rk.bind] at h
 refine TAd.go sx s e h fun ds h vs H1 H1' s1 e1 r1=>?_
 split at h
 . rename_i hl
   refine ⟨zft (by rw [<-r1.length];exact hl),fun p hp=>h _ _ (.val (s1.trans (Same.upd_new hp)) (e1.trans s1 (.new e1.2.1 hp)) ?_)⟩
   have h1p:H1' p=none:=by
    cases q:H1' p with
    | none=>rfl
    | some u=>rw [e1.2.1 p u q] at hp;cases hp
   simp only [RD]
   exact ⟨p,vs,rfl,z0o,r1.mono (Same.upd_new h1p)⟩
 . exact h.elim
theorem Same.none {H H':Hp} (s:Same H H') {p:Addr} (h:H' p=none):H p=none:=by
 cases q:H p with
 | none=>rfl
 | some u=>rw [s p u q] at h;cases h
theorem Out.new {H0 H:Hp} {d:D} {p:Addr} {o:HO} (s:Same H0 H) (hp:H p=none) (hob:∀H',H' p=some o->OB K H0 H' p d):Out K true H0 H d (.ref p) (upd H p o):=
 .fresh (Same.upd_new hp) ((Ext.refl s).grow (Same.upd_new hp)) hp (s.none hp) (hob _ z0o)
theorem zwl {fs:DE->R (List D)} (h:TEd K EX true (zac fs) U H Q):zz9 (TAd K EX fs) U H Q:=by
 obtain ⟨sx,ρ,H0,s,e,h⟩:=h
 unfold zac at h
 rw [Rk.bind] at h
 refine TAd.go sx s e h fun ds h vs H1 H1' s1 e1 r1=>?_
 split at h
 . rename_i hl
   refine ⟨zft (by rw [<-r1.length];exact hl),fun p hp=>h _ _ (Out.after s1 e1 (.new e1.2.1 hp fun H' hH=>?_))⟩
   simp only [OB]
   exact ⟨vs,hH,r1⟩
 . exact h.elim
theorem zrk {t u:DE->R Bool} {Q:Bool->Hp->Prop} (h:TTd K EX (zin t u) U H Q):zyz (TTd K EX t) (TTd K EX u) U H Q:=by
 obtain ⟨sx,ρ,H0,s,e,h⟩:=h
 unfold zin at h
 rw [Rk.bind] at h
 refine TTd.go sx s e h fun b h H1 s1=>?_
 cases b with
 | true=>exact TTd.go (sx.trans s1) (s.trans s1) e h fun b h H' s'=>h H' (s1.trans s')
 | false=>exact h H1 s1
theorem zwm {t u:DE->R Bool} {Q:Bool->Hp->Prop} (h:TTd K EX (bOr t u) U H Q):tOr (TTd K EX t) (TTd K EX u) U H Q:=by
 obtain ⟨sx,ρ,H0,s,e,h⟩:=h
 unfold bOr at h
 rw [Rk.bind] at h
 refine TTd.go sx s e h fun b h H1 s1=>?_
 cases b with
 | true=>exact h H1 s1
 | false=>exact TTd.go (sx.trans s1) (s.trans s1) e h fun b h H' s'=>h H' (s1.trans s')
theorem zrl {t:DE->R Bool} {Q:Bool->Hp->Prop} (h:TTd K EX (zje t) U H Q):zz0 (TTd K EX t) U H Q:=by
 obtain ⟨sx,ρ,H0,s,e,h⟩:=h
 unfold zje at h
 rw [Rk.bind] at h
 exact TTd.go sx s e h fun b h H1 s1=>h H1 s1
end
noncomputable def y09 (r:V->Hp->(Bool->Hp->Prop)->Prop) (t:TE):TT:=fun U H Q=>t U H fun x H'=>r x H' Q
noncomputable def zwn (o:D->D->Option D) (fb:DE->R D):D->DE->R D:=fun d ρ=>(fb ρ).bind fun y=>R.of (o d y)
noncomputable def zwo (o:D->D->Option D) (fb:DE->R D) (g:D->DE->R D):D->DE->R D:=fun d ρ=>(fb ρ).bind fun y=>(R.of (o d y)).bind fun z=>(R.of (asB z)).bind fun b=>if b=true then g y ρ else .ok (.bl false)
noncomputable def zrm (o:D->D->Option D) (fb:DE->R D):D->DE->R Bool:=fun d ρ=>(fb ρ).bind fun y=>(R.of (o d y)).bind fun z=>R.of (asB z)
noncomputable def zrn (o:D->D->Option D) (fb:DE->R D) (g:D->DE->R Bool):D->DE->R Bool:=fun d ρ=>(fb ρ).bind fun y=>(R.of (o d y)).bind fun z=>(R.of (asB z)).bind fun b=>if b=true then g y ρ else .ok false
noncomputable def y0a (fa:DE->R D) (g:D->DE->R D):DE->R D:=fun ρ=>(fa ρ).bind fun x=>g x ρ
noncomputable def y0b (fa:DE->R D) (g:D->DE->R Bool):DE->R Bool:=fun ρ=>(fa ρ).bind fun x=>g x ρ
theorem z8q {d:D} {b:Bool} (h:asB d=some b):d=.bl b:=by
 cases d<;>simp [asB] at h
 subst h;rfl
theorem RD.bl {K:Frag} {H:Hp} {b:Bool} {v:V} (h:RD K H (.bl b) v):v=.bl b:=by simpa only [RD] using h
section
variable {K:Frag} {EX:XW} {U:St} {H:Hp} {Q:VK} {QB:Bool->Hp->Prop}
theorem zwp {fa fb:DE->R D} (h:TEd K EX false (zbn fa fb) U H Q):zr7 (TEd K EX false fa) (TEd K EX false fb) U H Q:=by
 obtain ⟨sx,ρ,H0,s,e,h⟩:=h
 unfold zbn at h
 rw [Rk.bind] at h
 refine TEd.go sx s e h fun d h v H1 H1' s1 e1 r1=>?_
 rw [Rk.bind] at h
 obtain ⟨b,hb,h⟩:=h.of
 cases z8q hb
 cases r1.bl
 cases b with
 | true=>exact TEd.go (sx.trans s1) e1.2.1 (e.mono e1.1) h fun d h v H2 H2' s2 e2 r2=>h v H2 (.val (s1.trans s2) (e1.trans s1 e2) r2)
 | false=>exact h _ H1 (.val s1 e1 (by simp only [RD]))
theorem y0c {fa fb:DE->R D} (h:TEd K EX false (eOr fa fb) U H Q):zzf (TEd K EX false fa) (TEd K EX false fb) U H Q:=by
 obtain ⟨sx,ρ,H0,s,e,h⟩:=h
 unfold eOr at h
 rw [Rk.bind] at h
 refine TEd.go sx s e h fun d h v H1 H1' s1 e1 r1=>?_
 rw [Rk.bind] at h
 obtain ⟨b,hb,h⟩:=h.of
 cases z8q hb
 cases r1.bl
 cases b with
 | true=>exact h _ H1 (.val s1 e1 (by simp only [RD]))
 | false=>exact TEd.go (sx.trans s1) e1.2.1 (e.mono e1.1) h fun d h v H2 H2' s2 e2 r2=>h v H2 (.val (s1.trans s2) (e1.trans s1 e2) r2)
theorem zwq {tr:D->Option Bool} {r:V->Hp->(Bool->Hp->Prop)->Prop} {fa:DE->R D} (ht:zwi K tr r) (h:TTd K EX (z24 tr fa) U H QB):y09 r (TEd K EX false fa) U H QB:=by
 obtain ⟨sx,ρ,H0,s,e,h⟩:=h
 unfold z24 at h
 rw [Rk.bind] at h
 refine TEd.go sx s e h fun d h v H1 H1' s1 e1 r1=>?_
 obtain ⟨b,hb,h⟩:=h.of
 exact ht H1' H1 v d b QB e1.2.1 r1 hb (h H1 s1)
theorem zro {tr:D->Option Bool} {r:V->Hp->(Bool->Hp->Prop)->Prop} {fa:DE->R D} (ht:zwi K tr r) (h:TEd K EX false (eUn (fun d=>(tr d).map fun b=>.bl (!b)) fa) U H Q) :
  (fun U H Q=>(TEd K EX false fa) U H fun x H1=>r x H1 fun k H2=>Q (.bl (!k)) H2) U H Q:=by
 obtain ⟨sx,ρ,H0,s,e,h⟩:=h
 unfold eUn at h
 rw [Rk.bind] at h
 refine TEd.go sx s e h fun d h v H1 H1' s1 e1 r1=>?_
 obtain ⟨z,hz,h⟩:=h.of
 have hz:(tr d).map (fun b=>D.bl (!b))=some z:=hz
 cases hb:tr d with
 | none=>rw [hb] at hz;cases hz
 | some b=>
  rw [hb] at hz;cases hz
  exact ht H1' H1 v d b _ e1.2.1 r1 hb (h _ H1 (.val s1 e1 (by simp only [RD])))
theorem zwr {o:D->D->Option D} {r:R2} {fa fb:DE->R D} (ho:OpD K false o r) (h:TTd K EX (z24 asB (eOp o fa fb)) U H QB):zmy (tOp r (TEd K EX false fa) (TEd K EX false fb)) U H QB:=by
 obtain ⟨sx,ρ,H0,s,e,h⟩:=h
 unfold z24 at h
 rw [Rk.bind] at h
 unfold zmy
 refine zvp (EX:=EX) ho ⟨sx,ρ,H0,s,e,h.mono fun d h v H' o=>?_⟩
 obtain ⟨b,hb,h⟩:=h.of
 obtain ⟨s',H0',e',r'⟩:=o.rd
 cases z8q hb
 cases r'.bl
 exact h H' s'
end
inductive Sl where
 | em | im (d:D) | ow (d:D)
abbrev DS:=List Sl
noncomputable def Sl.see (b:Bool):Sl->Option D
 | .em=>none
 | .im d=>some d
 | .ow d=>if b=true then some d else none
noncomputable def Sl.frz (b:Bool):Sl->Sl
 | .ow d=>if b=true then .im d else .ow d
 | s=>s
noncomputable def vis:List Bool->DS->DE
 | _,[]=>[]
 | [],s::r=>s.see false::vis [] r
 | b::m,s::r=>s.see b::vis m r
noncomputable def frz:List Bool->DS->DS
 | _,[]=>[]
 | [],s::r=>s::r
 | b::m,s::r=>s.frz b::frz m r
theorem zbp:∀(m:List Bool) (ρ:DS) (i:Nat),(vis m ρ)[i]?=(ρ[i]?).map (Sl.see (m.getD i false))
 | [],[],i=>by simp [vis]
 | _::_,[],i=>by simp [vis]
 | [],s::r,0=>by simp [vis]
 | b::m,s::r,0=>by simp [vis]
 | [],s::r,i+1=>by simpa [vis] using zbp [] r i
 | b::m,s::r,i+1=>by simpa [vis] using zbp m r i
theorem z5d:∀(m:List Bool) (ρ:DS),(vis m ρ).length=ρ.length
 | [],[]=>rfl
 | _::_,[]=>rfl
 | [],s::r=>by simp [vis,z5d [] r]
 | b::m,s::r=>by simp [vis,z5d m r]
theorem Sl.frz_false (s:Sl):s.frz false=s:=by cases s<;>simp [Sl.frz]
theorem zbq:∀(m:List Bool) (ρ:DS) (i:Nat),(L2.frz m ρ)[i]?=(ρ[i]?).map (Sl.frz (m.getD i false))
 | [],[],i=>by simp [frz]
 | _::_,[],i=>by simp [frz]
 | [],s::r,i=>by
  simp only [frz,List.getD_nil]
  cases h:(s::r)[i]? with
  | none=>rfl
  | some x=>simp [Sl.frz_false]
 | b::m,s::r,0=>by simp [frz]
 | b::m,s::r,i+1=>by simpa [frz] using zbq m r i
theorem z7w:∀(m:List Bool) (ρ:DS),(L2.frz m ρ).length=ρ.length
 | [],[]=>rfl
 | _::_,[]=>rfl
 | [],s::r=>rfl
 | b::m,s::r=>by simp [frz,z7w m r]
structure RS (K:Frag) (Hc Hb H0:Hp) (ρ:DS) (U:St) (H:Hp):Prop where
 sb:Same Hb H
 ext:Ext Hc Hb H0 H
 len:ρ.length=U.length
 im:∀(i:Nat) d,ρ[i]?=some (.im d)->∃v,U[i]?=some (some v)/\RD K H0 d v
 ow:∀(i:Nat) d,ρ[i]?=some (.ow d)->∃a,U[i]?=some (some (.ref a))/\H0 a=none/\Hb a=none/\OB K H0 H a d
 ap:∀(i j:Nat) d e a,ρ[i]?=some (.ow d)->ρ[j]?=some (.ow e)->U[i]?=some (some (.ref a))->U[j]?=some (some (.ref a))->i=j
theorem RS.grow {K:Frag} {Hc Hb H0 H H':Hp} {ρ:DS} {U:St} (R:RS K Hc Hb H0 ρ U H) (s:Same H H'):RS K Hc Hb H0 ρ U H':=
 ⟨R.sb.trans s,R.ext.grow s,R.len,R.im,fun i d e=>by
  obtain ⟨a,h1,h2,h3,h4⟩:=R.ow i d e
  exact ⟨a,h1,h2,h3,h4.mono (Same.refl _) s⟩,R.ap⟩
def Msk (m:List Bool) (ρ:DS) (U:St) (a:Addr):Prop:=∃i d,m.getD i false=true/\ρ[i]?=some (.ow d)/\U[i]?=some (some (.ref a))
open Classical in
noncomputable def HeOf (m:List Bool) (ρ:DS) (U:St) (H0 H:Hp):Hp:=fun a=>if Msk m ρ U a then H a else H0 a
open Classical in
noncomputable def HdOf (m:List Bool) (ρ:DS) (U:St) (H0:Hp):Hp:=fun a=>if Msk m ρ U a then none else H0 a
section
variable {K:Frag} {Hc Hb H0 H H':Hp} {ρ:DS} {U:St} {m:List Bool}
theorem RS.msk (R:RS K Hc Hb H0 ρ U H) {a:Addr} (h:Msk m ρ U a):H0 a=none/\Hb a=none/\∃o,H a=some o/\¬Imm o:=by
 obtain ⟨i,d,_,h1,h2⟩:=h
 obtain ⟨a',q1,q2,q3,q4⟩:=R.ow i d h1
 rw [h2] at q1;cases q1
 exact ⟨q2,q3,q4.some⟩
theorem z8r {a:Addr} (h:Msk m ρ U a):HeOf m ρ U H0 H a=H a:=by unfold HeOf;exact if_pos h
theorem z3p {a:Addr} (h:¬Msk m ρ U a):HeOf m ρ U H0 H a=H0 a:=by unfold HeOf;exact if_neg h
theorem z8s {a:Addr} (h:Msk m ρ U a):HdOf m ρ U H0 a=none:=by unfold HdOf;exact if_pos h
theorem z3q {a:Addr} (h:¬Msk m ρ U a):HdOf m ρ U H0 a=H0 a:=by unfold HdOf;exact if_neg h
theorem RS.he0 (R:RS K Hc Hb H0 ρ U H) (m:List Bool):Same H0 (HeOf m ρ U H0 H):=fun b o e=>by
 by_cases h:Msk m ρ U b
 . rw [(R.msk h).1] at e;cases e
 . rw [z3p h];exact e
theorem RS.heH (R:RS K Hc Hb H0 ρ U H) (m:List Bool):Same (HeOf m ρ U H0 H) H:=fun b o e=>by
 by_cases h:Msk m ρ U b
 . rw [z8r h] at e;exact e
 . rw [z3p h] at e;exact R.ext.2.1 b o e
theorem RS.re (R:RS K Hc Hb H0 ρ U H) (m:List Bool):RE K (HeOf m ρ U H0 H) (vis m ρ) U:=by
 refine ⟨by rw [z5d];exact R.len,fun i d e=>?_⟩
 rw [zbp] at e
 cases q:ρ[i]? with
 | none=>rw [q] at e;cases e
 | some s=>
  rw [q] at e
  simp only [Option.map_some,Option.some.injEq] at e
  cases s with
  | em=>cases e
  | im d'=>
   cases e
   obtain ⟨v,h1,h2⟩:=R.im i d q
   exact ⟨v,h1,h2.mono (R.he0 m)⟩
  | ow d'=>
   simp only [Sl.see] at e
   split at e
   . rename_i hm
     cases e
     obtain ⟨a,h1,h2,h3,h4⟩:=R.ow i d q
     exact ⟨_,h1,h4.rd (R.he0 m) (z8r ⟨i,d,hm,q,h1⟩)⟩
   . cases e
noncomputable def z68 (keep:Bool) (m:List Bool) (ρ:DS):DS:=if keep=true then ρ else frz m ρ
noncomputable def keeps (fr:Bool) (d:D):Bool:=if fr=true then d.shal else d.noL
def Apt (K:Frag) (fr:Bool) (Hb H0:Hp) (ρ:DS) (U:St) (H:Hp) (d:D) (v:V):Prop:=
 if fr=true then ∃p,v=.ref p/\H0 p=none/\Hb p=none/\OB K H0 H p d/\∀(i:Nat) e,ρ[i]?=some (.ow e)->U[i]?≠some (some (.ref p)) else RD K H0 d v
theorem z8t {keep:Bool} {i:Nat} {d:D} (h:(z68 keep m ρ)[i]?=some (.ow d)):ρ[i]?=some (.ow d)/\(keep=false->m.getD i false=false):=by
 unfold z68 at h
 cases keep with
 | true=>exact ⟨h,fun z=>nomatch z⟩
 | false=>
  rw [if_neg Bool.false_ne_true,zbq] at h
  cases q:ρ[i]? with
  | none=>rw [q] at h;cases h
  | some s=>
   rw [q] at h
   simp only [Option.map_some,Option.some.injEq] at h
   cases s with
   | em=>cases h
   | im d'=>cases h
   | ow d'=>
    simp only [Sl.frz] at h
    split at h
    . cases h
    . rename_i hm
      cases h
      exact ⟨rfl,fun _=>by simpa using hm⟩
theorem RS.frame (R:RS K Hc Hb H0 ρ U H) {H0':Hp} (s:Same H H') (e:Ext (HeOf m ρ U H0 H) H H0' H') (keep:Bool) :
  ∃H0n,RS K Hc Hb H0n (z68 keep m ρ) U H'/\TK H0' H0n/\(keep=false->H0n=H0')/\(∀p,H0' p=none->H0n p=none)/\Same H0 H0n:=by
 have hunm:∀(i:Nat) d' a,ρ[i]?=some (.ow d')->U[i]?=some (some (.ref a))->¬Msk m ρ U a->H0' a=none:=fun i d' a h1 h2 h3=>by
  obtain ⟨a',q1,q2,q3,q4⟩:=R.ow i d' h1
  rw [h2] at q1;cases q1
  obtain ⟨u,hu,_⟩:=q4.some
  exact e.2.2 a (z6q hu) (by rw [z3p h3];exact q2)
 have nmsk:∀{i:Nat} {d':D} {a:Addr},ρ[i]?=some (.ow d')->U[i]?=some (some (.ref a))->m.getD i false=false->¬Msk m ρ U a:=fun {i d' a} h1 h2 h3 ⟨j,e',q1,q2,q3⟩=>by
  have:=R.ap i j d' e' a h1 q2 h2 q3
  subst this
  rw [h3] at q1;cases q1
 cases keep with
 | true=>
  have hth:z68 true m ρ=ρ:=rfl
  have s0:Same H0 (HdOf m ρ U H0'):=fun b u q=>by
   have hb:¬Msk m ρ U b:=fun z=>by rw [(R.msk z).1] at q;cases q
   rw [z3q hb]
   exact e.1 b u (R.he0 m b u q)
  have tk:TK H0' (HdOf m ρ U H0'):=fun b u hi q=>by
   have hb:¬Msk m ρ U b:=fun z=>by
    obtain ⟨_,_,w,hw,hn⟩:=R.msk z
    have:=e.1 b w (by rw [z8r z];exact hw)
    rw [q] at this;cases this
    exact hn hi
   rw [z3q hb];exact q
  refine ⟨HdOf m ρ U H0',⟨R.sb.trans s,⟨R.ext.1.trans s0,fun b u q=>?_,fun a h1 h2=>?_⟩,R.len,fun i d' q=>?_,fun i d' q=>?_,R.ap⟩,tk,(fun z=>nomatch z),fun p hp=>?_,s0⟩
  . by_cases hb:Msk m ρ U b
    . rw [z8s hb] at q;cases q
    . rw [z3q hb] at q;exact e.2.1 b u q
  . by_cases hb:Msk m ρ U a
    . exact z8s hb
    . rw [z3q hb]
      exact e.2.2 a (R.sb.ne h1) (by rw [z3p hb];exact R.ext.2.2 a h1 h2)
  . obtain ⟨w,h1,h2⟩:=R.im i d' q
    exact ⟨w,h1,h2.mono s0⟩
  . obtain ⟨a,h1,h2,h3,h4⟩:=R.ow i d' q
    refine ⟨a,h1,?_,h3,h4.mono s0 s⟩
    by_cases hb:Msk m ρ U a
    . exact z8s hb
    . rw [z3q hb];exact hunm i d' a q h1 hb
  . by_cases hb:Msk m ρ U p
    . exact z8s hb
    . rw [z3q hb];exact hp
 | false=>
  refine ⟨H0',⟨R.sb.trans s,?_,?_,fun i d' q=>?_,fun i d' q=>?_,fun i j d1 d2 a q1 q2=>?_⟩,fun _ _ _ z=>z,fun _=>rfl,fun _ z=>z,(R.he0 m).trans e.1⟩
  . refine ⟨R.ext.1.trans ((R.he0 m).trans e.1),e.2.1,fun a h1 h2=>e.2.2 a (R.sb.ne h1) ?_⟩
    have hb:¬Msk m ρ U a:=fun z=>h1 (R.msk z).2.1
    rw [z3p hb];exact R.ext.2.2 a h1 h2
  . show (L2.frz m ρ).length=_
    rw [z7w];exact R.len
  . have q':(L2.frz m ρ)[i]?=some (.im d'):=q
    rw [zbq] at q'
    cases hs:ρ[i]? with
    | none=>rw [hs] at q';cases q'
    | some sl=>
     rw [hs] at q'
     simp only [Option.map_some,Option.some.injEq] at q'
     cases sl with
     | em=>cases q'
     | im d2=>
      cases q'
      obtain ⟨w,h1,h2⟩:=R.im i d' hs
      exact ⟨w,h1,h2.mono ((R.he0 m).trans e.1)⟩
     | ow d2=>
      simp only [Sl.frz] at q'
      split at q'
      . rename_i hm
        cases q'
        obtain ⟨a,h1,h2,h3,h4⟩:=R.ow i d' hs
        obtain ⟨u,hu,_⟩:=h4.some
        refine ⟨_,h1,h4.rd ((R.he0 m).trans e.1) ?_⟩
        rw [hu]
        exact e.1 a u (by rw [z8r ⟨i,d',hm,hs,h1⟩];exact hu)
      . cases q'
  . obtain ⟨q1,q2⟩:=z8t q
    obtain ⟨a,h1,h2,h3,h4⟩:=R.ow i d' q1
    exact ⟨a,h1,hunm i d' a q1 h1 (nmsk q1 h1 (q2 rfl)),h3,h4.mono ((R.he0 m).trans e.1) s⟩
  . exact R.ap i j d1 d2 a (z8t q1).1 (z8t q2).1
theorem RS.out (R:RS K Hc Hb H0 ρ U H) {fr:Bool} {d:D} {v:V} (o:Out K fr (HeOf m ρ U H0 H) H d v H') :
  ∃H0n,RS K Hc Hb H0n (z68 (keeps fr d) m ρ) U H'/\Apt K fr Hb H0n (z68 (keeps fr d) m ρ) U H' d v:=by
 obtain ⟨s,H0',e,r⟩:=o
 obtain ⟨H0n,R',tk,eq,hn,_⟩:=R.frame s e (keeps fr d)
 refine ⟨H0n,R',?_⟩
 unfold Apt
 cases fr with
 | false=>
  rw [if_neg Bool.false_ne_true] at r ⊢
  cases hk:keeps false d with
  | true=>exact r.tk tk (by simpa [keeps] using hk)
  | false=>rw [eq hk];exact r
 | true=>
  rw [if_pos rfl] at r ⊢
  obtain ⟨p,rfl,hp,hp0,ob⟩:=r
  refine ⟨p,rfl,hn p hp0,R.sb.none hp,?_,fun i e' q z=>?_⟩
  . cases hk:keeps true d with
    | true=>exact ob.tk (by simpa [keeps] using hk) tk
    | false=>rw [eq hk];exact ob
  . obtain ⟨a,h1,_,_,h4⟩:=R.ow i e' (z8t q).1
    rw [z] at h1;cases h1
    obtain ⟨u,hu,_⟩:=h4.some
    rw [hp] at hu;cases hu
theorem RS.outs (R:RS K Hc Hb H0 ρ U H) {ds:List D} {vs:List V} {H0':Hp} (s:Same H H') (e:Ext (HeOf m ρ U H0 H) H H0' H') (r:RDs K H0' ds vs) :
  ∃H0n,RS K Hc Hb H0n (z68 (z4a ds) m ρ) U H'/\RDs K H0n ds vs:=by
 obtain ⟨H0n,R',tk,eq,hn,_⟩:=R.frame s e (z4a ds)
 refine ⟨H0n,R',?_⟩
 cases hk:z4a ds with
 | true=>exact r.tk tk hk
 | false=>rw [eq hk];exact r
noncomputable def zjf (fr:Bool) (i:Nat) (d:D) (ρ:DS):DS:=ρ.set i (if fr=true then .ow d else .im d)
theorem RS.put (R:RS K Hc Hb H0 ρ U H) {fr:Bool} {d:D} {v:V} (a:Apt K fr Hb H0 ρ U H d v) (i:Nat):RS K Hc Hb H0 (zjf fr i d ρ) (U.set i (some v)) H:=by
 unfold zjf
 have other:∀{j:Nat} {s:Sl},j≠i->(ρ.set i s)[j]?=ρ[j]?:=fun {j s} h=>by rw [List.getElem?_set_ne (Ne.symm h)]
 have otherσ:∀{j:Nat},j≠i->(U.set i (some v))[j]?=U[j]?:=fun {j} h=>by rw [List.getElem?_set_ne (Ne.symm h)]
 have here:∀{s s':Sl},(ρ.set i s)[i]?=some s'->s'=s/\(U.set i (some v))[i]?=some (some v):=fun {s s'} h=>by
  have hi:i<ρ.length:=by
   have:=(List.getElem?_eq_some_iff.mp h).1
   simpa using this
  rw [List.getElem?_set_self hi] at h
  cases h
  exact ⟨rfl,by rw [List.getElem?_set_self (by rw [<-R.len];exact hi)]⟩
 refine ⟨R.sb,R.ext,by rw [List.length_set,List.length_set];exact R.len,fun j d' q=>?_,fun j d' q=>?_,fun j k d1 d2 b q1 q2 z1 z2=>?_⟩
 . by_cases hj:j=i
   . subst hj
     obtain ⟨h1,h2⟩:=here q
     refine ⟨v,h2,?_⟩
     cases fr with
     | false=>
      rw [if_neg Bool.false_ne_true] at h1;cases h1
      unfold Apt at a
      rw [if_neg Bool.false_ne_true] at a;exact a
     | true=>rw [if_pos rfl] at h1;cases h1
   . rw [other hj] at q
     rw [otherσ hj];exact R.im j d' q
 . by_cases hj:j=i
   . subst hj
     obtain ⟨h1,h2⟩:=here q
     cases fr with
     | false=>rw [if_neg Bool.false_ne_true] at h1;cases h1
     | true=>
      rw [if_pos rfl] at h1;cases h1
      unfold Apt at a
      rw [if_pos rfl] at a
      obtain ⟨p,rfl,a1,a2,a3,_⟩:=a
      exact ⟨p,h2,a1,a2,a3⟩
   . rw [other hj] at q
     rw [otherσ hj];exact R.ow j d' q
 . by_cases hj:j=i
   . by_cases hk:k=i
     . rw [hj,hk]
     . subst hj
       obtain ⟨h1,h2⟩:=here q1
       rw [other hk] at q2
       rw [otherσ hk] at z2
       rw [h2] at z1
       cases fr with
       | false=>rw [if_neg Bool.false_ne_true] at h1;cases h1
       | true=>
        unfold Apt at a
        rw [if_pos rfl] at a
        obtain ⟨p,rfl,_,_,_,a4⟩:=a
        cases z1
        exact absurd z2 (a4 k d2 q2)
   . by_cases hk:k=i
     . subst hk
       obtain ⟨h1,h2⟩:=here q2
       rw [other hj] at q1
       rw [otherσ hj] at z1
       rw [h2] at z2
       cases fr with
       | false=>rw [if_neg Bool.false_ne_true] at h1;cases h1
       | true=>
        unfold Apt at a
        rw [if_pos rfl] at a
        obtain ⟨p,rfl,_,_,_,a4⟩:=a
        cases z2
        exact absurd z1 (a4 j d1 q1)
     . rw [other hj] at q1
       rw [other hk] at q2
       rw [otherσ hj] at z1
       rw [otherσ hk] at z2
       exact R.ap j k d1 d2 b q1 q2 z1 z2
end
inductive SR where
 | nx (ρ:DS) | bk (ρ:DS) | ct (ρ:DS) | rt (d:D) | er (x:Ex) | st
def SK (K:Frag) (EX:XW) (fr:Bool) (Hc Hb:Hp) (De:Ends):SR->Prop
 | .nx ρ=>∀U H H0,RS K Hc Hb H0 ρ U H->De.nx U H
 | .bk ρ=>∀U H H0,RS K Hc Hb H0 ρ U H->De.bk U H
 | .ct ρ=>∀U H H0,RS K Hc Hb H0 ρ U H->De.ct U H
 | .rt d=>∀v H,Out K fr Hc Hb d v H->De.rt v H
 | .er x=>EX.at x
 | .st=>False
noncomputable def TSd (K:Frag) (EX:XW) (fr:Bool) (g:DS->SR):TS:=fun De U H=>∃Hc Hb H0 ρ,Same EX.hb Hb/\RS K Hc Hb H0 ρ U H/\SK K EX fr Hc Hb De (g ρ)
noncomputable def R.toS {α:Type} (r:R α) (k:α->SR):SR:=match r with
 | .ok a=>k a
 | .er x=>.er x
 | .st=>.st
noncomputable def sNx:DS->SR:=fun ρ=>.nx ρ
noncomputable def sNo:DS->SR:=fun _=>.st
noncomputable def z0y (g1 g2:DS->SR):DS->SR:=fun ρ=>match g1 ρ with
 | .nx ρ'=>g2 ρ'
 | r=>r
noncomputable def see (ρ:DS):DE:=ρ.map (Sl.see true)
noncomputable def sIf (t:DE->R Bool) (g1 g2:DS->SR):DS->SR:=fun ρ=>(t (see ρ)).toS fun b=>if b=true then g1 ρ else g2 ρ
noncomputable def z1n (fr:Bool) (i:Nat) (m:List Bool) (f:DE->R D):DS->SR:=fun ρ=>(f (vis m ρ)).toS fun d=>.nx (zjf fr i d (z68 (keeps fr d) m ρ))
noncomputable def z30 (m:List Bool) (f:DE->R D):DS->SR:=fun ρ=>(f (vis m ρ)).toS fun d=>.rt d
noncomputable def zws:DS->SR:=fun _=>.rt .non
noncomputable def zfu (i:Nat):DS->SR:=fun ρ=>match ρ[i]? with
 | some (.ow d)=>.rt d
 | _=>.st
noncomputable def zea (f:DE->R D):DS->SR:=fun ρ=>(f (see ρ)).toS fun _=>.nx ρ
section
variable {K:Frag} {EX:XW} {fr:Bool} {Hc Hb H0 H H':Hp} {ρ:DS} {U:St} {De:Ends} {m:List Bool}
theorem SK.toS {α:Type} {r:R α} {k:α->SR}:SK K EX fr Hc Hb De (r.toS k)=Rk EX.at r fun a=>SK K EX fr Hc Hb De (k a):=by cases r<;>rfl
theorem zbr:∀(ρ:DS),vis (List.replicate ρ.length true) ρ=see ρ
 | []=>rfl
 | s::r=>by
  show s.see true::vis (List.replicate r.length true) r=_
  rw [zbr r];rfl
theorem RS.extE (R:RS K Hc Hb H0 ρ U H) (m:List Bool):Ext Hc Hb (HeOf m ρ U H0 H) H:=
 ⟨R.ext.1.trans (R.he0 m),R.heH m,fun a h1 h2=>by
  have hb:¬Msk m ρ U a:=fun z=>h1 (R.msk z).2.1
  rw [z3p hb];exact R.ext.2.2 a h1 h2⟩
theorem RS.te (I:RS K Hc Hb H0 ρ U H) (sb:Same EX.hb Hb) {f:DE->R D} {fr':Bool} {k:D->Prop} {Q:VK} (h:Rk EX.at (f (vis m ρ)) k)
  (hk:∀d,k d->∀v H' H0n,RS K Hc Hb H0n (z68 (keeps fr' d) m ρ) U H'->Apt K fr' Hb H0n (z68 (keeps fr' d) m ρ) U H' d v->Q v H'):TEd K EX fr' f U H Q:=
 ⟨sb.trans I.sb,vis m ρ,HeOf m ρ U H0 H,I.heH m,I.re m,h.mono fun d z v H' o=>by
  obtain ⟨H0n,R',a⟩:=I.out o
  exact hk d z v H' H0n R' a⟩
theorem RS.tt (I:RS K Hc Hb H0 ρ U H) (sb:Same EX.hb Hb) {f:DE->R Bool} {k:Bool->Prop} {Q:Bool->Hp->Prop} (h:Rk EX.at (f (see ρ)) k) (hk:∀b,k b->∀H',RS K Hc Hb H0 ρ U H'->Q b H'):TTd K EX f U H Q:=by
 refine ⟨sb.trans I.sb,see ρ,HeOf (List.replicate ρ.length true) ρ U H0 H,I.heH _,?_,h.mono fun b z H' s=>hk b z H' (I.grow s)⟩
 rw [<-zbr];exact I.re _
theorem y0d (h:TSd K EX fr sNx De U H):zql De U H:=by
 obtain ⟨Hc,Hb,H0,ρ,sb,R,h⟩:=h
 exact h U H H0 R
theorem y0e (h:TSd K EX fr sNo De U H):zkz De U H:=by
 obtain ⟨Hc,Hb,H0,ρ,sb,R,h⟩:=h
 exact h
theorem zwt {g1 g2:DS->SR} (h:TSd K EX fr (z0y g1 g2) De U H):zz2 (TSd K EX fr g1) (TSd K EX fr g2) De U H:=by
 obtain ⟨Hc,Hb,H0,ρ,sb,R,h⟩:=h
 refine ⟨Hc,Hb,H0,ρ,sb,R,?_⟩
 unfold z0y at h
 cases q:g1 ρ with
 | nx ρ'=>rw [q] at h;exact fun σ' H' H0' R'=>⟨Hc,Hb,H0',ρ',sb,R',h⟩
 | bk ρ'=>rw [q] at h;exact h
 | ct ρ'=>rw [q] at h;exact h
 | rt d=>rw [q] at h;exact h
 | er x=>rw [q] at h;exact h
 | st=>rw [q] at h;exact h
theorem zwu {t:DE->R Bool} {g1 g2:DS->SR} (h:TSd K EX fr (sIf t g1 g2) De U H):zz3 (TTd K EX t) (TSd K EX fr g1) (TSd K EX fr g2) De U H:=by
 obtain ⟨Hc,Hb,H0,ρ,sb,R,h⟩:=h
 unfold sIf at h
 rw [SK.toS] at h
 refine R.tt sb h fun b h H' R'=>?_
 cases b with
 | true=>exact ⟨Hc,Hb,H0,ρ,sb,R',h⟩
 | false=>exact ⟨Hc,Hb,H0,ρ,sb,R',h⟩
theorem zjg {i:Nat} {f:DE->R D} {fr':Bool} (h:TSd K EX fr (z1n fr' i m f) De U H):zf1 (TEd K EX fr' f) (z2e i) De U H:=by
 obtain ⟨Hc,Hb,H0,ρ,sb,R,h⟩:=h
 unfold z1n at h
 rw [SK.toS] at h
 exact R.te sb h fun d h v H' H0n R' a=>h _ H' H0n (R'.put a i)
theorem zwv {f:DE->R D} (h:TSd K EX fr (z30 m f) De U H):zw2 (TEd K EX fr f) De U H:=by
 obtain ⟨Hc,Hb,H0,ρ,sb,R,h⟩:=h
 unfold z30 at h
 rw [SK.toS] at h
 exact ⟨sb.trans R.sb,vis m ρ,HeOf m ρ U H0 H,R.heH m,R.re m,h.mono fun d z v H' o=>z v H' (o.after R.sb (R.extE m))⟩
theorem zrp {i:Nat} (h:TSd K EX true (zfu i) De U H):zw2 (zff i) De U H:=by
 obtain ⟨Hc,Hb,H0,ρ,sb,R,h⟩:=h
 unfold zfu at h
 split at h
 . rename_i d q
   obtain ⟨a,h1,h2,h3,h4⟩:=R.ow i d q
   show zff i U H De.rt
   unfold zff
   rw [h1]
   exact h _ H (.fresh R.sb R.ext h3 h2 h4)
 . exact h.elim
theorem zrq {f:DE->R D} (h:TSd K EX fr (zea f) De U H):ziv (TEd K EX false f) De U H:=by
 obtain ⟨Hc,Hb,H0,ρ,sb,R,h⟩:=h
 unfold zea at h
 rw [SK.toS] at h
 refine ⟨sb.trans R.sb,see ρ,HeOf (List.replicate ρ.length true) ρ U H0 H,R.heH _,by rw [<-zbr];exact R.re _,h.mono fun d z v H' o=>?_⟩
 exact z U H' H0 (R.grow o.1)
theorem RS.mutate (R:RS K Hc Hb H0 ρ U H) {i:Nat} {d d':D} {a:Addr} {o:HO} (h:ρ[i]?=some (.ow d)) (ha:U[i]?=some (some (.ref a))) (ob:OB K H0 (upd H a o) a d'):RS K Hc Hb H0 (ρ.set i (.ow d')) U (upd H a o):=by
 obtain ⟨a',q1,q2,q3,q4⟩:=R.ow i d h
 rw [ha] at q1;cases q1
 have hi:i<ρ.length:=(List.getElem?_eq_some_iff.mp h).1
 have other:∀{j:Nat} {s:Sl},j≠i->(ρ.set i s)[j]?=ρ[j]?:=fun {j s} h=>by rw [List.getElem?_set_ne (Ne.symm h)]
 have here:(ρ.set i (.ow d'))[i]?=some (.ow d'):=by rw [List.getElem?_set_self hi]
 have sm:∀{H1:Hp},Same H1 H->H1 a=none->Same H1 (upd H a o):=fun s n=>s.upd_at n
 refine ⟨sm R.sb q3,⟨R.ext.1,sm R.ext.2.1 q2,R.ext.2.2⟩,by rw [List.length_set];exact R.len,fun j d2 q=>?_,fun j d2 q=>?_,fun j k d1 d2 b z1 z2=>?_⟩
 . have hj:j≠i:=fun z=>by subst z;rw [here] at q;cases q
   rw [other hj] at q
   exact R.im j d2 q
 . by_cases hj:j=i
   . subst hj
     rw [here] at q;cases q
     exact ⟨a,ha,q2,q3,ob⟩
   . rw [other hj] at q
     obtain ⟨b,h1,h2,h3,h4⟩:=R.ow j d2 q
     have hb:b≠a:=fun z=>hj (R.ap j i d2 d b q h h1 (by rw [z];exact ha))
     exact ⟨b,h1,h2,h3,h4.at (z0j hb)⟩
 . have back:∀{j:Nat} {d1:D},(ρ.set i (.ow d'))[j]?=some (.ow d1)->∃d0,ρ[j]?=some (.ow d0):=fun {j d1} z=>by
    by_cases hj:j=i
    . subst hj;exact ⟨d,h⟩
    . rw [other hj] at z;exact ⟨_,z⟩
   obtain ⟨e1,z1⟩:=back z1
   obtain ⟨e2,z2⟩:=back z2
   exact R.ap j k e1 e2 b z1 z2
def zvr (K:Frag) (mt:D->List D->Option D) (r:V->List V->Hp->VK->Prop):Prop:=∀(H0 H:Hp) (a:Addr) (d d':D) (ds:List D) (vs:List V) (Q:VK),Same H0 H->H0 a=none->OB K H0 H a d->RDs K H0 ds vs->mt d ds=some d' ->
 (∀v o,OB K H0 (upd H a o) a d'->Q v (upd H a o))->r (.ref a) vs H Q
noncomputable def isT (T:String):D->Bool
 | .lst _=>T=="list"
 | .dk _ _=>T=="dict"
 | .dt _ _=>T=="dict"
 | _=>false
def TyD (K:Frag) (T:String):Prop:=∀(H0 H:Hp) (a:Addr) (d:D),OB K H0 H a d->isT T d=true->tyV K T (.ref a) H
noncomputable def zeb (T:String) (mt:D->List D->Option D) (i:Nat) (m:List Bool) (fs:DE->R (List D)):DS->SR:=fun ρ=>match ρ[i]? with
 | some (.ow d0)=>if isT T d0=true then (fs (vis m ρ)).toS fun ds=>match (z68 (z4a ds) m ρ)[i]? with
  | some (.ow d)=>(R.of (mt d ds)).toS fun d'=>.nx ((z68 (z4a ds) m ρ).set i (.ow d'))
  | _=>.st
  else .st
 | _=>.st
theorem zww {T:String} {mt:D->List D->Option D} {r:V->List V->Hp->VK->Prop} {i:Nat} {fs:DE->R (List D)} (hm:zvr K mt r) (hT:TyD K T) (h:TSd K EX fr (zeb T mt i m fs) De U H) :
  ziv (tBM K T r (zff i) (TAd K EX fs)) De U H:=by
 obtain ⟨Hc,Hb,H0,ρ,sb,R,h⟩:=h
 unfold zeb at h
 split at h
 . rename_i d0 q0
   split at h
   . rename_i hty
     rw [SK.toS] at h
     obtain ⟨a,h1,h2,h3,h4⟩:=R.ow i d0 q0
     unfold ziv tBM zff
     rw [h1]
     refine ⟨hT H0 H a d0 h4 hty,sb.trans R.sb,vis m ρ,HeOf m ρ U H0 H,R.heH m,R.re m,h.mono fun ds h vs H' H0' s e rds=>?_⟩
     obtain ⟨H0n,R',rd'⟩:=R.outs s e rds
     split at h
     . rename_i d q
       rw [SK.toS] at h
       obtain ⟨d',hd',h⟩:=h.of
       obtain ⟨a',z1,z2,z3,z4⟩:=R'.ow i d q
       rw [h1] at z1;cases z1
       exact hm H0n H' a d d' ds vs _ R'.ext.2.1 z2 z4 rd' hd' fun v o ob=>h U _ H0n (R'.mutate q h1 ob)
     . exact h.elim
   . exact h.elim
 . exact h.elim
noncomputable def zwx (T:String) (mt:D->List D->Option D) (i:Nat):DS->SR:=fun ρ=>match ρ[i]? with
 | some (.ow d)=>if isT T d=true then (R.of (mt d [])).toS fun d'=>.nx (ρ.set i (.ow d')) else .st
 | _=>.st
def zzm (K:Frag) (st:D->D->D->Option D) (r:zq1):Prop:=∀(H0 H:Hp) (a:Addr) (d d' dk dv:D) (y v:V) (Q:Hp->Prop),Same H0 H->H0 a=none->OB K H0 H a d->RD K H0 dk y->RD K H0 dv v->st d dk dv=some d' ->
 (∀o,OB K H0 (upd H a o) a d'->Q (upd H a o))->r (.ref a) y v H Q
noncomputable def zrr (st:D->D->D->Option D) (i:Nat) (m:List Bool) (fk fv:DE->R D):DS->SR:=fun ρ=>(fv (vis m ρ)).toS fun dv=>match (z68 (keeps false dv) m ρ)[i]? with
 | some (.ow _)=>(fk (vis m (z68 (keeps false dv) m ρ))).toS fun dk=>(match (z68 (keeps false dk) m (z68 (keeps false dv) m ρ))[i]? with
  | some (.ow d)=>(R.of (st d dk dv)).toS fun d'=>.nx ((z68 (keeps false dk) m (z68 (keeps false dv) m ρ)).set i (.ow d'))
  | _=>.st)
 | _=>.st
theorem Apt.rd {ρ:DS} {d:D} {v:V} (a:Apt K false Hb H0 ρ U H d v):RD K H0 d v:=by
 unfold Apt at a
 rw [if_neg Bool.false_ne_true] at a;exact a
end
section
variable {K:Frag} {EX:XW} {fr:Bool} {Hc Hb H0 H H':Hp} {ρ:DS} {U:St} {De:Ends} {m:List Bool}
theorem zwy {st:D->D->D->Option D} {r:zq1} {i:Nat} {fk fv:DE->R D} (hs:zzm K st r) (h:TSd K EX fr (zrr st i m fk fv) De U H) :
  zf1 (TEd K EX false fv) (zw4 (zff i) (TEd K EX false fk) r) De U H:=by
 obtain ⟨Hc,Hb,H0,ρ,sb,I,h⟩:=h
 unfold zrr at h
 rw [SK.toS] at h
 refine I.te sb h fun dv h v H1 H1n I1 a1=>?_
 split at h
 . rename_i d0 q0
   rw [SK.toS] at h
   obtain ⟨a,h1,h2,h3,h4⟩:=I1.ow i d0 q0
   unfold zw4 zff
   rw [h1]
   refine ⟨sb.trans I1.sb,vis m _,HeOf m _ U H1n H1,I1.heH m,I1.re m,h.mono fun dk h y H2 o2=>?_⟩
   obtain ⟨s2,H2',e2,r2⟩:=o2.rd
   obtain ⟨H2n,I2,tk,eq,hn,sub⟩:=I1.frame s2 e2 (keeps false dk)
   have r2':RD K H2n dk y:=by
    cases hk:keeps false dk with
    | true=>exact r2.tk tk (by simpa [keeps] using hk)
    | false=>rw [eq hk];exact r2
   split at h
   . rename_i d q
     rw [SK.toS] at h
     obtain ⟨d',hd',h⟩:=h.of
     obtain ⟨a',z1,z2,z3,z4⟩:=I2.ow i d q
     rw [h1] at z1;cases z1
     exact hs H2n H2 a d d' dk dv y v _ I2.ext.2.1 z2 z4 r2' (a1.rd.mono sub) hd' fun o ob=>h U _ H2n (I2.mutate q h1 ob)
   . exact h.elim
 . exact h.elim
inductive Tg where
 | n (i:Nat) | t (is:List Nat)
noncomputable def zd4:List Nat->List D->DS->DS
 | i::is,d::ds,ρ=>zd4 is ds (zjf false i d ρ)
 | _,_,ρ=>ρ
noncomputable def items:D->Option (List D)
 | .tup ds=>some ds
 | .lst ds=>some ds
 | _=>none
noncomputable def zl8:Tg->D->DS->Option DS
 | .n i,d,ρ=>some (zjf false i d ρ)
 | .t is,d,ρ=>(items d).bind fun ds=>if ds.length=is.length then some (zd4 is ds ρ) else none
noncomputable def TGd (K:Frag) (tg:Tg):TG:=fun v U H Q=>∃Hc Hb H0 ρ d ρ',RS K Hc Hb H0 ρ U H/\RD K H0 d v/\zl8 tg d ρ=some ρ'/\∀σ',RS K Hc Hb H0 ρ' σ' H->Q σ' H
theorem RS.putI (I:RS K Hc Hb H0 ρ U H) {d:D} {v:V} (r:RD K H0 d v) (i:Nat):RS K Hc Hb H0 (zjf false i d ρ) (U.set i (some v)) H:=
 I.put (fr:=false) (by unfold Apt;rw [if_neg Bool.false_ne_true];exact r) i
theorem y0f {i:Nat} {v:V} {Q:St->Hp->Prop} (h:TGd K (.n i) v U H Q):z2e i v U H Q:=by
 obtain ⟨Hc,Hb,H0,ρ,d,ρ',I,r,e,q⟩:=h
 simp only [zl8,Option.some.injEq] at e
 subst e
 exact q _ (I.putI r i)
noncomputable def zd5:List Nat->TGs
 | []=>zrb
 | i::is=>zl5 (z2e i) (zd5 is)
theorem z6r:∀(is:List Nat) {ds:List D} {xs:List V} {ρ:DS} {U:St} {Q:St->Hp->Prop},RS K Hc Hb H0 ρ U H->RDs K H0 ds xs->ds.length=is.length->(∀σ',RS K Hc Hb H0 (zd4 is ds ρ) σ' H->Q σ' H)->zd5 is xs U H Q
 | [],[],_,ρ,U,Q,I,r,_,q=>by
  simp only [RDs] at r;subst r
  exact q U I
 | [],_::_,_,_,_,_,_,_,hl,_=>by simp at hl
 | _::_,[],_,_,_,_,_,_,hl,_=>by simp at hl
 | i::is,d::ds,_,ρ,U,Q,I,r,hl,q=>by
  simp only [RDs] at r
  obtain ⟨x,xs,rfl,r1,r2⟩:=r
  exact z6r is (I.putI r1 i) r2 (by simpa using hl) q
theorem y0g {is:List Nat} {v:V} {Q:St->Hp->Prop} (h:TGd K (.t is) v U H Q):zfl is.length (zd5 is) v U H Q:=by
 obtain ⟨Hc,Hb,H0,ρ,d,ρ',I,r,e,q⟩:=h
 simp only [zl8] at e
 cases d<;>simp only [items,Option.bind_none,Option.bind_some] at e<;>first | cases e | skip
 . rename_i ds
   split at e
   . rename_i hl
     cases e
     simp only [RD] at r
     obtain ⟨a,xs,rfl,ha,rs⟩:=r
     unfold zfl
     simp only [I.ext.2.1 a _ ha]
     exact ⟨by rw [<-rs.length];exact hl,z6r is I rs hl q⟩
   . cases e
 . rename_i ds
   split at e
   . rename_i hl
     cases e
     simp only [RD] at r
     obtain ⟨a,xs,rfl,ha,rs⟩:=r
     unfold zfl
     simp only [I.ext.2.1 a _ ha]
     exact ⟨by rw [<-rs.length];exact hl,z6r is I rs hl q⟩
   . cases e
noncomputable def zq5 (tg:Tg) (m:List Bool) (f:DE->R D):DS->SR:=fun ρ=>(f (vis m ρ)).toS fun d=>match zl8 tg d (z68 (keeps false d) m ρ) with
 | some ρ'=>.nx ρ'
 | none=>.st
theorem zwz {tg:Tg} {f:DE->R D} (h:TSd K EX fr (zq5 tg m f) De U H):zf1 (TEd K EX false f) (TGd K tg) De U H:=by
 obtain ⟨Hc,Hb,H0,ρ,sb,I,h⟩:=h
 unfold zq5 at h
 rw [SK.toS] at h
 refine I.te sb h fun d h v H' H0n I' a=>?_
 split at h
 . rename_i ρ' q
   exact ⟨Hc,Hb,H0n,_,d,ρ',I',a.rd,q,fun σ' I2=>h σ' H' H0n I2⟩
 . exact h.elim
noncomputable def Hno:Hp:=fun _=>none
def zrs (K:Frag) (J:It) (H0:Hp) (ds:List D):Prop:=
 (∀(i:Nat) d,ds[i]?=some d->∀H H1,Same H0 H1->Same H1 H->J.go i H/\∀x H',J.yld i H x H'->Same H H'/\∃H1',Ext H1 H H1' H'/\RD K H1' d x)/\∀H,Same H0 H->J.stop ds.length H
noncomputable def TId (K:Frag) (EX:XW) (kp:Bool) (f:DE->R (List D)):TI:=fun U H Q=>Same EX.hb H/\∃ρ H0,Same H0 H/\RE K H0 ρ U/\Rk EX.at (f ρ) fun ds=>∀J H' H0',Same H H'->Ext H0 H H0' H'->zrs K J (if kp=true then Hno else H0') ds->Q J H'
noncomputable def z9p (tg:Tg) (g:DS->SR):List D->DS->SR
 | [],ρ=>.nx ρ
 | d::ds,ρ=>match zl8 tg d ρ with
  | none=>.st
  | some ρ1=>match g ρ1 with
   | .nx ρ2=>z9p tg g ds ρ2
   | .ct ρ2=>z9p tg g ds ρ2
   | .bk ρ2=>.nx ρ2
   | .rt d=>.rt d
   | .er x=>.er x
   | .st=>.st
noncomputable def zes (kp:Bool) (m:List Bool) (f:DE->R (List D)) (tg:Tg) (g:DS->SR):DS->SR:=fun ρ=>(f (vis m ρ)).toS fun ds=>z9p tg g ds (z68 kp m ρ)
theorem Ext.base {Hc':Hp} (a:Ext Hc Hb Hc' H) (b:Ext Hc' Hb H0 H'):Ext Hc Hb H0 H':=⟨a.1.trans b.1,b.2.1,fun c h1 h2=>b.2.2 c h1 (a.2.2 c h1 h2)⟩
theorem RS.base {Hc' H1:Hp} (a:Ext Hc Hb Hc' H1) (I:RS K Hc' Hb H0 ρ U H):RS K Hc Hb H0 ρ U H:=⟨I.sb,a.base I.ext,I.len,I.im,I.ow,I.ap⟩
theorem RS.self (I:RS K Hc Hb H0 ρ U H):RS K H0 Hb H0 ρ U H:=⟨I.sb,⟨Same.refl _,I.ext.2.1,fun _ _ z=>z⟩,I.len,I.im,I.ow,I.ap⟩
theorem Out.base {Hc':Hp} {d:D} {v:V} (a:Ext Hc Hb Hc' H) (o:Out K fr Hc' Hb d v H'):Out K fr Hc Hb d v H':=by
 obtain ⟨s,H0',e,r⟩:=o
 exact ⟨s,H0',a.base e,r⟩
theorem RS.sees {H1':Hp} (I:RS K Hc Hb H0 ρ U H) (s:Same H H') (e:Ext H0 H H1' H'):RS K Hc Hb H1' ρ U H':=
 ⟨I.sb.trans s,⟨I.ext.1.trans e.1,e.2.1,fun a h1 h2=>e.2.2 a (I.sb.ne h1) (I.ext.2.2 a h1 h2)⟩,I.len,fun i d q=>by
  obtain ⟨v,h1,h2⟩:=I.im i d q
  exact ⟨v,h1,h2.mono e.1⟩,fun i d q=>by
  obtain ⟨a,h1,h2,h3,h4⟩:=I.ow i d q
  obtain ⟨u,hu,_⟩:=h4.some
  exact ⟨a,h1,e.2.2 a (z6q hu) h2,h3,h4.mono e.1 s⟩,I.ap⟩
theorem y0h {J:It} {Hn H1:Hp} {ρ:DS} {ds:List D} {tg:Tg} {g:DS->SR} (sb:Same EX.hb Hb) (I1:RS K Hc Hb Hn ρ U H1) (it':zrs K J Hn ds) (h:SK K EX fr Hc Hb De (z9p tg g ds ρ)):zzg J (TGd K tg) (TSd K EX fr g) De U H1:=by
 have ex1:Ext Hc Hb Hn H1:=I1.ext
 refine ⟨fun i mm U H=>mm=ds.length - i/\i<=ds.length/\∃ρ H0,RS K Hn Hb H0 ρ U H/\SK K EX fr Hc Hb De (z9p tg g (ds.drop i) ρ),⟨ds.length,by simp,Nat.zero_le _,_,Hn,I1.self,h⟩,?_⟩
 rintro i mm U H ⟨rfl,hi,ρ,H0,I2,h⟩
 have sn:Same Hn H0:=I2.ext.1
 by_cases hlt:i<ds.length
 . have hd:ds[i]?=some ds[i]:=by simp [hlt]
   obtain ⟨hgo,hy⟩:=it'.1 i _ hd H H0 sn I2.ext.2.1
   have hdr:ds.drop i=ds[i]::ds.drop (i+1):=List.drop_eq_getElem_cons hlt
   rw [hdr] at h
   refine .inr ⟨hgo,fun σ' H'=>∃ρ' H0',RS K Hn Hb H0' ρ' σ' H'/\SK K EX fr Hc Hb De (z9p tg g (ds.drop (i+1)) ρ'),fun σ' H' ⟨ρ',H0',q⟩=>⟨ds.length - (i+1),by omega,rfl,hlt,ρ',H0',q⟩,fun x H' y=>?_⟩
   obtain ⟨s3,H3,e3,r3⟩:=hy x H' y
   have I3:=I2.sees s3 e3
   unfold z9p at h
   split at h
   . exact h.elim
   . rename_i ρ1 q1
     refine ⟨Hn,Hb,H3,ρ,ds[i],ρ1,I3,r3,q1,fun σ' I4=>⟨Hn,Hb,H3,ρ1,sb,I4,?_⟩⟩
     cases qg:g ρ1 with
     | nx ρ2=>rw [qg] at h;exact fun σ5 H5 H05 I5=>⟨ρ2,H05,I5,h⟩
     | ct ρ2=>rw [qg] at h;exact fun σ5 H5 H05 I5=>⟨ρ2,H05,I5,h⟩
     | bk ρ2=>rw [qg] at h;exact fun σ5 H5 H05 I5=>h σ5 H5 H05 (I5.base ex1)
     | rt d=>rw [qg] at h;exact fun v H5 o=>h v H5 (o.base ex1)
     | er x=>rw [qg] at h;exact h
     | st=>rw [qg] at h;exact h
 . have e:i=ds.length:=by omega
   subst e
   rw [List.drop_length] at h
   refine .inl ⟨it'.2 H (sn.trans I2.ext.2.1),?_⟩
   exact h U H H0 (I2.base ex1)
theorem zx0 {kp:Bool} {f:DE->R (List D)} {tg:Tg} {g:DS->SR} (h:TSd K EX fr (zes kp m f tg g) De U H):zra (TId K EX kp f) (TGd K tg) (TSd K EX fr g) De U H:=by
 obtain ⟨Hc,Hb,H0,ρ,sb,I,h⟩:=h
 unfold zes at h
 rw [SK.toS] at h
 refine ⟨sb.trans I.sb,vis m ρ,HeOf m ρ U H0 H,I.heH m,I.re m,h.mono fun ds h J H1 H1' s1 e1 it=>?_⟩
 obtain ⟨Hn,I1,tk,eq,hn,sub⟩:=I.frame s1 e1 kp
 have it':zrs K J Hn ds:=by
  cases kp with
  | true=>
   rw [if_pos rfl] at it
   exact ⟨fun i d q H H1 a b=>it.1 i d q H H1 (fun _ _ z=>nomatch z) b,fun H a=>it.2 H fun _ _ z=>nomatch z⟩
  | false=>rw [if_neg Bool.false_ne_true,<-eq rfl] at it;exact it
 exact y0h sb I1 it' h
noncomputable def z4r (t:DE->R Bool) (g:DS->SR):Nat->DS->SR
 | 0,_=>.st
 | n+1,ρ=>(t (see ρ)).toS fun b=>if b=true then (match g ρ with
  | .nx ρ2=>z4r t g n ρ2
  | .ct ρ2=>z4r t g n ρ2
  | .bk ρ2=>.nx ρ2
  | .rt d=>.rt d
  | .er x=>.er x
  | .st=>.st) else .nx ρ
noncomputable def zad (n:Nat) (t:DE->R Bool) (g:DS->SR):DS->SR:=z4r t g n
theorem zng {n:Nat} {t:DE->R Bool} {g:DS->SR} (h:TSd K EX fr (zad n t g) De U H):zl1 (TTd K EX t) (TSd K EX fr g) De U H:=by
 obtain ⟨Hc,Hb,H0,ρ,sb,I,h⟩:=h
 refine ⟨fun mm U H=>∃ρ H0,RS K Hc Hb H0 ρ U H/\SK K EX fr Hc Hb De (z4r t g mm ρ),⟨n,ρ,H0,I,h⟩,?_⟩
 rintro mm U H ⟨ρ,H0,I,h⟩
 cases mm with
 | zero=>exact h.elim
 | succ mm=>
  unfold z4r at h
  rw [SK.toS] at h
  refine I.tt sb h fun b h H' I'=>?_
  cases b with
  | false=>exact h U H' H0 I'
  | true=>
   rw [if_pos rfl] at h ⊢
   refine ⟨fun σ' H'=>∃ρ' H0',RS K Hc Hb H0' ρ' σ' H'/\SK K EX fr Hc Hb De (z4r t g mm ρ'),fun σ' H' q=>⟨mm,Nat.lt_succ_self _,q⟩,Hc,Hb,H0,ρ,sb,I',?_⟩
   cases qg:g ρ with
   | nx ρ2=>rw [qg] at h;exact fun σ5 H5 H05 I5=>⟨ρ2,H05,I5,h⟩
   | ct ρ2=>rw [qg] at h;exact fun σ5 H5 H05 I5=>⟨ρ2,H05,I5,h⟩
   | bk ρ2=>rw [qg] at h;exact fun σ5 H5 H05 I5=>h σ5 H5 H05 I5
   | rt d=>rw [qg] at h;exact fun v H5 o=>h v H5 o
   | er x=>rw [qg] at h;exact h
   | st=>rw [qg] at h;exact h
noncomputable def R.noE {α:Type} (r:R α):R α:=match r with
 | .er _=>.st
 | r=>r
theorem Rk.noE {α:Type} {EX EX':Ex->Prop} {r:R α} {k:α->Prop} (h:Rk EX r.noE k):Rk EX' r k:=by
 cases r with
 | ok a=>exact h
 | er x=>exact h.elim
 | st=>exact h
def BD (K:Frag) (bn:D->Option (List D)) (B:V->Hp->(List V->Hp->Prop)->Prop):Prop:=∀(H0 H:Hp) (x:V) (d:D) (ds:List D) (Q:List V->Hp->Prop),Same H0 H->RD K H0 d x->bn d=some ds->(∀vs,RDs K H0 ds vs->Q vs H)->B x H Q
noncomputable def b1:D->Option (List D):=fun d=>some [d]
noncomputable def bT (n:Nat):D->Option (List D)
 | .tup ds=>if ds.length=n then some ds else none
 | _=>none
theorem zzn:BD K b1 cB1:=fun H0 H x d ds Q s r e q=>by
 simp only [b1,Option.some.injEq] at e
 subst e
 exact q [x] (.one r)
theorem zzo {n:Nat}:BD K (bT n) (cBT n):=fun H0 H x d ds Q s r e q=>by
 cases d<;>simp only [bT] at e<;>first | cases e | skip
 rename_i es
 split at e
 . rename_i hl
   cases e
   simp only [RD] at r
   obtain ⟨a,xs,rfl,ha,rs⟩:=r
   unfold cBT
   simp only [s a _ ha]
   exact ⟨by rw [<-rs.length];exact hl,q xs rs⟩
 . cases e
noncomputable def sel (ix:List Nat) (ρ:DE):DE:=ix.map fun j=>(ρ[j]?).getD none
noncomputable def z4s (bn:D->Option (List D)) (t:DE->R Bool) (f:DE->R D) (cs:DE):List D->R (List D)
 | []=>.ok []
 | d::ds=>(R.of (bn d)).bind fun bs=>(t (bs.map some++cs)).noE.bind fun b=>if b=true then (f (bs.map some++cs)).noE.bind fun y=>(z4s bn t f cs ds).bind fun ys=>.ok (y::ys) else z4s bn t f cs ds
noncomputable def z31 (fi:DE->R (List D)) (bn:D->Option (List D)) (ix:List Nat) (t:DE->R Bool) (f:DE->R D):DE->R D:=fun ρ=>(fi ρ).bind fun ds=>if ds.length<=100000 then (z4s bn t f (sel ix ρ) ds).bind fun ys=>.ok (.lst ys) else .st
theorem RE.sel {ρ:DE} {vs:List V} {ds:List D} (h:RE K H0 ρ U) (r:RDs K H0 ds vs) (ix:List Nat):RE K H0 (ds.map some++sel ix ρ) (vs.map some++zil ix U):=by
 have hl:=r.length
 refine ⟨by simp [L2.sel,zil,hl],fun i d e=>?_⟩
 by_cases hi:i<ds.length
 . rw [List.getElem?_append_left (by simpa using hi),List.getElem?_map] at e
   rw [List.getElem?_append_left (by simpa [<-hl] using hi),List.getElem?_map]
   cases q:ds[i]? with
   | none=>rw [q] at e;cases e
   | some d'=>
    rw [q] at e;cases e
    obtain ⟨x,h1,h2⟩:=r.get' q
    exact ⟨x,by rw [h1];rfl,h2⟩
 . rw [List.getElem?_append_right (by simpa using hi)] at e
   rw [List.getElem?_append_right (by simpa [<-hl] using hi)]
   simp only [List.length_map] at e ⊢
   rw [<-hl]
   unfold L2.sel at e
   unfold zil
   rw [List.getElem?_map] at e ⊢
   cases q:ix[i - ds.length]? with
   | none=>rw [q] at e;cases e
   | some j=>
    rw [q] at e
    simp only [Option.map_some,Option.some.injEq] at e ⊢
    cases qj:ρ[j]? with
    | none=>rw [qj] at e;cases e
    | some o=>
     rw [qj] at e
     simp only [Option.getD_some] at e
     subst e
     obtain ⟨v,h1,h2⟩:=h.2 j d qj
     exact ⟨v,by rw [h1];rfl,h2⟩
theorem z4t {n:Nat} (h:n<100000):n<sizeLine:=Nat.lt_of_lt_of_le h (by decide)
theorem znh {W:XW} {kp:Bool} {fi:DE->R (List D)} {bn:D->Option (List D)} {B:V->Hp->(List V->Hp->Prop)->Prop} {ix:List Nat} {t:DE->R Bool} {f:DE->R D} {Q:VK} {tt:TT} (hW:Same W.hb EX.hb) (hB:BD K bn B) (htt:∀U H Q,TTd K F0 t U H Q->tt U H Q)
  (h:TEd K EX true (z31 fi bn ix t f) U H Q):za8 (TId K EX kp fi) B ix tt (TEd K W false f) U H Q:=by
 obtain ⟨sx,ρ,H0,s,e,h⟩:=h
 unfold z31 at h
 rw [Rk.bind] at h
 refine ⟨sx,ρ,H0,s,e,h.mono fun ds h J H1 H1' s1 e1 it D hD=>?_⟩
 split at h
 . rename_i hsz
   rw [Rk.bind] at h
   have it':zrs K J H1' ds:=by
    cases kp with
    | true=>rw [if_pos rfl] at it;exact ⟨fun i d q H H1 a b=>it.1 i d q H H1 (fun _ _ z=>nomatch z) b,fun H a=>it.2 H fun _ _ z=>nomatch z⟩
    | false=>rw [if_neg Bool.false_ne_true] at it;exact it
   have e':=e.mono e1.1
   have hDn:H1' D=none:=e1.2.1.none hD
   refine ⟨fun i mm ys H2=>mm=ds.length - i/\i<=ds.length/\ys.length<=i/\∃acc H2',Same H1 H2/\H2 D=some (.lst ys)/\Ext H1' H1 H2' H2/\H2' D=none/\RDs K H2' acc ys /\
    Rk EX.at (z4s bn t f (L2.sel ix ρ) (ds.drop i)) fun rest=>∀v H',Out K true H0 H (.lst (acc++rest)) v H'->Q v H',⟨ds.length,by simp,Nat.zero_le _,Nat.le_refl _,[],H1',Same.upd_new hD,z0o,(Ext.refl e1.2.1).grow (Same.upd_new hD),hDn,.nil,h⟩,?_⟩
   rintro i mm ys H2 ⟨rfl,hi,hys,acc,H2',s2,hd2,e2,hdn2,r2,h⟩
   refine ⟨hd2,?_⟩
   by_cases hlt:i<ds.length
   . have hd:ds[i]?=some ds[i]:=by simp [hlt]
     obtain ⟨hgo,hy⟩:=it'.1 i _ hd H2 H2' e2.1 e2.2.1
     have hdr:ds.drop i=ds[i]::ds.drop (i+1):=List.drop_eq_getElem_cons hlt
     rw [hdr] at h
     unfold z4s at h
     rw [Rk.bind] at h
     obtain ⟨bs,hbs,h⟩:=h.of
     rw [Rk.bind] at h
     refine .inr ⟨hgo,fun x H3 y=>?_⟩
     obtain ⟨s3,H3',e3,r3⟩:=hy x H3 y
     refine hB H3' H3 x _ bs _ e3.2.1 r3 hbs fun vs rvs=>?_
     have en:=(e'.mono (e2.1.trans e3.1)).sel rvs ix
     have e23:=e2.trans s2 e3
     refine htt _ _ _ ⟨F0.same _,_,H3',e3.2.1,en,(Rk.noE h).mono fun b h H4 s4=>?_⟩
     have s14:=s2.trans (s3.trans s4)
     have hd4:H4 D=some (.lst ys):=s4 _ _ (s3 _ _ hd2)
     have hdn3:H3' D=none:=e3.2.2 D (z6q hd2) hdn2
     have e14:Ext H1' H1 H3' H4:=e23.grow s4
     cases b with
     | false=>
      rw [if_neg Bool.false_ne_true] at h
      dsimp only
      rw [if_neg Bool.false_ne_true]
      exact ⟨ds.length - (i+1),by lia,rfl,hlt,by lia,acc,H3',s14,hd4,e14,hdn3,r2.mono e3.1,h⟩
     | true=>
      rw [if_pos rfl] at h
      dsimp only
      rw [if_pos rfl]
      rw [Rk.bind] at h
      refine ⟨hW.trans (sx.trans (s1.trans s14)),_,H3',e14.2.1,en,(Rk.noE h).mono fun y h w H5 o5=>?_⟩
      obtain ⟨s5,H5',e5,r5⟩:=o5.rd
      have hd5:H5 D=some (.lst ys):=s5 _ _ hd4
      have hdn5:H5' D=none:=e5.2.2 D (z6q hd4) hdn3
      have e15:=e14.trans s14 e5
      rw [Rk.bind] at h
      refine ⟨hd5,z4t (by lia),ds.length - (i+1),by lia,rfl,hlt,by rw [List.length_append];show ys.length+1<=i+1;lia,acc++[y],H5',(s14.trans s5).upd_at hD,z0o,⟨e15.1,e15.2.1.upd_at hdn5,e15.2.2⟩,hdn5,((r2.mono (e3.1.trans e5.1))).append (.one r5),?_⟩
      exact h.mono fun rest h v H' o=>h v H' (by simpa using o)
   . have ei:i=ds.length:=by lia
     subst ei
     rw [List.drop_length] at h
     refine .inl ⟨it'.2 H2 (e2.1.trans e2.2.1),h _ H2 ?_⟩
     rw [List.append_nil]
     refine Out.after s1 e1 (.fresh s2 e2 hD hdn2 ?_)
     simp only [OB]
     exact ⟨ys,hd2,r2⟩
 . exact h.elim
theorem zd6 {kp:Bool} {fi:DE->R (List D)} {bn:D->Option (List D)} {B:V->Hp->(List V->Hp->Prop)->Prop} {ix:List Nat} {t:DE->R Bool} {f:DE->R D} {Q:VK} {tt:TT} (hB:BD K bn B) (htt:∀U H Q,TTd K F0 t U H Q->tt U H Q)
 (h:TEd K EX true (z31 fi bn ix t f) U H Q):za8 (TId K EX kp fi) B ix tt (TEd K F0 false f) U H Q:=znh (F0.same _) hB htt h
noncomputable def mOf (fr:Bool) (n k:Nat) (g:DS->SR):List D->R D:=fun ds=>if ds.length=n then (match g (ds.map .im++List.replicate k .em) with
 | .rt d=>.ok d
 | .nx _=>if fr=true then .st else .ok .non
 | .er x=>.er x
 | _=>.st) else .st
def XFs (K:Frag) (x:Ex) (od:Option Addr) (H:Hp):Prop:=x.fs=[]\/∃(dx:Addr) (ns:List Int) (ob:Obj),od=some dx/\H dx=some (.frz ob (.xd ((zzk x.cls).zip (ns.map V.int))))/\x.fs=ns.map D.int
def xNm (K:Frag) (mg:Str->Option Value) (E:XK) (x:Ex) (H:Hp):Prop:=∃C,mg (x.cls:Str)=some (.ref C)/\∀od,XFs K x od H->E (.ref C) od H
noncomputable def spD (K:Frag) (mg:Str->Option Value) (fr:Bool) (m:List D->R D) (n:Nat):Sp:=fun vs H Q E=>∃ds H0,Same H0 H/\RDs K H0 ds vs/\ds.length=n/\Rk (XW.at ⟨H,xNm K mg E⟩) (m ds) fun d=>∀v H',Out K fr H0 H d v H'->Q v H'
noncomputable def zfv (sp:Sp) (E:XK) (t:TA):TE:=fun U H Q=>t U H fun vs H1=>sp vs H1 Q E
theorem zrt {mg:Str->Option Value} {E:XK} {m:List D->R D} {n:Nat} {fs:DE->R (List D)} {Q:VK} (hl:∀ds,ds.length≠n->m ds=.st) (hE:∀x H,EX.p x H->xNm K mg E x H) (h:TEd K EX fr (z0r m fs) U H Q):zfv (spD K mg fr m n) E (TAd K EX fs) U H Q:=by
 obtain ⟨sx,ρ,H0,s,e,h⟩:=h
 unfold z0r at h
 rw [Rk.bind] at h
 refine TAd.go sx s e h fun ds h vs H1 H1' s1 e1 r1=>?_
 refine ⟨ds,H1',e1.2.1,r1,?_,?_⟩
 . apply Classical.byContradiction
   intro hn
   rw [hl ds hn] at h
   exact h
 . cases q:m ds with
   | ok d=>rw [q] at h;exact fun v H' o=>h v H' (o.after s1 e1)
   | er x=>rw [q] at h;exact fun H' s'=>hE x H' (h H' ((sx.trans s1).trans s'))
   | st=>rw [q] at h;exact h
theorem zni {n k:Nat} {g:DS->SR} (ds:List D) (h:ds.length≠n):mOf fr n k g ds=.st:=by unfold mOf;rw [if_neg h]
theorem zjh {vs:List V} {ds:List D} (s:Same H0 H) (r:RDs K H0 ds vs) (k:Nat):RS K H0 H H0 (ds.map .im++List.replicate k .em) (vs.map some++List.replicate k none) H:=by
 have hl:=r.length
 have noow:∀(i:Nat) d,(ds.map Sl.im++List.replicate k Sl.em)[i]?≠some (.ow d):=fun i d q=>by
  rcases List.mem_append.mp (List.mem_of_getElem? q) with z | z
  . obtain ⟨_,_,z⟩:=List.mem_map.mp z;cases z
  . have:=(List.mem_replicate.mp z).2;cases this
 refine ⟨Same.refl _,.refl s,by simp [hl],fun i d q=>?_,fun i d q=>absurd q (noow i d),fun i j d e a q=>absurd q (noow i d)⟩
 by_cases hi:i<ds.length
 . rw [List.getElem?_append_left (by simpa using hi),List.getElem?_map] at q
   rw [List.getElem?_append_left (by simpa [<-hl] using hi),List.getElem?_map]
   cases qd:ds[i]? with
   | none=>rw [qd] at q;cases q
   | some d'=>
    rw [qd] at q
    simp only [Option.map_some,Option.some.injEq,Sl.im.injEq] at q
    subst q
    obtain ⟨x,h1,h2⟩:=r.get' qd
    exact ⟨x,by rw [h1];rfl,h2⟩
 . rw [List.getElem?_append_right (by simpa using hi)] at q
   have:=(List.mem_replicate.mp (List.mem_of_getElem? q)).2
   cases this
theorem zru {n k:Nat} {g:DS->SR} {vs:List V} {Q:VK} {E:XK} {mg:Str->Option Value} (h:spD K mg fr (mOf fr n k g) n vs H Q E) :
  TSd K ⟨H,xNm K mg E⟩ fr g { nx:=fun _ H'=>Q .non H',rt:=Q } (vs.map some++List.replicate k none) H:=by
 obtain ⟨ds,H0,s,r,hn,h⟩:=h
 refine ⟨H0,H,H0,_,Same.refl _,zjh s r k,?_⟩
 unfold mOf at h
 rw [if_pos hn] at h
 cases q:g (ds.map .im++List.replicate k .em) with
 | nx ρ=>
  rw [q] at h
  cases fr with
  | true=>exact h.elim
  | false=>exact fun U H' H0' I=>h _ H' (.val I.sb I.ext (by simp only [RD]))
 | rt d=>rw [q] at h;exact h
 | er x=>rw [q] at h;exact h
 | bk ρ=>rw [q] at h;exact h.elim
 | ct ρ=>rw [q] at h;exact h.elim
 | st=>rw [q] at h;exact h.elim
end
structure Flt {α:Type} (t:Sem α):Prop where
 go:∀{M:Model} {Γ:PySem.Ctx} {Q Q':α->Pos->Shared->Prop} {E E':Value->Pos->Shared->Prop} {p:Pos} {s:Shared},
 t.wp M Γ Q E p s->t.wp M Γ Q' E' p s->t.wp M Γ (fun a p s=>Q a p s/\Q' a p s) (fun a p s=>E a p s/\E' a p s) p s
theorem Flt.bind {α β:Type} {t:Sem α} {f:α->Sem β} (h:Flt t) (k:∀a,Flt (f a)):Flt (t >>= f):=by
 refine ⟨fun x y=>?_⟩
 rw [Sem.wp_bind'] at x y ⊢
 exact Sem.wp_mono _ _ _ (fun a _ _ z=>(k a).go z.1 z.2) (fun _ _ _ z=>z) _ _ (h.go x y)
theorem Flt.pure {α:Type} (a:α):Flt (Pure.pure a:Sem α):=⟨fun x y=>⟨x,y⟩⟩
theorem Flt.uns {α:Type} (w:String):Flt (unsupported w:Sem α):=⟨fun x _=>x.elim⟩
theorem Flt.stack:Flt PySem.stack:=⟨fun x y=>⟨x,y⟩⟩
theorem Flt.alloc (o:Obj):Flt (PySem.alloc o):=⟨fun x y=>⟨x,y⟩⟩
theorem Flt.update (a:Addr) (f:Obj->Obj):Flt (PySem.update a f):=⟨fun x y=>⟨x.1,x.2,y.2⟩⟩
theorem Flt.load (a:Addr):Flt (PySem.load a):=⟨fun ⟨o,e,x⟩ ⟨o',e',y⟩=>by rw [e] at e';cases e';exact ⟨o,e,x,y⟩⟩
theorem Flt.cells (v:Value):Flt (fieldsOf v):=by
 cases v<;>first | exact .uns _ | exact .bind (.load _) fun o=>by split<;>first | exact .pure _ | exact .uns _
theorem Flt.field (v:Value) (i:Nat):Flt (PySem.field v i):=.bind (.cells v) fun vs=>by split<;>first | exact .pure _ | exact .uns _
theorem Flt.put (v:Value) (i:Nat) (x:Value):Flt (setField v i x):=by
 cases v<;>first | exact .uns _ | exact .bind (.load _) fun o=>by split<;>first | exact .uns _ | (split<;>first | exact .update _ _ | exact .uns _)
theorem Flt.flight (e:Value) (f:Option Addr):Flt (setFlight e f):=.bind (.field e 1) fun tb=>by split<;>first | exact .put _ _ _ | exact .pure _
theorem Flt.ready:∀l:List Env,Flt (readyFrames l)
 | []=>.pure _
 | env::outer=>by
  unfold readyFrames
  split<;>first | exact .uns _ | skip
  refine .bind (.load _) fun o=>?_
  split<;>first | exact .pure _ | skip
  refine .bind ?_ fun b=>.bind ?_ fun v=>.bind (.update _ _) fun _=>Flt.ready outer
  . unfold behindIsImport
    split<;>first | exact .pure _ | skip
    split<;>first | exact .pure _ | exact .bind (.field _ _) fun _=>.pure _
  . unfold keptBack
    split<;>first | exact .pure _ | skip
    split<;>first | exact .pure _ | exact .bind (.bind .stack fun _=>.pure _) fun _=>.pure _
theorem Flt.frame (env:Env):Flt (frameOf env):=.bind (.bind .stack fun _=>.pure _) fun es=>.bind (by
 unfold frameObject
 split
 . exact .pure _
 . exact .bind (.ready _) fun _=>.pure _) fun f=>by split<;>first | exact .pure _ | exact .uns _
theorem Flt.fields (vs:List Value):Flt (newFields "traceback" vs):=by
 have h:Flt (newObjAsIs (.type "traceback") (.fields vs.toArray)):=.bind (.alloc _) fun a=>.pure _
 unfold newFields newObj
 dsimp only
 split
 . exact .bind (.uns _) fun _=>h
 . exact h
theorem Flt.entry (env:Env) (e head:Value) (L:Addr) (b:Bool):Flt (do let a <-frameOf env;let pl <-entryPlaceOf L b;let b <-EntryCells.newEntry head a .none (rawInt L) .none pl;setField e 1 b):=
 .bind (.frame env) fun _=>.bind (.bind .stack fun acts=>by split<;>exact .pure _) fun _=>.bind (.fields _) fun _=>.put _ _ _
theorem Flt.note (e:Value) (env:Env):Flt (noteFrame e env):=by
 unfold noteFrame
 split<;>first | exact .uns _ | skip
 refine .bind (.field _ _) fun head=>?_
 split
 . refine .bind (.field _ _) fun x=>?_
   split
   . exact .pure _
   . exact .bind (.put _ _ _) fun _=>.entry _ _ _ _ _
 . exact .entry _ _ _ _ _
theorem z5e {M:Model} {A:Around} {α:Type} {t:Sem α} {Q Q':α->Shared->Prop} {E E':Value->Shared->Prop} {s:Shared} (f:Flt t) (h:wpAny M A t Q E s) (k:wpAny M A t Q' E' s):wpAny M A t (fun a s=>Q a s/\Q' a s) (fun a s=>E a s/\E' a s) s:=
 fun Γ p hΓ=>f.go (h Γ p hΓ) (k Γ p hΓ)
section
variable {M:Model} {A:Around} {E:Value->Shared->Prop} {s:Shared} {base:Heap} {env:Env} {outer:List Env} {L e:Addr} {cls a0 fl:Value} {od:Option Addr}
def z34 (e:Addr) (od:Option Addr) (h:Heap):Prop:=∀o,h.get? e=some o->o.dict=od
theorem zji (o:Obj) (f:Array Value->Array Value):(Obj.mapFields f o).dict=o.dict:=by
 unfold Obj.mapFields
 split<;>rfl
theorem z8u {h:Heap} {b:Addr} {f:Array Value->Array Value} (d:z34 e od h) (hb:∃o,h.get? b=some o/\∃vs,o.data=.fields vs):z34 e od (h.update b (Obj.mapFields f)):=by
 intro o ho
 by_cases q:b=e
 . subst q
   obtain ⟨ob,h1,vs,h2⟩:=hb
   rw [Heap.get?_update_self _ h1 (Obj.isFreed_of_fields (Obj.data_mapFields h2 f))] at ho
   cases ho
   rw [zji]
   exact d _ h1
 . rw [Heap.get?_update_other _ _ q] at ho
   exact d o ho
theorem zfw (T:Addr):(Value.ref T != Value.none)=true:=by simp
theorem zrv (L:Addr):(Value.none==rawInt L)=false:=by simp [rawInt]
theorem zbs (ht:s.heap.TracedAtW base e cls a0 fl) (d:z34 e od s.heap):wpAny M A (setFlight (.ref e) none) (fun _ s'=>z34 e od s'.heap) E s:=by
 obtain ⟨oe,vs,T,oT,ts,he,-,hd,h1,-,-,hT,hdT,h3⟩:=ht
 have in3:=(Array.getElem?_eq_some_iff.mp h3).1
 unfold setFlight
 exact wpAny_bind (wpAny_field he hd h1 (by rw [if_pos (zfw T)];exact wpAny_setField hT hdT in3 (z8u d ⟨_,hT,_,hdT⟩)))
theorem z7x {oe:Obj} {vs:Array Value} {head:Value} {hadNext:Bool} (hfr:A.frames=some (env::outer)) (hl:s.heap.FunFrames base (env::outer)) (hf:env.frame=some L) (he:s.heap.get? e=some oe) (hd:oe.data=.fields vs) (hsz:1<vs.size) (d:z34 e od s.heap) :
  wpAny M A (do let a <-frameOf env;let pl <-entryPlaceOf L hadNext;let b <-EntryCells.newEntry head a .none (rawInt L) .none pl;setField (.ref e) 1 b) (fun _ s'=>z34 e od s'.heap) E s:=by
 have nf:e∉(env::outer).filterMap (·.frame):=fun hm=>by
  obtain ⟨_,o,ho,hnf⟩:=hl.mem hm
  rw [he] at ho;cases ho;exact hnf vs hd
 refine wpAny_bind (wpAny_frameOf_fun hfr hl hf fun h1 hs=>wpAny_bind (wpAny_entryPlaceOf fun pl hpl=>?_))
 unfold EntryCells.newEntry newFields
 refine wpAny_bind (wpAny_newObj_type ?_ (hpl.sizeOk5 _ _ _ _ _))
 have he1:h1.get? e=some oe:=(hs.2.1 e nf).trans he
 have he2:=Heap.get?_push_of_some (h:=h1) { cls:=.type "traceback",dict:=none,data:=.fields ([head,.ref L,.none,rawInt L,.none]++(if pl.isEmpty then List.replicate 6 Value.none else pl)).toArray } he1
 refine wpAny_setField he2 hd hsz (z8u (fun o ho=>?_) ⟨_,he2,_,hd⟩)
 rw [he2] at ho;cases ho
 exact d _ he
theorem zfx (hfr:A.frames=some (env::outer)) (hl:s.heap.FunFrames base (env::outer)) (hf:env.frame=some L) (ht:s.heap.TracedW base e cls a0) (d:z34 e od s.heap) :
  wpAny M A (noteFrame (.ref e) env) (fun _ s'=>z34 e od s'.heap) E s:=by
 obtain ⟨oe,vs,T,oT,ts,he,-,hd,h1,-,hTe,hT,hdT,h3⟩:=ht
 have in1:=(Array.getElem?_eq_some_iff.mp h1).1
 have in3:=(Array.getElem?_eq_some_iff.mp h3).1
 have off:∀b,T≠b->(s.heap.update T (Obj.mapFields (·.setIfInBounds 3 Value.none))).get? b=s.heap.get? b:=fun b hb=>Heap.get?_update_other _ _ hb
 have fr:(s.heap.update T (Obj.mapFields (·.setIfInBounds 3 Value.none))).FunFrames base (env::outer):=hl.of_keeps fun b o hb nf=>⟨o,(off b fun z=>by rw [<-z,hT] at hb;cases hb;exact nf ts hdT).trans hb,rfl⟩
 unfold noteFrame
 simp only [hf]
 exact wpAny_bind (wpAny_field he hd h1 (by
  rw [if_pos (zfw T)]
  exact wpAny_bind (wpAny_field hT hdT h3 (by
   rw [if_neg (by rw [zrv];exact Bool.false_ne_true)]
   exact wpAny_bind (wpAny_setField hT hdT in3 (z7x hfr fr hf ((off e hTe).trans he) hd in1 (z8u d ⟨_,hT,_,hdT⟩)))))))
end
section
variable {M:Model} {A:Around} {E:Value->Shared->Prop} {s:Shared} {base:Heap} {env:Env} {outer:List Env} {L e:Addr} {cls a0:Value} {od:Option Addr} {Q:Unit->Shared->Prop}
theorem zfy (hh:Heap.HeldW base (env::outer) e cls a0 L s.heap) (d:z34 e od s.heap) (hQ:∀h',Heap.FlyingW base (env::outer) e cls a0 h'->s.heap.UpToSlots h'->z34 e od h'->Q () { s with heap:=h' }):wpAny M A (setFlight (.ref e) none) Q E s:=
 wpAny_mono (z5e (E:=E) (E':=E) (.flight _ _) (wpAny_landsW hh (Q:=fun _ s'=>∃h',s'={ s with heap:=h' }/\Heap.FlyingW base (env::outer) e cls a0 h'/\s.heap.UpToSlots h') fun h' f u=>⟨h',rfl,f,u⟩) (zbs hh.2.2.2 d))
  (fun _ s' ⟨⟨h',e1,f,u⟩,d'⟩=>by subst e1;exact hQ h' f u d') fun _ _ z=>z.1
theorem znj (hfr:A.frames=some (env::outer)) (hf:env.frame=some L) (hfl:Heap.FlyingW base (env::outer) e cls a0 s.heap) (d:z34 e od s.heap)
  (hQ:∀h',Heap.HeldW base (env::outer) e cls a0 L h'->s.heap.UpToSlots h'->z34 e od h'->Q () { s with heap:=h' }):wpAny M A (noteFrame (.ref e) env) Q E s:=
 wpAny_mono (z5e (E:=E) (E':=E) (.note _ _) (wpAny_looks_onW hfr hf hfl (Q:=fun _ s'=>∃h',s'={ s with heap:=h' }/\Heap.HeldW base (env::outer) e cls a0 L h'/\s.heap.UpToSlots h') fun h' f u=>⟨h',rfl,f,u⟩) (zfx hfr hfl.2.2.1 hf hfl.2.2.2 d))
  (fun _ s' ⟨⟨h',e1,f,u⟩,d'⟩=>by subst e1;exact hQ h' f u d') fun _ _ z=>z.1
theorem zjj (hfr:A.frames=some (env::outer)) (hf:env.frame=some L) (hfl:Heap.FlyingW base (env::outer) e cls a0 s.heap) (d:z34 e od s.heap)
  (hQ:∀h',Heap.FlyingW base outer e cls a0 h'->s.heap.UpToSlots h'->z34 e od h'->Q () { s with heap:=h' }):wpAny M A (leaving env (.ref e)) Q E s:=by
 unfold leaving
 refine wpAny_bind (znj hfr hf hfl d fun h1 hh u1 d1=>zfy (s:={ s with heap:=h1 }) hh d1 fun h2 f u2 d2=>hQ h2 ?_ (u1.trans u2) d2)
 obtain ⟨k1,k2,⟨_,_,k3⟩,k4⟩:=f
 exact ⟨k1,k2,k3,k4⟩
theorem znk {oe:Obj} {vs:Array Value} (hfr:A.frames=some (env::outer)) (hl:s.heap.FunFrames base (env::outer)) (hf:env.frame=some L) (he:s.heap.get? e=some oe) (hkb:base.StaysIn s.heap) (hen:base.get? e=none) (hd:oe.data=.fields vs) (h1:vs[1]?=some .none) (h0:vs[0]?=some a0) (d:z34 e od s.heap)
  (hQ:∀h',Heap.FlyingW base outer e oe.cls a0 h'->s.heap.UpToSlots h'->z34 e od h'->Q () { s with heap:=h' }):wpAny M A (leaving env (.ref e)) Q E s:=by
 have hsz:=(Array.getElem?_eq_some_iff.mp h1).1
 unfold leaving noteFrame
 simp only [hf]
 refine wpAny_bind (wpAny_bind (wpAny_field he hd h1 ?_))
 rw [if_neg (by decide)]
 refine wpAny_mono (z5e (E:=E) (E':=E) (.entry _ _ _ _ _) (wpAny_entryW hfr hl hf he hkb hen hd hsz h0 (Q:=fun _ s'=>∃h',s'={ s with heap:=h' }/\Heap.NotedW base (env::outer) e oe.cls a0 (rawInt L) s.heap h') fun h' n=>⟨h',rfl,n⟩) (z7x hfr hl hf he hd hsz d)) (fun _ s' z=>?_) fun _ _ z=>z.1
 obtain ⟨⟨h',e1,n1,n2,n3,n4⟩,d1⟩:=z
 subst e1
 refine zfy (s:={ s with heap:=h' }) ⟨n1,hen,n2,n3⟩ d1 fun h2 f u2 d2=>hQ h2 ?_ (Heap.UpToSlots.trans n4 u2) d2
 obtain ⟨k1,k2,⟨_,_,k3⟩,k4⟩:=f
 exact ⟨k1,k2,k3,k4⟩
end
theorem ObjOk.there {P:Program} {w:World} {H:Hp} {h:Heap} {a:Addr} {o:HO} (x:ObjOk P w H h a o):∃ob,h.get? a=some ob:=by
 induction o with
 | lst xs=>obtain ⟨_,_,_,_,e⟩:=x;exact ⟨_,e⟩
 | tup xs=>obtain ⟨_,_,_,ob,e,_⟩:=x;exact ⟨_,e⟩
 | dK kvs=>obtain ⟨_,_,_,_,o,_,_,e,_⟩:=x;exact ⟨_,e⟩
 | dT kvs=>obtain ⟨_,_,_,_,o,_,_,e,_⟩:=x;exact ⟨_,e⟩
 | set S n=>obtain ⟨o,_,_,_,e,_⟩:=x;exact ⟨_,e⟩
 | ins C dx fs=>obtain ⟨_,_,_,e,_⟩:=x;exact ⟨_,e⟩
 | own y=>exact x
 | xd fs=>obtain ⟨_,⟨_,_,_,e,_⟩,_⟩:=x;exact ⟨_,e⟩
 | rng lo hi=>obtain ⟨_,_,_,e⟩:=x;exact ⟨_,e⟩
 | frz ob u ih=>exact ⟨_,x.1⟩
 | tbl ps=>exact ⟨_,x⟩
 | ctb q=>obtain ⟨_,e,_⟩:=x;exact ⟨_,e⟩
 | met f y=>exact ⟨_,x⟩
 | ext φ=>exact x.2.1
theorem HOk.none {P:Program} {w:World} {H:Hp} {h:Heap} {a:Addr} (x:HOk P w H h) (e:h.get? a=Option.none):H a=Option.none:=by
 cases q:H a with
 | none=>rfl
 | some o=>
  obtain ⟨ob,z⟩:=(x a o q).there
  rw [e] at z;cases z
def Fly (h0:Heap) (H':Hp) (C a:Addr) (od:Option Addr) (h:Heap):Prop:=∃oe vs T oT ts a0,h.get? a=some oe/\oe.cls=.ref C/\vs[0]?=some a0/\oe.data=.fields vs/\vs[1]?=some (.ref T)/\T≠a/\h.get? T=some oT/\oT.data=.fields ts/\ts[3]?=some Value.none /\
 h0.get? a=none/\h0.get? T=none/\H' a=none/\H' T=none/\oe.dict=od/\∀dx,od=some dx->h0.get? dx=none
structure XOut (P:Program) (w:World) (outer:List Env) (H:Hp) (s:Shared) (C a:Addr) (od:Option Addr) (H':Hp) (s':Shared):Prop where
 os:s'.os=s.os
 bare:AllBare s'.gens
 un:Un (frs outer) [] H H' s.heap s'.heap
 hok:HOk P w H' s'.heap
 fly:Fly s.heap H' C a od s'.heap
noncomputable def CX1 (P:Program) (w:World):CXT:=fun outer H s E e s'=>∃C a od H',e=.ref a/\XOut P w outer H s C a od H' s'/\E (.ref C) od H'
theorem zae {l:List Addr} {h:Heap} {b:Addr} (e:(hideAll h l).get? b=none):b∈l\/h.get? b=none:=by
 by_cases hb:b∈l
 . exact .inl hb
 . cases q:h.get? b with
   | none=>exact .inr rfl
   | some o=>rw [hideAll_get l q hb] at e;cases e
section
variable {X:Cx} {pins:List (Addr×Obj)} {U:List (Option V)} {H1 H2:Hp} {s1 s2:Shared} {h' B:Heap} {Z:List Addr} {C a:Addr} {a0:Value} {od:Option Addr}
theorem Inv.stack2 (I:Inv X pins U H1 s1) (un:Un (frs X.stack) [] H1 H2 s1.heap s2.heap):s2.heap.FunFrames X.base X.stack:=by
 have all:∀(l:List Env),(∀b∈frs l,b∈frs X.stack)->s1.heap.FunFrames X.base l->s2.heap.FunFrames X.base l:=by
  intro l
  induction l with
  | nil=>intro _ _;trivial
  | cons env r ih=>
   intro hs hl
   obtain ⟨hk,⟨L,o,hf,hn,ho,hd⟩,hr⟩:=hl
   have hL:L∈frs X.stack:=hs L (by unfold frs;rw [List.filterMap_cons,hf];exact List.mem_cons_self)
   obtain ⟨sl,e⟩:=un.slot L o ho (I.stkFree L hL) hL (by simp)
   exact ⟨hk,⟨L,_,hf,hn,e,hd⟩,ih (fun b hb=>hs b (by unfold frs;rw [List.filterMap_cons,hf];exact List.mem_cons_of_mem _ hb)) hr⟩
 exact all X.stack (fun _ hb=>hb) I.stack
theorem z7y (I:Inv X pins U H1 s1) (hst:X.stack=X.env::X.outer) (hex:X.ex=[]) (hos:s2.os=s1.os) (hbare:AllBare s2.gens) (un:Un (frs X.stack) [] H1 H2 s1.heap s2.heap) (hok:HOk X.prog X.w H2 s2.heap)
  (hZ:∀b∈Z,s1.heap.get? b=none/\H2 b=none) (ha:s1.heap.get? a=none) (hHa:H2 a=none) (keep:∀b o,s2.heap.get? b=some o->b∉Z->b∉frs X.stack->h'.get? b=some o)
  (up:s2.heap.UpToSlots h') (hB:∀b,B.get? b=none->b∈frs X.stack\/(s1.heap.get? b=none/\H2 b=none)) (hfl:Heap.FlyingW B X.outer a (.ref C) a0 h') (hdc:z34 a od h') (hnd:∀dx,od=some dx->s1.heap.get? dx=none) :
  XOut X.prog X.w X.outer X.H₀ X.s₀ C a od H2 { s2 with heap:=h' }:=by
 have base:Un X.fs [] X.H₀ H1 X.s₀.heap s1.heap:=hex ▸ I.base
 have F2:=I.stack2 un
 have sub:∀b∈frs X.outer,b∈frs X.stack:=fun b hb=>by
  rw [hst];unfold frs
  cases q:X.env.frame with
  | none=>rw [List.filterMap_cons,q];exact hb
  | some L=>rw [List.filterMap_cons,q];exact List.mem_cons_of_mem _ hb
 have neL:∀b o,X.s₀.heap.get? b=some o->b≠X.env.locals:=fun b o e=>Nat.ne_of_lt (Nat.lt_of_lt_of_le (Heap.lt_size e) I.ok.above)
 have nost:∀b o,X.s₀.heap.get? b=some o->b∉frs X.outer->b∉frs X.stack:=fun b o e hb z=>(List.mem_cons.mp (I.stkSub b z)).elim (neL b o e) hb
 have fresh0:∀b,s1.heap.get? b=none->X.s₀.heap.get? b=none:=fun b e=>by
  cases q:X.s₀.heap.get? b with
  | none=>rfl
  | some o=>
   obtain ⟨o',z⟩:=base.there b o q (by simp)
   rw [e] at z;cases z
 have noZ:∀b o,X.s₀.heap.get? b=some o->b∉Z:=fun b o e hb=>by
  rw [fresh0 b (hZ b hb).1] at e;cases e
 have frFree:∀b∈frs X.stack,H2 b=none:=fun b hb=>by
  obtain ⟨_,o,ho,_⟩:=I.stack.mem hb
  exact un.free b o ho (I.stkFree b hb) (by simp)
 have slotF:∀b∈frs X.stack,∀o,s2.heap.get? b=some o->∃sl,h'.get? b=some { o with slots:=sl }:=fun b hb o e=>by
  obtain ⟨_,o',ho',hd⟩:=F2.mem hb
  rw [e] at ho';cases ho'
  exact up b o e hd
 refine ⟨by show s2.os=_;rw [hos,I.os],hbare,⟨fun b o e n hb _=>?_,fun b o e n hb _=>?_,fun b o e n _=>?_,fun b o e _=>?_,fun b xs e=>un.tups b xs (base.tups b xs e),fun b o u e=>un.frzs b o u (base.frzs b o u e),fun b ps e=>?_⟩,fun b o e=>?_,?_⟩
 . exact keep b o (un.keep b o (base.keep b o e n hb (by simp)) (base.free b o e n (by simp)) (nost b o e hb) (by simp)) (noZ b o e) (nost b o e hb)
 . obtain ⟨sl,e1⟩:=base.slot b o e n hb (by simp)
   obtain ⟨sl2,e2⟩:=un.slot b _ e1 (base.free b o e n (by simp)) (sub b hb) (by simp)
   obtain ⟨sl3,e3⟩:=slotF b (sub b hb) _ e2
   exact ⟨sl3,e3⟩
 . obtain ⟨o1,e1⟩:=base.there b o e (by simp)
   exact un.free b o1 e1 (base.free b o e n (by simp)) (by simp)
 . obtain ⟨o1,e1⟩:=base.there b o e (by simp)
   obtain ⟨o2,e2⟩:=un.there b o1 e1 (by simp)
   by_cases hb:b∈frs X.stack
   . obtain ⟨sl,e3⟩:=slotF b hb _ e2
     exact ⟨_,e3⟩
   . exact ⟨o2,keep b o2 e2 (noZ b o e) hb⟩
 . obtain ⟨m1,e1⟩:=base.tbls b ps e
   obtain ⟨m2,e2⟩:=un.tbls b _ e1
   exact ⟨m1++m2,by rw [e2,Array.append_assoc]⟩
 . refine (hok b o e).stay (fun c v hc q=>keep c v q (fun hz=>?_) fun hf=>?_) (fun _ q=>q) fun _ _ q=>q
   . have:=(hZ c hz).2
     rcases hc with rfl | hc
     . rw [e] at this;cases this
     . rw [hc] at this;cases this
   . have:=frFree c hf
     rcases hc with rfl | hc
     . rw [e] at this;cases this
     . rw [hc] at this;cases this
 . obtain ⟨_,_,_,oe,vs,T,oT,ts,he,⟨hc,h0⟩,hd,h1,hnT,hTe,hT,hdT,h3⟩:=hfl
   have hTn:s1.heap.get? T=none/\H2 T=none:=by
    rcases hB T hnT with z | z
    . obtain ⟨_,o',ho',hd'⟩:=F2.mem z
      obtain ⟨sl,e3⟩:=slotF T z o' ho'
      rw [hT] at e3;cases e3
      exact absurd hdT (hd' ts)
    . exact z
   exact ⟨oe,vs,T,oT,ts,a0,he,hc,h0,hd,h1,hTe,hT,hdT,h3,fresh0 a ha,fresh0 T hTn.1,hHa,hTn.2,hdc _ he,fun dx e=>fresh0 dx (hnd dx e)⟩
theorem zjk (I:Inv X pins U H1 s1) (hst:X.stack=X.env::X.outer) (hex:X.ex=[]) (hf:X.env.frame=some X.env.locals) (x:XOut X.prog X.w X.stack H1 s1 C a od H2 s2) {E:Value->Shared->Prop} {Q:Unit->Shared->Prop}
  (h:∀s',XOut X.prog X.w X.outer X.H₀ X.s₀ C a od H2 s'->Q () s'):wpAny (model X.prog X.w) X.A (leaving X.env (.ref a)) Q E s2:=by
 obtain ⟨oe,vs,T,oT,ts,a0,he,hc,h0,hd,h1,hTe,hT,hdT,h3,na,nT,ha,hHT,hod,hnd⟩:=id x.fly
 have F2:=I.stack2 x.un
 have hin:∀env∈X.stack,∀b,env.frame=some b->b∈a::T::frs X.stack:=fun env he b hb=>List.mem_cons_of_mem _ (List.mem_cons_of_mem _ (List.mem_filterMap.mpr ⟨env,he,hb⟩))
 have hfr:X.A.frames=some (X.env::X.outer):=by rw [<-hst];exact I.ok.frames
 refine zjj (od:=od) (base:=hideAll s2.heap (a::T::frs X.stack)) (cls:=.ref C) (a0:=a0) hfr hf ⟨fun b o q=>PySem.W.of_hideAll _ q,hideAll_none _ (.head _),hst ▸ PySem.W.funFrames_hide F2 hin,?_⟩ (fun o ho=>by rw [he] at ho;cases ho;exact hod) fun h' hfl up hdc=>h _ (z7y (Z:=[a,T]) I hst hex x.os x.bare x.un x.hok (fun b hb=>?_) na ha (fun b o q hz hfs=>hfl.1 b o (hideAll_get _ q ?_)) up (fun b q=>?_) hfl hdc hnd)
 . exact ⟨oe,vs,T,oT,ts,he,⟨hc,h0⟩,hd,h1,hideAll_none _ (.tail _ (.head _)),hTe,hT,hdT,h3⟩
 . rcases List.mem_cons.mp hb with rfl | hb
   . exact ⟨na,ha⟩
   . have:b=T:=by simpa using hb
     subst this;exact ⟨nT,hHT⟩
 . intro z
   rcases List.mem_cons.mp z with rfl | z
   . exact hz (.head _)
   . rcases List.mem_cons.mp z with rfl | z
     . exact hz (.tail _ (.head _))
     . exact hfs z
 . rcases zae q with z | z
   . rcases List.mem_cons.mp z with rfl | z
     . exact .inr ⟨na,ha⟩
     . rcases List.mem_cons.mp z with rfl | z
       . exact .inr ⟨nT,hHT⟩
       . exact .inl z
   . refine .inr ⟨?_,x.hok.none z⟩
     cases q1:s1.heap.get? b with
     | none=>rfl
     | some o=>
      obtain ⟨o',e'⟩:=x.un.there b o q1 (by simp)
      rw [z] at e';cases e'
structure MadeX (h h':Heap) (e C:Addr) (od:Option Addr):Prop where
 new:h.get? e=none
 newd:∀dx,od=some dx->h.get? dx=none
 there:∃oe vs a0,h'.get? e=some oe/\oe.cls=.ref C/\oe.dict=od/\oe.data=.fields vs/\vs[0]?=some a0/\vs[1]?=some .none
theorem MadeX.of {h h':Heap} {e C:Addr} {args:List Value} (x:Heap.MadeExcOf h h' e (.ref C) args):MadeX h h' e C none:=by
 obtain ⟨t,he,_,_⟩:=x.there
 exact ⟨x.new,(fun _ z=>nomatch z),_,_,_,he,rfl,rfl,rfl,rfl,rfl⟩
theorem zec (I:Inv X pins U H1 s1) (hst:X.stack=X.env::X.outer) (hex:X.ex=[]) (hf:X.env.frame=some X.env.locals) (hx:MadeX s1.heap s2.heap a C od) (hok:HOk X.prog X.w H2 s2.heap) (un:Un (frs X.stack) [] H1 H2 s1.heap s2.heap) (hHa:H2 a=none) (hos:s2.os=s1.os) (hbare:AllBare s2.gens) {E:Value->Shared->Prop} {Q:Unit->Shared->Prop}
  (h:∀s',XOut X.prog X.w X.outer X.H₀ X.s₀ C a od H2 s'->Q () s'):wpAny (model X.prog X.w) X.A (leaving X.env (.ref a)) Q E s2:=by
 have hin:∀env∈X.stack,∀b,env.frame=some b->b∈a::frs X.stack:=fun env he b hb=>List.mem_cons_of_mem _ (List.mem_filterMap.mpr ⟨env,he,hb⟩)
 have hfr:X.A.frames=some (X.env::X.outer):=by rw [<-hst];exact I.ok.frames
 have F2:=I.stack2 un
 obtain ⟨oe,vs,a0,he,hc,hod,hd,h0,h1⟩:=hx.there
 refine znk (od:=od) (base:=hideAll s2.heap (a::frs X.stack)) hfr (hst ▸ PySem.W.funFrames_hide F2 hin) hf he (fun b o q=>PySem.W.of_hideAll _ q) (hideAll_none _ (.head _)) hd h1 h0 (fun o ho=>by rw [he] at ho;cases ho;exact hod) fun h' hfl up hdc=>h _ ?_
 rw [hc] at hfl
 refine z7y (B:=hideAll s2.heap (a::frs X.stack)) (Z:=[a]) I hst hex hos hbare un hok (fun b hb=>?_) hx.new hHa (fun b o q hz hfs=>hfl.1 b o (hideAll_get _ q ?_)) up (fun b q=>?_) hfl hdc hx.newd
 . obtain rfl:b=a:=by simpa using hb
   exact ⟨hx.new,hHa⟩
 . intro z
   rcases List.mem_cons.mp z with rfl | z
   . exact hz (.head _)
   . exact hfs z
 . rcases zae q with z | z
   . rcases List.mem_cons.mp z with rfl | z
     . exact .inr ⟨hx.new,hHa⟩
     . exact .inl z
   . refine .inr ⟨?_,hok.none z⟩
     cases q1:s1.heap.get? b with
     | none=>rfl
     | some o=>
      obtain ⟨o',e'⟩:=un.there b o q1 (by simp)
      rw [z] at e';cases e'
end
noncomputable def eOf (K:Frag) (EX:XW) (mg:Str->Option Value):XK:=fun cv od H=>∃x:Ex,EX.p x H/\mg (x.cls:Str)=some cv/\XFs K x od H
structure Lnd (X:Cx) (EX:XW):Prop where
 nm:∀x H,EX.p x H->∃C,X.mg (x.cls:Str)=some (.ref C)
 on:zcr (CX1 X.prog X.w) X (eOf X.K EX X.mg)
 md:∀(pins:List (Addr×Obj)) (U:St) (H H2:Hp) (s:Shared) (a C:Addr) (od:Option Addr) (s':Shared) (x:Ex),Inv X pins U H s->MadeX s.heap s'.heap a C od->HOk X.prog X.w H2 s'.heap->Un (frs X.stack) [] H H2 s.heap s'.heap->H2 a=none->s'.os=s.os->AllBare s'.gens->X.mg (x.cls:Str)=some (.ref C)->EX.p x H2->XFs X.K x od H2->X.xe (.ref a) s'
theorem zx1 {X:Cx}:Lnd X F0:=⟨fun _ _ z=>z.elim,fun _ _ _ _ _ _ _ ⟨_,_,_,_,_,_,_,z,_⟩=>z.elim,fun _ _ _ _ _ _ _ _ _ _ _ _ _ _ _ _ _ _ z _=>z.elim⟩
theorem z4b {P:Program} {w:World} {K:Frag} {mg:Str->Option Value} {base:Heap} {N:List Str} {qual:Str} {sc:Scope} {f:Addr} {cdv:Value} {A:Around} {outer:List Env} {s:Shared} {H:Hp} {E:XK} :
  Lnd (ziy (CX1 P w) P w K mg base N qual sc f cdv A outer s H E) ⟨H,xNm K mg E⟩:=by
 refine ⟨fun x H ⟨C,hC,_⟩=>⟨C,hC⟩,?_,?_⟩
 . rintro pins U H1 s1 e s' I ⟨C,a,od,H',rfl,xo,x,⟨C',hC',hE⟩,hmg,hx⟩
   have hmg:mg (x.cls:Str)=some (.ref C):=hmg
   rw [hC'] at hmg
   cases hmg
   exact zjk I rfl rfl rfl xo fun s'' y=>⟨_,a,od,H',rfl,y,hE od hx⟩
 . rintro pins U H1 H2 s1 a C od s' x I hx hok un hHa ho hb hmg ⟨C',hC',hE⟩ hf
   have hmg:mg (x.cls:Str)=some (.ref C):=hmg
   rw [hC'] at hmg
   cases hmg
   exact zec I rfl rfl rfl hx hok un hHa ho hb fun s'' y=>⟨_,a,od,H2,rfl,y,hE od hf⟩
def z5r (P:Program) (w:World) (K:Frag) (mg:Str->Option Value) (base:Heap) (x:Str) (ps:List Str) (k:Nat) (sp:Sp):Prop:=
 ∃f fd,FnOk P w K mg base (CX1 P w) k f fd ps sp/\Binds K fd ps []/\mg x=some (.ref f)/\keepIn K (.ref f)=true
section
variable {X:Cx} {x:Str} {p pos:Pos} {e:Expr} {es:List Expr} {t:TA} {ps:List Str} {k j:Nat} {sp:Sp} {E:XK}
theorem znl (G:z5r X.prog X.w X.K X.mg X.base x ps k sp) (hx:zcr (CX1 X.prog X.w) X E) (hr:Room j X.A) (hg:Gl X x) (ha:PA X (e::es) t) (hkj:k<=j:=by omega) (hdb:(x==("__debug__":Str))=false:=by decide)
  (he:starEach (e::es) X.env=(false,eval e X.env)::starEach es X.env:=by rfl) (hpl:(backTo pos (starEach es X.env)).any (·.1)=false:=by rfl):PE X (.Call (.Name x p) (e::es) [] pos) (zfv sp E t):=by
 obtain ⟨f,fd,F,b,m,kp⟩:=G
 refine (zmr F (hr.mono hkj) hg m kp b .nil hx ha hdb he hpl).imp fun U H Q q=>?_
 unfold zqu
 unfold zfv at q
 simpa only [List.append_nil] using q
end
theorem Fun.okX {P:Program} {w:World} {K:Frag} {mg:Str->Option Value} {base:Heap} {x qual:Str} {st:Stmt} {f:Addr} {fd:FuncData} {N ps:List Str} {k:Nat} {sp:Sp} {CX:CXT} (F:Fun K x qual st f fd) (S:FnScope N ps (z03 st)) (len:∀vs H Q E,sp vs H Q E->vs.length=ps.length)
  (hbody:∀(cdv:Value) (A:Around) (outer:List Env) (s:Shared) (H:Hp) (vs:List V) (Q:VK) (E:XK),Room k (A.deeper (envOfC qual (z03 st) s.heap.objs.size f cdv))->sp vs H Q E ->
   ∃t,PSs (ziy CX P w K mg base N qual (z03 st) f cdv A outer s H E) (z1u st) t/\t { nx:=fun _ H'=>Q .non H',rt:=Q } (z6k N vs) H):FnOk P w K mg base CX (k+1) f fd ps sp:=by
 obtain ⟨oc,od,kV,doc,pm,an,cdv,ct,osl,rfl,lk,hcd⟩:=F.ex
 refine zqw lk hcd S len fun A outer s H vs Q E hr hsp=>?_
 exact hbody cdv A outer s H vs Q E hr hsp
section
variable {K:Frag} {H:Hp} {v:V}
theorem RD.int {i:Int} (h:RD K H (.int i) v):v=.int i:=by simpa only [RD] using h
theorem RD.str {i:Str} (h:RD K H (.str i) v):v=.str i:=by simpa only [RD] using h
theorem RD.non (h:RD K H .non v):v=.non:=by simpa only [RD] using h
theorem RD.tup {ds:List D} (h:RD K H (.tup ds) v):∃a xs,v=.ref a/\H a=some (.tup xs)/\RDs K H ds xs:=by simpa only [RD] using h
theorem RD.lst {ds:List D} (h:RD K H (.lst ds) v):∃a xs,v=.ref a/\H a=some (.lst xs)/\RDs K H ds xs:=by simpa only [RD] using h
theorem RD.dk {ks:List Key} {ds:List D} (h:RD K H (.dk ks ds) v):∃a xs,v=.ref a/\H a=some (.dK (ks.zip xs))/\ks.length=xs.length/\RDs K H ds xs:=by simpa only [RD] using h
theorem RD.dt {ks:List (List Key)} {ds:List D} (h:RD K H (.dt ks ds) v):∃a xs,v=.ref a/\H a=some (.dT (ks.zip xs))/\ks.length=xs.length/\RDs K H ds xs:=by simpa only [RD] using h
theorem RD.scr {ns:List Int} (h:RD K H (.scr ns) v):∃a,v=.ref a/\SqL K H a (ns.map V.int):=by
 simp only [RD] at h
 obtain ⟨a,e,h | h⟩:=h
 . exact ⟨a,e,.inl (.inr h)⟩
 . exact ⟨a,e,.inr h⟩
theorem RD.mkInt (i:Int):RD K H (.int i) (.int i):=by simp only [RD]
theorem RD.mkBl (i:Bool):RD K H (.bl i) (.bl i):=by simp only [RD]
theorem RD.mkNon:RD K H .non .non:=by simp only [RD]
theorem RD.mkStr (i:Str):RD K H (.str i) (.str i):=by simp only [RD]
theorem RD.mkTup {a:Addr} {xs:List V} {ds:List D} (h:H a=some (.tup xs)) (r:RDs K H ds xs):RD K H (.tup ds) (.ref a):=by simp only [RD];exact ⟨a,xs,rfl,h,r⟩
end
noncomputable def dI (g:Int->Int->D):D->D->Option D
 | .int i,.int j=>some (g i j)
 | _,_=>none
noncomputable def dIC (C:Int->Int->Prop) [∀i j,Decidable (C i j)] (g:Int->Int->D):D->D->Option D
 | .int i,.int j=>if C i j then some (g i j) else none
 | _,_=>none
noncomputable def dOr (o p:D->D->Option D):D->D->Option D:=fun d e=>match o d e with
 | some z=>some z
 | none=>p d e
section
variable {K:Frag}
theorem OpD.weak {fr:Bool} {o:D->D->Option D} {r:R2} (h:OpD K fr o r):OpD K false o r:=fun H0 H x y d e z Q s rx ry ho k=>h H0 H x y d e z Q s rx ry ho fun v H' q=>k v H' q.weak
theorem OpD.or {f1 f2:Bool} {o p:D->D->Option D} {r q:R2} (h1:OpD K f1 o r) (h2:OpD K f2 p q):OpD K false (dOr o p) (fun x y H Q=>r x y H Q\/q x y H Q):=by
 intro H0 H x y d e z Q s rx ry ho k
 unfold dOr at ho
 split at ho
 . rename_i z' hz
   cases ho
   exact .inl (h1.weak H0 H x y d e z Q s rx ry hz k)
 . exact .inr (h2.weak H0 H x y d e z Q s rx ry ho k)
theorem zq6 {gv:Int->Int->V} {gd:Int->Int->D} (h:∀i j H,RD K H (gd i j) (gv i j)):OpD K false (dI gd) (cI gv):=by
 intro H0 H x y d e z Q s rx ry ho k
 cases d<;>simp only [dI] at ho<;>first | cases ho | skip
 cases e<;>simp only [dI] at ho<;>first | cases ho | skip
 cases rx.int;cases ry.int
 exact k _ H (.pure s (h _ _ _))
theorem znm {C:Int->Int->Prop} [∀i j,Decidable (C i j)] {gv:Int->Int->V} {gd:Int->Int->D} (h:∀i j H,RD K H (gd i j) (gv i j)):OpD K false (dIC C gd) (cIC C gv):=by
 intro H0 H x y d e z Q s rx ry ho k
 cases d<;>simp only [dIC] at ho<;>first | cases ho | skip
 cases e<;>simp only [dIC] at ho<;>first | cases ho | skip
 cases rx.int;cases ry.int
 split at ho
 . rename_i hcc
   cases ho
   exact ⟨hcc,k _ H (.pure s (h _ _ _))⟩
 . cases ho
instance (i j:Int):Decidable (CMul i j):=by unfold CMul;infer_instance
instance (i j:Int):Decidable (zmn i j):=by unfold zmn;infer_instance
instance (i j:Int):Decidable (zz6 i j):=by unfold zz6;infer_instance
noncomputable def z2g:D->D->Option D:=dI fun i j=>.int (i+j)
noncomputable def zl9:D->D->Option D:=dI fun i j=>.int (i - j)
noncomputable def zrw:D->D->Option D:=dIC CMul fun i j=>.int (i * j)
noncomputable def zla:D->D->Option D:=dIC zmn fun i j=>.int (i / j)
noncomputable def z9q:D->D->Option D:=dIC (fun _ j=>0<j) fun i j=>.int (i % j)
noncomputable def znn:D->D->Option D:=dI fun i j=>.bl (decide (i<j))
noncomputable def dLe:D->D->Option D:=dI fun i j=>.bl (decide (i<=j))
noncomputable def zlb:D->D->Option D:=dI fun i j=>.bl (decide (j<i))
noncomputable def dGe:D->D->Option D:=dI fun i j=>.bl (decide (j<=i))
theorem z0p:OpD K false z2g (cI fun i j=>.int (i+j)):=zq6 fun _ _ _=>.mkInt _
theorem z7z:OpD K false zl9 (cI fun i j=>.int (i - j)):=zq6 fun _ _ _=>.mkInt _
theorem zlc:OpD K false zrw (cIC CMul fun i j=>.int (i * j)):=znm fun _ _ _=>.mkInt _
theorem zd7:OpD K false zla (cIC zmn fun i j=>.int (i / j)):=znm fun _ _ _=>.mkInt _
theorem z25:OpD K false z9q (cIC (fun _ j=>0<j) fun i j=>.int (i % j)):=znm fun _ _ _=>.mkInt _
theorem zaf:OpD K false znn (cI fun i j=>.bl (decide (i<j))):=zq6 fun _ _ _=>.mkBl _
theorem zx2:OpD K false dLe (cI fun i j=>.bl (decide (i<=j))):=zq6 fun _ _ _=>.mkBl _
theorem z80:OpD K false zlb (cI fun i j=>.bl (decide (j<i))):=zq6 fun _ _ _=>.mkBl _
theorem zx3:OpD K false dGe (cI fun i j=>.bl (decide (j<=i))):=zq6 fun _ _ _=>.mkBl _
noncomputable def zrx:D->Option D
 | .int i=>some (.int (-i))
 | _=>none
theorem zld:UnD K false zrx (cU fun i=>.int (-i)):=by
 intro H0 H x d z Q s rx ho k
 cases d<;>simp only [zrx] at ho<;>first | cases ho | skip
 cases rx.int
 exact k _ H (.pure s (.mkInt _))
noncomputable def zjl:D->D->Option D
 | .lst ds,.lst es=>if ds.length+es.length<=100000 then some (.lst (ds++es)) else none
 | _,_=>none
theorem zry {n:Nat} (h:n<=100000):n<=sizeLine:=Nat.le_trans h (by decide)
theorem zle:OpD K true zjl zze:=by
 intro H0 H x y d e z Q s rx ry ho k
 cases d<;>simp only [zjl] at ho<;>first | cases ho | skip
 cases e<;>simp only [zjl] at ho<;>first | cases ho | skip
 split at ho<;>cases ho
 rename_i hl
 obtain ⟨a,xs,rfl,ha,ra⟩:=rx.lst
 obtain ⟨b,ys,rfl,hb,rb⟩:=ry.lst
 refine ⟨a,b,xs,ys,rfl,rfl,s _ _ ha,s _ _ hb,by rw [<-ra.length,<-rb.length];exact zry hl,fun p hp=>k _ _ (.new s hp fun H' hH=>?_)⟩
 simp only [OB]
 exact ⟨_,hH,ra.append rb⟩
end
noncomputable def dEq:D->D->Option D:=fun d e=>if d.pl=true/\e.pl=true/\d.dep<=20 then some (.bl (eqD d e)) else none
noncomputable def dNe:D->D->Option D:=fun d e=>if d.pl=true/\e.pl=true/\d.dep<=20 then some (.bl (!eqD d e)) else none
noncomputable def zzp (K:Frag):R2:=fun x y H Q=>∃d e,RD K H d x/\RD K H e y/\d.pl=true/\e.pl=true/\d.dep<=20/\Q (.bl (eqD d e)) H
noncomputable def zzq (K:Frag):R2:=fun x y H Q=>∃d e,RD K H d x/\RD K H e y/\d.pl=true/\e.pl=true/\d.dep<=20/\Q (.bl (!eqD d e)) H
noncomputable def zjm (neg:Bool):D->D->Option D:=fun d c=>match c with
 | .lst es=>if d.pl=true/\pls es=true/\z2s es<=20 then some (.bl (if neg then !(es.any fun e=>eqD e d) else es.any fun e=>eqD e d)) else none
 | .tup es=>if d.pl=true/\pls es=true/\z2s es<=20 then some (.bl (if neg then !(es.any fun e=>eqD e d) else es.any fun e=>eqD e d)) else none
 | _=>none
noncomputable def zvs (K:Frag) (neg:Bool):R2:=fun x y H Q=>∃p xs d es,y=.ref p/\(H p=some (.lst xs)\/H p=some (.tup xs))/\RD K H d x/\RDs K H es xs/\d.pl=true/\pls es=true/\z2s es<=20/\Q (.bl (if neg then !(es.any fun e=>eqD e d) else es.any fun e=>eqD e d)) H
section
variable {X:Cx} {K:Frag}
theorem z6s (hu:X.A.units+64<cLine):OpR X (compareOp .Eq) (zzp X.K):=by
 intro pins s U H x y v u Q I rx ry h
 obtain ⟨d,e,h1,h2,p1,p2,h3,q⟩:=h
 exact (zl7 (n:=20) I p1 p2 h3 (by lia) h1 h2 rx ry).1 X.prog X.w X.xe _ ⟨.bl _,H,I,rfl,q⟩
theorem zrz (hu:X.A.units+64<cLine):OpR X (compareOp .NotEq) (zzq X.K):=by
 intro pins s U H x y v u Q I rx ry h
 obtain ⟨d,e,h1,h2,p1,p2,h3,q⟩:=h
 exact (zl7 (n:=20) I p1 p2 h3 (by lia) h1 h2 rx ry).2 X.prog X.w X.xe _ ⟨.bl _,H,I,rfl,q⟩
theorem z6t:OpD K false dEq (zzp K):=by
 intro H0 H x y d e z Q s rx ry ho k
 unfold dEq at ho
 split at ho<;>cases ho
 rename_i h
 exact ⟨d,e,rx.mono s,ry.mono s,h.1,h.2.1,h.2.2,k _ H (.pure s (.mkBl _))⟩
theorem zs0:OpD K false dNe (zzq K):=by
 intro H0 H x y d e z Q s rx ry ho k
 unfold dNe at ho
 split at ho<;>cases ho
 rename_i h
 exact ⟨d,e,rx.mono s,ry.mono s,h.1,h.2.1,h.2.2,k _ H (.pure s (.mkBl _))⟩
theorem zx4 (hu:X.A.units+64<cLine):OpR X (compareOp .In) (zvs X.K false):=by
 intro pins s U H x y v u Q I rx ry h
 obtain ⟨p,xs,d,es,rfl,hp,hx,hes,pd,pe,hd,q⟩:=h
 cases ry
 rcases hp with hq | hq
 . obtain ⟨its,rv,pl,_⟩:=I.list (.of hq)
   refine SeqAt.in_listAt (hitD X.K H d) pl.isList (fun y hy=>z6p (A:=X.A) I (by lia) pd hx rx pe hes rv hd y (by simpa using hy)) ⟨.bl _,H,I,rfl,?_⟩
   rw [show its.toArray.any (hitD X.K H d)=its.any (hitD X.K H d) by simp,z4q pe hes rv]
   simpa using q
 . obtain ⟨its,rv,pl,_⟩:=I.tuple (.of hq)
   refine SeqAt.in_tupleAt (hitD X.K H d) pl (fun y hy=>z6p (A:=X.A) I (by lia) pd hx rx pe hes rv hd y (by simpa using hy)) ⟨.bl _,H,I,rfl,?_⟩
   rw [show its.toArray.any (hitD X.K H d)=its.any (hitD X.K H d) by simp,z4q pe hes rv]
   simpa using q
theorem zjn (hu:X.A.units+64<cLine):OpR X (compareOp .NotIn) (zvs X.K true):=by
 intro pins s U H x y v u Q I rx ry h
 obtain ⟨p,xs,d,es,rfl,hp,hx,hes,pd,pe,hd,q⟩:=h
 cases ry
 rcases hp with hq | hq
 . obtain ⟨its,rv,pl,_⟩:=I.list (.of hq)
   refine SeqAt.notIn_listAt (hitD X.K H d) pl.isList (fun y hy=>z6p (A:=X.A) I (by lia) pd hx rx pe hes rv hd y (by simpa using hy)) ⟨.bl _,H,I,rfl,?_⟩
   rw [show its.toArray.any (hitD X.K H d)=its.any (hitD X.K H d) by simp,z4q pe hes rv]
   simpa using q
 . obtain ⟨its,rv,pl,_⟩:=I.tuple (.of hq)
   refine SeqAt.notIn_tupleAt (hitD X.K H d) pl (fun y hy=>z6p (A:=X.A) I (by lia) pd hx rx pe hes rv hd y (by simpa using hy)) ⟨.bl _,H,I,rfl,?_⟩
   rw [show its.toArray.any (hitD X.K H d)=its.any (hitD X.K H d) by simp,z4q pe hes rv]
   simpa using q
theorem od_inS {neg:Bool}:OpD K false (zjm neg) (zvs K neg):=by
 intro H0 H x y d e z Q s rx ry ho k
 unfold zjm at ho
 cases e<;>dsimp only at ho<;>first | cases ho | skip
 . split at ho<;>cases ho
   rename_i es h
   obtain ⟨a,xs,rfl,ha,ra⟩:=ry.tup
   exact ⟨a,xs,d,es,rfl,.inr (s _ _ ha),rx.mono s,ra.mono s,h.1,h.2.1,h.2.2,k _ H (.pure s (.mkBl _))⟩
 . split at ho<;>cases ho
   rename_i es h
   obtain ⟨a,xs,rfl,ha,ra⟩:=ry.lst
   exact ⟨a,xs,d,es,rfl,.inl (s _ _ ha),rx.mono s,ra.mono s,h.1,h.2.1,h.2.2,k _ H (.pure s (.mkBl _))⟩
end
noncomputable def zs1:D->Option Key
 | .int i=>some (.inl i)
 | .str x=>some (.inr x)
 | _=>none
noncomputable def zed:List D->Option (List Key)
 | []=>some []
 | d::ds=>match zs1 d,zed ds with
  | some k,some ks=>some (k::ks)
  | _,_=>none
theorem zfz {K:Frag} {H:Hp} {d:D} {k:Key} {v:V} (h:zs1 d=some k) (r:RD K H d v):v=kV k:=by
 cases d<;>simp only [zs1] at h<;>first | cases h | skip
 . cases r.int;rfl
 . cases r.str;rfl
theorem zd8 {K:Frag} {H:Hp}:∀{ds:List D} {ks:List Key} {xs:List V},zed ds=some ks->RDs K H ds xs->xs=ks.map kV
 | [],ks,xs,h,r=>by
  simp only [zed] at h;cases h
  simp only [RDs] at r;subst r;rfl
 | d::ds,ks,xs,h,r=>by
  simp only [RDs] at r
  obtain ⟨x,xs,rfl,r1,r2⟩:=r
  simp only [zed] at h
  split at h<;>cases h
  rename_i k ks h1 h2
  rw [zfz h1 r1,zd8 h2 r2];rfl
def ROp (K:Frag) (H:Hp):Option D->Option V->Prop
 | some z,w=>∃v,w=some v/\RD K H z v
 | none,w=>w=none
section
variable {κ:Type} [DecidableEq κ]
noncomputable def zbt (ks:List κ) (ds:List D) (k:κ):Option D:=((ks.zip ds).find? fun kv=>decide (kv.1=k)).map (·.2)
theorem zbu {K:Frag} {H:Hp} (k:κ):∀{ks:List κ} {ds:List D} {xs:List V},ks.length=xs.length->RDs K H ds xs->ROp K H (zbt ks ds k) (zct (ks.zip xs) k)
 | [],ds,xs,_,_=>by simp [zbt,zct,ROp]
 | k'::ks,[],xs,h,r=>by
  simp only [RDs] at r;subst r;simp at h
 | k'::ks,d::ds,xs,h,r=>by
  simp only [RDs] at r
  obtain ⟨x,xs,rfl,r1,r2⟩:=r
  have ih:=zbu k (by simpa using h) r2 (ks:=ks)
  simp only [zbt,zct,List.zip_cons_cons,List.find?_cons] at ih ⊢
  by_cases e:k'=k
  . simp only [e,decide_true]
    exact ⟨x,rfl,r1⟩
  . simp only [e,decide_false]
    exact ih
noncomputable def zag (ks:List κ) (k:κ):List κ:=if k∈ks then ks else ks++[k]
noncomputable def zet {β:Type} (ks:List κ) (ds:List β) (k:κ) (d:β):List β:=if k∈ks then List.zipWith (fun k' d'=>if k'=k then d else d') ks ds else ds++[d]
theorem zno {K:Frag} {H:Hp} (k:κ) {d:D} {v:V} (rv:RD K H d v) {ks:List κ} {ds:List D} {xs:List V} (r:RDs K H ds xs):RDs K H (zet ks ds k d) (zet ks xs k v):=by
 have zw:∀(ks:List κ) (ds:List D) (xs:List V),RDs K H ds xs->RDs K H (List.zipWith (fun k' d'=>if k'=k then d else d') ks ds) (List.zipWith (fun k' d'=>if k'=k then v else d') ks xs):=by
  intro ks
  induction ks with
  | nil=>intro ds xs _;simp [RDs]
  | cons k' ks ih=>
   intro ds xs r
   cases ds with
   | nil=>simp only [RDs] at r;subst r;simp [RDs]
   | cons d' ds=>
    simp only [RDs] at r
    obtain ⟨x,xs,rfl,r1,r2⟩:=r
    simp only [List.zipWith_cons_cons]
    refine .cons ?_ (ih ds xs r2)
    by_cases e:k'=k
    . rw [if_pos e,if_pos e];exact rv
    . rw [if_neg e,if_neg e];exact r1
 unfold zet
 by_cases m:k∈ks
 . rw [if_pos m,if_pos m];exact zw ks ds xs r
 . rw [if_neg m,if_neg m];exact r.append (.one rv)
end
noncomputable def zbv:D->D->Option (Option D)
 | .dk ks ds,k=>(zs1 k).map fun k=>zbt ks ds k
 | .dt ks ds,.tup es=>(zed es).map fun k=>zbt ks ds k
 | _,_=>none
theorem zg0 {K:Frag} {H:Hp} {d k:D} {x y:V} {o:Option D} (h:zbv d k=some o) (rx:RD K H d x) (ry:RD K H k y) :
  ∃a w,x=.ref a/\DGet H a y w/\ROp K H o w:=by
 cases d<;>simp only [zbv] at h<;>first | cases h | skip
 . rename_i ks ds
   obtain ⟨a,xs,rfl,ha,hl,rs⟩:=rx.dk
   cases hk:zs1 k with
   | none=>rw [hk] at h;cases h
   | some k'=>
    rw [hk] at h
    have h:zbt ks ds k'=o:=by simpa using h
    subst h
    cases zfz hk ry
    exact ⟨a,_,rfl,DGet.k ha,zbu k' hl rs⟩
 . rename_i ks ds
   cases k<;>simp only [zbv] at h<;>first | cases h | skip
   rename_i es
   obtain ⟨a,xs,rfl,ha,hl,rs⟩:=rx.dt
   obtain ⟨b,ys,rfl,hb,rb⟩:=ry.tup
   cases hk:zed es with
   | none=>rw [hk] at h;cases h
   | some k'=>
    rw [hk] at h
    have h:zbt ks ds k'=o:=by simpa using h
    subst h
    have e:=zd8 hk rb
    subst e
    exact ⟨a,_,rfl,DGet.t ha hb,zbu k' hl rs⟩
noncomputable def zx5 (neg:Bool):D->D->Option D:=fun k d=>(zbv d k).map fun o=>.bl (if neg then !o.isSome else o.isSome)
noncomputable def zvt (neg:Bool):R2:=fun y x H Q=>∃a w,x=.ref a/\DGet H a y w/\Q (.bl (if neg then !w.isSome else w.isSome)) H
noncomputable def zx6:D->D->Option D:=fun d k=>(zbv d k).bind id
noncomputable def zx7:R2:=fun x y H Q=>∃a w,x=.ref a/\DGet H a y (some w)/\Q w H
noncomputable def zbw:D->D->Option D
 | .lst ds,.int i=>atI ds i
 | .tup ds,.int i=>atI ds i
 | .scr ns,.int i=>(atI ns i).map D.int
 | .str z,.int i=>if z.length<=100000 then (atI z.cps.toList i).map fun c=>D.str ⟨#[c]⟩ else none
 | _,_=>none
theorem RDs.atI {K:Frag} {H:Hp} {ds:List D} {xs:List V} {i:Int} {d:D} (r:RDs K H ds xs) (h:L2.atI ds i=some d):∃v,L2.atI xs i=some v/\RD K H d v:=by
 unfold L2.atI at h ⊢
 rw [<-r.length]
 cases q:ixN ds.length i with
 | none=>rw [q] at h;cases h
 | some j=>
  rw [q] at h
  exact r.get' h
theorem znp {α β:Type} (f:α->β) (xs:List α) (i:Int):atI (xs.map f) i=(atI xs i).map f:=by
 unfold atI
 rw [List.length_map]
 cases ixN xs.length i with
 | none=>rfl
 | some j=>simp
section
variable {X:Cx} {K:Frag}
theorem zx8 (hu:X.A.units+64<cLine):OpR X (compareOp .In) (zvt false):=by
 intro pins s U H x y v u Q I rx ry h
 obtain ⟨a,w,rfl,g,q⟩:=h
 cases ry
 exact y01 (by omega) I g rx fun s' I'=>⟨.bl w.isSome,H,I',rfl,by simpa using q⟩
theorem zjo (hu:X.A.units+64<cLine):OpR X (compareOp .NotIn) (zvt true):=by
 intro pins s U H x y v u Q I rx ry h
 obtain ⟨a,w,rfl,g,q⟩:=h
 cases ry
 exact zmv (by omega) I g rx fun s' I'=>⟨.bl (!w.isSome),H,I',rfl,by simpa using q⟩
theorem zs2 {neg:Bool}:OpD K false (zx5 neg) (zvt neg):=by
 intro H0 H x y d e z Q s rx ry ho k
 unfold zx5 at ho
 cases ho':zbv e d with
 | none=>rw [ho'] at ho;cases ho
 | some o=>
  rw [ho'] at ho;cases ho
  obtain ⟨a,w,rfl,g,m⟩:=zg0 ho' (ry.mono s) (rx.mono s)
  refine ⟨a,w,rfl,g,k _ H ?_⟩
  have e:w.isSome=o.isSome:=by
   cases o with
   | none=>rw [show w=none from m];rfl
   | some z=>obtain ⟨v,e,_⟩:=m;rw [e];rfl
  rw [e]
  exact .pure s (.mkBl _)
noncomputable def dIn (neg:Bool):D->D->Option D:=dOr (zjm neg) (zx5 neg)
noncomputable def zx9 (K:Frag) (neg:Bool):R2:=fun x y H Q=>zvs K neg x y H Q\/zvt neg x y H Q
theorem z8v (hu:X.A.units+64<cLine):OpR X (compareOp .In) (zx9 X.K false):=(zx4 hu).or (zx8 hu)
theorem z8w (hu:X.A.units+64<cLine):OpR X (compareOp .NotIn) (zx9 X.K true):=(zjn hu).or (zjo hu)
theorem z64 {neg:Bool}:OpD K false (dIn neg) (zx9 K neg):=od_inS.or zs2
theorem znq (hu:X.A.units+64<cLine):IxR X zx7:=by
 intro value slice pins s U H x y v u Q I rx ry h hs
 obtain ⟨a,w,rfl,g,q⟩:=h
 cases rx
 exact tail_any (ops:=[.ref a,u]) (zbk I g) PySem.F.slot_dict_getitem.lookup (zfb (by lia) I g ry fun w' s3 I3 rw'=>⟨w,H,I3,rw',q⟩) hs
theorem zs3:OpD K false zx6 zx7:=by
 intro H0 H x y d e z Q s rx ry ho k
 unfold zx6 at ho
 cases ho':zbv d e with
 | none=>rw [ho'] at ho;cases ho
 | some o=>
  rw [ho'] at ho
  have ho:o=some z:=ho
  subst ho
  obtain ⟨a,w,e0,g,m⟩:=zg0 ho' rx ry
  obtain ⟨v,rfl,rv⟩:=m
  subst e0
  refine ⟨a,v,rfl,?_,k _ H (.pure s rv)⟩
  rcases g with ⟨kvs,kk,e1,e2,e3⟩ | ⟨kvs,kk,b,e1,e2,e3,e4⟩
  . refine .inl ⟨kvs,kk,?_,e2,e3⟩
    rcases e1 with e1 | ⟨o,e1⟩
    . exact .inl (s _ _ e1)
    . exact .inr ⟨o,s _ _ e1⟩
  . refine .inr ⟨kvs,kk,b,?_,e2,s _ _ e3,e4⟩
    rcases e1 with e1 | ⟨o,e1⟩
    . exact .inl (s _ _ e1)
    . exact .inr ⟨o,s _ _ e1⟩
theorem od_ixS:OpD K false zbw (rIx K):=by
 intro H0 H x y d e z Q s rx ry ho k
 cases d<;>simp only [zbw] at ho<;>first | cases ho | skip
 . -- a text
   cases e<;>simp only [zbw] at ho<;>first | cases ho | skip
   cases rx.str;cases ry.int
   split at ho
   . rename_i z' i hl
     cases hc:atI z'.cps.toList i with
     | none=>rw [hc] at ho;cases ho
     | some c=>
      rw [hc] at ho;cases ho
      exact .inr (.inr ⟨z',i,c,rfl,rfl,zry hl,hc,k _ H (.pure s (.mkStr _))⟩)
   . cases ho
 . cases e<;>simp only [zbw] at ho<;>first | cases ho | skip
   obtain ⟨a,xs,rfl,ha,ra⟩:=rx.tup
   cases ry.int
   obtain ⟨v,hv,rv⟩:=ra.atI ho
   exact .inr (.inl ⟨a,xs,_,v,rfl,rfl,.of (s _ _ ha),hv,k _ H (.pure s rv)⟩)
 . cases e<;>simp only [zbw] at ho<;>first | cases ho | skip
   obtain ⟨a,xs,rfl,ha,ra⟩:=rx.lst
   cases ry.int
   obtain ⟨v,hv,rv⟩:=ra.atI ho
   exact .inl ⟨a,xs,_,v,rfl,rfl,.of (s _ _ ha),hv,k _ H (.pure s rv)⟩
 . cases e<;>simp only [zbw] at ho<;>first | cases ho | skip
   rename_i ns i
   cases ry.int
   obtain ⟨a,rfl,ha⟩:=(rx.mono s).scr
   cases hc:atI ns i with
   | none=>rw [hc] at ho;cases ho
   | some c=>
    rw [hc] at ho;cases ho
    exact .inl ⟨a,_,i,.int c,rfl,rfl,ha,by rw [znp,hc];rfl,k _ H (.pure s (.mkInt _))⟩
noncomputable def dIx:D->D->Option D:=dOr zbw zx6
noncomputable def zzr (K:Frag):R2:=fun x y H Q=>rIx K x y H Q\/zx7 x y H Q
theorem y0i (hu:X.A.units+64<cLine):IxR X (zzr X.K):=ix_seq.or (znq hu)
theorem zxa:OpD K false dIx (zzr K):=od_ixS.or zs3
end
structure QE (X:Cx) (EX:XW) (fr:Bool) (e:Expr) (f:DE->R D):Prop where
 h:PE X e (TEd X.K EX fr f)
structure QT (X:Cx) (EX:XW) (e:Expr) (t:DE->R Bool):Prop where
 h:PT X e (TTd X.K EX t)
structure QW (X:Cx) (EX:XW) (e:Expr) (t:DE->R Bool):Prop where
 h:PW X e (TTd X.K EX t)
structure QA (X:Cx) (EX:XW) (es:List Expr) (f:DE->R (List D)):Prop where
 h:PA X es (TAd X.K EX f)
structure QI (X:Cx) (EX:XW) (kp:Bool) (tg e:Expr) (f:DE->R (List D)):Prop where
 h:PI X tg e (TId X.K EX kp f)
structure QG (X:Cx) (tg:Expr) (t:Tg):Prop where
 h:PG X tg (TGd X.K t)
structure QGs (X:Cx) (ts:List Expr) (is:List Nat):Prop where
 h:PGs X ts (zd5 is)
structure QS (X:Cx) (EX:XW) (fr:Bool) (st:Stmt) (g:DS->SR):Prop where
 h:PS X st (TSd X.K EX fr g)
structure QB (X:Cx) (EX:XW) (fr:Bool) (sts:List Stmt) (g:DS->SR):Prop where
 h:PSs X sts (TSd X.K EX fr g)
section
variable {X:Cx} {EX:XW} {fr:Bool} {a b e:Expr} {es rest:List Expr} {fa fb:DE->R D} {fs:DE->R (List D)} {t u:DE->R Bool} {pos p:Pos} {x:Str}
theorem PA.imp {es:List Expr} {t t':TA} (h:PA X es t) (hi:∀U H Q,t' U H Q->t U H Q):PA X es t':=fun pos pins s U H Q I q=>h pos pins s U H Q I (hi U H Q q)
theorem PW.imp {e:Expr} {t t':TT} (h:PW X e t) (hi:∀U H Q,t' U H Q->t U H Q):PW X e t':=fun wh pins s U H Q I q=>h wh pins s U H Q I (hi U H Q q)
theorem PI.imp {tg e:Expr} {t t':TI} (h:PI X tg e t) (hi:∀U H Q,t' U H Q->t U H Q):PI X tg e t':=fun pins s U H Q I q=>h pins s U H Q I (hi U H Q q)
theorem PS.imp {st:Stmt} {t t':TS} (h:PS X st t) (hi:∀D U H,t' D U H->t D U H):PS X st t':=fun pins s U H D I q=>h pins s U H D I (hi D U H q)
theorem PSs.imp {st:List Stmt} {t t':TS} (h:PSs X st t) (hi:∀D U H,t' D U H->t D U H):PSs X st t':=fun pins s U H D I q=>h pins s U H D I (hi D U H q)
theorem QE.wk {f:DE->R D} (h:QE X EX true e f):QE X EX false e f:=⟨h.h.imp fun _ _ _ q=>q.weak⟩
theorem qv (i:Nat) {x:Str} {pos:Pos} (hN:X.N[i]?=some x:=by rfl) (hv:Vis X.env.scope x:=by first | exact .inl rfl | exact .inr (.inl rfl) | exact .inr (.inr rfl)) (hd:(x==("__debug__":Str))=false:=by decide)
 (hcd:(x==("__classdict__":Str))=false:=by decide):QE X EX false (.Name x pos) (z02 i):=⟨(zey hN hv hd hcd).imp fun U H Q q=>zwj q⟩
theorem z05 {i j pos}:QE X EX false (.Constant (.int i) j pos) (eC (.int i)):=⟨pe_int.imp fun U H Q q=>zbo (fun _=>.mkInt i) q⟩
theorem zs4 {i j pos}:QE X EX false (.Constant (.bool i) j pos) (eC (.bl i)):=⟨pe_bl.imp fun U H Q q=>zbo (fun _=>.mkBl i) q⟩
theorem zg1 {j pos}:QE X EX false (.Constant .none j pos) (eC .non):=⟨pe_non.imp fun U H Q q=>zbo (fun _=>.mkNon) q⟩
theorem z0e {op:Operator} {r:R2} {o:D->D->Option D} (ho:OpR X (binaryOp op) r) (od:OpD X.K fr o r) (ha:QE X EX false a fa) (hb:QE X EX false b fb):QE X EX fr (.BinOp a op b pos) (eOp o fa fb):=⟨(zw6 ho ha.h hb.h).imp fun _ _ _ q=>zvp od q⟩
theorem zzs {op:UnaryOp} {r:V->Hp->VK->Prop} {o:D->Option D} (ho:UnR X (unaryOp op) r) (od:UnD X.K fr o r) (ha:QE X EX false a fa):QE X EX fr (.UnaryOp op a pos) (eUn o fa):=⟨(zw7 ho ha.h).imp fun _ _ _ q=>y08 od q⟩
theorem z32 {op:CmpOp} {r:R2} {o:D->D->Option D} (ho:OpR X (compareOp op) r) (od:OpD X.K false o r) (ha:QE X EX false a fa) (hb:QE X EX false b fb) (hm:behindInMarks op b=false) :
 QE X EX false (.Compare a [op] [b] pos) (eOp o fa fb):=⟨(zmo ho ha.h hb.h hm).imp fun _ _ _ q=>zvp od q⟩
theorem y0j {r:R2} {o:D->D->Option D} (ho:IxR X r) (od:OpD X.K false o r) (ha:QE X EX false a fa) (hb:QE X EX false b fb) (hs:zbi b:=by exact fun _ _=>rfl):QE X EX false (.Subscript a b pos) (eOp o fa fb):=⟨(zw9 ho ha.h hb.h hs).imp fun _ _ _ q=>zvp od q⟩
theorem z04:QA X EX [] z08:=⟨pa_nil.imp fun _ _ _ q=>zrj q⟩
theorem z00 (ha:QE X EX false e fa) (hr:QA X EX es fs) (hs:starEach (e::es) X.env=(false,eval e X.env)::starEach es X.env:=by rfl):QA X EX (e::es) (z01 fa fs):=⟨(z6j ha.h hr.h hs).imp fun _ _ _ q=>zfs q⟩
theorem z1v {x1} (h:QA X EX es fs):QE X EX false (.Tuple es x1 pos) (z59 fs):=⟨(zqs h.h).imp fun _ _ _ q=>zwk q⟩
theorem z65 (h:QA X EX es fs):QE X EX true (.List es pos) (zac fs):=⟨(zqt h.h).imp fun _ _ _ q=>zwl q⟩
theorem z6u (ha:QE X EX false a fa) (hb:QE X EX false (.BoolOp .And (b::rest) pos) fb):QE X EX false (.BoolOp .And (a::b::rest) pos) (zbn fa fb):=⟨(zn0 ha.h hb.h).imp fun _ _ _ q=>zwp q⟩
theorem zxb (ha:QE X EX false a fa) (hb:QE X EX false (.BoolOp .Or (b::rest) pos) fb):QE X EX false (.BoolOp .Or (a::b::rest) pos) (eOr fa fb):=⟨(zr8 ha.h hb.h).imp fun _ _ _ q=>y0c q⟩
theorem z8x {op} (h:QE X EX false a fa):QE X EX false (.BoolOp op [a] pos) fa:=⟨zqk h.h⟩
noncomputable def zee:D->Option Bool
 | .bl b=>some b
 | .int i=>some (i != 0)
 | .non=>some false
 | .str z=>if z.length<=100000 then some ((z.length:Int) != 0) else none
 | .lst ds=>some (!ds.isEmpty)
 | .tup ds=>some (!ds.isEmpty)
 | .dk ks _=>some (!ks.isEmpty)
 | _=>none
theorem z4c {α β:Type} {xs:List α} {ys:List β} (h:xs.length=ys.length):xs.isEmpty=ys.isEmpty:=by
 cases xs<;>cases ys<;>first | rfl | simp at h
theorem zlf {K:Frag}:zwi K zee zab:=by
 intro H0 H x d b Q s rx ht q
 cases d<;>simp only [zee] at ht<;>first | cases ht | skip
 . cases rx.non;exact q
 . cases rx.bl;exact q
 . cases rx.int;exact q
 . split at ht<;>cases ht
   rename_i h
   cases rx.str
   exact ⟨zry h,q⟩
 . obtain ⟨p,xs,rfl,hp,r⟩:=rx.tup
   unfold zab
   dsimp only
   rw [zaa (s _ _ hp)]
   rw [z4c r.length] at q;exact q
 . obtain ⟨p,xs,rfl,hp,r⟩:=rx.lst
   unfold zab
   dsimp only
   rw [za9 (s _ _ hp)]
   rw [z4c r.length] at q;exact q
 . rename_i ks es
   obtain ⟨p,xs,rfl,hp,hl,r⟩:=rx.dk
   unfold zab
   dsimp only
   have e:z63 H p=none:=by unfold z63;rw [s _ _ hp]
   rw [e]
   dsimp only
   rw [s _ _ hp]
   dsimp only
   rw [z4c (show ks.length=(List.zip ks xs).length by rw [List.length_zip,<-hl,Nat.min_self])] at q
   exact q
theorem zs5 (ha:QE X EX false a fa):QE X EX false (.UnaryOp .Not a pos) (eUn (fun d=>(zee d).map fun b=>.bl (!b)) fa):=⟨(zn1 ha.h).imp fun _ _ _ q=>zro zlf q⟩
theorem zg2 (ha:QE X EX false a fa) (he:∀whole,isTrue a X.env whole=(do let v <-whole;standAt a.pos;holding [v] (truthy v)):=by intro _;rfl):QT X EX a (z24 zee fa):=⟨(zr6 ha.h he).imp fun _ _ _ q=>zwq zlf q⟩
theorem z1w {op:CmpOp} {r:R2} {o:D->D->Option D} (ho:OpR X (compareOp op) r) (od:OpD X.K false o r) (ha:QE X EX false a fa) (hb:QE X EX false b fb) (hm:behindInMarks op b=false) :
 QT X EX (.Compare a [op] [b] pos) (z24 asB (eOp o fa fb)):=⟨(zmz ho ha.h hb.h hm).imp fun _ _ _ q=>zwr od q⟩
theorem QW.pt (h:QW X EX a t):QT X EX a t:=⟨h.h.pt⟩
theorem zg3 (ha:QT X EX a t):QT X EX (.UnaryOp .Not a pos) (zje t):=⟨(zqj ha.h).imp fun _ _ _ q=>zrl q⟩
theorem zah (ha:QT X EX a t):QW X EX (.BoolOp .And [a] pos) t:=⟨zmk ha.h⟩
theorem zg4 (ha:QT X EX a t):QW X EX (.BoolOp .Or [a] pos) t:=⟨zqh ha.h⟩
theorem zef (ha:QT X EX a t) (hb:QW X EX (.BoolOp .And (b::rest) pos) u):QW X EX (.BoolOp .And (a::b::rest) pos) (zin t u):=⟨(zqi ha.h hb.h).imp fun _ _ _ q=>zrk q⟩
theorem zq7 (ha:QT X EX a t) (hb:QW X EX (.BoolOp .Or (b::rest) pos) u):QW X EX (.BoolOp .Or (a::b::rest) pos) (bOr t u):=⟨(zw1 ha.h hb.h).imp fun _ _ _ q=>zwm q⟩
theorem zeu {id:String} {rr:List V->Hp->VK->Prop} {m:List D->Option D} (hc:CallR X (.builtin id) rr) (od:z5c X.K fr m rr) (hg:Gl X x) (hm:X.mg x=none) (hv:bootBuiltins x=some (.builtin id)) (ha:QA X EX (e::es) fs) (hn:x≠"__name__":=by decide) (hdb:(x==("__debug__":Str))=false:=by decide)
 (he:starEach (e::es) X.env=(false,eval e X.env)::starEach es X.env:=by rfl) (hpl:(backTo pos (starEach es X.env)).any (·.1)=false:=by rfl):QE X EX fr (.Call (.Name x p) (e::es) [] pos) (eCB m fs):=⟨(z8j hc hg hm hv ha.h hn hdb he hpl).imp fun _ _ _ q=>zvq od q⟩
theorem z7l {T:String} {rr:List V->Hp->VK->Prop} {m:List D->Option D} (hc:CallR X (.type T) rr) (od:z5c X.K fr m rr) (hg:Gl X x) (hm:X.mg x=none) (hv:bootBuiltins x=some (.type T)) (ha:QA X EX (e::es) fs) (hn:x≠"__name__":=by decide) (hdb:(x==("__debug__":Str))=false:=by decide)
 (he:starEach (e::es) X.env=(false,eval e X.env)::starEach es X.env:=by rfl) (hpl:(backTo pos (starEach es X.env)).any (·.1)=false:=by rfl):QE X EX fr (.Call (.Name x p) (e::es) [] pos) (eCB m fs):=⟨(za0 hc hg hm hv ha.h hn hdb he hpl).imp fun _ _ _ q=>zvq od q⟩
theorem z0z {ps:List Str} {k j n kk:Nat} {gg:DS->SR} (L:Lnd X EX) (G:z5r X.prog X.w X.K X.mg X.base x ps k (spD X.K X.mg fr (mOf fr n kk gg) n)) (hr:Room j X.A) (hg:Gl X x) (ha:QA X EX (e::es) fs) (hkj:k<=j:=by omega) (hdb:(x==("__debug__":Str))=false:=by decide)
 (he:starEach (e::es) X.env=(false,eval e X.env)::starEach es X.env:=by rfl) (hpl:(backTo pos (starEach es X.env)).any (·.1)=false:=by rfl):QE X EX fr (.Call (.Name x p) (e::es) [] pos) (z0r (mOf fr n kk gg) fs):=⟨(znl G L.on hr hg ha.h hkj hdb he hpl).imp fun _ _ _ q=>zrt zni (fun x H z=>by obtain ⟨C,hC⟩:=L.nm x H z;exact ⟨C,hC,fun od xf=>⟨x,z,hC,xf⟩⟩) q⟩
end
noncomputable def z5f:D->String
 | .non=>"NoneType"
 | .bl _=>"bool"
 | .int _=>"int"
 | .str _=>"str"
 | .tup _=>"tuple"
 | .lst _=>"list"
 | .dk _ _=>"dict"
 | .dt _ _=>"dict"
 | .dn _ _=>"?"
 | .scr _=>"?"
 | .exc _ _=>"?"
noncomputable def z7h (c:String):D->Option D:=fun d=>if z6n c=true/\z5f d≠"?" then some (.bl (zfg (z5f d) c)) else none
theorem znr {K:Frag} {H:Hp} {d:D} {v:V} (h:z5f d≠"?") (r:RD K H d v):z8m H v=some (z5f d):=by
 cases d
 . cases r.non;rfl
 . cases r.bl;rfl
 . cases r.int;rfl
 . cases r.str;rfl
 . obtain ⟨a,xs,rfl,ha,_⟩:=r.tup;simp only [z8m,ha,z5f]
 . obtain ⟨a,xs,rfl,ha,_⟩:=r.lst;simp only [z8m,ha,z5f]
 . obtain ⟨a,xs,rfl,ha,_⟩:=r.dk;simp only [z8m,ha,z5f]
 . obtain ⟨a,xs,rfl,ha,_⟩:=r.dt;simp only [z8m,ha,z5f]
 . exact absurd rfl h
 . exact absurd rfl h
 . exact absurd rfl h
theorem zxc {K:Frag} {EX:XW} {U:St} {H:Hp} {Q:VK} {c:String} {f:DE->R D} (h:TEd K EX false (eUn (z7h c) f) U H Q):tCB zvn (ze4 (TEd K EX false f) (ze4 (tC (.ty c)) zvl)) U H Q:=by
 obtain ⟨sx,ρ,H0,s,e,h⟩:=h
 unfold eUn at h
 rw [Rk.bind] at h
 refine TEd.go sx s e h fun d h v H1 H1' s1 e1 r1=>?_
 obtain ⟨z,hz,h⟩:=h.of
 unfold z7h at hz
 split at hz<;>cases hz
 rename_i hc
 show zvn [v,.ty c] H1 Q
 rw [zrd]
 refine ⟨hc.1,?_⟩
 rw [znr hc.2 (r1.mono e1.2.1)]
 exact h _ H1 (.val s1 e1 (.mkBl _))
theorem zg5 {X:Cx} {EX:XW} {a b:Expr} {pos p:Pos} {x c:_} {f:DE->R D} (hg:Gl X x) (hm:X.mg x=none) (hv:bootBuiltins x=some (.builtin "isinstance")) (ha:QE X EX false a f) (hb:PE X b (tC (.ty c))) (hn:x≠"__name__":=by decide) (hdb:(x==("__debug__":Str))=false:=by decide)
 (he:starEach [a,b] X.env=(false,eval a X.env)::starEach [b] X.env:=by rfl) (hpl:(backTo pos (starEach [b] X.env)).any (·.1)=false:=by rfl) (hs:starEach [b] X.env=(false,eval b X.env)::starEach [] X.env:=by rfl) :
 QE X EX false (.Call (.Name x p) [a,b] [] pos) (eUn (z7h c) f):=⟨(z8j zwg hg hm hv (z6j ha.h (z6j hb pa_nil hs) he) hn hdb he hpl).imp fun _ _ _ q=>zxc q⟩
noncomputable def z1x:List D->Option (List Int)
 | []=>some []
 | .int i::ds=>(z1x ds).map (i::·)
 | _::_=>none
theorem z5g:∀(ns:List Int),z1x (ns.map D.int)=some ns
 | []=>rfl
 | n::ns=>by simp [z1x,z5g ns]
theorem z4u {K:Frag} {H:Hp}:∀{ds:List D} {ns:List Int} {xs:List V},z1x ds=some ns->RDs K H ds xs->xs=ns.map V.int
 | [],ns,xs,h,r=>by
  simp only [z1x] at h;cases h
  simp only [RDs] at r;subst r;rfl
 | d::ds,ns,xs,h,r=>by
  simp only [RDs] at r
  obtain ⟨x,xs,rfl,r1,r2⟩:=r
  cases d<;>simp only [z1x] at h<;>first | cases h | skip
  cases q:z1x ds with
  | none=>rw [q] at h;cases h
  | some ms=>
   rw [q] at h;cases h
   cases r1.int
   rw [z4u q r2];rfl
noncomputable def z7i:List D->Option D
 | [.lst ds]=>some (.int ds.length)
 | [.tup ds]=>some (.int ds.length)
 | [.dk ks _]=>some (.int ks.length)
 | [.scr ns]=>some (.int ns.length)
 | [.str z]=>if z.length<=100000 then some (.int z.length) else none
 | _=>none
noncomputable def zio:List D->Option D
 | [.lst ds]=>(z1x ds).map fun ns=>.int ns.sum
 | [.tup ds]=>(z1x ds).map fun ns=>.int ns.sum
 | _=>none
noncomputable def zjp:List D->Option D
 | [.int i,.int j]=>some (.int (if j > i then j else i))
 | _=>none
noncomputable def zjq:List D->Option D
 | [.int i,.int j]=>some (.int (if j<i then j else i))
 | _=>none
noncomputable def zjr:List D->Option D
 | [.int i]=>some (.int i)
 | [.bl b]=>some (.int (if b then 1 else 0))
 | _=>none
noncomputable def zeg:List D->Option D
 | [.lst ds]=>some (.lst ds)
 | [.tup ds]=>some (.lst ds)
 | [.scr ns]=>some (.lst (ns.map .int))
 | _=>none
noncomputable def z4v:List D->Option D
 | [.lst ds]=>some (.tup ds)
 | [.tup ds]=>some (.tup ds)
 | _=>none
section
variable {X:Cx} {K:Frag}
theorem RDs.uno {H:Hp} {d:D} {xs:List V} (h:RDs K H [d] xs):∃x,xs=[x]/\RD K H d x:=by
 simp only [RDs] at h
 obtain ⟨x,r,rfl,h1,rfl⟩:=h
 exact ⟨x,rfl,h1⟩
theorem RDs.duo {H:Hp} {d e:D} {xs:List V} (h:RDs K H [d,e] xs):∃x y,xs=[x,y]/\RD K H d x/\RD K H e y:=by
 simp only [RDs] at h
 obtain ⟨x,r,rfl,h1,y,r',rfl,h2,rfl⟩:=h
 exact ⟨x,y,rfl,h1,h2⟩
def zs6 (K:Frag):List V->Hp->VK->Prop:=fun xs H Q=>(∃p ys,xs=[.ref p]/\(SqL K H p ys\/SqT K H p ys)/\Q (.int ys.length) H)\/(∃a kvs,xs=[V.ref a]/\H a=some (.dK kvs)/\Q (.int kvs.length) H)\/∃z,xs=[.str z]/\z.length<=sizeLine/\Q (.int z.length) H
theorem zs7:CallR X (.builtin "len") (zs6 X.K):=call_len_seq.or (call_lenD.or za2)
theorem zs8:z5c K false z7i (zs6 K):=by
 intro H0 H xs ds z Q s r ho k
 unfold z7i at ho
 split at ho<;>first | cases ho | skip
 . obtain ⟨x,rfl,q1⟩:=r.uno
   obtain ⟨a,ys,rfl,ha,ra⟩:=q1.lst
   exact .inl ⟨a,ys,rfl,.inl (.of (s _ _ ha)),by rw [<-ra.length];exact k _ H (.pure s (.mkInt _))⟩
 . obtain ⟨x,rfl,q1⟩:=r.uno
   obtain ⟨a,ys,rfl,ha,ra⟩:=q1.tup
   exact .inl ⟨a,ys,rfl,.inr (.of (s _ _ ha)),by rw [<-ra.length];exact k _ H (.pure s (.mkInt _))⟩
 . obtain ⟨x,rfl,q1⟩:=r.uno
   obtain ⟨a,ys,rfl,ha,hl,ra⟩:=q1.dk
   refine .inr (.inl ⟨a,_,rfl,s _ _ ha,?_⟩)
   rw [List.length_zip,<-hl,Nat.min_self]
   exact k _ H (.pure s (.mkInt _))
 . obtain ⟨x,rfl,q1⟩:=r.uno
   obtain ⟨a,rfl,ha⟩:=(q1.mono s).scr
   exact .inl ⟨a,_,rfl,.inl ha,by rw [List.length_map];exact k _ H (.pure s (.mkInt _))⟩
 . split at ho<;>cases ho
   rename_i h
   obtain ⟨x,rfl,q1⟩:=r.uno
   cases q1.str
   exact .inr (.inr ⟨_,rfl,zry h,k _ H (.pure s (.mkInt _))⟩)
theorem zlg:z5c K false zio zn9:=by
 intro H0 H xs ds z Q s r ho k
 unfold zio at ho
 split at ho<;>first | cases ho | skip
 . obtain ⟨x,rfl,q1⟩:=r.uno
   obtain ⟨a,ys,rfl,ha,ra⟩:=q1.lst
   rename_i es
   cases q:z1x es with
   | none=>rw [q] at ho;cases ho
   | some ns=>
    rw [q] at ho;cases ho
    rw [zfm]
    exact ⟨ns,by rw [<-z4u q ra];exact za9 (s _ _ ha),k _ H (.pure s (.mkInt _))⟩
 . obtain ⟨x,rfl,q1⟩:=r.uno
   obtain ⟨a,ys,rfl,ha,ra⟩:=q1.tup
   rename_i es
   cases q:z1x es with
   | none=>rw [q] at ho;cases ho
   | some ns=>
    rw [q] at ho;cases ho
    rw [zfm]
    exact ⟨ns,by rw [<-z4u q ra];exact zaa (s _ _ ha),k _ H (.pure s (.mkInt _))⟩
theorem zns:z5c K false zjp zna:=by
 intro H0 H xs ds z Q s r ho k
 unfold zjp at ho
 split at ho<;>first | cases ho | skip
 obtain ⟨x,y,rfl,r1,r2⟩:=r.duo
 cases r1.int;cases r2.int
 rw [znc]
 exact k _ H (.pure s (.mkInt _))
theorem znt:z5c K false zjq znb:=by
 intro H0 H xs ds z Q s r ho k
 unfold zjq at ho
 split at ho<;>first | cases ho | skip
 obtain ⟨x,y,rfl,r1,r2⟩:=r.duo
 cases r1.int;cases r2.int
 rw [znd]
 exact k _ H (.pure s (.mkInt _))
theorem zai:z5c K false zjr zrc:=by
 intro H0 H xs ds z Q s r ho k
 unfold zjr at ho
 split at ho<;>first | cases ho | skip
 . obtain ⟨x,rfl,q1⟩:=r.uno
   cases q1.int
   exact k _ H (.pure s (.mkInt _))
 . obtain ⟨x,rfl,q1⟩:=r.uno
   cases q1.bl
   exact k _ H (.pure s (.mkInt _))
def zlh (K:Frag):List V->Hp->VK->Prop:=fun xs H Q=>∃p ys,xs=[.ref p]/\(SqL K H p ys\/SqT K H p ys)/\∀l,H l=none->Q (.ref l) (upd H l (.lst ys))
theorem znu:CallR X (.type "list") (zlh X.K):=za3
theorem znv:z5c K true zeg (zlh K):=by
 intro H0 H xs ds z Q s r ho k
 have fin:∀{p:Addr} {ys:List V} {es:List D},RDs K H0 es ys->z=.lst es->H p=none->Q (.ref p) (upd H p (.lst ys)):=fun {p ys es} re e hp=>by
  subst e
  refine k _ _ (.new s hp fun H' hH=>?_)
  simp only [OB]
  exact ⟨_,hH,re⟩
 unfold zeg at ho
 split at ho<;>first | cases ho | skip
 . obtain ⟨x,rfl,q1⟩:=r.uno
   obtain ⟨a,ys,rfl,ha,ra⟩:=q1.lst
   exact ⟨a,ys,rfl,.inl (.of (s _ _ ha)),fun l hl=>fin ra rfl hl⟩
 . obtain ⟨x,rfl,q1⟩:=r.uno
   obtain ⟨a,ys,rfl,ha,ra⟩:=q1.tup
   exact ⟨a,ys,rfl,.inr (.of (s _ _ ha)),fun l hl=>fin ra rfl hl⟩
 . obtain ⟨x,rfl,q1⟩:=r.uno
   obtain ⟨a,rfl,ha⟩:=(q1.mono s).scr
   exact ⟨a,_,rfl,.inl ha,fun l hl=>fin (RDs.ofInts _) rfl hl⟩
def zg6 (K:Frag):List V->Hp->VK->Prop:=fun xs H Q=>∃p ys,xs=[.ref p]/\((SqL K H p ys/\∀l,H l=none->Q (.ref l) (upd H l (.tup ys)))\/(SqT K H p ys/\Q (.ref p) H))
theorem z69:CallR X (.type "tuple") (zg6 X.K):=z8l
theorem z6a:z5c K false z4v (zg6 K):=by
 intro H0 H xs ds z Q s r ho k
 unfold z4v at ho
 split at ho<;>first | cases ho | skip
 . obtain ⟨x,rfl,q1⟩:=r.uno
   obtain ⟨a,ys,rfl,ha,ra⟩:=q1.lst
   refine ⟨a,ys,rfl,.inl ⟨.of (s _ _ ha),fun l hl=>k _ _ (.val (Same.upd_new hl) (.new s hl) (.mkTup z0o (ra.mono (Same.upd_new (s.none hl)))))⟩⟩
 . obtain ⟨x,rfl,q1⟩:=r.uno
   obtain ⟨a,ys,rfl,ha,ra⟩:=q1.tup
   exact ⟨a,ys,rfl,.inr ⟨.of (s _ _ ha),k _ H (.pure s (.mkTup ha ra))⟩⟩
end
noncomputable def zg7 {α:Type} (xs:List α) (lo hi:Option Int):List α:=(xs.drop (HT.sIx xs.length 0 lo)).take (HT.sIx xs.length xs.length hi - HT.sIx xs.length 0 lo)
noncomputable def dSl:D->Option Int->Option Int->Option D
 | .lst ds,lo,hi=>some (.lst (zg7 ds lo hi))
 | .scr ns,lo,hi=>some (.lst ((zg7 ns lo hi).map .int))
 | _,_,_=>none
noncomputable def TOd (K:Frag) (EX:XW) (f:DE->R (Option Int)):TO:=fun U H Q=>Same EX.hb H/\∃ρ H0,Same H0 H/\RE K H0 ρ U/\Rk EX.at (f ρ) fun o=>∀H',Same H H'->Q o H'
noncomputable def oNo:DE->R (Option Int):=fun _=>.ok none
noncomputable def oSo (f:DE->R D):DE->R (Option Int):=fun ρ=>(f ρ).bind fun d=>R.of (match d with | .int i=>some (some i) | _=>none)
noncomputable def eSl (o:D->Option Int->Option Int->Option D) (f:DE->R D) (fl fh:DE->R (Option Int)):DE->R D:=fun ρ=>(f ρ).bind fun d=>(fl ρ).bind fun lo=>(fh ρ).bind fun hi=>R.of (o d lo hi)
def SlD (K:Frag) (fr:Bool) (o:D->Option Int->Option Int->Option D) (r:V->Option Int->Option Int->Hp->VK->Prop):Prop:=∀(H0 H:Hp) (x:V) (d z:D) (lo hi:Option Int) (Q:VK),Same H0 H->RD K H0 d x->o d lo hi=some z->(∀v H',Out K fr H0 H z v H'->Q v H')->r x lo hi H Q
section
variable {X:Cx} {K:Frag} {EX:XW} {fr:Bool} {U:St} {H:Hp} {Q:VK}
structure QO (X:Cx) (EX:XW) (e:Option Expr) (f:DE->R (Option Int)):Prop where
 h:PO X e (TOd X.K EX f)
theorem PO.imp {e:Option Expr} {t t':TO} (h:PO X e t) (hi:∀U H Q,t' U H Q->t U H Q):PO X e t':=fun pins s U H Q I q=>h pins s U H Q I (hi U H Q q)
theorem zxd:QO X EX none oNo:=⟨po_none.imp fun U H Q ⟨sx,ρ,H0,s,e,h⟩=>h H (Same.refl _)⟩
theorem zxe {e:Expr} {f:DE->R D} (he:QE X EX false e f):QO X EX (some e) (oSo f):=⟨(zmt he.h).imp fun U H Q ⟨sx,ρ,H0,s,e,h⟩=>by
 unfold oSo at h
 rw [Rk.bind] at h
 refine TEd.go sx s e h fun d h v H1 H1' s1 e1 r1=>?_
 obtain ⟨o,ho,h⟩:=h.of
 cases d<;>dsimp only at ho<;>first | cases ho | skip
 cases r1.int
 exact ⟨_,rfl,h H1 s1⟩⟩
theorem y0k {o:D->Option Int->Option Int->Option D} {r:V->Option Int->Option Int->Hp->VK->Prop} {f:DE->R D} {fl fh:DE->R (Option Int)} (hs:SlD K fr o r) (h:TEd K EX fr (eSl o f fl fh) U H Q):tSl r (TEd K EX false f) (TOd K EX fl) (TOd K EX fh) U H Q:=by
 obtain ⟨sx,ρ,H0,s,e,h⟩:=h
 unfold eSl at h
 rw [Rk.bind] at h
 refine TEd.go sx s e h fun d h v H1 H1' s1 e1 r1=>?_
 rw [Rk.bind] at h
 refine ⟨sx.trans s1,ρ,H1',e1.2.1,e.mono e1.1,h.mono fun lo h H2 s2=>?_⟩
 rw [Rk.bind] at h
 refine ⟨(sx.trans s1).trans s2,ρ,H1',e1.2.1.trans s2,e.mono e1.1,h.mono fun hi h H3 s3=>?_⟩
 obtain ⟨z,hz,h⟩:=h.of
 exact hs H1' H3 v d z lo hi Q (e1.2.1.trans (s2.trans s3)) r1 hz fun w H4 o=>h w H4 (o.after (s1.trans (s2.trans s3)) (e1.grow (s2.trans s3)))
theorem RDs.cut {H:Hp} {ds:List D} {xs:List V} (r:RDs K H ds xs) (lo hi:Option Int):RDs K H (zg7 ds lo hi) (zq2 xs lo hi):=by
 unfold zg7 zq2
 rw [<-r.length]
 exact (r.drop _).take _
theorem zbx:SlD K true dSl (zzd K):=by
 intro H0 H x d z lo hi Q s r ho k
 cases d<;>simp only [dSl] at ho<;>first | cases ho | skip
 . obtain ⟨a,xs,rfl,ha,ra⟩:=r.lst
   refine ⟨a,xs,rfl,.of (s _ _ ha),fun p hp=>k _ _ (.new s hp fun H' hH=>?_)⟩
   simp only [OB]
   exact ⟨_,hH,ra.cut lo hi⟩
 . rename_i ns
   obtain ⟨a,rfl,ha⟩:=(r.mono s).scr
   refine ⟨a,_,rfl,ha,fun p hp=>k _ _ (.new s hp fun H' hH=>?_)⟩
   simp only [OB]
   have e:=(RDs.ofInts (K:=K) (H:=H0) ns).cut lo hi
   refine ⟨_,hH,?_⟩
   have e2:∀ns:List Int,zg7 (ns.map D.int) lo hi=(zg7 ns lo hi).map D.int:=fun ns=>by
    unfold zg7;rw [List.length_map,List.map_take,List.map_drop]
   rw [e2] at e
   exact e
theorem zxf {o:D->Option Int->Option Int->Option D} {r:V->Option Int->Option Int->Hp->VK->Prop} {e:Expr} {lo hi:Option Expr} {pos p2:Pos} {f:DE->R D} {fl fh:DE->R (Option Int)} (hr:SlR X r) (hs:SlD X.K fr o r) (he:QE X EX false e f) (hl:QO X EX lo fl) (hu:QO X EX hi fh) :
 QE X EX fr (.Subscript e (.Slice lo hi none p2) pos) (eSl o f fl fh):=⟨(ziz hr he.h hl.h hu.h).imp fun _ _ _ q=>y0k hs q⟩
end
noncomputable def iL (f:DE->R D):DE->R (List D):=fun ρ=>(f ρ).bind fun d=>R.of (items d)
noncomputable def zD (lo:Int) (n:Nat):List D:=(List.range n).map fun (i:Nat)=>D.int (lo+i)
noncomputable def znw (fs:DE->R (List D)):DE->R (List D):=fun ρ=>(fs ρ).bind fun ds=>R.of (match ds with
 | [.int j]=>if -(2 ^ 62)<=j/\j<2 ^ 62 then some (zD 0 j.toNat) else none
 | _=>none)
section
variable {X:Cx} {K:Frag} {EX:XW} {H0:Hp}
theorem zg8 {S:Hp->Prop} {xs:List V} {ds:List D} (hS:∀H,Same H0 H->S H) (r:RDs K H0 ds xs):zrs K (ItS S xs) H0 ds:=by
 have hl:=r.length
 refine ⟨fun i d e H H1 s1 s2=>⟨⟨hS H (s1.trans s2),by rw [<-hl];exact (List.getElem?_eq_some_iff.mp e).1⟩,fun x H' ⟨e1,e2⟩=>?_⟩,fun H s=>⟨hS H s,by rw [hl];exact Nat.le_refl _⟩⟩
 subst e1
 obtain ⟨x',q1,q2⟩:=r.get' e
 rw [q1] at e2;cases e2
 exact ⟨Same.refl _,H1,.refl s2,q2.mono s1⟩
theorem zxg (lo:Int) (n:Nat):RDs K H0 (zD lo n) (zim lo n):=by
 have:∀l:List Nat,RDs K H0 (l.map fun (i:Nat)=>D.int (lo+i)) (l.map fun (i:Nat)=>V.int (lo+i)):=by
  intro l
  induction l with
  | nil=>simp [RDs]
  | cons a l ih=>exact .cons (.mkInt _) ih
 exact this _
theorem z4d {tg l:Expr} {f:DE->R D} (hl:QE X EX false l f):QI X EX false tg l (iL f):=⟨(zr9 hl.h).imp fun U H Q ⟨sx,ρ,H0,s,e,h⟩=>by
 unfold iL at h
 rw [Rk.bind] at h
 refine TEd.go sx s e h fun d h v H1 H1' s1 e1 r1=>?_
 obtain ⟨ds,hd,h⟩:=h.of
 cases d<;>simp only [items] at hd<;>first | cases hd | skip
 . obtain ⟨a,xs,rfl,ha,ra⟩:=r1.tup
   exact zj7 (e1.2.1 _ _ ha) (h _ H1 H1' s1 e1 (zg8 (fun H s=>s _ _ ha) ra))
 . obtain ⟨a,xs,rfl,ha,ra⟩:=r1.lst
   exact zj6 (.inl (e1.2.1 _ _ ha)) (h _ H1 H1' s1 e1 (zg8 (fun H s=>.inl (s _ _ ha)) ra))⟩
theorem zxh {tg a:Expr} {p pos:Pos} {fs:DE->R (List D)} (hg:Gl X "range") (hm:X.mg "range"=none) (ha:QA X EX [a] fs) (hs:starEach [a] X.env=[(false,eval a X.env)]:=by rfl):QI X EX true tg (.Call (.Name "range" p) [a] [] pos) (znw fs):=⟨(zwd hg hm ha.h hs).imp fun U H Q ⟨sx,ρ,H0,s,e,h⟩=>by
 unfold znw at h
 rw [Rk.bind] at h
 refine TAd.go sx s e h fun ds h vs H1 H1' s1 e1 r1=>?_
 obtain ⟨es,hd,h⟩:=h.of
 split at hd<;>first | cases hd | skip
 obtain ⟨x,rfl,q1⟩:=r1.uno
 cases q1.int
 split at hd<;>cases hd
 rename_i hb
 exact ⟨hb,h _ H1 H1' s1 e1 (zg8 (fun _ _=>trivial) (zxg _ _))⟩⟩
end
section
variable {X:Cx} {sc:Scope} {caps:List Str} {ix:List Nat} {elt iter:Expr} {ifs:List Expr} {pos px py pz tpos:Pos} {x y z:Str} {kt:Nat} {kp:Bool} {EX:XW} {fi:DE->R (List D)} {t:DE->R Bool} {f:DE->R D}
noncomputable def zjs:DE->R Bool:=fun _=>.ok true
inductive PTq (X:Cx) (sc:Scope) (N:List Str):List Expr->(DE->R Bool)->Prop where
 | nil:PTq X sc N [] zjs
 | one {c:Expr} {t:DE->R Bool} (h:∀fp s H,QT (z0d X sc N fp s H) F0 c t):PTq X sc N [c] t
theorem PTq.run {N:List Str} (h:PTq X sc N ifs t):∃tt,(∀fp s H,PTs (z0d X sc N fp s H) ifs tt)/\∀U H Q,TTd X.K F0 t U H Q->tt U H Q:=by
 cases h with
 | nil=>exact ⟨_,fun _ _ _=>.nil,fun U H Q ⟨sx,ρ,H0,s,e,h⟩=>h H (Same.refl _)⟩
 | one h=>exact ⟨_,fun fp s H=>.one (h fp s H).h,fun _ _ _ q=>q⟩
theorem zxi (C:CompOk X sc caps ix) (hN:([x]++caps).Nodup) (hx:sc.names.lookup x=some .local) (hi:QI X EX kp (.Name x px) iter fi) (ht:PTq X sc ([x]++caps) ifs t) (he:∀fp s H,QE (z0d X sc ([x]++caps) fp s H) F0 false elt f)
  (hs:∀x,foldedSetIterable iter X.env x=pure x:=by intro _;rfl):QE X EX true (.ListComp elt [⟨.Name x px,iter,ifs,0⟩] sc pos) (z31 fi b1 ix t f):=by
 obtain ⟨tt,h1,h2⟩:=ht.run
 refine ⟨(zj8 C hN hx hi.h h1 (fun fp s H=>(he fp s H).h) hs).imp fun _ _ _ q=>zd6 zzn h2 q⟩
theorem z6v {te te':TE} {g:TG} (h:∀U H Q,te' U H Q->te U H Q) {De:Ends} {U:St} {H:Hp} (q:zf1 te' g De U H):zf1 te g De U H:=h _ _ _ q
theorem zs9 {fr:Bool} {m:List Bool} {v:Str} {k:Nat} {spos pv:Pos} (hNX:X.N.Nodup) (hk:X.N[k]?=some v) (hv:X.env.scope.names.lookup v=some .local) (C:CompOk X sc caps ix) (hN:([x]++caps).Nodup) (hx:sc.names.lookup x=some .local) (hi:QI X EX kp (.Name x px) iter fi)
  (ht:PTq X sc ([x]++caps) ifs t) (he:∀fp s H,QE (z0d X sc ([x]++caps) fp s H) F0 false elt f)
  (hsw:swapsWith (.ListComp elt [⟨.Name x px,iter,ifs,0⟩] sc pos) (some (.Name v pv)) spos.line X.env=pure true:=by rfl) (hs:∀x,foldedSetIterable iter X.env x=pure x:=by intro _;rfl) :
  QS X EX fr (.Assign [.Name v pv] (.ListComp elt [⟨.Name x px,iter,ifs,0⟩] sc pos) spos) (z1n true k m (z31 fi b1 ix t f)):=by
 obtain ⟨tt,h1,h2⟩:=ht.run
 refine ⟨(zj9 hNX hk hv C hN hx hi.h h1 (fun fp s H=>(he fp s H).h) hsw hs).imp fun _ _ _ q=>z6v (fun _ _ _ q=>zd6 zzn h2 q) (zjg q)⟩
theorem y0l {fr:Bool} {m:List Bool} {v:Str} {k:Nat} {spos pv:Pos} (hNX:X.N.Nodup) (hk:X.N[k]?=some v) (hv:X.env.scope.names.lookup v=some .local) (C:CompOk X sc caps ix) (hN:([x,y]++caps).Nodup) (hx:sc.names.lookup x=some .local) (hy:sc.names.lookup y=some .local)
  (hi:QI X EX kp (.Tuple [.Name x px,.Name y py] kt tpos) iter fi) (ht:PTq X sc ([x,y]++caps) ifs t) (he:∀fp s H,QE (z0d X sc ([x,y]++caps) fp s H) F0 false elt f)
  (hsw:swapsWith (.ListComp elt [⟨.Tuple [.Name x px,.Name y py] kt tpos,iter,ifs,0⟩] sc pos) (some (.Name v pv)) spos.line X.env=pure true:=by rfl) (hs:∀x,foldedSetIterable iter X.env x=pure x:=by intro _;rfl) :
  QS X EX fr (.Assign [.Name v pv] (.ListComp elt [⟨.Tuple [.Name x px,.Name y py] kt tpos,iter,ifs,0⟩] sc pos) spos) (z1n true k m (z31 fi (bT 2) ix t f)):=by
 obtain ⟨tt,h1,h2⟩:=ht.run
 refine ⟨(zja hNX hk hv C hN hx hy hi.h h1 (fun fp s H=>(he fp s H).h) hsw hs).imp fun _ _ _ q=>z6v (fun _ _ _ q=>zd6 zzo h2 q) (zjg q)⟩
theorem y0m {fr:Bool} {m:List Bool} {v:Str} {k:Nat} {spos pv:Pos} (hNX:X.N.Nodup) (hk:X.N[k]?=some v) (hv:X.env.scope.names.lookup v=some .local) (C:CompOk X sc caps ix) (hN:([x,y,z]++caps).Nodup) (hx:sc.names.lookup x=some .local) (hy:sc.names.lookup y=some .local) (hz:sc.names.lookup z=some .local)
  (hi:QI X EX kp (.Tuple [.Name x px,.Name y py,.Name z pz] kt tpos) iter fi) (ht:PTq X sc ([x,y,z]++caps) ifs t) (he:∀fp s H,QE (z0d X sc ([x,y,z]++caps) fp s H) F0 false elt f)
  (hsw:swapsWith (.ListComp elt [⟨.Tuple [.Name x px,.Name y py,.Name z pz] kt tpos,iter,ifs,0⟩] sc pos) (some (.Name v pv)) spos.line X.env=pure true:=by rfl) (hs:∀x,foldedSetIterable iter X.env x=pure x:=by intro _;rfl) :
  QS X EX fr (.Assign [.Name v pv] (.ListComp elt [⟨.Tuple [.Name x px,.Name y py,.Name z pz] kt tpos,iter,ifs,0⟩] sc pos) spos) (z1n true k m (z31 fi (bT 3) ix t f)):=by
 obtain ⟨tt,h1,h2⟩:=ht.run
 refine ⟨(zjb hNX hk hv C hN hx hy hz hi.h h1 (fun fp s H=>(he fp s H).h) hsw hs).imp fun _ _ _ q=>z6v (fun _ _ _ q=>zd6 zzo h2 q) (zjg q)⟩
end
section
variable {X:Cx} {EX:XW} {fr fr':Bool} {st:Stmt} {sts:List Stmt} {a c e:Expr} {es:List Expr} {f:DE->R D} {fs:DE->R (List D)} {t:DE->R Bool} {g g1 g2:DS->SR} {pos p:Pos} {m:List Bool}
theorem z4w:QB X EX fr [] sNx:=⟨pss_nil.imp fun _ _ _ q=>y0d q⟩
theorem z0c (h:QS X EX fr st g):QB X EX fr [st] g:=⟨zml h.h⟩
theorem z06 (h1:QS X EX fr st g1) (h2:QB X EX fr sts g2):QB X EX fr (st::sts) (z0y g1 g2):=⟨(ziu h1.h h2.h).imp fun _ _ _ q=>zwt q⟩
theorem zg9:QS X EX fr st sNo:=⟨ps_never.imp fun _ _ _ q=>y0e q⟩
theorem zby {x y:List Stmt} (hc:QT X EX c t) (ha:QB X EX fr x g1) (hb:QB X EX fr y g2):QS X EX fr (.If c x y pos) (sIf t g1 g2):=⟨(zw3 hc.h ha.h hb.h).imp fun _ _ _ q=>zwu q⟩
theorem z12 (he:QE X EX fr e f):QS X EX fr (.Return (some e) pos) (z30 m f):=⟨(zky he.h).imp fun _ _ _ q=>zwv q⟩
theorem zsa {i:Nat} {x:Str} {p:Pos} (hN:X.N[i]?=some x:=by rfl) (hv:Vis X.env.scope x:=by first | exact .inl rfl | exact .inr (.inl rfl) | exact .inr (.inr rfl)) (hd:(x==("__debug__":Str))=false:=by decide)
 (hcd:(x==("__classdict__":Str))=false:=by decide):QS X EX true (.Return (some (.Name x p)) pos) (zfu i):=⟨(zky (pw i hN hv hd hcd)).imp fun _ _ _ q=>zrp q⟩
theorem zli (he:QE X EX false e f) (hs:swapsWith e none pos.line X.env=pure false:=by rfl):QS X EX fr (.Expr e pos) (zea f):=⟨(zez he.h hs).imp fun _ _ _ q=>zrq q⟩
theorem zxj {i:Nat} {x:Str} {pos':Pos} (hN:X.N.Nodup) (hi:X.N[i]?=some x) (hx:Loc X.env.scope x) (he:QE X EX fr' e f) (hs:swapsWith e (some (.Name x pos')) pos.line X.env=pure false:=by rfl) (hf:X.fn x=true\/X.env.scope.names.lookup x=some .local) :
 QS X EX fr (.Assign [.Name x pos'] e pos) (z1n fr' i m f):=⟨(zqp hN hi hx he.h hs hf).imp fun _ _ _ q=>zjg q⟩
theorem g_n {i:Nat} {x:Str} {pos:Pos} (hN:X.N.Nodup) (hi:X.N[i]?=some x) (hx:Loc X.env.scope x) (hf:X.fn x=true\/X.env.scope.names.lookup x=some .local:=by exact .inl rfl):QG X (.Name x pos) (.n i):=⟨(zbf hN hi hx hf).imp fun _ _ _ _ q=>y0f q⟩
theorem zlj:QGs X [] []:=⟨zjc⟩
theorem z35 {i:Nat} {is:List Nat} {x:Str} {pos:Pos} {ts:List Expr} (hN:X.N.Nodup) (hi:X.N[i]?=some x) (hx:Loc X.env.scope x) (hr:QGs X ts is) (hf:X.fn x=true\/X.env.scope.names.lookup x=some .local:=by exact .inl rfl)
 (hs:(assignEach (.Name x pos::ts) X.env).map (·.2)=assign (.Name x pos) X.env::(assignEach ts X.env).map (·.2):=by rfl):QGs X (.Name x pos::ts) (i::is):=⟨zfj (zbf hN hi hx hf) hr.h hs⟩
theorem g_t {is:List Nat} {ts:List Expr} {k:Nat} {pos:Pos} (hc:X.calm=true) (h:QGs X ts is) (hn:(assignEach ts X.env).length=is.length:=by rfl) (hst:(assignEach ts X.env).findIdx? (·.1)=none:=by rfl):QG X (.Tuple ts k pos) (.t is):=⟨(zn8 hc h.h hn hst).imp fun _ _ _ _ q=>y0g q⟩
theorem zsb {tg:Expr} {tt:Tg} (he:QE X EX false e f) (hg:QG X tg tt) (hs:swapsWithSole [tg] e pos.line X.env=pure false:=by rfl) (hw:swappedStores [tg] e X.env=pure none:=by rfl)
 (h1:(assignEach [tg] X.env).map (·.2)=[assign tg X.env]:=by rfl):QS X EX fr (.Assign [tg] e pos) (zq5 tt m f):=⟨(zl0 he.h hg.h hs hw h1).imp fun _ _ _ q=>zwz q⟩
theorem zaj {tg iter:Expr} {tt:Tg} {body:List Stmt} {kp:Bool} {fi:DE->R (List D)} (hp:PassesOwn (model X.prog X.w) X.A X.env X.xe) (hc:X.calm=true) (hi:QI X EX kp tg iter fi) (hg:QG X tg tt) (hb:QB X EX fr body g)
 (hs:∀x,foldedSetIterable iter X.env x=pure x:=by intro _;rfl):QS X EX fr (.For tg iter body [] pos) (zes kp m fi tt g):=⟨(zn4 hp hc hi.h hg.h hb.h hs).imp fun _ _ _ q=>zx0 q⟩
theorem znx {n:Nat} {body:List Stmt} (hp:PassesOwn (model X.prog X.w) X.A X.env X.xe) (hc:QT X EX c t) (hb:QB X EX fr body g):QS X EX fr (.While c body [] pos) (zad n t g):=⟨(ziw hp hc.h hb.h).imp fun _ _ _ q=>zng q⟩
noncomputable def z9r:D->List D->Option D
 | .lst ds,[d]=>if ds.length<100000 then some (.lst (ds++[d])) else none
 | _,_=>none
theorem z2t {K:Frag}:TyD K "list":=fun H0 H a d ob h=>by
 cases d<;>simp [isT] at h
 simp only [OB] at ob
 obtain ⟨xs,hx,_⟩:=ob
 exact .inl ⟨rfl,xs,.of hx⟩
theorem z5s {K:Frag}:zvr K z9r zf9:=by
 intro H0 H a d d' ds vs Q s h0 ob r hm k
 unfold z9r at hm
 split at hm<;>first | cases hm | skip
 split at hm<;>cases hm
 rename_i es e hl
 simp only [OB] at ob
 obtain ⟨xs,hx,rx⟩:=ob
 obtain ⟨y,rfl,q1⟩:=r.uno
 refine ⟨a,xs,y,rfl,rfl,hx,by rw [<-rx.length];exact z4t hl,k _ _ ?_⟩
 simp only [OB]
 exact ⟨_,z0o,rx.append (.one q1)⟩
theorem z8y {T id:String} {name:Str} {i:Nat} {x:Str} {xp apos cpos:Pos} {mt:D->List D->Option D} {rr:V->List V->Hp->VK->Prop} (pa:PlainAttrs T) (slot:Slot T name id) (hty:typeOf (.builtin id)=pure (.type "method_descriptor")) (hm:MtM X id rr) (od:zvr X.K mt rr) (hT:TyD X.K T)
 (ho:PE X (.Name x xp) (zff i)) (ha:QA X EX (e::es) fs)
 (hbase:attributeBase (.Name x xp) name X.env (eval (.Name x xp) X.env)=eval (.Name x xp) X.env:=by rfl)
 (hfew:((backTo cpos (starEach (e::es) X.env)).all (fun x=>!x.1)&&(backToKw cpos (keywordEach [] X.env)).all (fun x=>x.1.isSome)
  && decide ((e::es).length+([]:List Keyword).length+(if ([]:List Keyword).isEmpty then 0 else 1)<30))=true:=by rfl)
 (hline:(apos.endLine==cpos.line)=true:=by rfl) (hs:starEach (e::es) X.env=(false,eval e X.env)::starEach es X.env:=by rfl) (hplain:(backTo cpos (starEach es X.env)).any (·.1)=false:=by rfl)
 (hsw:swapsWith (.Call (.Attribute (.Name x xp) name apos) (e::es) [] cpos) none pos.line X.env=pure false:=by rfl) :
 QS X EX fr (.Expr (.Call (.Attribute (.Name x xp) name apos) (e::es) [] cpos) pos) (zeb T mt i m fs):=⟨(zez (zwa pa slot hty hm ho ha.h hbase hfew hline hs hplain) hsw).imp fun _ _ _ q=>zww od hT q⟩
end
theorem fnD {P:Program} {w:World} {K:Frag} {mg:Str->Option Value} {base:Heap} {x qual:Str} {st:Stmt} {f:Addr} {fd:FuncData} {N ps:List Str} {k n kk:Nat} {fr:Bool} {g:DS->SR} (F:Fun K x qual st f fd) (S:FnScope N ps (z03 st)) (hps:ps.length=n) (hN:N.length=n+kk)
  (hbody:∀(cdv:Value) (A:Around) (outer:List Env) (s:Shared) (H:Hp) (E:XK),Room k (A.deeper (envOfC qual (z03 st) s.heap.objs.size f cdv)) ->
   QB (ziy (CX1 P w) P w K mg base N qual (z03 st) f cdv A outer s H E) ⟨H,xNm K mg E⟩ fr (z1u st) g):FnOk P w K mg base (CX1 P w) (k+1) f fd ps (spD K mg fr (mOf fr n kk g) n):=by
 have hlen:∀{vs:List V} {H:Hp} {Q:VK} {E:XK},spD K mg fr (mOf fr n kk g) n vs H Q E->vs.length=n:=fun {vs H Q E} h=>by
  obtain ⟨ds,H0,s,r,hn,_⟩:=h
  rw [<-r.length];exact hn
 refine F.okX S (fun vs H Q E h=>by rw [hlen h,hps]) (fun cdv A outer s H vs Q E hr h=>⟨_,(hbody cdv A outer s H E hr).h,?_⟩)
 have e:z6k N vs=vs.map some++List.replicate kk none:=by
  unfold z6k
  rw [hlen h,hN,Nat.add_sub_cancel_left]
 rw [e]
 exact zru h
noncomputable def spL (K:Frag) (fr:Bool) (m:List D->R D) (n:Nat):Sp:=fun vs H Q _=>∃ds H0,Same H0 H/\RDs K H0 ds vs/\ds.length=n/\Rk (fun _=>False) (m ds) fun d=>∀v H',Out K fr H0 H d v H'->Q v H'
theorem spL.spD {K:Frag} {fr:Bool} {m:List D->R D} {n:Nat} {vs:List V} {H:Hp} {Q:VK} {E:XK} {mg:Str->Option Value} (h:spL K fr m n vs H Q E):L2.spD K mg fr m n vs H Q E:=by
 obtain ⟨ds,H0,s,r,hn,h⟩:=h
 refine ⟨ds,H0,s,r,hn,?_⟩
 cases q:m ds with
 | ok d=>rw [q] at h;exact h
 | er x=>rw [q] at h;exact h.elim
 | st=>rw [q] at h;exact h.elim
theorem zsc {K:Frag} {H:Hp} {a:Addr} {ns:List Int} {m:List D->R D} {fr:Bool} (hO:zvm H) (hS:SqL K H a (ns.map V.int)) (h:m [.scr ns]=.ok (.bl true)):spL K fr m 1 [.ref a] H (fun v _=>v=.bl true) fun _ _ _=>False:=by
 refine ⟨[.scr ns],H,Same.refl _,.one ?_,rfl,?_⟩
 . simp only [RD]
   refine ⟨a,rfl,?_⟩
   rcases hS with (hS | hS) | hS
   . rcases hO a with z | ⟨o,xs,z⟩<;>rw [z] at hS<;>cases hS
   . exact .inl hS
   . exact .inr hS
 . rw [h]
   exact fun v H' o=>by
    obtain ⟨_,H0',_,r⟩:=o.weak.rd
    exact r.bl
end L2
namespace L2
open PySem PySem.Spec PyProof.Rows
open PySem.W (KasT kas_sort kas_rev kas_asc kas_desc kas_tail3 kas_descPart kas_count kas_place kas_bin)
section
variable {p:Array Nat}
abbrev g (p:Array Nat) (i:Nat):Nat:=p.getD i 0
end
end L2
namespace L2
open PySem PySem.Spec PyProof.Rows
open PySem.W (KasT kas_sort)
mutual
noncomputable def D.oi:D->Bool
 | .int _=>true
 | .tup ds=>ois ds
 | _=>false
noncomputable def ois:List D->Bool
 | []=>true
 | d::ds=>d.oi&&ois ds
end
mutual
noncomputable def ltT:D->D->Bool
 | .int i,.int j=>decide (i<j)
 | .int _,.tup _=>true
 | .tup ds,.tup es=>ltTs ds es
 | _,_=>false
noncomputable def ltTs:List D->List D->Bool
 | [],[]=>false
 | [],_::_=>true
 | _::_,[]=>false
 | d::ds,e::es=>if eqD d e=true then ltTs ds es else ltT d e
end
mutual
noncomputable def z1i:D->D->Option Bool
 | .int i,.int j=>some (decide (i<j))
 | .tup ds,.tup es=>z2i ds es
 | _,_=>none
noncomputable def z2i:List D->List D->Option Bool
 | [],[]=>some false
 | [],_::_=>some true
 | _::_,[]=>some false
 | d::ds,e::es=>if eqD d e=true then z2i ds es else z1i d e
end
mutual
theorem zga:∀{d e:D} {b:Bool},z1i d e=some b->b=ltT d e
 | .int i,.int j,b,h=>by simp only [z1i,Option.some.injEq] at h;simp only [ltT];exact h.symm
 | .tup ds,.tup es,b,h=>by simp only [z1i] at h;simp only [ltT];exact zgb h
 | .non,e,b,h=>by simp [z1i] at h
 | .bl _,e,b,h=>by simp [z1i] at h
 | .str _,e,b,h=>by simp [z1i] at h
 | .lst _,e,b,h=>by simp [z1i] at h
 | .dk _ _,e,b,h=>by simp [z1i] at h
 | .dt _ _,e,b,h=>by simp [z1i] at h
 | .dn _ _,e,b,h=>by simp [z1i] at h
 | .scr _,e,b,h=>by simp [z1i] at h
 | .exc _ _,e,b,h=>by simp [z1i] at h
 | .int _,.non,b,h=>by simp [z1i] at h
 | .int _,.bl _,b,h=>by simp [z1i] at h
 | .int _,.str _,b,h=>by simp [z1i] at h
 | .int _,.lst _,b,h=>by simp [z1i] at h
 | .int _,.tup _,b,h=>by simp [z1i] at h
 | .int _,.dk _ _,b,h=>by simp [z1i] at h
 | .int _,.dt _ _,b,h=>by simp [z1i] at h
 | .int _,.dn _ _,b,h=>by simp [z1i] at h
 | .int _,.scr _,b,h=>by simp [z1i] at h
 | .int _,.exc _ _,b,h=>by simp [z1i] at h
 | .tup _,.non,b,h=>by simp [z1i] at h
 | .tup _,.bl _,b,h=>by simp [z1i] at h
 | .tup _,.int _,b,h=>by simp [z1i] at h
 | .tup _,.str _,b,h=>by simp [z1i] at h
 | .tup _,.lst _,b,h=>by simp [z1i] at h
 | .tup _,.dk _ _,b,h=>by simp [z1i] at h
 | .tup _,.dt _ _,b,h=>by simp [z1i] at h
 | .tup _,.dn _ _,b,h=>by simp [z1i] at h
 | .tup _,.scr _,b,h=>by simp [z1i] at h
 | .tup _,.exc _ _,b,h=>by simp [z1i] at h
theorem zgb:∀{ds es:List D} {b:Bool},z2i ds es=some b->b=ltTs ds es
 | [],[],b,h=>by simp only [z2i,Option.some.injEq] at h;simp only [ltTs];exact h.symm
 | [],_::_,b,h=>by simp only [z2i,Option.some.injEq] at h;simp only [ltTs];exact h.symm
 | _::_,[],b,h=>by simp only [z2i,Option.some.injEq] at h;simp only [ltTs];exact h.symm
 | d::ds,e::es,b,h=>by
  simp only [z2i] at h
  simp only [ltTs]
  split at h
  . rename_i q;rw [if_pos q];exact zgb h
  . rename_i q;rw [if_neg q];exact zga h
end
mutual
theorem zbz:∀{d e:D},d.oi=true->eqD d e=true->e.oi=true->d=e
 | .int i,.int j,_,h,_=>by simp only [eqD,beq_iff_eq] at h;rw [h]
 | .tup ds,.tup es,p,h,q=>by
  simp only [eqD] at h
  simp only [D.oi] at p q
  rw [zlk p h q]
 | .int i,.tup _,_,h,_=>by simp [eqD] at h
 | .tup _,.int _,_,h,_=>by simp [eqD] at h
 | .int _,.non,_,_,q=>by simp [D.oi] at q
 | .int _,.bl _,_,_,q=>by simp [D.oi] at q
 | .int _,.str _,_,_,q=>by simp [D.oi] at q
 | .int _,.lst _,_,_,q=>by simp [D.oi] at q
 | .int _,.dk _ _,_,_,q=>by simp [D.oi] at q
 | .int _,.dt _ _,_,_,q=>by simp [D.oi] at q
 | .int _,.dn _ _,_,_,q=>by simp [D.oi] at q
 | .int _,.scr _,_,_,q=>by simp [D.oi] at q
 | .int _,.exc _ _,_,_,q=>by simp [D.oi] at q
 | .tup _,.non,_,_,q=>by simp [D.oi] at q
 | .tup _,.bl _,_,_,q=>by simp [D.oi] at q
 | .tup _,.str _,_,_,q=>by simp [D.oi] at q
 | .tup _,.lst _,_,_,q=>by simp [D.oi] at q
 | .tup _,.dk _ _,_,_,q=>by simp [D.oi] at q
 | .tup _,.dt _ _,_,_,q=>by simp [D.oi] at q
 | .tup _,.dn _ _,_,_,q=>by simp [D.oi] at q
 | .tup _,.scr _,_,_,q=>by simp [D.oi] at q
 | .tup _,.exc _ _,_,_,q=>by simp [D.oi] at q
 | .non,_,p,_,_=>by simp [D.oi] at p
 | .bl _,_,p,_,_=>by simp [D.oi] at p
 | .str _,_,p,_,_=>by simp [D.oi] at p
 | .lst _,_,p,_,_=>by simp [D.oi] at p
 | .dk _ _,_,p,_,_=>by simp [D.oi] at p
 | .dt _ _,_,p,_,_=>by simp [D.oi] at p
 | .dn _ _,_,p,_,_=>by simp [D.oi] at p
 | .scr _,_,p,_,_=>by simp [D.oi] at p
 | .exc _ _,_,p,_,_=>by simp [D.oi] at p
theorem zlk:∀{ds es:List D},ois ds=true->z4n ds es=true->ois es=true->ds=es
 | [],[],_,_,_=>rfl
 | [],_::_,_,h,_=>by simp [z4n] at h
 | _::_,[],_,h,_=>by simp [z4n] at h
 | d::ds,e::es,p,h,q=>by
  simp only [z4n,Bool.and_eq_true] at h
  simp only [ois,Bool.and_eq_true] at p q
  rw [zbz p.1 h.1 q.1,zlk p.2 h.2 q.2]
end
mutual
theorem z6w:∀{d:D},d.oi=true->eqD d d=true
 | .int i,_=>by simp [eqD]
 | .tup ds,p=>by simp only [eqD];exact zd9 (by simpa only [D.oi] using p)
 | .non,p=>by simp [D.oi] at p
 | .bl _,p=>by simp [D.oi] at p
 | .str _,p=>by simp [D.oi] at p
 | .lst _,p=>by simp [D.oi] at p
 | .dk _ _,p=>by simp [D.oi] at p
 | .dt _ _,p=>by simp [D.oi] at p
 | .dn _ _,p=>by simp [D.oi] at p
 | .scr _,p=>by simp [D.oi] at p
 | .exc _ _,p=>by simp [D.oi] at p
theorem zd9:∀{ds:List D},ois ds=true->z4n ds ds=true
 | [],_=>rfl
 | d::ds,p=>by
  simp only [ois,Bool.and_eq_true] at p
  simp only [z4n,z6w p.1,zd9 p.2,Bool.and_self]
end
mutual
theorem zda:∀{d e:D},d.oi=true->e.oi=true->ltT d e=false->ltT e d=false->d=e
 | .int i,.int j,_,_,h,h'=>by
  simp only [ltT,decide_eq_false_iff_not] at h h'
  have:i=j:=by lia
  rw [this]
 | .tup ds,.tup es,p,q,h,h'=>by
  simp only [ltT] at h h'
  simp only [D.oi] at p q
  rw [zgc p q h h']
 | .int _,.tup _,_,_,h,_=>by simp [ltT] at h
 | .tup _,.int _,_,_,_,h=>by simp [ltT] at h
 | .int _,.non,_,q,_,_=>by simp [D.oi] at q
 | .int _,.bl _,_,q,_,_=>by simp [D.oi] at q
 | .int _,.str _,_,q,_,_=>by simp [D.oi] at q
 | .int _,.lst _,_,q,_,_=>by simp [D.oi] at q
 | .int _,.dk _ _,_,q,_,_=>by simp [D.oi] at q
 | .int _,.dt _ _,_,q,_,_=>by simp [D.oi] at q
 | .int _,.dn _ _,_,q,_,_=>by simp [D.oi] at q
 | .int _,.scr _,_,q,_,_=>by simp [D.oi] at q
 | .int _,.exc _ _,_,q,_,_=>by simp [D.oi] at q
 | .tup _,.non,_,q,_,_=>by simp [D.oi] at q
 | .tup _,.bl _,_,q,_,_=>by simp [D.oi] at q
 | .tup _,.str _,_,q,_,_=>by simp [D.oi] at q
 | .tup _,.lst _,_,q,_,_=>by simp [D.oi] at q
 | .tup _,.dk _ _,_,q,_,_=>by simp [D.oi] at q
 | .tup _,.dt _ _,_,q,_,_=>by simp [D.oi] at q
 | .tup _,.dn _ _,_,q,_,_=>by simp [D.oi] at q
 | .tup _,.scr _,_,q,_,_=>by simp [D.oi] at q
 | .tup _,.exc _ _,_,q,_,_=>by simp [D.oi] at q
 | .non,_,p,_,_,_=>by simp [D.oi] at p
 | .bl _,_,p,_,_,_=>by simp [D.oi] at p
 | .str _,_,p,_,_,_=>by simp [D.oi] at p
 | .lst _,_,p,_,_,_=>by simp [D.oi] at p
 | .dk _ _,_,p,_,_,_=>by simp [D.oi] at p
 | .dt _ _,_,p,_,_,_=>by simp [D.oi] at p
 | .dn _ _,_,p,_,_,_=>by simp [D.oi] at p
 | .scr _,_,p,_,_,_=>by simp [D.oi] at p
 | .exc _ _,_,p,_,_,_=>by simp [D.oi] at p
theorem zgc:∀{ds es:List D},ois ds=true->ois es=true->ltTs ds es=false->ltTs es ds=false->ds=es
 | [],[],_,_,_,_=>rfl
 | [],_::_,_,_,h,_=>by simp [ltTs] at h
 | _::_,[],_,_,_,h=>by simp [ltTs] at h
 | d::ds,e::es,p,q,h,h'=>by
  simp only [ois,Bool.and_eq_true] at p q
  simp only [ltTs] at h h'
  by_cases w:eqD d e=true
  . have:=zbz p.1 w q.1
    subst this
    rw [if_pos w] at h
    rw [if_pos w] at h'
    rw [zgc p.2 q.2 h h']
  . have w':¬eqD e d=true:=fun z=>w (by rw [zbz q.1 z p.1];exact z6w p.1)
    rw [if_neg w] at h
    rw [if_neg w'] at h'
    have:=zda p.1 q.1 h h'
    subst this
    exact absurd (z6w p.1) w
end
mutual
theorem zgd:∀{d:D},d.oi=true->ltT d d=false
 | .int i,_=>by simp [ltT]
 | .tup ds,p=>by simp only [ltT];exact zge (by simpa only [D.oi] using p)
 | .non,p=>by simp [D.oi] at p
 | .bl _,p=>by simp [D.oi] at p
 | .str _,p=>by simp [D.oi] at p
 | .lst _,p=>by simp [D.oi] at p
 | .dk _ _,p=>by simp [D.oi] at p
 | .dt _ _,p=>by simp [D.oi] at p
 | .dn _ _,p=>by simp [D.oi] at p
 | .scr _,p=>by simp [D.oi] at p
 | .exc _ _,p=>by simp [D.oi] at p
theorem zge:∀{ds:List D},ois ds=true->ltTs ds ds=false
 | [],_=>rfl
 | d::ds,p=>by
  simp only [ois,Bool.and_eq_true] at p
  simp only [ltTs]
  rw [if_pos (z6w p.1)]
  exact zge p.2
end
mutual
theorem zjt:∀{d e f:D},d.oi=true->e.oi=true->f.oi=true->ltT d e=true->ltT e f=true->ltT d f=true
 | .int i,.int j,.int k,_,_,_,h,h'=>by
  simp only [ltT,decide_eq_true_eq] at h h' ⊢
  lia
 | .int i,.int j,.tup _,_,_,_,h,h'=>by simp only [ltT]
 | .int i,.tup _,.tup _,_,_,_,h,h'=>by simp only [ltT]
 | .tup ds,.tup es,.tup fs,p,q,r,h,h'=>by
  simp only [ltT] at h h' ⊢
  simp only [D.oi] at p q r
  exact zll p q r h h'
 | .int i,.tup _,.int _,_,_,_,h,h'=>by simp [ltT] at h'
 | .tup _,.int _,_,_,_,_,h,h'=>by simp [ltT] at h
 | .tup _,.tup _,.int _,_,_,_,h,h'=>by simp [ltT] at h'
 | .non,_,_,p,_,_,_,_=>by simp [D.oi] at p
 | .bl _,_,_,p,_,_,_,_=>by simp [D.oi] at p
 | .str _,_,_,p,_,_,_,_=>by simp [D.oi] at p
 | .lst _,_,_,p,_,_,_,_=>by simp [D.oi] at p
 | .dk _ _,_,_,p,_,_,_,_=>by simp [D.oi] at p
 | .dt _ _,_,_,p,_,_,_,_=>by simp [D.oi] at p
 | .dn _ _,_,_,p,_,_,_,_=>by simp [D.oi] at p
 | .scr _,_,_,p,_,_,_,_=>by simp [D.oi] at p
 | .exc _ _,_,_,p,_,_,_,_=>by simp [D.oi] at p
 | _,.non,_,_,p,_,_,_=>by simp [D.oi] at p
 | _,.bl _,_,_,p,_,_,_=>by simp [D.oi] at p
 | _,.str _,_,_,p,_,_,_=>by simp [D.oi] at p
 | _,.lst _,_,_,p,_,_,_=>by simp [D.oi] at p
 | _,.dk _ _,_,_,p,_,_,_=>by simp [D.oi] at p
 | _,.dt _ _,_,_,p,_,_,_=>by simp [D.oi] at p
 | _,.dn _ _,_,_,p,_,_,_=>by simp [D.oi] at p
 | _,.scr _,_,_,p,_,_,_=>by simp [D.oi] at p
 | _,.exc _ _,_,_,p,_,_,_=>by simp [D.oi] at p
 | _,_,.non,_,_,p,_,_=>by simp [D.oi] at p
 | _,_,.bl _,_,_,p,_,_=>by simp [D.oi] at p
 | _,_,.str _,_,_,p,_,_=>by simp [D.oi] at p
 | _,_,.lst _,_,_,p,_,_=>by simp [D.oi] at p
 | _,_,.dk _ _,_,_,p,_,_=>by simp [D.oi] at p
 | _,_,.dt _ _,_,_,p,_,_=>by simp [D.oi] at p
 | _,_,.dn _ _,_,_,p,_,_=>by simp [D.oi] at p
 | _,_,.scr _,_,_,p,_,_=>by simp [D.oi] at p
 | _,_,.exc _ _,_,_,p,_,_=>by simp [D.oi] at p
theorem zll:∀{ds es fs:List D},ois ds=true->ois es=true->ois fs=true->ltTs ds es=true->ltTs es fs=true->ltTs ds fs=true
 | [],_,_::_,_,_,_,_,_=>by simp only [ltTs]
 | _,[],[],_,_,_,_,h=>by simp [ltTs] at h
 | _::_,[],_,_,_,_,h,_=>by simp [ltTs] at h
 | _,_::_,[],_,_,_,_,h=>by simp [ltTs] at h
 | d::ds,e::es,f::fs,p,q,r,h,h'=>by
  simp only [ois,Bool.and_eq_true] at p q r
  simp only [ltTs] at h h' ⊢
  by_cases w:eqD d e=true
  . have:=zbz p.1 w q.1
    subst this
    rw [if_pos w] at h
    by_cases w2:eqD d f=true
    . rw [if_pos w2] at h' ⊢;exact zll p.2 q.2 r.2 h h'
    . rw [if_neg w2] at h' ⊢;exact h'
  . rw [if_neg w] at h
    by_cases w2:eqD e f=true
    . have:=zbz q.1 w2 r.1
      subst this
      rw [if_neg w];exact h
    . rw [if_neg w2] at h'
      have h3:=zjt p.1 q.1 r.1 h h'
      by_cases w3:eqD d f=true
      . have:=zbz p.1 w3 r.1
        subst this
        rw [zgd p.1] at h3;cases h3
      . rw [if_neg w3];exact h3
end
theorem z6x:∀{ds:List D} {i:Nat},ois ds=true->(ds.getD i (.int 0)).oi=true
 | [],i,_=>by simp [D.oi]
 | d::ds,0,h=>by simp only [ois,Bool.and_eq_true] at h;simpa using h.1
 | d::ds,i+1,h=>by
  simp only [ois,Bool.and_eq_true] at h
  simpa using z6x (i:=i) h.2
noncomputable def ltI (ds:List D) (i j:Nat):Bool:=ltT (ds.getD i (.int 0)) (ds.getD j (.int 0))
noncomputable def zju (d:D):List D->List D
 | []=>[d]
 | e::r=>if ltT e d=true then e::zju d r else d::e::r
noncomputable def z2j:List D->List D
 | []=>[]
 | d::r=>zju d (z2j r)
theorem z6y (d:D):∀l:List D,(zju d l).Perm (d::l)
 | []=>.refl _
 | e::r=>by
  unfold zju
  split
  . exact ((z6y d r).cons e).trans (.swap d e r)
  . exact .refl _
theorem z0l:∀l:List D,(z2j l).Perm l
 | []=>.refl _
 | d::r=>(z6y d (z2j r)).trans ((z0l r).cons d)
theorem ois_mem:∀{ds:List D},ois ds=true↔∀d∈ds,d.oi=true
 | []=>by simp [ois]
 | d::ds=>by simp [ois,ois_mem (ds:=ds)]
def Srt (l:List D):Prop:=l.Pairwise fun a b=>ltT b a=false
theorem zdb {d:D}:∀{l:List D},d.oi=true->ois l=true->Srt l->Srt (zju d l)
 | [],_,_,_=>by simp [zju,Srt]
 | e::r,hd,hl,hs=>by
  simp only [ois,Bool.and_eq_true] at hl
  obtain ⟨h1,h2⟩:=List.pairwise_cons.mp hs
  unfold zju
  split
  . rename_i hlt
    refine List.pairwise_cons.mpr ⟨fun x hx=>?_,zdb hd hl.2 h2⟩
    rcases List.mem_cons.mp ((z6y d r).mem_iff.mp hx) with rfl | hx
    . cases hq:ltT x e with
      | false=>rfl
      | true=>
       have:=zjt hl.1 hd hl.1 hlt hq
       rw [zgd hl.1] at this;cases this
    . exact h1 x hx
  . rename_i hlt
    have hlt:ltT e d=false:=by simpa using hlt
    refine List.pairwise_cons.mpr ⟨fun x hx=>?_,hs⟩
    rcases List.mem_cons.mp hx with rfl | hx
    . exact hlt
    . have hxo:=(ois_mem.mp hl.2) x hx
      cases hq:ltT x d with
      | false=>rfl
      | true=>
       have h3:=h1 x hx
       cases hy:ltT d e with
       | true=>rw [zjt hxo hd hl.1 hq hy] at h3;cases h3
       | false=>
        rw [zda hd hl.1 hy hlt] at hq
        rw [hq] at h3;cases h3
theorem z4x {l l':List D} (p:l.Perm l') (h:ois l'=true):ois l=true:=ois_mem.mpr fun d hd=>(ois_mem.mp h) d (p.mem_iff.mp hd)
theorem z1y:∀{l:List D},ois l=true->Srt (z2j l)
 | [],_=>.nil
 | d::r,h=>by
  simp only [ois,Bool.and_eq_true] at h
  exact zdb h.1 (z4x (z0l r) h.2) (z1y h.2)
theorem z3r:∀{l l':List D},ois l=true->l.Perm l'->Srt l->Srt l'->l=l'
 | [],l',_,p,_,_=>by rw [p.nil_eq]
 | a::r,[],_,p,_,_=>by have:=p.length_eq;simp at this
 | a::r,b::r',h,p,s,s'=>by
  have h':=h
  simp only [ois,Bool.and_eq_true] at h
  obtain ⟨h1,h2⟩:=List.pairwise_cons.mp s
  obtain ⟨h3,h4⟩:=List.pairwise_cons.mp s'
  have hb:b∈a::r:=p.mem_iff.mpr List.mem_cons_self
  have ha:a∈b::r':=p.mem_iff.mp List.mem_cons_self
  have hbo:=(ois_mem.mp h') b hb
  have e:a=b:=by
   rcases List.mem_cons.mp hb with z | z
   . exact z.symm
   . rcases List.mem_cons.mp ha with w | w
     . exact w
     . exact zda h.1 hbo (h3 a w) (h1 b z)
  subst e
  rw [z3r h.2 (List.perm_cons a |>.mp p) h2 h4]
end L2
namespace L2
open PySem PySem.Spec PyProof.Rows
open PySem.W (KasT kas_sort kas_rev kas_asc kas_desc kas_tail3 kas_descPart kas_count kas_place kas_bin)
def InP {α:Type} (n:Nat) (P:α->Prop):KasT α->Prop
 | .ret a=>P a
 | .ask i j k=>i<n/\j<n/\∀b,InP n P (k b)
theorem InP.bind {α β:Type} {n:Nat} {P:α->Prop} {P':β->Prop} {f:α->KasT β}:∀{t:KasT α},InP n P t->(∀a,P a->InP n P' (f a))->InP n P' (t.bind f)
 | .ret a,h,hf=>hf a h
 | .ask i j k,h,hf=>⟨h.1,h.2.1,fun b=>InP.bind (h.2.2 b) hf⟩
def RcLt (A:Around) (s:Shared) (x y:Value) (b:Bool):Prop:=∀(prog:Program) (w:World) (E:Value->Shared->Prop) (Q:Value->Shared->Prop),Q (.bool b) s->wpAny (model prog w) A (richCompare .Lt x y) Q E s
inductive LexR (A:Around) (s:Shared):List Value->List Value->Bool->Prop
 | nn:LexR A s [] [] false
 | nc {w ws}:LexR A s [] (w::ws) true
 | cn {v vs}:LexR A s (v::vs) [] false
 | eq {v w vs ws b} (h:SeqAt.EqAt A s v w true) (r:LexR A s vs ws b):LexR A s (v::vs) (w::ws) b
 | lt {v w vs ws b} (h:SeqAt.EqAt A s v w false) (r:RcLt A s v w b):LexR A s (v::vs) (w::ws) b
section
open PySem.SeqAt
open PySem.AutoSeq1 (wpAny_loadPart')
open PySem.MeetsSeq PySem.MeetsSeq2 PySem.MeetsSeq3
theorem zeh (l b:Addr) (items items2:Array Value) (n n2:Nat) (dd dd2:Option Addr) (sl sl2:Array (Option Value)) (r:Bool) :
  Meets (Builtin.«tuple.__lt__» ⟨[.ref l,.ref b],[]⟩)
   (fun A R s=>s.heap.get? l=some { cls:=.type "tuple",dict:=dd,data:=.seq items n,slots:=sl }/\s.heap.get? b=some { cls:=.type "tuple",dict:=dd2,data:=.seq items2 n2,slots:=sl2 } /\
    LexR A.in1 s items.toList items2.toList r/\R (.ok (.ret (.bool r))) s):=
 .of_wp fun prog w A R s h=>by
  obtain ⟨hp,g,d,tk,os⟩:=s;obtain ⟨hl,hb,hL,h⟩:=h
  have f2:=AutoSeq1.sub_tuple_tuple
  wp_walk using wpAny_loadPart' hl,wpAny_loadPart' hb,wpAny_forIn_list _ (fun rest b s'=>b.1=none/\s'=⟨hp,g,d,tk,os⟩/\∃(vs ws:List Value) (r':Bool),rest=vs.zip ws /\
   LexR A.in1 ⟨hp,g,d,tk,os⟩ vs ws r'/\vs.length+items2.size=ws.length+items.size/\R (.ok (.ret (.bool r'))) ⟨hp,g,d,tk,os⟩) _
  case turn=>
   rintro ⟨y,x⟩ rest b s' ⟨hb',rfl,vs,ws,r',hz,hL',hlen,hR⟩
   cases hL' with
   | nn=>rw [List.zip_nil_left] at hz;cases hz
   | nc=>rw [List.zip_nil_left] at hz;cases hz
   | cn=>rw [List.zip_nil_right] at hz;cases hz
   | eq he hr=>
    rw [List.zip_cons_cons] at hz
    injection hz with hyx hrest
    injection hyx with hy hx
    subst hy hx
    simp only [List.length_cons] at hlen
    refine wpAny_bind (he prog w _ _ ?_)
    wp_walk
    exact ⟨rfl,rfl,_,_,_,hrest,hr,by lia,hR⟩
   | lt he hr=>
    rw [List.zip_cons_cons] at hz
    injection hz with hyx hrest
    injection hyx with hy hx
    subst hy hx
    refine wpAny_bind (he prog w _ _ ?_)
    have hri:=hr prog w
    wp_walk using hri
    exact ⟨_,rfl,by simpa using hR⟩
  case fin=>
   rintro ⟨b1,b2⟩ s' ⟨hb',rfl,vs,ws,r',hz,hL',hlen,hR⟩
   simp only at hb'
   subst hb'
   have hv:r'=decide (items.size<items2.size):=by
    cases hL' with
    | nn=>simp only [List.length_nil] at hlen;exact (decide_eq_false (by lia)).symm
    | nc=>simp only [List.length_nil,List.length_cons] at hlen;exact (decide_eq_true (by lia)).symm
    | cn=>simp only [List.length_nil,List.length_cons] at hlen;exact (decide_eq_false (by lia)).symm
    | eq _ _=>rw [List.zip_cons_cons] at hz;cases hz
    | lt _ _=>rw [List.zip_cons_cons] at hz;cases hz
   rw [hv] at hR
   wp_walk
   exact ⟨_,rfl,by simpa [Builtin.Tuple.tupleCompareSizes] using hR⟩
  case h=>exact ⟨rfl,rfl,items.toList,items2.toList,r,rfl,hL,by simp;lia,h⟩
theorem RcLt.tuples {A:Around} {s:Shared} {l b:Addr} {items items2:Array Value} {r:Bool} (hl:s.heap.IsTuple l items) (hb:s.heap.IsTuple b items2) (hL:LexR A.in1 s items.toList items2.toList r) (hu:A.units<cLine):RcLt A s (.ref l) (.ref b) r:=fun prog w E Q h=>by
 obtain ⟨⟨cls,dd,data,sl⟩,ho,hc,n,hd⟩:=id hl
 obtain ⟨⟨cls2,dd2,data2,sl2⟩,ho2,hc2,n2,hd2⟩:=id hb
 simp only at hc hd hc2 hd2
 subst hc hd hc2 hd2
 exact richCompare_meets_room (op:=.Lt) ⟨_,ho,rfl⟩ ⟨_,ho2,rfl⟩ PySem.F.slot_tuple_lt PySem.F.entry_tuple_lt (PySem.F.args_tuple_lt_2 _ _) (zeh l b items items2 n n2 dd dd2 sl sl2 r)
  ⟨ho,ho2,hL,show Value.bool r≠Value.notImplemented/\Q (.bool r) s from ⟨(fun x=>nomatch x),h⟩⟩ hu
end
mutual
theorem zgf:∀{d:D},d.oi=true->d.pl=true
 | .int _,_=>rfl
 | .tup ds,h=>by simp only [D.pl];exact zlm (by simpa only [D.oi] using h)
 | .non,p=>by simp [D.oi] at p
 | .bl _,p=>by simp [D.oi] at p
 | .str _,p=>by simp [D.oi] at p
 | .lst _,p=>by simp [D.oi] at p
 | .dk _ _,p=>by simp [D.oi] at p
 | .dt _ _,p=>by simp [D.oi] at p
 | .dn _ _,p=>by simp [D.oi] at p
 | .scr _,p=>by simp [D.oi] at p
 | .exc _ _,p=>by simp [D.oi] at p
theorem zlm:∀{ds:List D},ois ds=true->pls ds=true
 | [],_=>rfl
 | d::ds,h=>by
  simp only [ois,Bool.and_eq_true] at h
  simp only [pls,zgf h.1,zlm h.2,Bool.and_self]
end
section
variable {X:Cx} {pins:List (Addr×Obj)} {U:St} {H:Hp} {s:Shared}
theorem zln (I:Inv X pins U H s) {A:Around} {n:Nat} (hu:A.units+n<cLine) (lt:∀{d e:D} {x y:V} {u v:Value} {b:Bool},d.oi=true->e.oi=true->d.dep<=n->RD X.K H d x->RD X.K H e y->RelV x u->RelV y v->z1i d e=some b->RcLt A s u v b) :
  ∀{ds es:List D} {xs ys:List V} {us vs:List Value} {b:Bool},ois ds=true->ois es=true->z2s ds<=n->RDs X.K H ds xs->RDs X.K H es ys->Vals xs us->Vals ys vs->z2i ds es=some b->LexR A s us vs b
 | [],[],_,_,_,_,b,_,_,_,r1,r2,q1,q2,h=>by
  simp only [RDs] at r1 r2;subst r1;subst r2
  cases q1;cases q2
  simp only [z2i,Option.some.injEq] at h;subst h
  exact .nn
 | [],e::es,_,_,_,_,b,_,_,_,r1,r2,q1,q2,h=>by
  simp only [RDs] at r1 r2;subst r1
  obtain ⟨y,ys,rfl,_,_⟩:=r2
  cases q1;cases q2
  simp only [z2i,Option.some.injEq] at h;subst h
  exact .nc
 | d::ds,[],_,_,_,_,b,_,_,_,r1,r2,q1,q2,h=>by
  simp only [RDs] at r1 r2;subst r2
  obtain ⟨y,ys,rfl,_,_⟩:=r1
  cases q1;cases q2
  simp only [z2i,Option.some.injEq] at h;subst h
  exact .cn
 | d::ds,e::es,_,_,_,_,b,p1,p2,hd,r1,r2,q1,q2,h=>by
  simp only [RDs] at r1 r2
  obtain ⟨x,xs,rfl,rx,rxs⟩:=r1
  obtain ⟨y,ys,rfl,ry,rys⟩:=r2
  simp only [ois,Bool.and_eq_true] at p1 p2
  simp only [z2s] at hd
  cases q1 with
  | cons a1 a2=>
   cases q2 with
   | cons b1 b2=>
    have eq:=zd3 (A:=A) I n (zgf p1.1) (zgf p2.1) (by lia) hu rx ry a1 b1
    simp only [z2i] at h
    split at h
    . rename_i w
      rw [w] at eq
      exact .eq eq (zln I hu lt p1.2 p2.2 (by lia) rxs rys a2 b2 h)
    . rename_i w
      rw [show eqD d e=false by simpa using w] at eq
      exact .lt eq (lt p1.1 p2.1 (by lia) rx ry a1 b1 h)
theorem zak {d e:D} {b:Bool} (h:z1i d e=some b):(∃i j,d=.int i/\e=.int j/\b=decide (i<j))\/∃ds es,d=.tup ds/\e=.tup es/\z2i ds es=some b:=by
 cases d with
 | int i=>cases e with
  | int j=>exact .inl ⟨_,_,rfl,rfl,(Option.some.inj h).symm⟩
  | _=>exact nomatch h
 | tup ds=>cases e with
  | tup es=>exact .inr ⟨_,_,rfl,rfl,h⟩
  | _=>exact nomatch h
 | _=>exact nomatch h
theorem zsd (I:Inv X pins U H s):∀(n:Nat) {A:Around} {d e:D} {x y:V} {u v:Value} {b:Bool},A.units+n<cLine->d.oi=true->e.oi=true->d.dep<=n->RD X.K H d x->RD X.K H e y->RelV x u->RelV y v->z1i d e=some b->RcLt A s u v b:=by
 intro n
 induction n with
 | zero=>
  intro A d e x y u v b hu p1 p2 hd rx ry ru rv h
  rcases zak h with ⟨i,j,rfl,rfl,rfl⟩ | ⟨ds,es,rfl,rfl,h⟩
  . cases rx.int;cases ry.int
    obtain ⟨t,rfl⟩:=ru;obtain ⟨t',rfl⟩:=rv
    exact fun prog w E Q q=>HT.rcLt_int A s _ _ _ _ prog w E Q q
  . simp only [D.dep] at hd;lia
 | succ n ih=>
  intro A d e x y u v b hu p1 p2 hd rx ry ru rv h
  rcases zak h with ⟨i,j,rfl,rfl,rfl⟩ | ⟨ds,es,rfl,rfl,h⟩
  . cases rx.int;cases ry.int
    obtain ⟨t,rfl⟩:=ru;obtain ⟨t',rfl⟩:=rv
    exact fun prog w E Q q=>HT.rcLt_int A s _ _ _ _ prog w E Q q
  . obtain ⟨a,xs,rfl,ha,ra⟩:=rx.tup
    obtain ⟨c,ys,rfl,hc,rc⟩:=ry.tup
    cases ru;cases rv
    obtain ⟨its,r1,t1⟩:=I.tupA ha
    obtain ⟨its2,r2,t2⟩:=I.tupA hc
    simp only [D.dep] at hd
    simp only [D.oi] at p1 p2
    have hu1:A.in1.units+n<cLine:=by show A.units+1+n<cLine;lia
    exact RcLt.tuples t1 t2 (zln I hu1 (fun {d e x y u v b} q1 q2 q3 q4 q5 q6 q7 q8=>ih hu1 q1 q2 q3 q4 q5 q6 q7 q8) p1 p2 (by lia) ra rc r1 r2 h) (by lia)
end
end L2
namespace L2
open PySem PySem.Spec PyProof.Rows
section
variable {prog:Program} {w:World} {A:Around} {E:Value->Shared->Prop} {s:Shared}
theorem z81 {a:Addr} {vs:List Value} {n:Nat} {P:PySem.Fin->Shared->Prop} (ho:s.heap.get? a=some (seqObj "list" vs.toArray n)) (hs:vs.length<2)
  (h:P (.done (.ret .none)) { s with heap:=sortedHeap s.heap a vs ((pairsOf vs).map (·.2)) }):wpAny (model prog w) A (Builtin.«list.sort» ⟨[.ref a],[]⟩) P E s:=by
 rw [list_sort_plain]
 have ha:a<s.heap.objs.size:=Heap.lt_size ho
 refine wpAny_bind (listItems_at ho rfl ?_)
 refine wpAny_bind (listUpdate_at ho rfl ?_)
 obtain ⟨e1,ho1⟩:∃e1,(s.heap.update a (Obj.mapSeq fun _=>#[])).get? a=some (seqObj "list" #[] e1):=⟨_,get?_update_seq ho (fun _=>#[])⟩
 refine wpAny_bind (seqEpoch_at ho1 rfl ?_)
 refine wpAny_bind (wpAny_newTuple ?_)
 refine wpAny_bind (wpAny_newList ?_)
 refine wpAny_holding ?_
 have ho6:(((s.heap.update a (Obj.mapSeq fun _=>#[])).push (seqObj "tuple" vs.toArray 0)).push (seqObj "list" #[] 0)).get? a=some (seqObj "list" #[] e1):=by
  rw [Heap.get?_push_ne _ _ _ (by rw [size_push',Heap.size_update];exact Nat.ne_of_lt (Nat.lt_succ_of_lt ha)),Heap.get?_push_ne _ _ _ (by rw [Heap.size_update];exact Nat.ne_of_lt ha)]
  exact ho1
 show wpAny (model prog w) A _ P E { s with heap:=((s.heap.update a (Obj.mapSeq fun _=>#[])).push (seqObj "tuple" vs.toArray 0)).push (seqObj "list" #[] 0) }
 dsimp only
 have hsz:vs.toArray.size=vs.length:=by simp
 have h2:vs.toArray.size<2:=by rw [hsz];exact hs
 rw [if_pos h2,if_pos h2]
 refine wpAny_bind (wpAny_pure ?_)
 rw [StateT.run_pure]
 refine wpAny_bind (wpAny_pure ?_)
 dsimp only
 refine wpAny_bind (seqEpoch_at ho6 rfl ?_)
 refine wpAny_bind (listUpdate_at ho6 rfl ?_ (hsz2:=by rw [Array.size_map];show (pairsOf vs).size<=_;rw [pairsOf_size,sizeLine_eq];lia))
 simp only [bne_self_eq_false,Bool.false_eq_true,if_false]
 exact wpAny_pure h
theorem zal {l:Addr} {vs:List Value} {Q:Value->Shared->Prop} (hl:s.heap.IsList l vs.toArray) (hs:vs.length<2)
  (h:Q (.ref (s.heap.objs.size+1)) { s with heap:=sortedAll s.heap vs ((pairsOf vs).map (·.2)) }):wpAny (model prog w) A (call (.builtin "sorted") [.ref l]) Q E s:=by
 refine Calls.call_function_entry kind_sorted plain_sorted entry_sorted (args_sorted1 _) ?_
 unfold Builtin.«sorted»
 refine wpAny_bind (m:=checkCount "sorted" 1 1 _) (wpAny_pure ?_)
 refine wpAny_bind (collect_list hl ?_ (by rw [sizeLine_eq];omega))
 refine wpAny_bind (wpAny_newList ?_ (by rw [sizeLine_eq];omega))
 have hsz:((s.heap.push (seqObj "list" #[] 0)).update s.heap.objs.size (Obj.mapSeq (·++vs.toArray))).objs.size=s.heap.objs.size+1:=by
  rw [Heap.size_update,size_push']
 have hoL:(((s.heap.push (seqObj "list" #[] 0)).update s.heap.objs.size (Obj.mapSeq (·++vs.toArray))).push (seqObj "list" vs.toArray 0)).get? (s.heap.objs.size+1)=some (seqObj "list" vs.toArray 0):=by
  rw [<-hsz];exact Heap.get?_push_size _ rfl
 show wpAny _ _ _ _ _ { s with heap:=((s.heap.push (seqObj "list" #[] 0)).update s.heap.objs.size (Obj.mapSeq (·++vs.toArray))).push (seqObj "list" vs.toArray 0) }
 rw [hsz]
 refine wpAny_bind (wpAny_holding (wpAny_call_entry slot_list_sort ⟨_,hoL,rfl⟩ entry_list_sort (z81 hoL hs ⟨_,rfl,?_⟩) (args_list_sort _)))
 exact wpAny_pure ⟨_,rfl,h⟩
end
noncomputable def isI:D->Bool
 | .int _=>true
 | _=>false
noncomputable def zc0:D->Bool
 | .tup (.int _::_)=>true
 | _=>false
noncomputable def zgg:D->Bool
 | .tup (.tup _::_)=>true
 | _=>false
noncomputable def z6z (ds:List D):Bool:=decide (ds.length<64)&&ois ds&&decide (z2s ds<=20)&&ds.all (fun d=>ds.all fun e=>(z1i d e).isSome)&&(ds.all isI||ds.all zc0||ds.all zgg)
noncomputable def z5h:List D->Option D
 | [.lst ds]=>if z6z ds=true then some (.lst (z2j ds)) else none
 | _=>none
theorem RDs.pick {K:Frag} {H:Hp} {ds:List D} {ys:List V} (r:RDs K H ds ys):∀{is:List Nat},(∀i∈is,i<ys.length)->RDs K H (is.map fun i=>ds.getD i (.int 0)) (is.map fun i=>ys.getD i .non)
 | [],_=>by simp [RDs]
 | i::is,h=>by
  have hi:=h i List.mem_cons_self
  have hy:ys[i]?=some ys[i]:=by simp [hi]
  obtain ⟨d,h1,h2⟩:=r.get hy
  simp only [List.map_cons]
  refine .cons ?_ (RDs.pick r fun j hj=>h j (List.mem_cons_of_mem _ hj))
  rw [List.getD_eq_getElem?_getD,List.getD_eq_getElem?_getD,h1,hy]
  exact h2
section
variable {X:Cx} {pins:List (Addr×Obj)} {U:St} {H:Hp} {s:Shared}
theorem Vals.pick {ys:List V} {its:List Value} (r:Vals ys its):∀{is:List Nat},(∀i∈is,i<ys.length)->Vals (is.map fun i=>ys.getD i .non) (is.map fun i=>its.getD i Value.none)
 | [],_=>.nil
 | i::is,h=>by
  have hi:=h i List.mem_cons_self
  have hy:ys[i]?=some ys[i]:=by simp [hi]
  obtain ⟨u,h1,h2⟩:=r.get hy
  simp only [List.map_cons]
  refine .cons ?_ (Vals.pick r fun j hj=>h j (List.mem_cons_of_mem _ hj))
  rw [List.getD_eq_getElem?_getD,List.getD_eq_getElem?_getD,h1,hy]
  exact h2
theorem zc1 (I:Inv X pins U H s) {A:Around} (hu:A.units+20<cLine) {b:Bool} {fin:Bool} {Q:Bool->Shared->Prop} {r:Bool} (q:Q r s) :
  ∀{ds es:List D} {xs ys:List V} {us vs:List Value} (i:Nat),(b=true->i=0->(∃k r,ds=.int k::r)/\∃k r,es=.int k::r)->ois ds=true->ois es=true->z2s ds<=20->RDs X.K H ds xs->RDs X.K H es ys->Vals xs us->Vals ys vs->z2i ds es=some r ->
   fin=decide (us.length<vs.length)->PySem.W.KatLex X.prog X.w A b fin Q (us.zip vs) i s
 | [],[],_,_,_,_,i,_,_,_,_,r1,r2,q1,q2,h,hf=>by
  simp only [RDs] at r1 r2;subst r1;subst r2
  cases q1;cases q2
  simp only [z2i,Option.some.injEq] at h;subst h
  simp at hf;subst hf
  exact q
 | [],e::es,_,_,_,_,i,_,_,_,_,r1,r2,q1,q2,h,hf=>by
  simp only [RDs] at r1 r2;subst r1
  obtain ⟨y,ys,rfl,_,_⟩:=r2
  cases q1;cases q2
  simp only [z2i,Option.some.injEq] at h;subst h
  simp at hf;subst hf
  exact q
 | d::ds,[],_,_,_,_,i,_,_,_,_,r1,r2,q1,q2,h,hf=>by
  simp only [RDs] at r1 r2;subst r2
  obtain ⟨y,ys,rfl,_,_⟩:=r1
  cases q1;cases q2
  simp only [z2i,Option.some.injEq] at h;subst h
  simp at hf;subst hf
  exact q
 | d::ds,e::es,_,_,_,_,i,hb,p1,p2,hd,r1,r2,q1,q2,h,hf=>by
  simp only [RDs] at r1 r2
  obtain ⟨x,xs,rfl,rx,rxs⟩:=r1
  obtain ⟨y,ys,rfl,ry,rys⟩:=r2
  simp only [ois,Bool.and_eq_true] at p1 p2
  simp only [z2s] at hd
  cases q1 with
  | cons a1 a2=>
   cases q2 with
   | cons b1 b2=>
    have eq:=zd3 (A:=A) I 20 (zgf p1.1) (zgf p2.1) (by lia) hu rx ry a1 b1
    rw [List.zip_cons_cons]
    refine PySem.W.kat_cons (eq X.prog X.w _ _ ?_)
    simp only [z2i] at h
    simp only [List.length_cons,Nat.add_lt_add_iff_right] at hf
    split at h
    . rename_i w
      rw [w]
      exact PySem.W.kat_yes (zc1 I hu q (i+1) (fun _ z=>by lia) p1.2 p2.2 (by lia) rxs rys a2 b2 h hf)
    . rename_i w
      rw [show eqD d e=false by simpa using w]
      refine PySem.W.kat_no ?_
      by_cases hbi:(b&&i==0)=true
      . rw [hbi]
        simp only [Bool.and_eq_true,beq_iff_eq] at hbi
        obtain ⟨⟨k1,s1,e1⟩,k2,s2,e2⟩:=hb hbi.1 hbi.2
        cases e1;cases e2
        cases rx.int;cases ry.int
        obtain ⟨t,rfl⟩:=a1;obtain ⟨t',rfl⟩:=b1
        refine oneLt_int ?_
        simp only [z1i,Option.some.injEq] at h
        rw [h];exact q
      . rw [show (b&&i==0)=false by simpa using hbi]
        exact PySem.W.kat_one _ _ (zsd I 20 hu p1.1 p2.1 (by lia) rx ry a1 b1 h X.prog X.w _ _ q)
theorem zgh {M:Model} (I:Inv X pins U H s) (T:Bool):∀{ds:List D} {xs:List V} {us:List Value},(∀d∈ds,(if T=true then zgg d else zc0 d)=true)->RDs X.K H ds xs->Vals xs us ->
  ∃fs:List Value,PySem.W.KatTups s.heap us fs/\fs.length=ds.length/\∀v∈fs,PySem.W.Looks M s.heap (typeOf v) (.type (if T=true then "tuple" else "int"))
 | [],_,_,_,r,q=>by
  simp only [RDs] at r;subst r;cases q
  exact ⟨[],trivial,rfl,fun v hv=>by cases hv⟩
 | d::ds,_,_,h,r,q=>by
  simp only [RDs] at r
  obtain ⟨x,xs,rfl,rx,rxs⟩:=r
  cases q with
  | cons q1 q2=>
   obtain ⟨fs,h1,h2,h3⟩:=zgh (M:=M) I T (fun d hd=>h d (List.mem_cons_of_mem _ hd)) rxs q2
   have hd:=h d List.mem_cons_self
   cases T with
   | false=>
    rw [if_neg Bool.false_ne_true] at hd
    cases d<;>simp only [zc0] at hd<;>first | cases hd | skip
    rename_i es
    cases es with
    | nil=>simp at hd
    | cons e es=>
     cases e<;>simp at hd
     obtain ⟨a,ys,rfl,ha,ra⟩:=rx.tup
     cases q1
     obtain ⟨its,rv,t⟩:=I.tupA ha
     simp only [RDs] at ra
     obtain ⟨y,ys,rfl,ry,rys⟩:=ra
     cases ry.int
     cases rv with
     | cons v1 v2=>
      obtain ⟨tk,rfl⟩:=v1
      obtain ⟨o,ho,hc,n,hdt⟩:=t
      refine ⟨_::fs,PySem.W.KatTups.cons ho hc hdt rfl h1,by simp [h2],fun v hv=>?_⟩
      rcases List.mem_cons.mp hv with rfl | hv
      . exact .now
      . exact h3 v hv
   | true=>
    rw [if_pos rfl] at hd
    cases d<;>simp only [zgg] at hd<;>first | cases hd | skip
    rename_i es
    cases es with
    | nil=>simp at hd
    | cons e es=>
     cases e<;>simp at hd
     obtain ⟨a,ys,rfl,ha,ra⟩:=rx.tup
     cases q1
     obtain ⟨its,rv,t⟩:=I.tupA ha
     simp only [RDs] at ra
     obtain ⟨y,ys,rfl,ry,rys⟩:=ra
     obtain ⟨a2,ys2,rfl,ha2,ra2⟩:=ry.tup
     cases rv with
     | cons v1 v2=>
      cases v1
      obtain ⟨its2,rv2,o2,ho2,hc2,_⟩:=I.tupA ha2
      obtain ⟨o,ho,hc,n,hdt⟩:=t
      refine ⟨_::fs,PySem.W.KatTups.cons ho hc hdt rfl h1,by simp [h2],fun v hv=>?_⟩
      rcases List.mem_cons.mp hv with rfl | hv
      . have lk:PySem.W.Looks M s.heap (typeOf (.ref a2)) o2.cls:=(PySem.W.Looks.ld ho2).andThen .now
        rw [hc2] at lk
        exact lk
      . exact h3 v hv
theorem Vals.getD {ys:List V} {its:List Value} (r:Vals ys its) {i:Nat} (h:i<ys.length):RelV (ys.getD i .non) (its.getD i Value.none):=by
 have hy:ys[i]?=some ys[i]:=by simp [h]
 obtain ⟨u,h1,h2⟩:=r.get hy
 rw [List.getD_eq_getElem?_getD,List.getD_eq_getElem?_getD,h1,hy]
 exact h2
theorem RDs.getD {ds:List D} {ys:List V} (r:RDs X.K H ds ys) {i:Nat} (h:i<ys.length):RD X.K H (ds.getD i (.int 0)) (ys.getD i .non):=by
 have hy:ys[i]?=some ys[i]:=by simp [h]
 obtain ⟨d,h1,h2⟩:=r.get hy
 rw [List.getD_eq_getElem?_getD,List.getD_eq_getElem?_getD,h1,hy]
 exact h2
theorem z0q {α:Type} {l:List α} {i:Nat} {d:α} (h:i<l.length):l.getD i d∈l:=by
 rw [List.getD_eq_getElem?_getD,List.getElem?_eq_getElem h]
 exact List.getElem_mem h
end
section
variable {K:Frag}
noncomputable def zny:D->D->Option D
 | .non,.non=>some (.bl true)
 | .scr _,.non=>none
 | _,.non=>some (.bl false)
 | _,_=>none
theorem zgi {H:Hp} {d:D} {x:V} (r:RD K H d x) (h:d≠.non):x≠.non:=by
 intro e;subst e
 cases d<;>simp only [RD] at r<;>first | exact h rfl | (cases r;done) | (obtain ⟨a,z,_⟩:=r;cases z;done) | (obtain ⟨a,xs,z,_⟩:=r;cases z;done) | (obtain ⟨a,qs,xs,z,_⟩:=r;cases z;done) | (obtain ⟨a,qs,xs,o,z,_⟩:=r;cases z)
theorem zlo:OpD K false zny (fun x y H Q=>y=.non/\Q (.bl (decide (x=.non))) H):=by
 intro H0 H x y d e z Q s rx ry ho k
 unfold zny at ho
 split at ho<;>cases ho
 . cases rx.non;exact ⟨ry.non,k _ H (.pure s (.mkBl _))⟩
 . rename_i hn hs
   refine ⟨ry.non,?_⟩
   rw [decide_eq_false (zgi rx hn)]
   exact k _ H (.pure s (.mkBl _))
noncomputable def zlp (n:Int) (ns:List Int):Int:=ns.foldl (fun a b=>if b > a then b else a) n
theorem zc2:∀(ns:List Int) (n:Int),zlp n ns∈n::ns/\∀a∈n::ns,a<=zlp n ns
 | [],n=>by simp [zlp]
 | b::ns,n=>by
  have ih:=zc2 ns (if b > n then b else n)
  show zlp (if b > n then b else n) ns∈_/\∀a∈_,a<=zlp (if b > n then b else n) ns
  generalize zlp (if b > n then b else n) ns=M at ih
  obtain ⟨h1,h2⟩:=ih
  constructor
  . rcases List.mem_cons.mp h1 with z | z
    . rw [z];split<;>simp
    . simp [z]
  . intro a ha
    have h3:=h2 _ List.mem_cons_self
    rcases List.mem_cons.mp ha with rfl | ha
    . split at h3<;>lia
    . rcases List.mem_cons.mp ha with rfl | ha
      . split at h3<;>lia
      . exact h2 a (List.mem_cons_of_mem _ ha)
end
section
abbrev HD:=Ex->DS->SR
end
theorem SK.ex {K:Frag} {EX EX':XW} {fr:Bool} {Hc Hb:Hp} {De:Ends} {r:SR} (h:SK K EX fr Hc Hb De r) (he:∀x,EX.at x->EX'.at x):SK K EX' fr Hc Hb De r:=by
 cases r with
 | er x=>exact he x h
 | nx ρ=>exact h
 | bk ρ=>exact h
 | ct ρ=>exact h
 | rt d=>exact h
 | st=>exact h
noncomputable def SR.noE:SR->SR
 | .er _=>.st
 | r=>r
theorem SK.noE {K:Frag} {EX:XW} {fr:Bool} {Hc Hb:Hp} {De:Ends} {r:SR} (h:SK K EX fr Hc Hb De r.noE):SK K F0 fr Hc Hb De r:=by
 cases r with
 | nx ρ=>exact h
 | bk ρ=>exact h
 | ct ρ=>exact h
 | rt d=>exact h
 | er x=>exact h.elim
 | st=>exact h.elim
end L2
namespace L2
open PySem PySem.Spec PyProof.Rows
open PySem.Calls
end L2
namespace L2
open PySem PySem.Spec PyProof.Rows
section
open PySem.AutoSeq1 (wpAny_loadPart')
end
end L2
namespace L2
open PySem PySem.Spec PyProof.Rows
section
open PySem.AutoSeq1 (wpAny_loadPart')
end
end L2
namespace L2
open PySem PySem.Spec PyProof.Rows
theorem Un.drop {fs:List Addr} {H H':Hp} {h h':Heap} {e:Addr} (u:Un fs [] H H' h h') (hn:h.get? e=none) (he:H e=none):Un fs [] H (fun b=>if b=e then none else H' b) h h' where
 keep:=u.keep
 slot:=u.slot
 free:=fun b o q n hx=>by
  show (if b=e then none else H' b)=none
  split
  . rfl
  . exact u.free b o q n hx
 there:=u.there
 tups:=fun b xs q=>by
  show (if b=e then none else H' b)=_
  rw [if_neg (fun z=>by rw [z,he] at q;cases q)];exact u.tups b xs q
 frzs:=fun b o v q=>by
  show (if b=e then none else H' b)=_
  rw [if_neg (fun z=>by rw [z,he] at q;cases q)];exact u.frzs b o v q
 tbls:=fun b ps q=>by
  obtain ⟨m,z⟩:=u.tbls b ps q
  refine ⟨m,?_⟩
  show (if b=e then none else H' b)=_
  rw [if_neg (fun y=>by rw [y,he] at q;cases q)];exact z
end L2
namespace L2
open PySem PySem.Spec PyProof.Rows
open PySem.Calls
open Builtin Builtin.ObjectAttr
section
open PySem.AutoSeq1 (wpAny_loadPart')
end
end L2
namespace L2
open PySem PySem.Spec PyProof.Rows
section
variable {prog:Program} {w:World} {A:Around} {R:Result->Shared->Prop} {I:Addr} {fp wr:List Addr} {n:Nat} {P:Nat->Value->Prop} {St:Nat->Heap->Prop}
theorem zxk (kw:List (Str×Value)) (W:Walks prog w A.in1 I fp wr n P St) (bt:Nat->Nat->Bool) (cm:CmpOf prog w A.in1 .Gt P bt) (S:Addr) (nf:S∉fp) :
  ∀(k j:Nat) (s:Shared) (vb:Value) (c:Nat),n - (j+1)=k->j+1<=n->St (j+1) s.heap->P (argBest bt j) vb->s.heap.get? S=some { cls:=.type "list",dict:=none,data:=.seq #[vb,vb] c,slots:=#[] } ->
  (∀v h' tk,P (argBest bt (n - 1)) v->(∀b o,b∉wr->b≠S->s.heap.get? b=some o->h'.get? b=some o)->R (.ok (.ret v)) { s with heap:=h',toks:=tk })->codeAny (model prog w) A (.builtin "max.loop" ⟨[.ref I,.none,.ref S],kw⟩) R s:=by
 have nw:S∉wr:=fun h=>nf (W.sub _ h)
 have nm:(toString "max"++toString ".loop":String)="max.loop":=by decide
 intro k
 induction k with
 | zero=>
  intro j s vb c ek ej st pb eS fin
  have jn:j+1=n:=by omega
  refine codeAny_builtin PySem.F.entry_max_loop ?_
  rw [Around.under_plainId PySem.F.plain_max_loop _]
  show wpAny _ A.in1 (seqItems? (.ref S) >>= _) _ _ _
  refine wpAny_bind (wpAny_seqItems eS rfl ?_)
  show wpAny _ A.in1 (tryCatch (pyNext (.ref I)) _ >>= _) _ _ _
  refine wpAny_bind (wpAny_tryCatch (W.done s _ _ (jn ▸ st) fun h' tk kp=>?_))
  have eS':=kp S _ nw eS
  show wpAny _ A.in1 (updateSeq S (fun _=>#[]) >>= _) _ _ _
  refine wpAny_bind ?_
  refine wpAny_updateSeq eS' rfl (wpAny_bind (wpAny_letGo (wpAny_pure ?_)))
  exact fin vb _ tk (by rw [<-jn];exact pb) fun b o hbw hbS e=>(Heap.get?_update_other _ _ (Ne.symm hbS)).trans (kp b o hbw e)
 | succ k ih=>
  intro j s vb c ek ej st pb eS fin
  have jl:j+1<n:=by omega
  refine codeAny_builtin PySem.F.entry_max_loop ?_
  rw [Around.under_plainId PySem.F.plain_max_loop _]
  show wpAny _ A.in1 (seqItems? (.ref S) >>= _) _ _ _
  refine wpAny_bind (wpAny_seqItems eS rfl ?_)
  show wpAny _ A.in1 (tryCatch (pyNext (.ref I)) _ >>= _) _ _ _
  refine wpAny_bind (wpAny_tryCatch (W.item (j+1) s _ _ jl st fun v h' tk pv st' kp=>?_))
  have eS':=kp S _ nw eS
  show wpAny _ A.in1 (tryCatch (holding [v,v] (richCompare .Gt v vb >>= _)) _ >>= _) _ _ _
  refine wpAny_bind (wpAny_tryCatch (wpAny_holding (wpAny_bind (cm (j+1) (argBest bt j) v vb _ _ _ pv pb ?_))))
  refine wpAny_bind (wpAny_holding (wpAny_truthy_bool ?_))
  refine wpAny_bind (wpAny_letGo (wpAny_pure ?_))
  cases hb:bt (j+1) (argBest bt j) with
  | true=>
   rw [if_pos rfl]
   refine wpAny_bind ?_
   refine wpAny_updateSeq eS' rfl (wpAny_bind (wpAny_letGo ?_))
   rw [nm]
   refine wpAny_pure ⟨plainId_quiet PySem.F.plain_max_loop _,ih (j+1) _ v _ (by omega) jl (W.frame _ _ _ st' fun b hbf o e=>?_) (by simp only [argBest,hb,if_true];exact pv) (Heap.get?_update_self _ eS' rfl) fun v' h'' tk'' pv' kp'=>?_⟩
   . exact (Heap.get?_update_other _ _ (fun z:S=b=>nf (by rw [z];exact hbf))).trans e
   . exact fin v' h'' tk'' pv' fun b o hbw hbS e=>kp' b o hbw hbS ((Heap.get?_update_other _ _ (Ne.symm hbS)).trans (kp b o hbw e))
  | false=>
   rw [if_neg Bool.false_ne_true]
   refine wpAny_bind (wpAny_letGo ?_)
   rw [nm]
   exact wpAny_pure ⟨plainId_quiet PySem.F.plain_max_loop _,ih (j+1) _ vb c (by omega) jl st' (by simp only [argBest,hb,Bool.false_eq_true,if_false];exact pb) eS' fun v' h'' tk'' pv' kp'=>fin v' h'' tk'' pv' fun b o hbw hbS e=>kp' b o hbw hbS (kp b o hbw e)⟩
theorem zjv (kw:List (Str×Value)) (W:Walks prog w A.in1 I fp wr n P St) (bt:Nat->Nat->Bool) (cm:CmpOf prog w A.in1 .Gt P bt) (S:Addr) (nf:S∉fp) (n0:0<n) {s:Shared} {c:Nat} (st:St 0 s.heap)
  (eS:s.heap.get? S=some { cls:=.type "list",dict:=none,data:=.seq #[] c,slots:=#[] }) (fin:∀v h' tk,P (argBest bt (n - 1)) v->(∀b o,b∉wr->b≠S->s.heap.get? b=some o->h'.get? b=some o)->R (.ok (.ret v)) { s with heap:=h',toks:=tk }) :
  codeAny (model prog w) A (.builtin "max.loop" ⟨[.ref I,.none,.ref S],kw⟩) R s:=by
 have nw:S∉wr:=fun h=>nf (W.sub _ h)
 have nm:(toString "max"++toString ".loop":String)="max.loop":=by decide
 refine codeAny_builtin PySem.F.entry_max_loop ?_
 rw [Around.under_plainId PySem.F.plain_max_loop _]
 show wpAny _ A.in1 (seqItems? (.ref S) >>= _) _ _ _
 refine wpAny_bind (wpAny_seqItems eS rfl ?_)
 show wpAny _ A.in1 (tryCatch (pyNext (.ref I)) _ >>= _) _ _ _
 refine wpAny_bind (wpAny_tryCatch (W.item 0 s _ _ n0 st fun v h' tk pv st' kp=>?_))
 have eS':=kp S _ nw eS
 show wpAny _ A.in1 (updateSeq S (fun _=>#[v,v]) >>= _) _ _ _
 refine wpAny_bind ?_
 refine wpAny_updateSeq eS' rfl ?_
 rw [nm]
 refine wpAny_pure ⟨plainId_quiet PySem.F.plain_max_loop _,zxk kw W bt cm S nf _ 0 _ v _ rfl n0 (W.frame _ _ _ st' fun b hbf o e=>?_) pv (Heap.get?_update_self _ eS' rfl) fun v' h'' tk'' pv' kp'=>?_⟩
 . exact (Heap.get?_update_other _ _ (fun z:S=b=>nf (by rw [z];exact hbf))).trans e
 . exact fin v' h'' tk'' pv' fun b o hbw hbS e=>kp' b o hbw hbS ((Heap.get?_update_other _ _ (Ne.symm hbS)).trans (kp b o hbw e))
theorem znz (q:Str) (dv:Value) (W:Walks prog w A.in1 I fp wr n P St) (S:Addr) (nf:S∉fp) (n0:n=0) {s:Shared} {c:Nat} (st:St 0 s.heap)
  (eS:s.heap.get? S=some { cls:=.type "list",dict:=none,data:=.seq #[] c,slots:=#[] }) (fin:∀h' tk,(∀b o,b∉wr->b≠S->s.heap.get? b=some o->h'.get? b=some o)->R (.ok (.ret dv)) { s with heap:=h',toks:=tk }) :
  codeAny (model prog w) A (.builtin "max.loop" ⟨[.ref I,.none,.ref S],[(q,dv)]⟩) R s:=by
 refine codeAny_builtin PySem.F.entry_max_loop ?_
 rw [Around.under_plainId PySem.F.plain_max_loop _]
 show wpAny _ A.in1 (seqItems? (.ref S) >>= _) _ _ _
 refine wpAny_bind (wpAny_seqItems eS rfl ?_)
 show wpAny _ A.in1 (tryCatch (pyNext (.ref I)) _ >>= _) _ _ _
 refine wpAny_bind (wpAny_tryCatch (W.done s _ _ (n0 ▸ st) fun h' tk kp=>?_))
 show wpAny _ A.in1 (rule _ >>= _) _ _ _
 exact wpAny_bind (wpAny_rule (wpAny_pure (fin h' tk fun b o hb _ e=>kp b o hb e)))
end
theorem zo0 (a v:Value):argsOk "max" ⟨[a],[(Str.ofString "default",v)]⟩:=by unfold argsOk;kernel_rfl
section
variable {prog:Program} {w:World} {A:Around} {E:Value->Shared->Prop} {s:Shared}
theorem zo1 {x dv:Value} {Q:Value->Shared->Prop}
  (h:wpAny (model prog w) A.in1 (pyIter x) (fun it s₂=>∃I fp wr n P St bt,it=.ref I/\Walks prog w A.in1 I fp wr n P St/\St 0 s₂.heap/\(∀b∈fp,b<s₂.heap.objs.size)/\CmpOf prog w A.in1 .Gt P bt /\
   ∀v h' tk,((0<n/\P (argBest bt (n - 1)) v)\/(n=0/\v=dv))->(∀b o,b∉wr->s₂.heap.get? b=some o->h'.get? b=some o)->Q v { s₂ with heap:=h',toks:=tk }) E s) :
  wpAny (model prog w) A (call (.builtin "max") [x] [(Str.ofString "default",dv)]) Q E s:=by
 have nm:(toString "max"++toString ".loop":String)="max.loop":=by decide
 refine kmk_tree PySem.F.kind_max PySem.F.plain_max PySem.F.entry_max (zo0 _ _) ?_
 show wpAny _ A.in1 (Builtin.Builtins.bindParams "max" ["key","default"] 0 ⟨[],[(Str.ofString "default",dv)]⟩ >>= _) _ _ s
 refine wpAny_bind (wpAny_of_eq (show Builtin.Builtins.bindParams "max" ["key","default"] 0 ⟨[],[(Str.ofString "default",dv)]⟩=pure [none,some dv] from rfl) ?_)
 refine wpAny_bind (wpAny_pure ?_)
 refine wpAny_bind (wpAny_mono h (fun it s₂ g=>?_) fun _ _ e=>e)
 obtain ⟨I,fp,wr,n,P,St,bt,rfl,W,st,bd,cm,hQ⟩:=g
 refine wpAny_bind (wpAny_newObj_type ?_)
 have nf:s₂.heap.objs.size∉fp:=fun hm=>Nat.lt_irrefl _ (bd _ hm)
 rw [nm]
 refine wpAny_pure ⟨plainId_quiet PySem.F.plain_max_loop _,?_⟩
 by_cases n0:0<n
 . exact zjv _ W bt cm s₂.heap.objs.size nf n0 (W.frame _ _ _ st fun b _ o e=>Heap.get?_push_of_some _ e) (Heap.get?_push_size _ rfl) fun v h' tk pv kp=>
    hQ v h' tk (.inl ⟨n0,pv⟩) fun b o hbw e=>kp b o hbw (Nat.ne_of_lt (Heap.lt_size e)) (Heap.get?_push_of_some _ e)
 . exact znz _ dv W s₂.heap.objs.size nf (by lia) (W.frame _ _ _ st fun b _ o e=>Heap.get?_push_of_some _ e) (Heap.get?_push_size _ rfl) fun h' tk kp=>
    hQ dv h' tk (.inr ⟨by lia,rfl⟩) fun b o hbw e=>kp b o hbw (Nat.ne_of_lt (Heap.lt_size e)) (Heap.get?_push_of_some _ e)
variable {h₀:Heap} {L:Addr} {m:Str->Option Value} {news:List (Addr×Obj)}
theorem zo2 {l:Addr} {vs:List Value} {ns:List Int} {dv:Value} {Q:Value->Shared->Prop} (hh:A.handled=none) (F:Fr h₀ L s.heap m) (N:News h₀ L s.heap news) (hl:s.heap.IsList l vs.toArray) (hi:IntsAre vs ns)
  (h:∀v h' tk,Fr h₀ L h' m->News h₀ L h' news->((ns=[]/\v=dv)\/∃M t,v=.int M t/\M∈ns/\∀a,a∈ns->a<=M)->Q v { s with heap:=h',toks:=tk }) :
  wpAny (model prog w) A (call (.builtin "max") [.ref l] [(Str.ofString "default",dv)]) Q E s:=by
 obtain ⟨xs,e⟩:=hi.allInts.items
 have en:ns=xs.toList.map (·.1):=by rw [<-hi.numsOf,<-nums_intItems,<-e]
 have el:ns.length=xs.size:=by rw [en,List.length_map,Array.length_toList]
 rw [e] at hl
 refine zo1 (iter_intList hl fun s₂ e st bd lI=>?_)
 subst e
 refine ⟨_,_,_,_,_,_,_,rfl,Walks.list (A:=A.in1) hh _ l lI (intItems xs),st,bd,CmpOf.ints_gt (numAt xs) (fun _ _=>intItems_at),fun v h' tk pv kp=>?_⟩
 have kp':=old_kept kp
 refine h v h' tk (F.grownK kp') (N.grown kp') ?_
 rcases pv with ⟨n0,pv⟩ | ⟨n0,rfl⟩
 . right
   have n0':0<xs.size:=by simpa [intItems] using n0
   have pv':(intItems xs)[argBest (fun i j=>decide (numAt xs i > numAt xs j)) (xs.size - 1)]?=some v:=by simpa [intItems] using pv
   obtain ⟨t,rfl⟩:=intItems_at pv'
   obtain ⟨h1,h2⟩:=argBest_gt (numAt xs) (xs.size - 1)
   refine ⟨_,t,rfl,?_,fun a ha=>?_⟩
   . rw [en,numAt_eq];exact z0q (by rw [List.length_map,Array.length_toList];lia)
   . rw [en] at ha
     obtain ⟨j,hj,rfl⟩:=mem_getD ha
     rw [List.length_map,Array.length_toList] at hj
     rw [<-numAt_eq];exact h2 j (by lia)
 . left
   have:xs.size=0:=by simpa [intItems] using n0
   exact ⟨List.length_eq_zero_iff.mp (by lia),rfl⟩
end
noncomputable def mxD (d:Int):List Int->Int
 | []=>d
 | n::ns=>zlp n ns
noncomputable def zei:List D->Option D
 | [.lst ds,.int d]=>(z1x ds).map fun ns=>.int (mxD d ns)
 | _=>none
def zo3:List V->Hp->VK->Prop:=fun xs H Q=>∃p ns d,xs=[.ref p,.int d]/\H p=some (.lst (ns.map V.int))/\Q (.int (mxD d ns)) H
theorem TEd.mono' {K:Frag} {EX:XW} {fr:Bool} {f:DE->R D} {U:St} {H:Hp} {Q Q':VK} (h:TEd K EX fr f U H Q) (hq:∀v H',Q v H'->Q' v H'):TEd K EX fr f U H Q':=by
 obtain ⟨sx,ρ,H0,s,e,h⟩:=h
 exact ⟨sx,ρ,H0,s,e,h.mono fun a k v H' o=>hq _ _ (k v H' o)⟩
section
variable {X:Cx} {EX:XW} {e d:Expr} {p kp pos:Pos} {x:Str} {t1 t2:TE} {f1 f2:DE->R D}
theorem zo4 (hc:X.calm=true) (hg:Gl X x) (hm:X.mg x=none) (hv:bootBuiltins x=some (.builtin "max")) (ha:PE X e t1) (hd:PE X d t2) (hn:x≠"__name__":=by decide) (hdb:(x==("__debug__":Str))=false:=by decide)
  (hs:starEach [e] X.env=(false,eval e X.env)::starEach [] X.env:=by rfl) :
  PE X (.Call (.Name x p) [e] [⟨some (Str.ofString "default"),d,kp⟩] pos) (tCB zo3 (ze4 t1 (ze4 t2 zvl))):=by
 intro pins s U H Q I h
 refine wpAny_Call_Name_kw (z9u I hg hm hv ?_ hn hdb)
 refine callWith_kw ?_ (by rw [hs];rfl) (by rw [hs];rfl)
 refine thn (z6j ha pa_nil hs pos pins s U H (fun vs H1=>t2 U H1 fun u H2=>zo3 (vs++[u]) H2 Q) I h) fun us s1 ⟨vs,H1,I1,r1,q1⟩=>?_
 refine kws_cons (thn (hd pins s1 U H1 _ I1 q1) fun u s2 ⟨y,H2,I2,r2,q2⟩=>kws_nil ?_)
 obtain ⟨a,ns,i,e1,ea,q⟩:=q2
 obtain ⟨rfl,rfl⟩:vs=[.ref a]/\y=.int i:=by
  cases vs with
  | nil=>cases e1
  | cons b r=>
   cases r with
   | nil=>cases e1;exact ⟨rfl,rfl⟩
   | cons c r=>cases r<;>cases e1
 obtain ⟨u1,rfl,ru⟩:=z5a r1
 cases ru
 obtain ⟨t,rfl⟩:=r2
 obtain ⟨its,rv,pl,_⟩:=I2.list (.of ea)
 obtain ⟨m,hnn,_⟩:=id I2.loc
 refine zo2 (I2.ok.hd hc) (Att.fr_all hnn) (z8i (g:=Att.noObjs s2.heap) (L:=X.env.locals)) pl.isList (z7t rv) fun v h' tk F N hM=>?_
 rcases hM with ⟨rfl,rfl⟩ | ⟨M,t,rfl,hM,hle⟩
 . exact ⟨.int i,H2,I2.frn hnn F N,⟨_,rfl⟩,q⟩
 . cases ns with
   | nil=>cases hM
   | cons n ns=>
    obtain ⟨a1,a2⟩:=zc2 ns n
    have e:M=zlp n ns:=Int.le_antisymm (a2 M hM) (hle _ a1)
    exact ⟨.int M,H2,I2.frn hnn F N,⟨t,rfl⟩,by rw [e];exact q⟩
theorem zo5 {K:Frag}:z5c K false zei zo3:=by
 intro H0 H xs ds z Q s r ho k
 unfold zei at ho
 split at ho<;>first | cases ho | skip
 rename_i es i
 cases hq:z1x es with
 | none=>rw [hq] at ho;cases ho
 | some ns=>
  rw [hq] at ho
  cases ho
  simp only [RDs] at r
  obtain ⟨x1,r1,rfl,q1,x2,r2,rfl,q2,rfl⟩:=r
  obtain ⟨a,ys,rfl,ha,ra⟩:=q1.lst
  have e:=z4u hq ra
  subst e
  cases q2.int
  exact ⟨a,ns,i,rfl,s _ _ ha,k _ H (.pure s (.mkInt _))⟩
theorem zse (hc:X.calm=true) (hg:Gl X x) (hm:X.mg x=none) (hv:bootBuiltins x=some (.builtin "max")) (ha:QE X EX false e f1) (hd:QE X EX false d f2) (hn:x≠"__name__":=by decide) (hdb:(x==("__debug__":Str))=false:=by decide)
  (hs:starEach [e] X.env=(false,eval e X.env)::starEach [] X.env:=by rfl) :
  QE X EX false (.Call (.Name x p) [e] [⟨some (Str.ofString "default"),d,kp⟩] pos) (eCB zei (z01 f1 (z01 f2 z08))):=
 ⟨(zo4 hc hg hm hv ha.h hd.h hn hdb hs).imp fun _ _ _ q=>(zfs (zvq zo5 q)).mono' fun _ _ q=>(zfs q).mono' fun _ _ q=>zrj q⟩
end
noncomputable def SR.thn (r:SR) (g:DS->SR):SR:=match r with
 | .nx ρ'=>g ρ'
 | r=>r
noncomputable def SR.out (fr:Bool) (r:SR):R D:=match r with
 | .rt d=>.ok d
 | .nx _=>if fr=true then .st else .ok .non
 | .er x=>.er x
 | _=>.st
theorem zsf (g1 g2:DS->SR) (ρ:DS):z0y g1 g2 ρ=(g1 ρ).thn g2:=rfl
theorem zsg (ρ:DS) (g:DS->SR):(SR.nx ρ).thn g=g ρ:=rfl
theorem zsh (d:D) (g:DS->SR):(SR.rt d).thn g=.rt d:=rfl
theorem zsi (x:Ex) (g:DS->SR):(SR.er x).thn g=.er x:=rfl
theorem zsj (ρ:DS) (g:DS->SR):(SR.bk ρ).thn g=.bk ρ:=rfl
theorem zsk (ρ:DS) (g:DS->SR):(SR.ct ρ).thn g=.ct ρ:=rfl
theorem zsl (g:DS->SR):(SR.st).thn g=.st:=rfl
theorem zo6 (c:Prop) [Decidable c] (a b:SR) (g:DS->SR):(if c then a else b).thn g=if c then a.thn g else b.thn g:=by split<;>rfl
theorem zxl (fr:Bool) (n k:Nat) (g:DS->SR) (ds:List D):mOf fr n k g ds=if ds.length=n then (g (ds.map .im++List.replicate k .em)).out fr else .st:=rfl
theorem zsm (fr:Bool) (d:D):(SR.rt d).out fr=.ok d:=rfl
theorem zsn (ρ:DS):(SR.nx ρ).out false=.ok .non:=rfl
theorem zso (fr:Bool) (x:Ex):(SR.er x).out fr=.er x:=rfl
theorem zsp (fr:Bool):(SR.st).out fr=.st:=rfl
theorem zo7 (fr:Bool) (c:Prop) [Decidable c] (a b:SR):(if c then a else b).out fr=if c then a.out fr else b.out fr:=by split<;>rfl
theorem zsq (m:List Bool) (f:DE->R D) (ρ:DS):z30 m f ρ=(f (vis m ρ)).toS fun d=>.rt d:=rfl
theorem zsr (fr:Bool) (i:Nat) (m:List Bool) (f:DE->R D) (ρ:DS):z1n fr i m f ρ=(f (vis m ρ)).toS fun d=>.nx (zjf fr i d (z68 (keeps fr d) m ρ)):=rfl
theorem zxm (t:DE->R Bool) (g1 g2:DS->SR) (ρ:DS):sIf t g1 g2 ρ=(t (see ρ)).toS fun b=>if b=true then g1 ρ else g2 ρ:=rfl
theorem z82 {α:Type} (a:α) (k:α->SR):R.toS (.ok a) k=k a:=rfl
theorem zss {α:Type} (x:Ex) (k:α->SR):R.toS (.er x:R α) k=.er x:=rfl
theorem zst {α:Type} (k:α->SR):R.toS (.st:R α) k=.st:=rfl
theorem zo8 {α:Type} (c:Prop) [Decidable c] (a b:R α) (k:α->SR):R.toS (if c then a else b) k=if c then R.toS a k else R.toS b k:=by split<;>rfl
theorem zo9 {α β:Type} (x:Ex) (k:α->R β):R.bind (.er x:R α) k=.er x:=rfl
theorem zdc {α:Type} (a:α):(R.ok a).noE=.ok a:=rfl
theorem zxn (m:List Bool):vis m []=[]:=by cases m<;>rfl
theorem zxo (s:Sl) (r:DS):vis [] (s::r)=s.see false::vis [] r:=rfl
theorem zxp (b:Bool) (m:List Bool) (s:Sl) (r:DS):vis (b::m) (s::r)=s.see b::vis m r:=rfl
theorem zjw:see []=[]:=rfl
theorem zjx (s:Sl) (r:DS):see (s::r)=s.see true::see r:=rfl
theorem zsu (b:Bool):Sl.see b .em=none:=rfl
theorem zdd (b:Bool) (d:D):Sl.see b (.im d)=some d:=rfl
theorem z8z (d:D):Sl.see true (.ow d)=some d:=rfl
theorem zoa (d:D):Sl.see false (.ow d)=none:=rfl
theorem zsv (m:List Bool) (ρ:DS):z68 true m ρ=ρ:=rfl
theorem zjy (fr:Bool) (i:Int):keeps fr (.int i)=true:=by cases fr<;>rfl
theorem zob (fr:Bool) (i:Bool):keeps fr (.bl i)=true:=by cases fr<;>rfl
theorem zjz (fr:Bool):keeps fr .non=true:=by cases fr<;>rfl
theorem zk0 (fr:Bool) (x:PySem.Str):keeps fr (.str x)=true:=by cases fr<;>rfl
theorem zk1 (fr:Bool) (ds:List D):keeps fr (.tup ds)=z4a ds:=by cases fr<;>simp only [keeps,D.noL,D.shal,if_true,Bool.false_eq_true,if_false]
theorem z90 (ds:List D):keeps true (.lst ds)=z4a ds:=rfl
theorem zsw:z4a []=true:=by simp only [z4a]
theorem zsx (d:D) (r:List D):z4a (d::r)=(d.noL&&z4a r):=by simp only [z4a]
theorem zgj (i:Int):(D.int i).noL=true:=by simp only [D.noL]
theorem zsy (i:Bool):(D.bl i).noL=true:=by simp only [D.noL]
theorem zoc (i:PySem.Str):(D.str i).noL=true:=by simp only [D.noL]
theorem zod:(D.non).noL=true:=by simp only [D.noL]
theorem zoe (ds:List D):(D.tup ds).noL=z4a ds:=by simp only [D.noL]
theorem zof (ds:List D):(D.lst ds).noL=false:=by simp only [D.noL]
theorem zxq (i:Nat) (d:D) (ρ:DS):zjf false i d ρ=ρ.set i (.im d):=rfl
theorem zxr (i:Nat) (d:D) (ρ:DS):zjf true i d ρ=ρ.set i (.ow d):=rfl
theorem zxs (ρ:DE):sel [] ρ=[]:=rfl
theorem zxt (j:Nat) (r:List Nat) (ρ:DE):sel (j::r) ρ=(ρ[j]?).getD none::sel r ρ:=rfl
theorem y0n (d:D) (r:DE):z02 0 (some d::r)=.ok d:=rfl
theorem y0o (i:Nat) (d:Option D) (r:DE):z02 (i+1) (d::r)=z02 i r:=rfl
theorem zxu (g:Int->Int->D) (i j:Int):dI g (.int i) (.int j)=some (g i j):=rfl
theorem zgk (C:Int->Int->Prop) [∀i j,Decidable (C i j)] (g:Int->Int->D) (i j:Int):dIC C g (.int i) (.int j)=if C i j then some (g i j) else none:=rfl
theorem zxv (b:Bool):asB (.bl b)=some b:=rfl
theorem zlq (b:Bool):zee (.bl b)=some b:=rfl
theorem zsz (ds:List D):zee (.lst ds)=some (!ds.isEmpty):=rfl
theorem zt0 (i:Int):zee (.int i)=some (i != 0):=rfl
theorem z4e (i j:Int):(i==j)=decide (i=j):=by rw [Bool.eq_iff_iff];simp
theorem zt1 (i j:Int):dEq (.int i) (.int j)=some (.bl (decide (i=j))):=by
 unfold dEq
 rw [if_pos (by simp [D.pl,D.dep])]
 simp only [eqD,z4e]
theorem zt2 (i j:Int):dNe (.int i) (.int j)=some (.bl (!decide (i=j))):=by
 unfold dNe
 rw [if_pos (by simp [D.pl,D.dep])]
 simp only [eqD,z4e]
theorem zt3 (i j:Bool):dEq (.bl i) (.bl j)=some (.bl (i==j)):=by
 unfold dEq
 rw [if_pos (by simp [D.pl,D.dep])]
 simp only [eqD]
theorem zt4 (a b c e:Int):dEq (.tup [.int a,.int b]) (.tup [.int c,.int e])=some (.bl (decide (a=c)&&decide (b=e))):=by
 unfold dEq
 rw [if_pos (by simp [D.pl,D.dep,pls,z2s])]
 simp only [eqD,z4n,z4e,Bool.and_true]
theorem zt5 (a b c e:Int):dNe (.tup [.int a,.int b]) (.tup [.int c,.int e])=some (.bl (!(decide (a=c)&&decide (b=e)))):=by
 unfold dNe
 rw [if_pos (by simp [D.pl,D.dep,pls,z2s])]
 simp only [eqD,z4n,z4e,Bool.and_true]
theorem zlr (a:D) (r:List D):dIx (.tup (a::r)) (.int 0)=some a:=by simp only [dIx,dOr,zbw,zzi]
theorem zls (a b:D) (r:List D):dIx (.tup (a::b::r)) (.int 1)=some b:=by simp only [dIx,dOr,zbw,zzj]
theorem zt6 (a b c:D) (r:List D):dIx (.tup (a::b::c::r)) (.int 2)=some c:=by simp only [dIx,dOr,zbw,show atI (a::b::c::r) 2=some c from z6l (j:=2) rfl]
theorem zt7 (a:D) (r:List D):dIx (.lst (a::r)) (.int 0)=some a:=by simp only [dIx,dOr,zbw,zzi]
theorem zt8 (a b:D) (r:List D):dIx (.lst (a::b::r)) (.int 1)=some b:=by simp only [dIx,dOr,zbw,zzj]
theorem zgl {ds:List D} {j:Nat} {d:D} (h:ds[j]?=some d):dIx (.lst ds) (.int (j:Int))=some d:=by simp only [dIx,dOr,zbw,z6l h]
theorem zog {ns:List Int} {k:Int} (h0:0<=k) (h1:k<ns.length):dIx (.scr ns) (.int k)=some (.int (ns.getD k.toNat 0)):=by
 have hk:k.toNat<ns.length:=by lia
 have e:atI ns k=some (ns.getD k.toNat 0):=by
  have:=z6l (xs:=ns) (j:=k.toNat) (v:=ns.getD k.toNat 0) (by rw [List.getD_eq_getElem?_getD,List.getElem?_eq_getElem hk];rfl)
  rwa [show ((k.toNat:Nat):Int)=k by lia] at this
 simp only [dIx,dOr,zbw,e,Option.map_some]
theorem zt9 (ns:List Int):z7i [.scr ns]=some (.int ns.length):=rfl
theorem zlt (ns:List D):z7i [.lst ns]=some (.int ns.length):=rfl
theorem zta (ns:List D):z7i [.tup ns]=some (.int ns.length):=rfl
theorem zxw (b c:Bool):(if b=true then R.ok true else R.ok c)=R.ok (b||c):=by cases b<;>rfl
theorem ztb (b c:Bool):(if b=true then R.ok c else R.ok false)=R.ok (b&&c):=by cases b<;>rfl
theorem ztc (b c:Bool):(if b=true then R.ok (D.bl true) else R.ok (D.bl c))=R.ok (D.bl (b||c)):=by cases b<;>rfl
theorem zoh (b c:Bool):(if b=true then R.ok (D.bl c) else R.ok (D.bl false))=R.ok (D.bl (b&&c)):=by cases b<;>rfl
theorem ztd (i:Int):z7h "int" (.int i)=some (.bl true):=by simp [z7h,z5f,z6n,zfg]
theorem zte (i:Int):z7h "bool" (.int i)=some (.bl false):=by simp [z7h,z5f,z6n,zfg]
theorem ztf (i:Bool):z7h "bool" (.bl i)=some (.bl true):=by simp [z7h,z5f,z6n,zfg]
theorem zgm (ds:List D):z7h "tuple" (.tup ds)=some (.bl true):=by simp [z7h,z5f,z6n,zfg]
theorem zlu (ds:List D):z7h "list" (.lst ds)=some (.bl true):=by simp [z7h,z5f,z6n,zfg]
theorem ztg (tg:Tg) (g:DS->SR) (ρ:DS):z9p tg g [] ρ=.nx ρ:=rfl
noncomputable def SR.itr (r:SR) (k:DS->SR):SR:=match r with
 | .nx ρ2=>k ρ2
 | .ct ρ2=>k ρ2
 | .bk ρ2=>.nx ρ2
 | .rt d=>.rt d
 | .er x=>.er x
 | .st=>.st
theorem zgn (ρ:DS) (k:DS->SR):(SR.nx ρ).itr k=k ρ:=rfl
theorem zth (ρ:DS) (k:DS->SR):(SR.ct ρ).itr k=k ρ:=rfl
theorem zti (ρ:DS) (k:DS->SR):(SR.bk ρ).itr k=.nx ρ:=rfl
theorem ztj (d:D) (k:DS->SR):(SR.rt d).itr k=.rt d:=rfl
theorem zoi (c:Prop) [Decidable c] (a b:SR) (g:DS->SR):(if c then a else b).itr g=if c then a.itr g else b.itr g:=by split<;>rfl
theorem zoj (bn:D->Option (List D)) (t:DE->R Bool) (f:DE->R D) (cs:DE):z4s bn t f cs []=.ok []:=rfl
theorem zok (f:DE->R D) (cs:DE) (d:D) (ds:List D):z4s b1 zjs f cs (d::ds)=(f (some d::cs)).noE.bind fun y=>(z4s b1 zjs f cs ds).bind fun ys=>.ok (y::ys):=rfl
theorem z4y {bn:D->Option (List D)} {f:DE->R D} {cs:DE} {α:Type} {en:α->D} {bs:α->List D} {g:α->D} (xs:List α) (hb:∀x∈xs,bn (en x)=some (bs x)) (hf:∀x∈xs,f ((bs x).map some++cs)=.ok (g x)):z4s bn zjs f cs (xs.map en)=.ok (xs.map g):=by
 induction xs with
 | nil=>rfl
 | cons x xs ih=>
  simp only [List.map_cons,z4s,hb x (by simp),zjs,R.of_some,R.bind_ok,zdc,if_true,hf x (by simp),ih (fun y hy=>hb y (by simp [hy])) (fun y hy=>hf y (by simp [hy]))]
theorem z2k {bn:D->Option (List D)} {t:DE->R Bool} {f:DE->R D} {cs:DE} {α:Type} {en:α->D} {bs:α->List D} {p:α->Bool} {g:α->D} (xs:List α) (hb:∀x∈xs,bn (en x)=some (bs x)) (ht:∀x∈xs,t ((bs x).map some++cs)=.ok (p x)) (hf:∀x∈xs,p x=true->f ((bs x).map some++cs)=.ok (g x)):z4s bn t f cs (xs.map en)=.ok ((xs.filter p).map g):=by
 induction xs with
 | nil=>rfl
 | cons x xs ih=>
  have ih':=ih (fun y hy=>hb y (by simp [hy])) (fun y hy=>ht y (by simp [hy])) (fun y hy=>hf y (by simp [hy]))
  simp only [List.map_cons,z4s,hb x (by simp),ht x (by simp),R.of_some,R.bind_ok,zdc,ih']
  cases e:p x with
  | true=>simp only [if_true,hf x (by simp) e,zdc,R.bind_ok,List.filter_cons,e,List.map_cons]
  | false=>simp only [Bool.false_eq_true,if_false,List.filter_cons,e]
theorem z4z {tg:Tg} {g:DS->SR} {α:Type} {en:α->D} (P:List α->DS->Prop) (xs:List α) (ρ:DS) (h0:P xs ρ) (hs:∀x r ρ,P (x::r) ρ->∃ρ1 ρ2,zl8 tg (en x) ρ=some ρ1/\(g ρ1=.nx ρ2\/g ρ1=.ct ρ2)/\P r ρ2):∃ρ',z9p tg g (xs.map en) ρ=.nx ρ'/\P [] ρ':=by
 induction xs generalizing ρ with
 | nil=>exact ⟨ρ,rfl,h0⟩
 | cons x r ih=>
  obtain ⟨ρ1,ρ2,e1,e2,q⟩:=hs x r ρ h0
  obtain ⟨ρ',e',p'⟩:=ih ρ2 q
  refine ⟨ρ',?_,p'⟩
  rcases e2 with e2 | e2<;>simp only [List.map_cons,z9p,e1,e2,e']
noncomputable def L (ns:List Int):D:=.lst (ns.map .int)
theorem z6b {α:Type} (f:α->D) (xs:List α) (h:∀x∈xs,(f x).noL=true):z4a (xs.map f)=true:=by
 induction xs with
 | nil=>simp only [List.map_nil,z4a]
 | cons a r ih=>simp only [List.map_cons,z4a,h a (by simp),ih fun x hx=>h x (by simp [hx]),Bool.and_self]
theorem ztk (ns:List Int):keeps true (L ns)=true:=by
 unfold L;rw [z90];exact z6b _ _ fun x _=>zgj x
theorem zxx (ns:List Int):z7i [L ns]=some (.int ns.length):=by unfold L;rw [zlt,List.length_map]
theorem ztl (ns:List Int):zeg [L ns]=some (L ns):=rfl
theorem zxy (ns:List Int):z7h "list" (L ns)=some (.bl true):=zlu _
theorem zol (ns:List Int):items (L ns)=some (ns.map .int):=rfl
theorem y0p {ns:List Int} {x:Int} (h0:0<=x) (h1:x.toNat<ns.length):dIx (L ns) (.int x)=some (.int (ns.getD x.toNat 0)):=by
 have e:(ns.map D.int)[x.toNat]?=some (.int (ns.getD x.toNat 0)):=by
  rw [List.getElem?_map,List.getElem?_eq_getElem h1,List.getD_eq_getElem?_getD,List.getElem?_eq_getElem h1];rfl
 have:=zgl e
 rwa [show ((x.toNat:Nat):Int)=x by lia] at this
theorem zom {ns:List Int} {x:Int} (h:ns.length<100000):z9r (L ns) [.int x]=some (L (ns++[x])):=by
 simp only [L,z9r,List.length_map,h,if_true,List.map_append,List.map_cons,List.map_nil]
theorem y0q (ns:List Int) (lo hi:Option Int):dSl (L ns) lo hi=some (L (zg7 ns lo hi)):=by
 simp only [L,dSl,zg7,List.length_map,List.map_take,List.map_drop]
theorem ztm (ns:List Int) (lo hi:Option Int):dSl (.scr ns) lo hi=some (L (zg7 ns lo hi)):=rfl
theorem zxz (ns:List Int):zio [L ns]=some (.int ns.sum):=by simp only [L,zio,z5g,Option.map_some]
theorem zej (ns:List Int):(L ns).dep<=1/\(L ns).pl=true:=by
 have:∀ns:List Int,z2s (ns.map D.int)=0/\pls (ns.map D.int)=true:=fun ns=>by
  induction ns with
  | nil=>simp only [List.map_nil,z2s,pls,and_self]
  | cons a r ih=>simp only [List.map_cons,z2s,pls,D.dep,D.pl,ih.1,ih.2,Bool.and_self,Nat.max_self,and_self]
 simp only [L,D.dep,D.pl,this];exact ⟨by lia,trivial⟩
theorem zgo:∀(a b:List Int),z4n (a.map D.int) (b.map D.int)=decide (a=b)
 | [],[]=>by simp [z4n]
 | [],_::_=>by simp [z4n]
 | _::_,[]=>by simp [z4n]
 | x::a,y::b=>by
  simp only [List.map_cons,z4n,eqD,zgo a b,List.cons.injEq,Bool.decide_and,z4e]
theorem y0r (a b:List Int):dEq (L a) (L b)=some (.bl (decide (a=b))):=by
 unfold dEq
 rw [if_pos ⟨(zej a).2,(zej b).2,by have:=(zej a).1;lia⟩]
 simp only [L,eqD,zgo]
theorem y0s (a b:List Int):dNe (L a) (L b)=some (.bl (!decide (a=b))):=by
 unfold dNe
 rw [if_pos ⟨(zej a).2,(zej b).2,by have:=(zej a).1;lia⟩]
 simp only [L,eqD,zgo]
theorem zde {tg:Tg} {g:DS->SR} (n:Nat) (en:Nat->D) (P:Nat->DS->Prop) (ρ:DS) (h0:P 0 ρ)
  (hs:∀i,i<n->∀ρ,P i ρ->∃ρ1 ρ2,zl8 tg (en i) ρ=some ρ1/\(g ρ1=.nx ρ2\/g ρ1=.ct ρ2)/\P (i+1) ρ2) :
  ∃ρ',z9p tg g ((List.range n).map en) ρ=.nx ρ'/\P n ρ':=by
 have key:∀k s ρ,s+k=n->P s ρ->∃ρ',z9p tg g ((List.range' s k).map en) ρ=.nx ρ'/\P n ρ':=by
  intro k
  induction k with
  | zero=>intro s ρ e h;exact ⟨ρ,rfl,by rwa [<-e]⟩
  | succ k ih=>
   intro s ρ e h
   obtain ⟨ρ1,ρ2,e1,e2,q⟩:=hs s (by lia) ρ h
   obtain ⟨ρ',e',p'⟩:=ih (s+1) ρ2 (by lia) q
   refine ⟨ρ',?_,p'⟩
   rw [List.range'_succ,List.map_cons]
   rcases e2 with e2 | e2<;>simp only [z9p,e1,e2,e']
 rw [List.range_eq_range']
 exact key n 0 ρ (by lia) h0
theorem zy0 (ns:List Int):isT "list" (L ns)=true:=by simp only [L,isT,beq_self_eq_true]
theorem ztn (m:List Bool) (ρ:DS):z68 false m ρ=frz m ρ:=rfl
theorem zy1 (ρ:DS):frz [] ρ=ρ:=by cases ρ<;>rfl
theorem zy2 (m:List Bool):frz m []=[]:=by cases m<;>rfl
theorem zy3 (b:Bool) (m:List Bool) (s:Sl) (r:DS):frz (b::m) (s::r)=s.frz b::frz m r:=rfl
theorem zto (b:Bool) (d:D):Sl.frz b (.im d)=.im d:=rfl
theorem ztp (b:Bool):Sl.frz b .em=.em:=rfl
theorem zon (d:D):Sl.frz false (.ow d)=.ow d:=rfl
theorem zoo (d:D):Sl.frz true (.ow d)=.im d:=rfl
theorem ztq {i j:Int} (h:-(2 ^ 64)<i/\i<2 ^ 64):zrw (.int i) (.int j)=some (.int (i * j)):=by
 unfold zrw;rw [zgk,if_pos (show CMul i j from Or.inl h)]
theorem z50 {i j:Int} (h:0<j):z9q (.int i) (.int j)=some (.int (i % j)):=by
 unfold z9q;rw [zgk,if_pos h]
theorem zop {i j:Int} (h:0<j/\j<1073741824):zla (.int i) (.int j)=some (.int (i / j)):=by
 unfold zla;rw [zgk,if_pos (show zmn i j from h)]
theorem ztr (i:Int):R.of (match D.int i with | .int i=>some (some i) | _=>none)=R.ok (some i):=rfl
theorem zoq {j:Int} (hj:-100000<=j/\j<=100000):-(2 ^ 62)<=j/\j<2 ^ 62:=by lia
theorem zor {fs:DE->R (List D)} {ρ:DE} (j:Int) (hj:-100000<=j/\j<=100000) (h:fs ρ=.ok [.int j]):znw fs ρ=.ok (zD 0 j.toNat):=by
 unfold znw;rw [h,R.bind_ok]
 show R.of (if _ then _ else _)=_
 rw [if_pos (zoq hj)];rfl
theorem zos (ds:List D):items (.lst ds)=some ds:=rfl
theorem zot (ds:List D):items (.tup ds)=some ds:=rfl
theorem zam (ds:List D):keeps false (.lst ds)=false:=by simp only [keeps,D.noL,Bool.false_eq_true,if_false]
theorem zou (ns:List Int):keeps false (L ns)=false:=zam _
noncomputable def T2 (p:Int×Int):D:=.tup [.int p.1,.int p.2]
noncomputable def T3 (p:Int×Int×Int):D:=.tup [.int p.1,.int p.2.1,.int p.2.2]
theorem z36 {l l':List D} (h:ois l'=true) (p:l.Perm l'):z2j l=z2j l':=
 z3r (z4x ((z0l l).trans p) h) (((z0l l).trans p).trans (z0l l').symm) (z1y (z4x p h)) (z1y h)
noncomputable def insB {α:Type} (lt:α->α->Bool) (d:α):List α->List α
 | []=>[d]
 | e::r=>if lt e d=true then e::insB lt d r else d::e::r
noncomputable def sortB {α:Type} (lt:α->α->Bool):List α->List α
 | []=>[]
 | d::r=>insB lt d (sortB lt r)
section
variable {α:Type} (f:α->D)
theorem zdf (d:α):∀l:List α,zju (f d) (l.map f)=(insB (fun a b=>ltT (f a) (f b)) d l).map f
 | []=>rfl
 | e::r=>by
  simp only [List.map_cons,zju,insB]
  split
  . rw [List.map_cons,zdf d r]
  . rfl
theorem z51:∀l:List α,z2j (l.map f)=(sortB (fun a b=>ltT (f a) (f b)) l).map f
 | []=>rfl
 | d::r=>by simp only [List.map_cons,z2j,sortB,z51 r,zdf]
variable (lt:α->α->Bool)
theorem zan (d:α):∀l:List α,(insB lt d l).Perm (d::l)
 | []=>.refl _
 | e::r=>by
  unfold insB
  split
  . exact ((zan d r).cons e).trans (.swap d e r)
  . exact .refl _
theorem z3s:∀l:List α,(sortB lt l).Perm l
 | []=>.refl _
 | d::r=>(zan lt d (sortB lt r)).trans ((z3s r).cons d)
end
noncomputable def so2 (ls:List (Int×Int)):List (Int×Int):=sortB (fun a b=>ltT (T2 a) (T2 b)) ls
noncomputable def so3 (ls:List (Int×Int×Int)):List (Int×Int×Int):=sortB (fun a b=>ltT (T3 a) (T3 b)) ls
noncomputable def soI (ls:List Int):List Int:=sortB (fun a b=>ltT (.int a) (.int b)) ls
theorem z5i (ls:List (Int×Int)):z2j (ls.map T2)=(so2 ls).map T2:=z51 _ _
theorem z91 (ls:List (Int×Int×Int)):z2j (ls.map T3)=(so3 ls).map T3:=z51 _ _
theorem z37 (ls:List Int):z2j (ls.map D.int)=(soI ls).map D.int:=z51 _ _
theorem z0b (ls:List (Int×Int)):(so2 ls).Perm ls:=z3s _ _
theorem z1r (ls:List (Int×Int×Int)):(so3 ls).Perm ls:=z3s _ _
theorem zk2 (ls:List Int):(soI ls).Perm ls:=z3s _ _
theorem z26 {α:Type} (xs:List α) (f:α->D) (p:D->Bool) (h:∀x,p (f x)=true):(xs.map f).all p=true:=by
 rw [List.all_eq_true];intro d hd;obtain ⟨x,_,rfl⟩:=List.mem_map.mp hd;exact h x
theorem z27 {α:Type} (xs:List α) (f:α->D) (h:∀x,(f x).oi=true):ois (xs.map f)=true:=
 ois_mem.mpr fun d hd=>by obtain ⟨x,_,rfl⟩:=List.mem_map.mp hd;exact h x
theorem z1o {α:Type} (xs:List α) (f:α->D) (n:Nat) (h:∀x,(f x).dep<=n):z2s (xs.map f)<=n:=by
 induction xs with
 | nil=>simp only [List.map_nil,z2s,Nat.zero_le]
 | cons a r ih=>simp only [List.map_cons,z2s];have:=h a;lia
theorem z5t {α:Type} (xs:List α) (f:α->D) (h:∀x,(f x).pl=true):pls (xs.map f)=true:=by
 induction xs with
 | nil=>simp only [List.map_nil,pls]
 | cons a r ih=>simp only [List.map_cons,pls,h a,ih,Bool.and_self]
theorem zc3 (p:Int×Int):(T2 p).oi=true:=by simp [T2,D.oi,ois]
theorem zov (p:Int×Int×Int):(T3 p).oi=true:=by simp [T3,D.oi,ois]
theorem zq8 (p:Int):(D.int p).oi=true:=by simp [D.oi]
theorem z38 (p:Int×Int):(T2 p).dep<=1:=by simp [T2,D.dep,z2s]
theorem zlv (p:Int×Int×Int):(T3 p).dep<=1:=by simp [T3,D.dep,z2s]
theorem z4f (p:Int×Int):(T2 p).pl=true:=by simp [T2,D.pl,pls]
theorem zdg (p:Int×Int):(T2 p).noL=true:=by simp [T2,D.noL,z4a]
theorem zlw (p:Int×Int×Int):(T3 p).noL=true:=by simp [T3,D.noL,z4a]
theorem zlx (p q:Int×Int):(z1i (T2 p) (T2 q)).isSome=true:=by
 simp only [T2,z1i,z2i];repeat (first | rfl | split)
theorem zly (p q:Int×Int×Int):(z1i (T3 p) (T3 q)).isSome=true:=by
 simp only [T3,z1i,z2i];repeat (first | rfl | split)
theorem zy4 (p q:Int):(z1i (.int p) (.int q)).isSome=true:=by simp only [z1i];rfl
theorem zgp (ls:List (Int×Int)) (h:ls.length<64):z6z (ls.map T2)=true:=by
 unfold z6z
 rw [List.length_map,decide_eq_true h,z27 _ _ zc3,decide_eq_true (Nat.le_trans (z1o ls T2 1 z38) (by decide)),z26 ls T2 (fun d=>(ls.map T2).all fun e=>(z1i d e).isSome) (fun x=>z26 _ _ _ fun y=>zlx x y),z26 ls T2 zc0 (fun x=>rfl)]
 simp
theorem zgq (ls:List (Int×Int×Int)) (h:ls.length<64):z6z (ls.map T3)=true:=by
 unfold z6z
 rw [List.length_map,decide_eq_true h,z27 _ _ zov,decide_eq_true (Nat.le_trans (z1o ls T3 1 zlv) (by decide)),z26 ls T3 (fun d=>(ls.map T3).all fun e=>(z1i d e).isSome) (fun x=>z26 _ _ _ fun y=>zly x y),z26 ls T3 zc0 (fun x=>rfl)]
 simp
theorem zk3 (ls:List Int) (h:ls.length<64):z6z (ls.map D.int)=true:=by
 unfold z6z
 rw [List.length_map,decide_eq_true h,z27 _ _ zq8,decide_eq_true (Nat.le_trans (z1o ls D.int 1 (fun x=>by simp [D.dep])) (by decide)),z26 ls D.int (fun d=>(ls.map D.int).all fun e=>(z1i d e).isSome) (fun x=>z26 _ _ _ fun y=>zy4 x y),z26 ls D.int isI (fun x=>rfl)]
 simp
theorem sorted_T2 (ls:List (Int×Int)) (h:ls.length<64):z5h [.lst (ls.map T2)]=some (.lst ((so2 ls).map T2)):=by
 simp only [z5h,zgp ls h,if_true,z5i]
theorem sorted_T3 (ls:List (Int×Int×Int)) (h:ls.length<64):z5h [.lst (ls.map T3)]=some (.lst ((so3 ls).map T3)):=by
 simp only [z5h,zgq ls h,if_true,z91]
theorem sorted_I (ls:List Int) (h:ls.length<64):z5h [L ls]=some (L (soI ls)):=by
 simp only [L,z5h,zk3 ls h,if_true,z37]
theorem zts {p q:Int×Int×Int} (h:T3 p=T3 q):p=q:=by
 obtain ⟨a,b,c⟩:=p;obtain ⟨a',b',c'⟩:=q
 simp only [T3,D.tup.injEq,List.cons.injEq,D.int.injEq,and_true] at h
 simp only [Prod.mk.injEq];exact h
theorem zdh {p q:Int×Int} (h:T2 p=T2 q):p=q:=by
 obtain ⟨a,b⟩:=p;obtain ⟨a',b'⟩:=q
 simp only [T2,D.tup.injEq,List.cons.injEq,D.int.injEq,and_true] at h
 simp only [Prod.mk.injEq];exact h
theorem z1d {α β:Type} {f:α->β} (hf:∀x y,f x=f y->x=y):∀{a b:List α},a.map f=b.map f->a=b
 | [],[],_=>rfl
 | [],_::_,h=>by simp at h
 | _::_,[],h=>by simp at h
 | x::a,y::b,h=>by
  simp only [List.map_cons,List.cons.injEq] at h
  rw [hf _ _ h.1,z1d hf h.2]
theorem zdi {a b:List (Int×Int×Int)} (p:a.Perm b):so3 a=so3 b:=by
 have:=z36 (z27 b T3 zov) (p.map T3)
 rw [z91,z91] at this
 exact z1d (fun _ _=>zts) this
theorem z6c {a b:List (Int×Int)} (p:a.Perm b):so2 a=so2 b:=by
 have:=z36 (z27 b T2 zc3) (p.map T2)
 rw [z5i,z5i] at this
 exact z1d (fun _ _=>zdh) this
theorem zgr {d m:Int} {ys:List Int} (h1:∀y∈ys,y<=m) (h2:m∈ys\/(ys=[]/\d=m)):mxD d ys=m:=by
 cases ys with
 | nil=>
  rcases h2 with h2 | h2
  . cases h2
  . exact h2.2
 | cons n ns=>
  rcases h2 with h2 | h2
  . obtain ⟨a,b⟩:=zc2 ns n
    exact Int.le_antisymm (h1 _ a) (b _ h2)
  . cases h2.1
theorem zy5 (ds:List D):isT "list" (.lst ds)=true:=by simp only [isT,beq_self_eq_true]
theorem zy6 (b:Bool):zjr [.bl b]=some (.int (if b then 1 else 0)):=rfl
theorem zy7 (i:Int):zjr [.int i]=some (.int i):=rfl
theorem ztt (ds:List D):zeg [.tup ds]=some (.lst ds):=rfl
theorem ztu (ds:List D):zeg [.lst ds]=some (.lst ds):=rfl
theorem zow (ds:List D):z4v [.lst ds]=some (.tup ds):=rfl
theorem zox (ds:List D):z4v [.tup ds]=some (.tup ds):=rfl
theorem zk4 (ls:List (Int×Int)):z4a (ls.map T2)=true:=z6b _ _ fun x _=>zdg x
theorem zk5 (ls:List (Int×Int×Int)):z4a (ls.map T3)=true:=z6b _ _ fun x _=>zlw x
theorem zlz {ls:List (Int×Int)} {a b:Int} (h:ls.length<100000):z9r (.lst (ls.map T2)) [.tup [.int a,.int b]]=some (.lst ((ls++[(a,b)]).map T2)):=by
 simp only [z9r,List.length_map,h,if_true,List.map_append,List.map_cons,List.map_nil];rfl
theorem zm0 {ls:List (Int×Int×Int)} {a b c:Int} (h:ls.length<100000):z9r (.lst (ls.map T3)) [.tup [.int a,.int b,.int c]]=some (.lst ((ls++[(a,b,c)]).map T3)):=by
 simp only [z9r,List.length_map,h,if_true,List.map_append,List.map_cons,List.map_nil];rfl
theorem zao (p q:Int×Int):eqD (T2 p) (T2 q)=decide (p=q):=by
 obtain ⟨a,b⟩:=p;obtain ⟨c,d⟩:=q
 simp only [T2,eqD,z4n,z4e,Bool.and_true,Prod.mk.injEq,Bool.decide_and]
theorem zgs (p:Int×Int) (ls:List (Int×Int)):dIn false (T2 p) (.tup (ls.map T2))=some (.bl (decide (p∈ls))):=by
 have h1:=z1o ls T2 1 z38
 have e:(ls.map T2).any (fun e=>eqD e (T2 p))=decide (p∈ls):=by
  rw [List.any_map,Bool.eq_iff_iff,List.any_eq_true,decide_eq_true_eq]
  constructor
  . rintro ⟨x,hx,h⟩
    simp only [Function.comp,zao,decide_eq_true_eq] at h
    rw [<-h];exact hx
  . intro h;exact ⟨p,h,by simp only [Function.comp,zao,decide_true]⟩
 unfold dIn dOr zjm
 simp only [z4f,z5t ls T2 z4f,true_and,if_pos (show z2s (ls.map T2)<=20 by lia),e,Bool.false_eq_true,if_false]
theorem zek (x:Int) (t:Int×Int×Int):dIn false (.int x) (T3 t)=some (.bl (decide (x=t.1)||(decide (x=t.2.1)||decide (x=t.2.2)))):=by
 unfold dIn dOr zjm
 simp only [T3,D.pl,pls,z2s,D.dep,Bool.and_self,Nat.max_self,true_and,Nat.zero_le,if_true,List.any_cons,List.any_nil,Bool.or_false,eqD,z4e,Bool.false_eq_true,if_false]
 simp only [show ∀a b:Int,decide (a=b)=decide (b=a) from fun a b=>by rw [Bool.eq_iff_iff];simp [eq_comm]]
theorem ztv (t:Int×Int×Int):zio [T3 t]=some (.int (t.1+(t.2.1+(t.2.2+0)))):=by
 simp only [T3,zio,z1x,Option.map_some,List.sum_cons,List.sum_nil]
theorem ztw (t:Int×Int):zio [T2 t]=some (.int (t.1+(t.2+0))):=by
 simp only [T2,zio,z1x,Option.map_some,List.sum_cons,List.sum_nil]
theorem ztx (t:Int×Int×Int):z7h "tuple" (T3 t)=some (.bl true):=zgm _
theorem zty (t:Int×Int):z7h "tuple" (T2 t)=some (.bl true):=zgm _
theorem ztz (t:Int×Int):z7i [T2 t]=some (.int 2):=rfl
theorem zy8 (t:Int×Int):dIx (T2 t) (.int 0)=some (.int t.1):=zlr _ _
theorem zy9 (t:Int×Int):dIx (T2 t) (.int 1)=some (.int t.2):=zls _ _ _
theorem zk6 (t:Int×Int×Int):items (T3 t)=some [.int t.1,.int t.2.1,.int t.2.2]:=rfl
theorem zu0 (a b:List (Int×Int)) (h:a.length+b.length<=100000):zjl (.lst (a.map T2)) (.lst (b.map T2))=some (.lst ((a++b).map T2)):=by
 simp only [zjl,List.length_map,h,if_true,List.map_append]
def zu1 (i j:Int):Prop:=0<j/\j<2 ^ 200
instance (i j:Int):Decidable (zu1 i j):=by unfold zu1;infer_instance
noncomputable def hid (as:List Addr) (H:Hp):Hp:=fun b=>if b∈as then none else H b
mutual
noncomputable def nkD:D->Option NK
 | .int n=>some (.i n)
 | .tup ds=>(zq9 ds).map .t
 | _=>none
noncomputable def zq9:List D->Option (List NK)
 | []=>some []
 | d::ds=>match nkD d,zq9 ds with
  | some k,some ks=>some (k::ks)
  | _,_=>none
end
mutual
theorem zgt {K:Frag} {H:Hp}:∀{d:D} {k:NK} {x:V},nkD d=some k->RD K H d x->NKr H k x
 | .int n,k,x,e,r=>by
  simp only [nkD,Option.some.injEq] at e;subst e
  cases r.int;simp only [NKr]
 | .tup ds,k,x,e,r=>by
  simp only [nkD,Option.map_eq_some_iff] at e
  obtain ⟨ks,e,rfl⟩:=e
  obtain ⟨a,xs,rfl,ha,ra⟩:=r.tup
  simp only [NKr]
  exact ⟨a,xs,rfl,ha,zgu e ra⟩
 | .non,_,_,e,_=>by simp [nkD] at e
 | .bl _,_,_,e,_=>by simp [nkD] at e
 | .str _,_,_,e,_=>by simp [nkD] at e
 | .lst _,_,_,e,_=>by simp [nkD] at e
 | .dk _ _,_,_,e,_=>by simp [nkD] at e
 | .dt _ _,_,_,e,_=>by simp [nkD] at e
 | .dn _ _,_,_,e,_=>by simp [nkD] at e
 | .scr _,_,_,e,_=>by simp [nkD] at e
 | .exc _ _,_,_,e,_=>by simp [nkD] at e
theorem zgu {K:Frag} {H:Hp}:∀{ds:List D} {ks:List NK} {xs:List V},zq9 ds=some ks->RDs K H ds xs->NKrs H ks xs
 | [],ks,xs,e,r=>by
  simp only [zq9,Option.some.injEq] at e;subst e
  simp only [RDs] at r;subst r;simp only [NKrs]
 | d::ds,ks,xs,e,r=>by
  simp only [RDs] at r
  obtain ⟨x,r,rfl,r1,r2⟩:=r
  simp only [zq9] at e
  split at e
  . rename_i k ks' e1 e2
    cases e
    simp only [NKrs]
    exact ⟨x,_,rfl,zgt e1 r1,zgu e2 r2⟩
  . cases e
end
noncomputable def putQ (qs:List (NK×Addr)) (k:NK) (b:Addr):List (NK×Addr):=if k∈qs.map (·.1) then qs else qs++[(k,b)]
noncomputable def z3 (qs:List (NK×Addr)) (vs:List Value):List (NK×Addr×Value):=(qs.zip vs).map fun q=>(q.1.1,q.1.2,q.2)
theorem zdj:∀(qs:List (NK×Addr)) (vs:List Value),qs.length=vs.length->(z3 qs vs).map (·.1)=qs.map (·.1)
 | [],_,_=>rfl
 | q::qs,[],h=>by simp at h
 | q::qs,v::vs,h=>by
  have:=zdj qs vs (by simpa using h)
  simp only [z3,List.zip_cons_cons,List.map_cons] at this ⊢
  rw [this]
theorem zu2 (qs:List (NK×Addr)) (vs:List Value) (h:qs.length=vs.length):(z3 qs vs).length=qs.length:=by
 simp only [z3,List.length_map,List.length_zip];lia
theorem zgv {α:Type} (xs:List (NK×Addr×α)) (k:NK):((xs.find? fun x=>decide (x.1=k)).map (·.2)).isSome=decide (k∈xs.map (·.1)):=by
 rw [Option.isSome_map,Bool.eq_iff_iff,List.find?_isSome,decide_eq_true_eq,List.mem_map]
 constructor
 . rintro ⟨x,hx,e⟩;exact ⟨x,hx,by simpa using e⟩
 . rintro ⟨x,hx,e⟩;exact ⟨x,hx,by simpa using e⟩
theorem zu3 (qs:List (NK×Addr)) (vs:List Value) (h:qs.length=vs.length) (k:NK) (b:Addr) (u:Value):storedH (z3 qs vs) k b u=z3 (putQ qs k b) (zet (qs.map (·.1)) vs k u)/\(putQ qs k b).length=(zet (qs.map (·.1)) vs k u).length:=by
 unfold storedH putQ zet
 have e:=zgv (z3 qs vs) k
 rw [zdj qs vs h] at e
 rw [show (atKey (z3 qs vs) k).isSome=decide (k∈qs.map (·.1)) from e]
 by_cases hk:k∈qs.map (·.1)
 . rw [if_pos (decide_eq_true hk),if_pos hk,if_pos hk]
   have go:∀(qs:List (NK×Addr)) (vs:List Value),qs.length=vs.length->(z3 qs vs).map (putAt k u)=z3 qs (List.zipWith (fun k' d'=>if k'=k then u else d') (qs.map (·.1)) vs)/\qs.length=(List.zipWith (fun k' d'=>if k'=k then u else d') (qs.map (·.1)) vs).length:=by
    intro qs
    induction qs with
    | nil=>intro vs _;exact ⟨rfl,rfl⟩
    | cons q qs ih=>
     intro vs h
     cases vs with
     | nil=>simp at h
     | cons v vs=>
      obtain ⟨i1,i2⟩:=ih vs (by simpa using h)
      simp only [z3,List.zip_cons_cons,List.map_cons,List.zipWith_cons_cons,List.length_cons] at i1 i2 ⊢
      refine ⟨?_,by lia⟩
      rw [i1]
      congr 1
      unfold putAt
      by_cases z:q.1=k
      . simp only [if_pos z]
      . simp only [if_neg z]
   exact go qs vs h
 . rw [if_neg (by simpa using hk),if_neg hk,if_neg hk]
   refine ⟨?_,by simp;lia⟩
   unfold z3
   rw [List.zip_append h,List.map_append];rfl
section
variable {X:Cx} {pins:List (Addr×Obj)} {U:St} {H:Hp} {s:Shared}
theorem zgw {ks:List NK} {k:NK} {v:V} {u:Value} (ru:RelV v u) {xs:List V} {vs:List Value} (r:Vals xs vs):Vals (zet ks xs k v) (zet ks vs k u):=by
 unfold zet
 split
 . have go:∀(ks:List NK) (xs:List V) (vs:List Value),Vals xs vs->Vals (List.zipWith (fun k' d'=>if k'=k then v else d') ks xs) (List.zipWith (fun k' d'=>if k'=k then u else d') ks vs):=by
    intro ks
    induction ks with
    | nil=>intro xs vs _;exact .nil
    | cons k' ks ih=>
     intro xs vs r
     cases r with
     | nil=>exact .nil
     | cons a1 a2=>
      simp only [List.zipWith_cons_cons]
      refine .cons ?_ (ih _ _ a2)
      split
      . exact ru
      . exact a1
   exact go ks xs vs r
 . exact r.append (.cons ru .nil)
theorem zgx (I:Inv X pins U H s) {a:Addr} {qs:List (NK×Addr)} {xs:List V} {ob:Obj} (e:H a=some (.ext (dnP a qs xs ob))) (n:DN H a qs):s.heap.get? a=some ob/\∃vs,Vals xs vs/\qs.length=vs.length/\Heap.DictOfH (deepKind X.prog X.w) s.heap a (z3 qs vs):=by
 obtain ⟨p,_,_⟩:=(show ObjOk X.prog X.w H s.heap a (.ext (dnP a qs xs ob)) from I.hok a _ e)
 obtain ⟨p3,vs,es,ep,p1,p2,p4,p5,p6⟩:=p
 refine ⟨p3,vs,p1,p2,ob,es,ep,p3,p4,p5,p6,fun x hx=>?_,by rw [zdj qs vs p2];exact n.1⟩
 obtain ⟨q,hq,rfl⟩:=List.mem_map.mp hx
 have hq':=(List.of_mem_zip hq).1
 exact ⟨zjd I (n.2.1 _ hq').1 rfl,(n.2.1 _ hq').2⟩
end
noncomputable def zu4:zq1:=fun o i v H Q=>∃(a:Addr) (qs:List (NK×Addr)) (xs:List V) (k:NK) (b:Addr) (ob:Obj),o=.ref a/\i=.ref b/\H a=some (.ext (dnP a qs xs ob))/\DN H a qs/\NKr H k (.ref b)/\k.dep<=8/\qs.length<sizeLine/\∀ob',Q (upd H a (.ext (dnP a (putQ qs k b) (zet (qs.map (·.1)) xs k v) ob')))
theorem zya {X:Cx} (hu:X.A.units+64<cLine):zz4 X zu4:=by
 intro pins s U H o i v ov iv u Q I ro ri rv h
 obtain ⟨a,qs,xs,k,b,ob,rfl,rfl,e,n,hk,hd,hl,q⟩:=h
 cases ro;cases ri
 obtain ⟨_,vs,p1,p2,dd⟩:=zgx I e n
 have hz:(z3 qs vs).length<=sizeLine:=by rw [zu2 qs vs p2];lia
 refine wpAny_setItem_heap (knd:=deepKind X.prog X.w) (hsz:=hz) (by show X.A.units+1+8<cLine;lia) ⟨zjd I hk rfl,hd⟩ dd fun h' dd' hs=>?_
 obtain ⟨e1,e2⟩:=zu3 qs vs p2 k b u
 rw [e1] at dd'
 obtain ⟨o',es,ep,d1,d2,d3,d4,_⟩:=dd'
 refine ⟨_,?_,q o'⟩
 exact zmw I (by rw [e];exact True.intro) hs ⟨o',d1⟩ ⟨⟨d1,_,es,ep,zgw rv p1,e2,d2,d3,d4⟩,⟨o',d1⟩,dnP.stay⟩
noncomputable def dSetN:D->D->D->Option D
 | .dn ks ds,.tup es,v=>match nkD (.tup es) with
  | some k=>if ks.length<100000/\k.dep<=8 then some (.dn (zag ks k) (zet ks ds k v)) else none
  | none=>none
 | _,_,_=>none
theorem zoy {K:Frag}:zzm K dSetN zu4:=by
 intro H0 H a d d' dk dv y v Q s h0 ob rk rv hm k
 cases d<;>simp only [dSetN] at hm<;>first | cases hm | skip
 cases dk<;>simp only [dSetN] at hm<;>first | cases hm | skip
 rename_i ks ds es
 split at hm
 . rename_i kk hkk
   split at hm
   . rename_i hl
     cases hm
     simp only [OB] at ob
     obtain ⟨qs,xs,ob0,hx,hk,n,rx⟩:=ob
     have rk':=rk
     obtain ⟨b,ys,rfl,hb,rb⟩:=rk.tup
     have nk:=zgt hkk rk'
     have hlen:qs.length=ks.length:=by rw [<-hk,List.length_map]
     have mono:∀a ys,H0 a=some (.tup ys)->H a=some (.tup ys):=fun c ys q=>s _ _ q
     refine ⟨a,qs,xs,kk,b,ob0,rfl,rfl,hx,n.tk mono,NKr.mono mono nk,hl.2,by rw [hlen];exact z4t hl.1,fun ob'=>k _ ?_⟩
     simp only [OB]
     refine ⟨_,_,ob',z0o,?_,?_,by rw [hk];exact zno kk rv rx⟩
     . unfold putQ zag
       rw [hk]
       split
       . exact hk
       . rw [List.map_append,hk];rfl
     . obtain ⟨n1,n2,n3,n4⟩:=n
       unfold putQ
       split
       . exact ⟨n1,n2,n3,n4⟩
       . rename_i hn
         refine ⟨?_,fun q hq=>?_,n3,?_⟩
         . rw [List.map_append,List.map_cons,List.map_nil]
           exact List.nodup_append.mpr ⟨n1,by simp,fun x hx y hy e=>hn (by rw [List.mem_singleton.mp hy] at e;have e':x=kk:=e;rw [<-e'];exact hx)⟩
         . rcases List.mem_append.mp hq with z | z
           . exact n2 q z
           . rw [List.mem_singleton.mp z];exact ⟨nk,hl.2⟩
         . have:=z4t hl.1
           rw [List.length_append,List.length_singleton];lia
   . cases hm
 . cases hm
section
variable {X:Cx} {EX:XW} {fr:Bool} {m:List Bool} {pos:Pos} {e:Expr} {fk fv:DE->R D}
theorem zu5 {i:Nat} {o ix:Expr} {tpos:Pos} (hu:X.A.units+64<cLine) (ho:PE X o (zff i)) (hk:QE X EX false ix fk) (hv:QE X EX false e fv)
 (ha:∀v,assign (.Subscript o ix tpos) X.env v=(do
  let ov <-holding [v] (eval o X.env)
  let iv <-holding [v,ov] (eval ix X.env)
  standAt tpos
  holding [v,ov,iv] (setItem ov iv v)
  release [v,ov,iv] []):=by intro _;rfl) (hs:swapsWithSole [.Subscript o ix tpos] e pos.line X.env=pure false:=by rfl) (hw:swappedStores [.Subscript o ix tpos] e X.env=pure none:=by rfl)
 (h1:(assignEach [.Subscript o ix tpos] X.env).map (·.2)=[assign (.Subscript o ix tpos) X.env]:=by rfl):QS X EX fr (.Assign [.Subscript o ix tpos] e pos) (zrr dSetN i m fk fv):=⟨(zl0 hv.h (zqo ho hk.h (zya hu) ha) hs hw h1).imp fun _ _ _ q=>zwy zoy q⟩
noncomputable def zoz:DE->R D:=fun _=>.ok (.dn [] [])
theorem pe_dnewN:PE X (.Dict [] [] pos) (fun _ H Q=>∀p ob,H p=none->(p==sysModules)=false->Q (.ref p) (upd H p (.ext (dnP p [] [] ob)))):=fun pins s U H Q I h=>
 wpAny_Dict_empty ⟨.ref s.heap.objs.size,_,I.laid (a:=s.heap.objs.size) (o:=.ext (dnP s.heap.objs.size [] [] { cls:=.type "dict",data:=.dict #[] })) (t':=s.toks) (fun _ _ q=>Heap.get?_push_of_some _ q) (Nat.le_refl _) ⟨⟨Heap.get?_push_size _ rfl,[],#[],0,.nil,rfl,⟨rfl,rfl,rfl⟩,rfl,rfl⟩,⟨_,Heap.get?_push_size _ rfl⟩,dnP.stay⟩,rfl,h _ _ (I.hok.fresh (Nat.le_refl _)) (beq_eq_false_iff_ne.mpr (Ne.symm (Nat.ne_of_lt I.big)))⟩
theorem zu6:QE X EX true (.Dict [] [] pos) zoz:=⟨pe_dnewN.imp fun U H Q ⟨sx,ρ,H0,s,e,h⟩ p ob hp hq=>h _ _ (.new s hp fun H' hH=>by simp only [OB];exact ⟨[],[],ob,hH,rfl,⟨List.nodup_nil,fun q hq=>(by simp at hq),hq,Nat.zero_le _⟩,.nil⟩)⟩
end
def zu7 (i j:Int):Prop:=Builtin.Int.intBits i<=2 ^ 20/\Builtin.Int.intBits j<=2 ^ 20
instance (i j:Int):Decidable (zu7 i j):=by unfold zu7;infer_instance
section
open PySem.SeqAt
open PySem.AutoSeq1 (wpAny_loadPart')
open PySem.MeetsSeq PySem.MeetsSeq2 PySem.MeetsSeq3
end
end L2
namespace L2
open PySem PySem.Spec PyProof.Rows
section
open PySem.SeqAt
open PySem.AutoSeq1 (wpAny_loadPart')
end
end L2
namespace L2
open PySem PySem.Spec PyProof.Rows
section
open PySem.SeqAt
open PySem.AutoSeq1 (wpAny_loadPart')
end
end L2
namespace L2
open PySem PySem.Spec PyProof.Rows
section
open PySem.SeqAt
open PySem.AutoSeq1 (wpAny_loadPart')
end
end L2
namespace L2
open PySem PySem.Spec PyProof.Rows
section
open PySem.SeqAt
open PySem.AutoSeq1 (wpAny_loadPart')
end
section
open PySem.SeqAt
open PySem.AutoSeq1 (wpAny_loadPart')
end
end L2
namespace L2
open PySem PySem.Spec PyProof.Rows
def zyb (i j:Int):Prop:=0<j/\j.natAbs<2 ^ 9000
noncomputable instance (i j:Int):Decidable (zyb i j):=Classical.propDecidable _
section
open PySem.SeqAt
open PySem.AutoSeq1 (wpAny_loadPart')
end
end L2
namespace L2
open PySem PySem.Spec PyProof.Rows
def Keep (h h':Heap):Prop:=∀b o,h.get? b=some o->h'.get? b=some o
theorem Keep.trans {a b c:Heap} (x:Keep a b) (y:Keep b c):Keep a c:=fun q o e=>y q o (x q o e)
theorem Keep.list {h h':Heap} (x:Keep h h') {a:Addr} {its:Array Value} (t:h.IsList a its):h'.IsList a its:=let ⟨o,e,c⟩:=t;⟨o,x a o e,c⟩
section
open HT
open PySem.SeqAt
open PySem.AutoSeq1 (wpAny_loadPart')
open PySem.MeetsSeq PySem.MeetsSeq2 PySem.MeetsSeq3
end
end L2
namespace L2
open PySem PySem.Spec PyProof.Rows
structure FnAt (K:Frag) (x:Str) (st:Stmt) (f:Addr):Prop where
 ns:PySem.W.nsIn K mainGlobals x=some (some (.ref f))
 fn:∃fd,Fun K x x st f fd
section
variable {P:Program} {w:World} {K:Frag} {mg:Str->Option Value} {base h:Heap} {x:Str} {st:Stmt} {f:Addr} {ps:List Str} {k:Nat} {sp:Sp}
theorem fat {oc:Value} {od an:Option Addr} {osl:Array (Option Value)} {kV doc pm cdv ct:Value} (a:PySem.W.nsIn K mainGlobals x=some (some (.ref f))) (l:K.lookup f=some ⟨oc,od,.func (PySem.W.fnOf x x (z33 st) (z1u st) (z03 st) .none kV doc pm an cdv ct),osl⟩)
 (c:codeIn K cdv x=true) (k:keepIn K (.ref f)=true):FnAt K x st f:=⟨a,_,zr1 l c k⟩
def BP:List Str->(List Value->Prop)->Prop
 | [],P=>P []
 | _::r,P=>∀u,BP r fun us=>P (u::us)
theorem BP.all {Q:List Value->Prop} (h:BP ps Q) (us:List Value) (hl:us.length=ps.length):Q us:=by
 induction ps generalizing Q us with
 | nil=>rw [List.eq_nil_of_length_eq_zero hl];exact h
 | cons p r ih=>
  cases us with
  | nil=>cases hl
  | cons u us=>exact ih (h u) us (Nat.succ.inj hl)
theorem got (X:K.In h) (G:h.Ns mainGlobals mg) (A:FnAt K x st f) (ok:∀{fd},Fun K x x st f fd->FnOk P w K mg base (CX1 P w) k f fd ps sp)
  (hb:∀(kV doc pm:Value) (an:Option Addr) (cdv ct:Value),BP ps fun us=>bindArgs (PySem.W.fnOf x x (z33 st) (z1u st) (z03 st) .none kV doc pm an cdv ct) ⟨us,[]⟩=pure (ps.zip us):=by (repeat intro _);exact rfl):z5r P w K mg base x ps k sp:=by
 obtain ⟨fd,F⟩:=A.fn
 exact ⟨f,fd,ok F,F.binds fun kV doc pm an cdv ct=>(hb kV doc pm an cdv ct).all,PySem.W.mg_of X G A.ns,F.kp⟩
theorem zu8 {fa:Addr} {z:Str} (X:K.In h) (G:h.Ns mainGlobals mg) (hfa:mg x=some (.ref fa)) (A:FnAt K x st f) (hb:∀(s:Shared) (v kV doc pm:Value) (an:Option Addr) (cdv ct:Value),BindsTo s (PySem.W.fnOf x x (z33 st) (z1u st) (z03 st) .none kV doc pm an cdv ct) ⟨[v],[]⟩ [(z,v)])
  (ok:∀base:Heap,K.In base->base.Ns mainGlobals mg->∀{fd},Fun K x x st f fd->FnOk P w K mg base (CX1 P w) k f fd ps sp) :
  ∃fd:FuncData,(∀(s:Shared) (v:Value),BindsTo s fd ⟨[v],[]⟩ [(z,v)])/\∀base:Heap,K.In base->base.Ns mainGlobals mg->FnOk P w K mg base (CX1 P w) k fa fd ps sp:=by
 have e:=hfa.symm.trans (PySem.W.mg_of X G A.ns)
 cases e
 obtain ⟨fd,F⟩:=A.fn
 have F':=F
 obtain ⟨oc,od,kV,doc,pm,an,cdv,ct,osl,rfl,lk,hcd⟩:=F'.ex
 exact ⟨_,fun s v=>hb s v _ _ _ _ _ _,fun base kb nb=>ok base kb nb F⟩
theorem fsc {N ps:List Str} {sc:Scope} (a:sc.kind=.function:=by rfl) (b:sc.isCoroutine=false:=by rfl) (c:sc.isGenerator=false:=by rfl) (d:N.Nodup:=by decide +kernel) (e:N.take ps.length=ps:=by rfl)
 (f:∀x∈ps,sc.names.lookup x=some .local\/sc.names.lookup x=some .cell:=by decide +kernel) (g:∀y∈sc.names,y.2≠.free:=by decide +kernel):FnScope N ps sc:=⟨a,b,c,d,e,f,g⟩
end
section
variable {X:Cx} {EX:XW} {fr fr':Bool} {a b e:Expr} {f g:DE->R D} {pos p:Pos} {m:List Bool} {j:Nat}
theorem qI (hr:Room j X.A) (ha:QE X EX false a f) (hb:QE X EX false b g) (hs:zbi b:=by exact fun _ _=>rfl):QE X EX false (.Subscript a b pos) (eOp dIx f g):=y0j (y0i hr.units) zxa ha hb hs
theorem qL (hm:X.mg "len"=none) (ha:QE X EX false e f) (hg:Gl X "len":=by rfl) (he:starEach [e] X.env=(false,eval e X.env)::starEach [] X.env:=by rfl) (hpl:(backTo pos (starEach [] X.env)).any (·.1)=false:=by rfl) :
 QE X EX false (.Call (.Name "len" p) [e] [] pos) (eCB z7i (z01 f z08)):=zeu zs7 zs8 hg hm PySem.boot_len (z00 ha z04 he) (he:=he) (hpl:=hpl)
theorem sA (i:Nat) {x:Str} {pos':Pos} (hN:X.N.Nodup) (he:QE X EX fr' e f) (hi:X.N[i]?=some x:=by rfl) (hx:Loc X.env.scope x:=by first | exact .inl rfl | exact .inr rfl) (hs:swapsWith e (some (.Name x pos')) pos.line X.env=pure false:=by rfl) (hf:X.fn x=true\/X.env.scope.names.lookup x=some .local:=by exact .inl rfl) :
 QS X EX fr (.Assign [.Name x pos'] e pos) (z1n fr' i m f):=zxj hN hi hx he hs hf
theorem tE (hr:Room j X.A) (ha:QE X EX false a f) (hb:QE X EX false b g) (hm:behindInMarks .Eq b=false):QT X EX (.Compare a [.Eq] [b] pos) (z24 asB (eOp dEq f g)):=z1w (z6s hr.units) z6t ha hb hm
theorem tN (hr:Room j X.A) (ha:QE X EX false a f) (hb:QE X EX false b g) (hm:behindInMarks .NotEq b=false):QT X EX (.Compare a [.NotEq] [b] pos) (z24 asB (eOp dNe f g)):=z1w (zrz hr.units) zs0 ha hb hm
end
noncomputable def stp (N i:Nat):Nat:=(i * 5+1) % N
noncomputable def ziq (N:Nat):Nat->Nat->Nat
 | 0,i=>i
 | m+1,i=>ziq N m (stp N i)
theorem z6d (N:Nat):∀a b i,ziq N (a+b) i=ziq N b (ziq N a i)
 | 0,b,i=>by rw [Nat.zero_add];rfl
 | a+1,b,i=>by rw [show a+1+b=(a+b)+1 by omega];exact z6d N a b _
noncomputable def zyc (N:Nat):Nat->Nat->List Nat
 | 0,_=>[]
 | m+1,i=>i::zyc N m (stp N i)
theorem zgy {N j:Nat}:∀{m i},j∈zyc N m i->∃k,k<m/\ziq N k i=j
 | 0,i,h=>by cases h
 | m+1,i,h=>by
  rcases List.mem_cons.mp h with rfl | h
  . exact ⟨0,by omega,rfl⟩
  . obtain ⟨k,hk,e⟩:=zgy h
    exact ⟨k+1,by omega,e⟩
def Full (N:Nat):Prop:=(∀j,j<N->∃k,k<N/\ziq N k 0=j)/\ziq N N 0=0
theorem zc4 {N:Nat} (h:((List.range N).all fun j=>(zyc N N 0).contains j)=true) (h0:ziq N N 0=0):Full N:=
 ⟨fun j hj=>zgy (by have:=List.all_eq_true.mp h j (List.mem_range.mpr hj);simpa using this),h0⟩
theorem zyd:Full 8:=zc4 (by decide +kernel) (by decide +kernel)
theorem zm1:Full 32:=zc4 (by decide +kernel) (by decide +kernel)
theorem zgz:Full 128:=zc4 (by decide +kernel) (by decide +kernel)
theorem Full.all {N:Nat} (F:Full N) {i j:Nat} (hi:i<N) (hj:j<N):∃k,k<N/\ziq N k i=j:=by
 obtain ⟨a,ha,ea⟩:=F.1 i hi
 obtain ⟨b,hb,eb⟩:=F.1 j hj
 by_cases h:a<=b
 . refine ⟨b - a,by omega,?_⟩
   rw [<-ea,<-z6d,show a+(b - a)=b by omega,eb]
 . refine ⟨b+N - a,by omega,?_⟩
   rw [<-ea,<-z6d,show a+(b+N - a)=N+b by omega,z6d,F.2,eb]
noncomputable def lps (mask:Nat):Nat->Nat×Nat->Nat×Nat
 | 0,p=>p
 | m+1,p=>lps mask m (SetTable.leap mask p.1 p.2)
theorem zh0 (mask:Nat):∀a b p,lps mask (a+b) p=lps mask b (lps mask a p)
 | 0,b,p=>by rw [Nat.zero_add];rfl
 | a+1,b,p=>by rw [show a+1+b=(a+b)+1 by omega];exact zh0 mask a b _
theorem z83 (mask:Nat):∀m i q,q<32 ^ m->∃i',lps mask m (i,q)=(i',0)/\(i<mask+1->i'<mask+1)
 | 0,i,q,h=>⟨i,by rw [Nat.pow_zero] at h;rw [show q=0 by omega];rfl,id⟩
 | m+1,i,q,h=>by
  rw [Nat.pow_succ] at h
  obtain ⟨i',e,hi⟩:=z83 mask m ((i * 5+1+q / 32) % (mask+1)) (q / 32) (by omega)
  exact ⟨i',e,fun _=>hi (Nat.mod_lt _ (by omega))⟩
theorem zh1 (mask:Nat):∀m i,lps mask m (i,0)=(ziq (mask+1) m i,0)
 | 0,i=>rfl
 | m+1,i=>by
  show lps mask m ((i * 5+1+0 / 32) % (mask+1),0 / 32)=_
  rw [Nat.zero_div,Nat.add_zero]
  exact zh1 mask m (stp (mask+1) i)
theorem zap {mask:Nat} (F:Full (mask+1)) {i q j:Nat} (hi:i<mask+1) (hq:q<32 ^ 13) (hj:j<mask+1):∃m,m<mask+14/\(lps mask m (i,q)).1=j:=by
 obtain ⟨i',e,hi'⟩:=z83 mask 13 i q hq
 obtain ⟨k,hk,ek⟩:=F.all (hi' hi) hj
 exact ⟨13+k,by omega,by rw [zh0,e,zh1,ek]⟩
theorem zh2 (h:Int):SetTable.bits h<32 ^ 13:=by
 unfold SetTable.bits
 have h1:0<=h % (2 ^ 64:Int):=Int.emod_nonneg _ (by decide)
 have h2:h % (2 ^ 64:Int)<2 ^ 64:=Int.emod_lt_of_pos _ (by decide)
 have h3:(32:Nat) ^ 13=36893488147419103232:=by decide
 have h4:(2:Int) ^ 64=18446744073709551616:=by decide
 omega
theorem zh3 (mask i:Nat):SetTable.runEnd mask i - i<=9:=by unfold SetTable.runEnd;split<;>omega
section
variable {t:SetTable}
noncomputable def adv (t:SetTable):Nat->SetTable.Probe->SetTable.Probe
 | 0,p=>p
 | k+1,p=>adv t k (t.advance p)
theorem zh4 (t:SetTable):∀a b p,adv t (a+b) p=adv t b (adv t a p)
 | 0,b,p=>by rw [Nat.zero_add];rfl
 | a+1,b,p=>by rw [show a+1+b=(a+b)+1 by omega];exact zh4 t a b _
noncomputable def zqa (t:SetTable) (p:Nat×Nat) (dm:Option Nat):SetTable.Probe:={ j:=p.1,more:=SetTable.runEnd t.mask p.1 - p.1,i:=p.1,perturb:=p.2,dummy:=dm }
theorem zh5:∀(r:Nat) (p:SetTable.Probe),p.more=r->adv t (r+1) p=zqa t (SetTable.leap t.mask p.i p.perturb) p.dummy
 | 0,p,h=>by
  show t.advance p=_
  unfold SetTable.advance zqa
  rw [if_neg (by omega)]
 | r+1,p,h=>by
  have e:t.advance p={ p with j:=p.j+1,more:=r }:=by
   unfold SetTable.advance
   rw [if_pos (by omega),h];rfl
  show adv t (r+1) (t.advance p)=_
  rw [e,zh5 r _ rfl]
theorem zh6 (dm:Option Nat):∀(m:Nat) (p:Nat×Nat),∃k,k<=10 * m/\adv t k (zqa t p dm)=zqa t (lps t.mask m p) dm
 | 0,p=>⟨0,by omega,rfl⟩
 | m+1,p=>by
  obtain ⟨k,hk,e⟩:=zh6 dm m (SetTable.leap t.mask p.1 p.2)
  have h9:=zh3 t.mask p.1
  refine ⟨SetTable.runEnd t.mask p.1 - p.1+1+k,by omega,?_⟩
  rw [zh4,zh5 (SetTable.runEnd t.mask p.1 - p.1) (zqa t p dm) rfl]
  exact e
theorem zk7 (h:Int):t.probeStart h=zqa t (SetTable.bits h % (t.mask+1),SetTable.bits h) none:=rfl
theorem zc5 (F:Full (t.mask+1)) (h:Int) {j:Nat} (hj:j<t.mask+1):∃d,d<10 * SetTable.turns t.mask/\(adv t d (t.probeStart h)).j=j:=by
 obtain ⟨m,hm,e⟩:=zap F (i:=SetTable.bits h % (t.mask+1)) (Nat.mod_lt _ (by omega)) (zh2 h) hj
 obtain ⟨k,hk,e2⟩:=zh6 (t:=t) none m (SetTable.bits h % (t.mask+1),SetTable.bits h)
 refine ⟨k,by unfold SetTable.turns;omega,?_⟩
 rw [zk7,e2];exact e
theorem zp0 (hd:t.dummies=#[]) (j:Nat):(t.slot j=.empty)\/∃i,t.slot j=.live i/\i<t.place.size:=by
 unfold SetTable.slot
 by_cases h:(t.place[SetTable.below t.place j]?==some j)=true
 . refine .inr ⟨_,if_pos h,?_⟩
   have:=beq_iff_eq.mp h
   exact (Array.getElem?_eq_some_iff.mp this).1
 . refine .inl ?_
   simp only [if_neg h]
   rw [hd]
   rfl
theorem zh7:∀{xs ys:List Nat},xs.Nodup->(∀x∈xs,x∈ys)->xs.length<=ys.length
 | [],_,_,_=>Nat.zero_le _
 | x::xs,ys,hn,h=>by
  rw [List.nodup_cons] at hn
  have hx:=h x (by simp)
  have:=zh7 (xs:=xs) (ys:=ys.erase x) hn.2 fun z hz=>(List.mem_erase_of_ne (fun e=>hn.1 (by rw [<-e];exact hz))).mpr (h z (by simp [hz]))
  rw [List.length_erase_of_mem hx] at this
  have h0:0<ys.length:=List.length_pos_of_mem hx
  rw [List.length_cons];omega
theorem zh8 (hd:t.dummies=#[]) (h:t.place.size<=t.mask):∃j,j<t.mask+1/\t.slot j=.empty:=by
 have:∃j,j<t.mask+1/\j∉t.place.toList:=by
  apply Classical.byContradiction
  intro z
  have:=zh7 (xs:=List.range (t.mask+1)) (ys:=t.place.toList) List.nodup_range fun x hx=>Classical.byContradiction fun y=>z ⟨x,List.mem_range.mp hx,y⟩
  rw [List.length_range,Array.length_toList] at this
  omega
 obtain ⟨j,hj,hn⟩:=this
 refine ⟨j,hj,?_⟩
 unfold SetTable.slot
 have hb:(t.place[SetTable.below t.place j]?==some j)=false:=by
  cases e:(t.place[SetTable.below t.place j]?==some j) with
  | false=>rfl
  | true=>
   have:=Array.mem_of_getElem? (beq_iff_eq.mp e)
   exact absurd (Array.mem_toList_iff.mpr this) hn
 simp only [hb]
 rw [hd]
 rfl
end
def Tok (t:SetTable) (n:Nat):Prop:=t.place.size=n/\t.dummies=#[]/\((t.mask=7/\n<5)\/(t.mask=31/\n<19)\/(t.mask=127/\n<77))
section
variable {t:SetTable} {n:Nat}
theorem Tok.full (h:Tok t n):Full (t.mask+1):=by
 rcases h.2.2 with ⟨e,_⟩ | ⟨e,_⟩ | ⟨e,_⟩<;>rw [e]
 . exact zyd
 . exact zm1
 . exact zgz
theorem Tok.le (h:Tok t n):t.place.size<=t.mask:=by
 obtain ⟨h1,_,h3⟩:=h;omega
theorem Tok.fits (h:Tok t n):t.fits n=true:=by
 have:=h.le
 obtain ⟨h1,h2,h3⟩:=h
 unfold SetTable.fits SetTable.fill
 rw [h2,h1,Bool.and_eq_true,beq_iff_eq,decide_eq_true_eq]
 exact ⟨rfl,by show n+0<=_;omega⟩
end
theorem zaq {mask:Nat} {owner:Array (Option Nat)} {j0:Nat} (ho:owner.getD j0 (some 0)=none):∀(m fuel i q:Nat),(lps mask m (i,q)).1=j0->m<fuel ->
  ∃j,SetTable.layClean.free mask owner fuel i q=some j/\owner.getD j (some 0)=none
 | m,fuel+1,i,q,hm,hf=>by
  unfold SetTable.layClean.free
  cases e:(List.range (SetTable.runEnd mask i+1 - i)).find? fun k=>(owner.getD (i+k) (some 0)).isNone with
  | some k=>
   have:=List.find?_some e
   exact ⟨i+k,rfl,by simpa using this⟩
  | none=>
   cases m with
   | zero=>
    have hi:i=j0:=hm
    have:=List.find?_eq_none.mp e 0 (List.mem_range.mpr (by unfold SetTable.runEnd;split<;>omega))
    rw [Nat.add_zero,hi,ho] at this
    exact absurd rfl this
   | succ m=>exact zaq ho m fuel _ _ hm (by omega)
def zu9 (N:Nat) (owner:Array (Option Nat)) (k:Nat):Prop:=owner.size=N/\owner.toList.countP Option.isSome=k/\∀v,some v∈owner.toList->v<k
theorem zk8 {mask:Nat} (F:Full (mask+1)) {owner:Array (Option Nat)} {k:Nat} (I:zu9 (mask+1) owner k) (hk:k<mask+1) (h:Int) :
  ∃j,SetTable.layClean.free mask owner (SetTable.turns mask) (SetTable.bits h % (mask+1)) (SetTable.bits h)=some j/\zu9 (mask+1) (owner.setIfInBounds j (some k)) (k+1):=by
 obtain ⟨hs,hc,hv⟩:=I
 have:∃j0,j0<mask+1/\owner.getD j0 (some 0)=none:=by
  apply Classical.byContradiction
  intro z
  have:owner.toList.countP Option.isSome=owner.toList.length:=List.countP_eq_length.mpr fun x hx=>by
   obtain ⟨j,hj,ej⟩:=List.mem_iff_getElem.mp hx
   cases x with
   | some v=>rfl
   | none=>
    refine absurd ⟨j,?_,?_⟩ z
    . rw [Array.length_toList] at hj;omega
    . rw [Array.length_toList] at hj
      rw [Array.getD_eq_getD_getElem?,Array.getElem?_eq_getElem hj]
      simpa using ej
  rw [Array.length_toList] at this
  omega
 obtain ⟨j0,h0,e0⟩:=this
 obtain ⟨m,hm,em⟩:=zap F (i:=SetTable.bits h % (mask+1)) (Nat.mod_lt _ (by omega)) (zh2 h) h0
 obtain ⟨j,ej,en⟩:=zaq e0 m (SetTable.turns mask) _ _ em (by unfold SetTable.turns;omega)
 have hj:j<owner.size:=by
  apply Classical.byContradiction
  intro z
  rw [Array.getD_eq_getD_getElem?,Array.getElem?_eq_none (by omega)] at en
  cases en
 have en':owner.toList[j]'(by simpa using hj)=none:=by
  rw [Array.getD_eq_getD_getElem?,Array.getElem?_eq_getElem hj] at en
  simpa using en
 refine ⟨j,ej,by simpa using hs,?_,fun v h=>?_⟩
 . rw [Array.toList_setIfInBounds,List.countP_set (by simpa using hj),en',hc]
   simp
 . rw [Array.toList_setIfInBounds] at h
   rcases List.mem_or_eq_of_mem_set h with h | h
   . have:=hv v h;omega
   . injection h with h;omega
theorem zdk {α:Type} (xs:Array α) (p:Nat) (x:α):(SetTable.insertAt xs p x).size=xs.size+1:=by
 unfold SetTable.insertAt
 simp only [Array.size_append,Array.size_push,Array.size_extract]
 omega
theorem zua {t:SetTable} (hd:t.dummies=#[]) (j:Nat):(t.put j).1.mask=t.mask/\(t.put j).1.place.size=t.place.size+1/\(t.put j).1.dummies=#[]:=by
 refine ⟨rfl,zdk _ _ _,?_⟩
 show (if SetTable.has t.dummies j=true then _ else t.dummies)=#[]
 rw [hd];rfl
def Ris (xs:Array Nat):Prop:=xs.toList.Pairwise (·<·)
theorem Ris.lt {xs:Array Nat} (R:Ris xs) {i k:Nat} (h:i<k) (hk:k<xs.size):xs[i]'(by omega)<xs[k]:=by
 have:=List.pairwise_iff_getElem.mp R i k (by simpa using Nat.lt_trans h hk) (by simpa using hk) h
 simpa using this
theorem z92 {xs:Array Nat} {j:Nat} (R:Ris xs):∀(fuel lo hi:Nat),hi - lo<=fuel->lo<=hi->hi<=xs.size->(∀i (h:i<xs.size),i<lo->xs[i]<j)->(∀i (h:i<xs.size),hi<=i->j<=xs[i]) ->
  SetTable.below.go xs j fuel lo hi<=xs.size/\(∀i (h:i<xs.size),i<SetTable.below.go xs j fuel lo hi->xs[i]<j)/\∀i (h:i<xs.size),SetTable.below.go xs j fuel lo hi<=i->j<=xs[i]
 | 0,lo,hi,h1,h2,h3,a,b=>by
  unfold SetTable.below.go
  exact ⟨by omega,a,fun i h z=>b i h (by omega)⟩
 | fuel+1,lo,hi,h1,h2,h3,a,b=>by
  unfold SetTable.below.go
  by_cases c:lo<hi
  . rw [if_pos c]
    dsimp only
    have hm:(lo+hi) / 2<xs.size:=by omega
    have e:xs.getD ((lo+hi) / 2) j=xs[(lo+hi) / 2]:=by rw [Array.getD_eq_getD_getElem?,Array.getElem?_eq_getElem hm];rfl
    rw [e]
    by_cases d:xs[(lo+hi) / 2]<j
    . rw [if_pos d]
      refine z92 R fuel _ hi (by omega) (by omega) h3 (fun i h z=>?_) b
      by_cases q:i=(lo+hi) / 2
      . subst q;exact d
      . exact Nat.lt_trans (R.lt (show i<(lo+hi) / 2 by omega) hm) d
    . rw [if_neg d]
      refine z92 R fuel lo _ (by omega) (by omega) (by omega) a fun i h z=>?_
      by_cases q:i=(lo+hi) / 2
      . subst q;omega
      . have:=R.lt (show (lo+hi) / 2<i by omega) h
        omega
  . rw [if_neg c]
    exact ⟨by omega,a,fun i h z=>b i h (by omega)⟩
theorem z93 {xs:Array Nat} (R:Ris xs) (j:Nat):SetTable.below xs j<=xs.size/\(∀i (h:i<xs.size),i<SetTable.below xs j->xs[i]<j)/\∀i (h:i<xs.size),SetTable.below xs j<=i->j<=xs[i]:=
 z92 R _ 0 _ (by omega) (Nat.zero_le _) (Nat.le_refl _) (fun i _ z=>absurd z (Nat.not_lt_zero _)) fun i h z=>absurd h (by omega)
noncomputable def z7m (xs:Array Nat):Nat->Nat
 | 0=>0
 | i+1=>xs.getD i 0+1
theorem zdl {xs:Array Nat} (R:Ris xs):∀i,i<=xs.size->SetTable.below xs (z7m xs i)=i
 | 0,_=>by
  obtain ⟨h1,h2,h3⟩:=z93 R (z7m xs 0)
  apply Classical.byContradiction
  intro z
  have:=h2 0 (by omega) (by omega)
  simp only [z7m] at this
  omega
 | i+1,hi=>by
  obtain ⟨h1,h2,h3⟩:=z93 R (z7m xs (i+1))
  have e:z7m xs (i+1)=xs[i]+1:=by
   show xs.getD i 0+1=_
   rw [Array.getD_eq_getD_getElem?,Array.getElem?_eq_getElem (by omega)];rfl
  generalize SetTable.below xs (z7m xs (i+1))=r at h1 h2 h3
  rw [e] at h2 h3
  have a:¬r<i+1:=fun z=>by
   have:=h3 i (by omega) (by omega)
   omega
  have b:¬i+1<r:=fun z=>by
   have:=h2 (i+1) (by omega) z
   have:=R.lt (show i<i+1 by omega) (show i+1<xs.size by omega)
   omega
  omega
theorem zp1 {t:SetTable} (R:Ris t.place) {j:Nat} (he:t.slot j=.empty):Ris (t.put j).1.place:=by
 obtain ⟨h1,h2,h3⟩:=z93 R j
 have hne:∀h:SetTable.below t.place j<t.place.size,t.place[SetTable.below t.place j]≠j:=fun h z=>by
  unfold SetTable.slot at he
  have:(t.place[SetTable.below t.place j]?==some j)=true:=by rw [Array.getElem?_eq_getElem h,z];simp
  simp only [this,if_true] at he
  cases he
 show (SetTable.insertAt t.place (SetTable.below t.place j) j).toList.Pairwise _
 generalize SetTable.below t.place j=p at h1 h2 h3 hne
 rw [SetTable.toList_insertAt]
 have R':t.place.toList.Pairwise (·<·):=R
 have e1:∀x∈t.place.toList.take p,x<j:=fun x hx=>by
  obtain ⟨i,hi,rfl⟩:=List.mem_iff_getElem.mp hx
  have hi2:i<p/\i<t.place.size:=by rw [List.length_take,Array.length_toList] at hi;omega
  rw [List.getElem_take]
  have:=h2 i hi2.2 hi2.1
  simpa using this
 have e2:∀x∈t.place.toList.drop p,j<x:=fun x hx=>by
  obtain ⟨i,hi,rfl⟩:=List.mem_iff_getElem.mp hx
  have hi2:i<t.place.size - p:=by simpa using hi
  rw [List.getElem_drop]
  have a:=h3 (p+i) (by omega) (by omega)
  have b:t.place[p+i]≠j:=fun z=>by
   by_cases q:i=0
   . subst q;exact hne (by omega) z
   . have:=R.lt (show p<p+i by omega) (show p+i<t.place.size by omega)
     have:=h3 p (by omega) (Nat.le_refl _)
     omega
  have:j<t.place[p+i]:=by omega
  simpa using this
 refine List.pairwise_append.mpr ⟨R'.sublist (List.take_sublist _ _),List.pairwise_cons.mpr ⟨e2,R'.sublist (List.drop_sublist _ _)⟩,fun a ha b hb=>?_⟩
 rcases List.mem_cons.mp hb with rfl | hb
 . exact e1 a ha
 . exact Nat.lt_trans (e1 a ha) (e2 b hb)
theorem zm2 {k:Nat}:∀(l:List (Option Nat)) (j:Nat),l[j]?=some none->((l.set j (some k)).filterMap id).Perm (k::l.filterMap id)
 | [],j,h=>by simp at h
 | x::l,0,h=>by
  simp only [List.getElem?_cons_zero,Option.some.injEq] at h
  subst h
  simp
 | x::l,j+1,h=>by
  rw [List.getElem?_cons_succ] at h
  have ih:=zm2 (k:=k) l j h
  rw [List.set_cons_succ]
  cases x with
  | none=>simpa using ih
  | some y=>
   simp only [List.filterMap_cons,id]
   exact (ih.cons y).trans (.swap _ _ _)
theorem zar {mask:Nat} (F:Full (mask+1)):∀(hs:List Int) (owner:Array (Option Nat)) (k:Nat),zu9 (mask+1) owner k->(owner.toList.filterMap id).Perm (List.range k)->k+hs.length<=mask ->
  ∃owner',hs.foldl (fun (acc:Option (Array (Option Nat)×Nat)) h=>do
   let (owner,k) <-acc
   let j <-SetTable.layClean.free mask owner (SetTable.turns mask) (SetTable.bits h % (mask+1)) (SetTable.bits h)
   pure (owner.setIfInBounds j (some k),k+1)) (some (owner,k))=some (owner',k+hs.length)/\zu9 (mask+1) owner' (k+hs.length)/\(owner'.toList.filterMap id).Perm (List.range (k+hs.length))
 | [],owner,k,I,P,_=>⟨owner,rfl,I,P⟩
 | h::hs,owner,k,I,P,hk=>by
  rw [List.length_cons] at hk
  obtain ⟨j,ej,I'⟩:=zk8 F I (by omega) h
  have hj:owner.toList[j]?=some none:=by
   have c1:=I.2.1
   have c2:=I'.2.1
   rw [Array.toList_setIfInBounds] at c2
   by_cases hb:j<owner.toList.length
   . rw [List.countP_set hb] at c2
     cases q:owner.toList[j] with
     | none=>rw [List.getElem?_eq_getElem hb,q]
     | some y=>
      rw [q] at c2
      simp only [Option.isSome_some,if_true] at c2
      have:0<owner.toList.countP Option.isSome:=List.countP_pos_iff.mpr ⟨_,List.getElem_mem hb,by rw [q];rfl⟩
      omega
   . rw [List.set_eq_of_length_le (by omega)] at c2
     omega
  have P':((owner.setIfInBounds j (some k)).toList.filterMap id).Perm (List.range (k+1)):=by
   rw [Array.toList_setIfInBounds,List.range_succ]
   exact (zm2 _ j hj).trans ((P.cons k).trans (List.perm_append_singleton _ _).symm)
  obtain ⟨owner',e,I2,P2⟩:=zar F hs _ (k+1) I' P' (by omega)
  refine ⟨owner',?_,?_,?_⟩
  . rw [List.foldl_cons,List.length_cons,show k+(hs.length+1)=k+1+hs.length by omega,<-e]
    congr 1
    show (SetTable.layClean.free mask owner (SetTable.turns mask) (SetTable.bits h % (mask+1)) (SetTable.bits h) >>= fun j=>pure (owner.setIfInBounds j (some k),k+1))=_
    rw [ej];rfl
  . rw [List.length_cons,show k+(hs.length+1)=k+1+hs.length by omega];exact I2
  . rw [List.length_cons,show k+(hs.length+1)=k+1+hs.length by omega];exact P2
theorem zp2 (t:SetTable) {mask:Nat} (F:Full (mask+1)) (hs:Array Int) (hl:hs.size<=mask) {wanted:Nat} (hw:SetTable.sizeAbove wanted - 1=mask) :
  ∃t' order,t.relaid hs wanted=some (t',order)/\t'.mask=mask/\t'.place.size=hs.size/\t'.dummies=#[]/\order.toList.Perm (List.range hs.size)/\Ris t'.place/\t'.led=t.led/\t'.plain=t.plain:=by
 have I0:zu9 (mask+1) (Array.replicate (mask+1) none) 0:=⟨by simp,by simp [List.countP_replicate],fun v h=>by simp at h⟩
 have P0:((Array.replicate (mask+1) (none:Option Nat)).toList.filterMap id).Perm (List.range 0):=by simp
 obtain ⟨owner,e,I,P⟩:=zar F hs.toList _ 0 I0 P0 (by simpa using hl)
 rw [Nat.zero_add,Array.length_toList] at e I P
 have e2:SetTable.layClean mask hs=some owner:=by
  unfold SetTable.layClean
  rw [<-Array.foldl_toList,e];rfl
 have es:((List.range (mask+1)).filterMap fun j=>(owner.getD j none).map (j,·)).map (·.2)=owner.toList.filterMap id:=by
  have:owner.toList=(List.range (mask+1)).map fun j=>owner.getD j none:=by
   apply List.ext_getElem
   . rw [Array.length_toList,List.length_map,List.length_range,I.1]
   . intro i h1 h2
     rw [List.getElem_map,List.getElem_range,Array.getD_eq_getD_getElem?,Array.getElem?_eq_getElem (by simpa using h1)]
     simp
  rw [this,List.filterMap_map,List.map_filterMap]
  congr 1
  funext j
  show Option.map _ (Option.map _ (owner.getD j none))=owner.getD j none
  cases owner.getD j none<;>rfl
 have er:(((List.range (mask+1)).filterMap fun j=>(owner.getD j none).map (j,·)).map (·.1)).Pairwise (·<·):=by
  rw [List.map_filterMap]
  refine (List.pairwise_lt_range (n:=mask+1)).filterMap _ fun a b hab x hx y hy=>?_
  simp only [Option.map_map,Option.mem_def,Option.map_eq_some_iff,Function.comp] at hx hy
  obtain ⟨_,_,rfl⟩:=hx
  obtain ⟨_,_,rfl⟩:=hy
  exact hab
 unfold SetTable.relaid SetTable.laid
 rw [hw,e2]
 have hlen:((List.range (mask+1)).filterMap fun j=>(owner.getD j none).map (j,·)).length=hs.size:=by
  have:=congrArg List.length es
  rw [List.length_map,P.length_eq,List.length_range] at this
  exact this
 refine ⟨_,_,rfl,rfl,?_,rfl,?_,?_,rfl,rfl⟩
 . simp only [List.size_toArray,List.length_map];exact hlen
 . show (((List.range (mask+1)).filterMap fun j=>(owner.getD j none).map (j,·)).map (·.2)).Perm _
   rw [es];exact P
 . exact er
theorem zp3 {α:Type} (es:Array α) (order:Array Nat) (h:order.toList.Perm (List.range es.size)):(order.filterMap (es[·]?)).toList.Perm es.toList:=by
 rw [Array.toList_filterMap,<-filterMap_getElem?_range es]
 exact h.filterMap _
theorem zp4 {t:SetTable} {n:Nat} (T:Tok t n) (h:Int):∃j,t.freeSlot h=some (j,false)/\t.slot j=.empty:=by
 obtain ⟨j0,hj0,he0⟩:=zh8 T.2.1 T.le
 obtain ⟨d,hdl,hdj⟩:=zc5 T.full h hj0
 have key:∀(d fuel:Nat) (p:SetTable.Probe),(adv t d p).j=j0->d<fuel->p.dummy=none->∃j,SetTable.probe.go t (fun _=>h+1) h fuel p=some (.empty j none)/\t.slot j=.empty:=by
  intro d
  induction d with
  | zero=>
   intro fuel p hj hf hm
   cases fuel with
   | zero=>omega
   | succ fuel=>
    have:p.j=j0:=hj
    refine ⟨p.j,?_,by rw [this];exact he0⟩
    unfold SetTable.probe.go
    rw [this,he0,hm]
  | succ d ih=>
   intro fuel p hj hf hm
   cases fuel with
   | zero=>omega
   | succ fuel=>
    have adm:(t.advance p).dummy=none:=by
     unfold SetTable.advance
     split
     . exact hm
     . exact hm
    unfold SetTable.probe.go
    rcases zp0 T.2.1 p.j with e | ⟨i,e,hi⟩
    . rw [e,hm];exact ⟨_,rfl,e⟩
    . rw [e]
      dsimp only
      rw [if_neg (by rw [beq_iff_eq];omega)]
      exact ih fuel (t.advance p) hj (by omega) adm
 obtain ⟨j,e,hs⟩:=key d _ _ hdj hdl rfl
 refine ⟨j,?_,hs⟩
 unfold SetTable.freeSlot SetTable.probe
 rw [e]
 rfl
noncomputable def iv:Value->Option Int
 | .int n _=>some n
 | _=>none
section
variable {prog:Program} {w:World} {A:Around} {E:Value->Shared->Prop} {s:Shared}
def EnI (prog:Program) (w:World) (es:List (Int×Value)) (ks:List Int):Prop:=es.map (fun e=>(e.1,iv e.2))=ks.map fun m=>((intKind prog w).hash m,some m)
structure SI (prog:Program) (w:World) (es:Array (Int×Value)) (t:SetTable) (ms:List Int):Prop where
 tok:Tok t es.size
 pl:t.plain=true
 led:t.led=!w.params.followText "set-order"
 ris:Ris t.place
 en:∃ks,ks.Perm ms/\EnI prog w es.toList ks
def zir (prog:Program) (w:World) (h:Heap) (a:Addr) (ms:List Int):Prop:=∃(o:Obj) (es:Array (Int×Value)) (ep:Nat) (t:SetTable),h.get? a=some o/\o.ExactSet/\o.data=.set es ep t/\SI prog w es t ms
theorem EnI.mem {es:List (Int×Value)} {ks:List Int} (h:EnI prog w es ks) {e:Int×Value} (he:e∈es):∃n u,n∈ks/\e=((intKind prog w).hash n,.int n u):=by
 have:(e.1,iv e.2)∈ks.map fun m=>((intKind prog w).hash m,some m):=by rw [<-h];exact List.mem_map.mpr ⟨e,he,rfl⟩
 obtain ⟨n,hn,q⟩:=List.mem_map.mp this
 obtain ⟨e1,e2⟩:=e
 simp only [Prod.mk.injEq] at q
 cases e2<;>simp only [iv,reduceCtorEq,and_false] at q
 rename_i m u
 obtain ⟨q1,q2⟩:=q
 cases q2
 exact ⟨n,u,hn,by rw [q1]⟩
theorem EnI.of {es:List (Int×Value)} {ks:List Int} (h:EnI prog w es ks) {n:Int} (hn:n∈ks):∃e∈es,∃u,e.2=.int n u:=by
 have:((intKind prog w).hash n,some n)∈es.map (fun e=>(e.1,iv e.2)):=by rw [h];exact List.mem_map.mpr ⟨n,hn,rfl⟩
 obtain ⟨e,he,q⟩:=List.mem_map.mp this
 obtain ⟨e1,e2⟩:=e
 simp only [Prod.mk.injEq] at q
 cases e2<;>simp only [iv,reduceCtorEq,and_false] at q
 rename_i m u
 cases q.2
 exact ⟨_,he,u,rfl⟩
theorem EnI.perm {es es':List (Int×Value)} {ks:List Int} (h:EnI prog w es ks) (p:es'.Perm es):∃ks',ks'.Perm ks/\EnI prog w es' ks':=by
 refine ⟨es'.map fun e=>(iv e.2).getD 0,?_,?_⟩
 . have e0:ks=es.map fun e=>(iv e.2).getD 0:=by
    have:=congrArg (List.map fun q:Int×Option Int=>q.2.getD 0) h
    rw [List.map_map,List.map_map] at this
    have z:((fun q:Int×Option Int=>q.2.getD 0)∘fun m=>((intKind prog w).hash m,some m))=id:=rfl
    rw [z,List.map_id] at this
    exact this.symm
   rw [e0];exact p.map _
 . unfold EnI
   rw [List.map_map]
   refine List.map_congr_left fun e he=>?_
   obtain ⟨n,u,_,rfl⟩:=h.mem (p.mem_iff.mp he)
   rfl
theorem EnI.push {es:List (Int×Value)} {ks:List Int} (h:EnI prog w es ks) (n:Int) (u:PySem.Tok):EnI prog w (es++[((intKind prog w).hash n,.int n u)]) (ks++[n]):=by
 unfold EnI at h ⊢
 rw [List.map_append,List.map_append,h];rfl
theorem zp5 {es:Array (Int×Value)} {t:SetTable} {ms:List Int} (S:SI prog w es t ms) (h:Int) (x:Value) (h64:es.size<64):∃es1 t1,layNew t es h x=(es1,t1,false,false)/\es1.toList.Perm (es.toList++[(h,x)])/\es1.size=es.size+1/\t1.place.size=es.size+1/\t1.dummies=#[]/\t1.mask=t.mask /\
  Ris t1.place/\t1.plain=t.plain/\t1.led=t.led/\t1.fits (es.size+1)=true:=by
 obtain ⟨j,ej,hj⟩:=zp4 S.tok h
 obtain ⟨p1,p2,p3⟩:=zua S.tok.2.1 j
 have R:=zp1 S.ris hj
 have sz:(SetTable.insertAt es (t.put j).2 (h,x)).size=es.size+1:=zdk _ _ _
 rw [S.tok.1] at p2
 have fit:(t.put j).1.fits (es.size+1)=true:=by
  unfold SetTable.fits SetTable.fill
  rw [p2,p3,p1,Bool.and_eq_true,beq_iff_eq,decide_eq_true_eq]
  refine ⟨rfl,?_⟩
  show es.size+1+0<=_
  rcases S.tok.2.2 with ⟨e,z⟩ | ⟨e,z⟩ | ⟨e,z⟩<;>omega
 refine ⟨_,(t.put j).1,?_,?_,sz,p2,p3,p1,R,rfl,rfl,fit⟩
 . unfold layNew
   rw [ej]
   dsimp only
   unfold SetTable.orStandIn
   rw [sz,if_pos fit,fit];rfl
 . have:=SetTable.insertAt_perm es (t.put j).2 (h,x)
   rwa [Array.toList_push] at this
theorem zh9 {es:Array (Int×Value)} {t:SetTable} (n:Nat) (hn:es.size=n+1) (hp:t.place.size=n+1) (hd:t.dummies=#[]) (hm:(t.mask=7/\n<5)\/(t.mask=31/\n<19)\/(t.mask=127/\n<64)) (hf:t.tooFull=true) :
  ∃es2 t2,relayAll t es (SetTable.grown es.size)=(es2,t2,false)/\es2.toList.Perm es.toList/\Tok t2 es2.size/\t2.plain=t.plain/\t2.led=t.led/\Ris t2.place:=by
 have hf:(n+1) * 5 ≥ t.mask * 3:=by
  unfold SetTable.tooFull SetTable.fill at hf
  rw [hp,hd] at hf
  have:=of_decide_eq_true hf
  simpa using this
 obtain ⟨mask',F',hw,hk,hle⟩:∃mask',Full (mask'+1)/\SetTable.sizeAbove (SetTable.grown es.size) - 1=mask'/\((mask'=7/\es.size<5)\/(mask'=31/\es.size<19)\/(mask'=127/\es.size<77))/\es.size<=mask':=by
  rw [hn]
  rcases hm with ⟨e,z⟩ | ⟨e,z⟩ | ⟨e,z⟩
  . rw [e] at hf
    obtain rfl:n=4:=by omega
    exact ⟨31,zm1,by decide,.inr (.inl ⟨rfl,by decide⟩),by decide⟩
  . rw [e] at hf
    obtain rfl:n=18:=by omega
    exact ⟨127,zgz,by decide,.inr (.inr ⟨rfl,by decide⟩),by decide⟩
  . rw [e] at hf;omega
 obtain ⟨t2,order,er,m1,m2,m3,m4,m5,m6,m7⟩:=zp2 t F' (es.map (·.1)) (by rw [Array.size_map];exact hle) hw
 rw [Array.size_map] at m2 m4
 have pp:=zp3 es order m4
 have sz:(order.filterMap (es[·]?)).size=es.size:=by rw [<-Array.length_toList,pp.length_eq,Array.length_toList]
 have tk:Tok t2 (order.filterMap (es[·]?)).size:=⟨by rw [sz,m2],m3,by rw [sz,m1];exact hk⟩
 refine ⟨_,t2,?_,pp,tk,m7,m6,m5⟩
 unfold relayAll
 rw [er]
 dsimp only
 rw [if_pos]
 rw [Bool.and_eq_true]
 exact ⟨List.isPerm_iff.mpr m4,tk.fits⟩
theorem zdm {h:Heap} {a:Addr} {o:Obj} {es:Array (Int×Value)} {ep:Nat} {t:SetTable} (ho:h.get? a=some o) (hx:o.ExactSet) (hd:o.data=.set es ep t) (es1:Array (Int×Value)) (t1:SetTable) :
  ∃o1,(h.update a (Obj.putSet es1 t1)).get? a=some o1/\o1.ExactSet/\o1.data=.set es1 (ep+1) t1:=by
 refine ⟨_,Heap.get?_update_self _ ho (by rw [putSet_of es1 t1 hd];rfl),?_,?_⟩
 . rw [putSet_of es1 t1 hd];exact hx
 . rw [putSet_of es1 t1 hd]
theorem zub {a:Addr} {ms:List Int} {n:Int} {u:PySem.Tok} (S:zir prog w s.heap a ms) (h64:ms.length<64) {Q:Bool->Shared->Prop}
  (q:∀b h',(∀c,c≠a->h'.get? c=s.heap.get? c)->h'.objs.size=s.heap.objs.size->zir prog w h' a (if n∈ms then ms else ms++[n])->Q b { s with heap:=h' }):wpAny (model prog w) A (setAddHashed a (.int n u) ((intKind prog w).hash n)) Q E s:=by
 obtain ⟨o,es,ep,t,ho,hx,hd,S⟩:=S
 obtain ⟨ks,pk,en⟩:=S.en
 have sz:es.size=ms.length:=by
  have:=congrArg List.length en
  rw [List.length_map,List.length_map,Array.length_toList,pk.length_eq] at this
  exact this
 have el:ElemsOf (intKind prog w) es.toList:=fun e he=>by
  obtain ⟨m,v,_,rfl⟩:=en.mem he
  exact ⟨⟨m,intKind_is _ _ _ _,rfl⟩,rfl⟩
 unfold setAddHashed
 refine wpAny_holding ?_
 show wpAny (model prog w) A (setAddHashedIn a (.int n u) ((intKind prog w).hash n) (99999+1)) Q E s
 rw [setAddHashedIn.eq_2]
 refine wpAny_bind (wpAny_setState_of ho hd S.tok.fits ?_)
 dsimp only
 rw [if_pos (byScan_of (knd:=intKind prog w) rfl (by rw [sz];unfold scanBound;omega) el)]
 refine wpAny_bind ?_
 unfold setAddByScan
 refine wpAny_bind (wpAny_rule ?_)
 refine wpAny_bind (wpAny_setScan_of (knd:=intKind prog w) (intKind_is _ _ _ _) ho hd S.tok.fits el ?_)
 have found:∀e∈es.toList,(intKind prog w).is n e.2=true->n∈ms:=fun e he hq=>by
  obtain ⟨m,v,hm,rfl⟩:=en.mem he
  rw [KeyKind.is_eq_decide (intKind_is _ _ m v) n,decide_eq_true_eq] at hq
  rw [hq];exact pk.mem_iff.mp hm
 cases hr:es.toList.findIdx? (fun e=>(intKind prog w).is n e.2) with
 | some j=>
  obtain ⟨hj,hpj,_⟩:=List.findIdx?_eq_some_iff_getElem.mp hr
  have hn:=found _ (List.getElem_mem hj) hpj
  refine wpAny_pure (wpAny_pure ?_)
  have:=q false s.heap (fun _ _=>rfl) rfl ⟨o,es,ep,t,ho,hx,hd,by rw [if_pos hn];exact S⟩
  exact this
 | none=>
  have hn:n∉ms:=fun hn=>by
   obtain ⟨e,he,v,ev⟩:=en.of (pk.mem_iff.mpr hn)
   have:=List.findIdx?_eq_none_iff.mp hr e he
   rw [ev,intKind_is] at this
   cases this
  obtain ⟨es1,t1,el1,pe,s1,p2,p3,p1,R1,c1,c2,fit⟩:=zp5 S ((intKind prog w).hash n) (.int n u) (by omega)
  have byV:hashByValue 8 (.int n u)=pure true:=rfl
  have hz:es1.size<=sizeLine:=by rw [s1,sz];exact Nat.le_trans (show ms.length+1<=64 by omega) (by decide)
  obtain ⟨ks1,pk1,en1⟩:=(en.push n u).perm pe
  have pm:ks1.Perm (ms++[n]):=pk1.trans (pk.append_right _)
  obtain ⟨o1,ho1,hx1,hd1⟩:=zdm ho hx hd es1 t1
  have sb1:∀c,c≠a->(s.heap.update a (Obj.putSet es1 t1)).get? c=s.heap.get? c:=(Heap.SameBut.update s.heap a (Obj.putSet es1 t1)).2
  dsimp only
  rw [el1]
  dsimp only
  refine wpAny_bind (wpAny_pure ?_)
  rw [c1,S.pl,byV]
  rw [if_pos rfl]
  refine wpAny_bind (wpAny_pure ?_)
  rw [if_pos rfl]
  refine wpAny_bind (wpAny_storeSet_of ho hd ?_ hz)
  by_cases hf:t1.tooFull=true
  . obtain ⟨es2,t2,er,pe2,T2,d1,d2,R2⟩:=zh9 es.size s1 p2 p3 (by rw [p1];rcases S.tok.2.2 with z | z | ⟨e,z⟩<;>omega) hf
    rw [hf,er]
    rw [if_pos (show (!false&&true)=true from rfl)]
    dsimp only
    refine wpAny_bind (wpAny_pure ?_)
    have hz2:es2.size<=sizeLine:=by rw [<-Array.length_toList,pe2.length_eq,Array.length_toList];exact hz
    refine wpAny_bind (wpAny_storeSet_of ho1 hd1 ?_ hz2)
    obtain ⟨o2,ho2,hx2,hd2⟩:=zdm ho1 hx1 hd1 es2 t2
    obtain ⟨ks2,pk2,en2⟩:=en1.perm pe2
    refine wpAny_pure (wpAny_pure (q true _ (fun c hc=>((Heap.SameBut.update _ a (Obj.putSet es2 t2)).2 c hc).trans (sb1 c hc)) ?_ ⟨o2,es2,_,t2,ho2,hx2,hd2,?_⟩))
    . rw [(Heap.SameBut.update _ a _).1,(Heap.SameBut.update _ a _).1]
    . rw [if_neg hn]
      exact ⟨T2,by rw [d1,c1,S.pl],by rw [d2,c2,S.led],R2,ks2,pk2.trans pm,en2⟩
  . rw [Bool.not_eq_true] at hf
    rw [hf]
    rw [if_neg (show ¬(!false&&false)=true from Bool.false_ne_true)]
    refine wpAny_pure (wpAny_pure (q true _ sb1 ?_ ⟨o1,es1,_,t1,ho1,hx1,hd1,?_⟩))
    . rw [(Heap.SameBut.update _ a _).1]
    . rw [if_neg hn]
      refine ⟨⟨by rw [p2,s1],p3,?_⟩,by rw [c1,S.pl],by rw [c2,S.led],R1,ks1,pm,en1⟩
      have hf:¬(es.size+1) * 5 ≥ t1.mask * 3:=by
       unfold SetTable.tooFull SetTable.fill at hf
       rw [p2,p3] at hf
       have:=of_decide_eq_false hf
       simpa using this
      rw [p1] at hf ⊢
      rw [s1]
      rcases S.tok.2.2 with ⟨e,z⟩ | ⟨e,z⟩ | ⟨e,z⟩<;>rw [e] at hf ⊢<;>omega
end
noncomputable def z7n (ms:List Int) (n:Int):List Int:=if n∈ms then ms else ms++[n]
theorem zdn (ms:List Int) (n:Int):(z7n ms n).length<=ms.length+1:=by
 unfold z7n;split<;>simp
section
variable {prog:Program} {w:World}
theorem zas {h h':Heap} {d it:Addr} {ms:List Int} (hd:zir prog w h d ms) (hne:d≠it) (kp:∀b o,b≠it->h.get? b=some o->h'.get? b=some o):zir prog w h' d ms:=by
 obtain ⟨o,es,ep,t,d1,d2⟩:=hd
 exact ⟨o,es,ep,t,kp d o hne d1,d2⟩
theorem zm3 {v:Value} {n:Int} (h:iv v=some n):∃u,v=.int n u:=by
 cases v<;>simp only [iv,reduceCtorEq] at h
 rename_i m u
 cases h
 exact ⟨u,rfl⟩
theorem zp6 {h₀:Heap} {l it d:Addr} {items:Array Value} {A:Around} {R:Result->Shared->Prop} (hd0:h₀.get? d=none) (hit0:h₀.get? it=none) (hne:d≠it) (hl:h₀.IsList l items) (hh:A.handled=none) :
  ∀(ns:List Int) (i:Nat) (acc:List Int) (s:Shared),Keep h₀ s.heap->s.heap.IsListIter it l i->zir prog w s.heap d acc ->
   (items.toList.drop i).map iv=ns.map some->acc.length+ns.length<=64 ->
   (∀h' tk,zir prog w h' d (ns.foldl z7n acc)->Keep h₀ h'->R (.ok (.ret .none)) { s with heap:=h',toks:=tk }) ->
   codeAny (model prog w) A (.builtin "set.update.loop" ⟨[.ref d,.ref it],[]⟩) R s:=by
 intro ns
 induction ns with
 | nil=>
  intro i acc s kp hi hd hr hz k
  refine codeAny_builtin F.entry_set_update_loop ?_
  rw [Around.under_plainId F.plain_set_update_loop _]
  show wpAny _ A.in1 (pyNext (.ref it) >>= _) _ _ s
  have hx:items[i]?=none:=by
   have:items.toList[i]?=none:=by
    rw [List.getElem?_eq_none_iff]
    exact List.drop_eq_nil_iff.mp (List.map_eq_nil_iff.mp hr)
   simpa using this
  refine wpAny_bind (wpAny_pyNext_list_end hh hi (kp.list hl) hx fun h' ex=>?_)
  show wpAny _ _ (ret Value.none) _ _ _
  exact wpAny_pure (k h' s.toks (zas hd hne fun b o hb e=>ex b o hb e) fun b o e=>ex b o (fun z=>by rw [z,hit0] at e;cases e) (kp b o e))
 | cons n ns ih=>
  intro i acc s kp hi hd hr hz k
  have hil:i<items.toList.length:=by
   apply Classical.byContradiction
   intro z
   rw [List.drop_eq_nil_of_le (by omega)] at hr
   cases hr
  rw [List.drop_eq_getElem_cons hil,List.map_cons,List.map_cons] at hr
  obtain ⟨hv,hr⟩:=List.cons.inj hr
  obtain ⟨u,hv⟩:=zm3 hv
  have hx:items[i]?=some (.int n u):=by
   rw [<-hv,Array.getElem?_eq_getElem (by simpa using hil)]
   simp
  refine codeAny_builtin F.entry_set_update_loop ?_
  rw [Around.under_plainId F.plain_set_update_loop _]
  show wpAny _ A.in1 (pyNext (.ref it) >>= _) _ _ s
  rw [List.length_cons] at hz
  refine wpAny_bind (wpAny_pyNext_list_item hi (kp.list hl) hx fun h' hi' sb=>?_)
  have kp':Keep h₀ h':=fun b o e=>by
   have hb:b≠it:=fun z=>by rw [z,hit0] at e;cases e
   rw [sb.2 b hb];exact kp b o e
  have hd':zir prog w h' d acc:=zas hd hne fun b o hb e=>by rw [sb.2 b hb];exact e
  show wpAny _ _ (holding [Value.int n u] (setAdd d (.int n u)) >>= _) _ _ _
  refine wpAny_bind (wpAny_holding ?_)
  unfold setAdd
  refine wpAny_holding ?_
  refine wpAny_bind ((intKind prog w).pyHash (k:=n) (intKind_is _ _ _ _) ?_)
  refine zub (s:={ s with heap:=h',toks:=_ }) hd' (by omega) fun b h'' sb'' _ hd''=>?_
  refine wpAny_pure ⟨plainId_quiet F.plain_set_update_loop _,?_⟩
  refine ih (i+1) (z7n acc n) { s with heap:=h'',toks:=_ } (fun b o e=>?_) ?_ hd'' hr (by have:=zdn acc n;omega) fun h3 tk3 hS hK=>k h3 tk3 hS hK
  . have hb:b≠d:=fun z=>by rw [z,hd0] at e;cases e
    show h''.get? b=some o
    rw [sb'' b hb];exact kp' b o e
  . obtain ⟨o,eo,c⟩:=hi'
    exact ⟨o,by show h''.get? it=some o;rw [sb'' it (Ne.symm hne)];exact eo,c⟩
theorem zuc {A:Around} {E:Value->Shared->Prop} {s:Shared} (a:Value) {Q₁:Value->Shared->Prop} (h:Q₁ (.ref s.heap.objs.size) { s with heap:=s.heap.push { cls:=.type "set",dict:=none,data:=.set #[] 0 (.fresh 0 0 (!w.params.followText "set-order")) } }) :
  codeAny (model prog w) A (.call (.builtin "set.__new__") ⟨[.type "set",a],[]⟩) (wants Q₁ E) s:=by
 have sub:=PySem.F.called_set.sub
 refine codeAny_of_tree (show wpAny _ A.in1 (do checkBuiltinCall "set.__new__" ⟨[.type "set",a],[]⟩;again (.builtin "set.__new__" ⟨[.type "set",a],[]⟩)) _ _ s from ?_)
 refine wpAny_bind (wpAny_of_eq (PySem.F.newCall_set_1 a) (wpAny_pure ⟨plainId_quiet PySem.F.plain_set_new _,codeAny_builtin PySem.F.entry_set_new ?_⟩))
 rw [Around.under_plainId PySem.F.plain_set_new _]
 obtain ⟨hp,g,d,tk,os⟩:=s
 unfold Builtin.«set.__new__» Builtin.Frozenset.newClass
 wp_walk
 refine wpAny_askSetting (wpAny_pure ?_)
 dsimp only
 refine wpAny_newObj_type ?_
 exact wpAny_pure h
theorem zp7 {A:Around} {E:Value->Shared->Prop} {s:Shared} {l:Addr} {its:Array Value} {Q:Value->Shared->Prop} (hl:s.heap.IsList l its) (hh:A.handled=none) (hu:A.units+32<cLine)
  (ns:List Int) (hr:its.toList.map iv=ns.map some) (hz:ns.length<=64)
  (k:∀h' tk,zir prog w h' s.heap.objs.size (ns.foldl z7n [])->Keep s.heap h'->Q (.ref s.heap.objs.size) { s with heap:=h',toks:=tk }) :
  wpAny (model prog w) A (call (.type "set") [.ref l]) Q E s:=by
 obtain ⟨c,tl,hmro⟩:=PySem.F.called_set.mro
 have hmade:=PySem.F.called_set.made
 have hsub:=PySem.F.called_set.sub
 have h1:=PySem.F.called_set.notType
 have h2:=PySem.F.called_set.canCreate
 have hct:=PySem.F.typeCall_set_1 (.ref l)
 refine wpAny_call (codeAny_of_tree ?_)
 show wpAny _ _ (callAny (.type "set") _) _ _ _
 refine wpAny_pure ⟨Code.quiet_builtin _ (by decide +kernel),codeAny_builtin PySem.F.entry_type_call ?_⟩
 rw [Around.under_plain (weight_type_call_type "set" [.ref l] []) rfl]
 repeat (any_goals (first | assumption | wp_step))
 refine codeAny_mono (zuc (.ref l) (E:=E) (Q₁:=fun obj s₁=>∃led:Bool,led=(!w.params.followText "set-order")/\obj=.ref s.heap.objs.size/\s₁={ s with heap:=s.heap.push { cls:=.type "set",dict:=none,data:=.set #[] 0 (.fresh 0 0 led) } }) ⟨_,rfl,rfl,rfl⟩) fun r s₁ hr'=>?_
 cases r with
 | error e=>exact hr'
 | ok fl=>
  cases fl with
  | ret obj=>
   obtain ⟨led,hled,rfl,rfl⟩:=hr'
   have hS:(s.heap.push { cls:=.type "set",dict:=none,data:=.set #[] 0 (.fresh 0 0 led) }).get? s.heap.objs.size=some { cls:=.type "set",dict:=none,data:=.set #[] 0 (.fresh 0 0 led) }:=Heap.get?_push_size _ rfl
   have hT:Shared.TypeIs { s with heap:=s.heap.push { cls:=.type "set",dict:=none,data:=.set #[] 0 (.fresh 0 0 led) } } (.ref s.heap.objs.size) "set":=⟨_,hS,rfl⟩
   have hli:=PySem.F.called_set.init.lookup
   have hbi:=PySem.F.called_set.init.bind (.ref s.heap.objs.size)
   repeat (any_goals (first | assumption | wp_step))
   refine codeAny_mono (codeAny_call_builtin (R:=wants (fun r s₂=>r=.none/\∃h' tk,s₂={ s with heap:=h',toks:=tk }/\zir prog w h' s.heap.objs.size (ns.foldl z7n [])/\Keep s.heap h') E) PySem.F.called_set.init.plain PySem.F.entry_set_init (check_set_init_1 hT ?_)) fun r₂ s₂ hr₂=>?_
   . have hl0:=hl
     obtain ⟨ol,hol,hcl,nl,hdl⟩:=hl
     obtain ⟨ocls,odict,odata,oslots⟩:=ol
     simp only at hcl hdl
     subst hcl hdl
     have hol':(s.heap.push { cls:=.type "set",dict:=none,data:=.set #[] 0 (.fresh 0 0 led) }).get? l=some { cls:=.type "list",dict:=odict,data:=.seq its nl,slots:=oslots }:=Heap.get?_push_of_some _ hol
     have hsls:=PySem.F.sub_list_set
     have hslf:=PySem.F.sub_list_frozenset
     have hne:(Value.type "list"==Value.type "dict")=false:=by decide
     have hl1:(s.heap.push { cls:=.type "set",dict:=none,data:=.set #[] 0 (.fresh 0 0 led) }).IsList l its:=⟨_,hol',rfl,nl,rfl⟩
     unfold Builtin.«set.__init__» noKeywords Builtin.Frozenset.updateFrom
     generalize hPI:pyIter=PI
     wp_walk
     subst hPI
     refine wpAny_pyIter_list hl1 ?_
     refine wpAny_bind (wpAny_runValue ?_)
     have e1:(s.heap.push { cls:=.type "set",dict:=none,data:=.set #[] 0 (.fresh 0 0 led) }).objs.size=s.heap.objs.size+1:=Heap.size_push ..
     have kp0:Keep s.heap ((s.heap.push { cls:=.type "set",dict:=none,data:=.set #[] 0 (.fresh 0 0 led) }).push { cls:=.type "list_iterator",data:=.fields #[.ref l,.int 0 0] }):=fun b ob q=>Heap.get?_push_of_some _ (Heap.get?_push_of_some _ q)
     refine zp6 (h₀:=s.heap) (l:=l) (items:=its) (Heap.get?_none_of_le (Nat.le_refl _)) (Heap.get?_none_of_le (by show s.heap.objs.size<=(s.heap.push _).objs.size;rw [e1];omega)) (by show s.heap.objs.size≠(s.heap.push _).objs.size;rw [e1];omega) hl0 (by simp [hh]) ns 0 [] _ kp0 ⟨_,Heap.get?_push_size _ rfl,rfl,rfl⟩ ?_ (by simpa using hr) (by simpa using hz) fun h' tk hK kp=>?_
     . exact ⟨_,#[],0,_,Heap.get?_push_of_some _ hS,⟨rfl,rfl,rfl⟩,rfl,⟨⟨rfl,rfl,.inl ⟨rfl,by decide⟩⟩,rfl,hled,List.Pairwise.nil,[],.refl _,rfl⟩⟩
     . show wpAny _ _ _ _ _ _
       refine wpAny_pure ?_
       show wpAny _ _ (ret Value.none) _ _ _
       exact wpAny_pure ⟨rfl,h',tk,rfl,hK,kp⟩
   . cases r₂ with
     | error e=>exact hr₂
     | ok fl₂=>
      cases fl₂ with
      | ret r=>
       obtain ⟨rfl,h',tk,rfl,hS',hk'⟩:=hr₂
       repeat (any_goals (first | assumption | wp_step))
       exact k _ _ hS' hk'
      | _=>exact hr₂.elim
  | _=>exact hr'.elim
end
section
variable {prog:Program} {w:World} {A:Around} {E:Value->Shared->Prop} {s:Shared} {κ:SortKind} {a₀:Array Keyed} {rk:Keyed->Nat}
noncomputable def tk (rk:Keyed->Nat) (xs:Array Keyed) (i:Nat):Nat:=match xs[i]? with
 | some p=>rk p
 | none=>0
def z5j (prog:Program) (w:World) (A:Around) (E:Value->Shared->Prop) (s:Shared) (κ:SortKind) (a₀:Array Keyed) (rk:Keyed->Nat):Prop:=
 ∀x y,x∈a₀->y∈a₀->∀(st:SortSt) (Q:Option Bool->SortSt->Prop),kindOf st=κ->Q (some (decide (rk x<rk y))) st->wpS (model prog w) A E s (lt' x y) Q st
structure TBs (κ:SortKind) (a₀:Array Keyed) (st:SortSt):Prop where
 perm:(arrOf st).Perm a₀
 kind:kindOf st=κ
 ok:failedOf st=none
def TSo (rk:Keyed->Nat) (xs:Array Keyed) (lo hi:Nat):Prop:=∀i j,lo<=i->i<=j->j<hi->tk rk xs i<=tk rk xs j
theorem z19 {xs:Array Keyed} {i:Nat} (h:i<xs.size):tk rk xs i=rk xs[i]:=by unfold tk;rw [getElem?_pos xs i h]
theorem z6e {xs ys:Array Keyed} {i j:Nat} (h:xs[i]?=ys[j]?):tk rk xs i=tk rk ys j:=by unfold tk;rw [h]
theorem TBs.size {st:SortSt} (B:TBs κ a₀ st):(arrOf st).size=a₀.size:=B.perm.size_eq
theorem TBs.mem {st:SortSt} (B:TBs κ a₀ st) {x:Keyed} (h:x∈arrOf st):x∈a₀:=Array.mem_def.mpr ((Array.perm_iff_toList_perm.mp B.perm).mem_iff.mp (Array.mem_def.mp h))
theorem TBs.set {st:SortSt} (B:TBs κ a₀ st) {xs:Array Keyed} (hp:xs.Perm (arrOf st)):TBs κ a₀ (setArr st xs):=⟨hp.trans B.perm,B.kind,B.ok⟩
theorem z0u {st:SortSt} {xs:Array Keyed} {i:Nat} {Q:Keyed->SortSt->Prop} (h:i<xs.size) (q:Q xs[i] st):wpS (model prog w) A E s (elem' xs i) Q st:=by
 rw [elem'_eq,getElem?_pos xs i h]
 exact wpS_pure q
theorem zqb (hc:z5j prog w A E s κ a₀ rk) {st:SortSt} (B:TBs κ a₀ st) {i j:Nat} (hi:i<a₀.size) (hj:j<a₀.size) {Q:Option Bool->SortSt->Prop}
  (h:Q (some (decide (tk rk (arrOf st) i<tk rk (arrOf st) j))) st):wpS (model prog w) A E s (ltAt' i j) Q st:=by
 rw [ltAt'_eq]
 have hi':i<(arrOf st).size:=by rw [B.size];exact hi
 have hj':j<(arrOf st).size:=by rw [B.size];exact hj
 rw [z19 hi',z19 hj'] at h
 refine wpS_bind (wpS_get (wpS_bind (z0u hi' (wpS_bind (z0u hj' ?_)))))
 exact hc _ _ (B.mem (Array.getElem_mem _)) (B.mem (Array.getElem_mem _)) st Q B.kind h
theorem z70 {xs:Array Keyed} {i j:Nat} (hj:j<=xs.size) (k:Nat):tk rk (mirror xs i j ((j - i) / 2)) k=if i<=k/\k<j then tk rk xs (i+j - 1 - k) else tk rk xs k:=by
 by_cases h:i<=k/\k<j<;>simp only [h,if_true,if_false]<;>refine z6e ?_<;>rw [getElem?_mirror_all hj]
 . rw [if_pos h]
 . rw [if_neg h]
theorem zha {xs:Array Keyed} {src d:Nat} (hs:src<xs.size) (hd:d<=src) (k:Nat) :
  tk rk (bubble xs src d) k=if k=src - d then tk rk xs src else if src - d<k/\k<=src then tk rk xs (k - 1) else tk rk xs k:=by
 have e:=getElem?_bubble hs d hd k
 by_cases h1:k=src - d
 . rw [if_pos h1] at e ⊢;exact z6e e
 . rw [if_neg h1] at e ⊢
   by_cases h2:src - d<k/\k<=src
   . rw [if_pos h2] at e ⊢;exact z6e e
   . rw [if_neg h2] at e ⊢;exact z6e e
theorem z94 {xs:Array Keyed} {i j:Nat} (hj:j<=xs.size) (ha:∀k,i<=k->k<j->tk rk xs k=tk rk xs (j - 1)) (k:Nat):tk rk (mirror xs i j ((j - i) / 2)) k=tk rk xs k:=by
 rw [z70 hj]
 by_cases h:i<=k/\k<j
 . rw [if_pos h,ha (i+j - 1 - k) (by omega) (by omega),ha k h.1 h.2]
 . rw [if_neg h]
theorem TSo.step {xs:Array Keyed} {lo n:Nat} (h:TSo rk xs lo (lo+n)) (h1:1<=n) (hn:tk rk xs (lo+n - 1)<=tk rk xs (lo+n)):TSo rk xs lo (lo+(n+1)):=fun i j h0 h1' h2=>by
 by_cases hj:j=lo+n
 . subst hj
   by_cases hi:i=lo+n
   . rw [hi];exact Nat.le_refl _
   . exact Nat.le_trans (h i (lo+n - 1) h0 (by lia) (by lia)) hn
 . exact h i j h0 h1' (by lia)
theorem TSo.one {xs:Array Keyed} (lo:Nat):TSo rk xs lo (lo+1):=fun i j h0 h1 h2=>by
 obtain rfl:i=j:=by lia
 exact Nat.le_refl _
structure TL (st st':SortSt) (lo:Nat):Prop where
 low:∀k,k<lo->(arrOf st')[k]?=(arrOf st)[k]?
 pend:pendingOf st'=pendingOf st
theorem TL.refl (st:SortSt) (lo:Nat):TL st st lo:=⟨fun _ _=>rfl,rfl⟩
theorem TL.trans {a b c:SortSt} {lo:Nat} (h:TL a b lo) (k:TL b c lo):TL a c lo:=⟨fun i hi=>(k.low i hi).trans (h.low i hi),k.pend.trans h.pend⟩
theorem TL.mirror {st:SortSt} {lo i j:Nat} (hi:lo<=i) (hj:j<=(arrOf st).size):TL st (setArr st (mirror (arrOf st) i j ((j - i) / 2))) lo:=
 ⟨fun k hk=>by show (PyProof.Rows.mirror (arrOf st) i j ((j - i) / 2))[k]?=_;rw [getElem?_mirror_all hj,if_neg (by lia)],rfl⟩
theorem zk9 {st:SortSt} {i j:Nat} {Q:Unit->SortSt->Prop} (h:Q () (setArr st (mirror (arrOf st) i j ((j - i) / 2)))):wpS (model prog w) A E s (reverseSlice' i j) Q st:=by
 rw [reverseSlice'_eq]
 exact wpS_modify h
theorem TSo.ups' {xs:Array Keyed} {lo a:Nat} (h:TSo rk xs lo (lo+a)) (ha:1<=a):∀{n:Nat},a<=n->(∀i,a<=i->i<n->tk rk xs (lo+i - 1)<=tk rk xs (lo+i))->TSo rk xs lo (lo+n)
 | 0,z,_=>by lia
 | n+1,z,up=>by
  by_cases e:a=n+1
  . rw [<-e];exact h
  . exact (TSo.ups' h ha (n:=n) (by lia) fun i a b=>up i a (by lia)).step (by lia) (up n (by lia) (by lia))
theorem TSo.ups {xs:Array Keyed} {lo n:Nat} (h:TSo rk xs lo (lo+1)) (hn:1<=n) (up:∀i,1<=i->i<n->tk rk xs (lo+i - 1)<=tk rk xs (lo+i)):TSo rk xs lo (lo+n):=h.ups' (Nat.le_refl _) hn up
theorem z84 {U:Type} {r:String} {Q:Unit->U->Prop} {st:U} (h:Q () st):wpS (model prog w) A E s (liftM (rule r):StateT U Sem Unit) Q st:=wpS_lift (wpAny_rule ⟨rfl,h⟩)
theorem zzt {U β:Type} {f:Nat->β->StateT U Sem (ForInStep β)} (mk:Nat->β) (st:U) (down:Nat->Bool) {a b:Nat} {Q:β->U->Prop} (hab:a<=b)
  (go:∀x n (Q:ForInStep β->U->Prop),a<=n->n<b->Q (if down n=true then .done (mk n) else .yield (mk (n+1))) st->wpS (model prog w) A E s (f x (mk n)) Q st)
  (h:∀n,a<=n->n<=b->(∀i,a<=i->i<n->down i=false)->(n<b->down n=true)->Q (mk n) st):wpS (model prog w) A E s (forIn [a:b] (mk a) f) Q st:=by
 refine wpS_forRange (I:=fun x c u=>u=st/\c=mk x/\∀i,a<=i->i<x->down i=false) (fun x c u hx hb hI=>?_) (fun c u hI=>?_) ⟨rfl,rfl,fun i y z=>by lia⟩
 . obtain ⟨rfl,rfl,up⟩:=hI
   refine go x x _ hx hb ?_
   cases hd:down x
   . exact ⟨rfl,rfl,fun i y z=>by
      by_cases e:i=x
      . rw [e];exact hd
      . exact up i y (by lia)⟩
   . exact h x hx (Nat.le_of_lt hb) up fun _=>hd
 . obtain ⟨rfl,rfl,up⟩:=hI
   rw [Nat.max_eq_right hab] at up ⊢
   exact h b hab (Nat.le_refl _) up fun z=>absurd z (Nat.lt_irrefl _)
theorem zm4 {U β:Type} {f:Nat->β->StateT U Sem (ForInStep β)} (mk:Nat->Nat->β) (st:U) (mid:Nat->Nat->Nat) (p:Nat->Bool) {N l0 r0:Nat} {Q:β->U->Prop} (hmid:∀l r,l<r->l<=mid l r/\mid l r<r)
  (go:∀x l r (Q:ForInStep β->U->Prop),l0<=l->l<r->r<=r0->Q (.yield (if p (mid l r)=true then mk (mid l r+1) r else mk l (mid l r))) st->wpS (model prog w) A E s (f x (mk l r)) Q st)
  (stop:∀x l (Q:ForInStep β->U->Prop),l<=r0->Q (.done (mk l l)) st->wpS (model prog w) A E s (f x (mk l l)) Q st)
  (mono:∀i j,l0<=i->i<=j->j<r0->p j=true->p i=true) (hl:l0<=r0) (hN:r0<=l0+N)
  (h:∀k,l0<=k->k<=r0->(∀i,l0<=i->i<k->p i=true)->(∀i,k<=i->i<r0->p i=false)->Q (mk k k) st):wpS (model prog w) A E s (forIn [0:N] (mk l0 r0) f) Q st:=by
 have key:∀l r,l0<=l->l<=r->r<=r0->(∀i,l0<=i->i<l->p i=true)->(∀i,r<=i->i<r0->p i=false)->l=r->Q (mk l r) st:=fun l r a b c d e z=>by subst z;exact h l a c d e
 refine wpS_forRange (I:=fun x c u=>u=st/\∃l r,(l0<=l/\l<=r/\r<=r0/\r+x<=l+N)/\c=mk l r/\(∀i,l0<=i->i<l->p i=true)/\∀i,r<=i->i<r0->p i=false)
  (fun x c u _ hb hI=>?_) (fun c u hI=>?_) ⟨rfl,l0,r0,⟨Nat.le_refl _,hl,Nat.le_refl _,by lia⟩,rfl,fun i a b=>by lia,fun i a b=>by lia⟩
 . obtain ⟨rfl,l,r,⟨b1,b2,b3,b4⟩,rfl,lt,gt⟩:=hI
   by_cases e:l=r
   . subst e
     exact stop x l _ b3 (key l l b1 b2 b3 lt gt rfl)
   . have hm:=hmid l r (by lia)
     refine go x l r _ b1 (by lia) b3 ?_
     cases hp:p (mid l r)
     . exact ⟨rfl,l,mid l r,⟨b1,hm.1,by lia,by lia⟩,rfl,lt,fun i a b=>by
        cases hi:p i
        . rfl
        . rw [mono (mid l r) i (by lia) a b hi] at hp;cases hp⟩
     . exact ⟨rfl,mid l r+1,r,⟨by lia,by lia,b3,by lia⟩,rfl,fun i a b=>mono i (mid l r) a (by lia) (by lia) hp,gt⟩
 . obtain ⟨rfl,l,r,⟨b1,b2,b3,b4⟩,rfl,lt,gt⟩:=hI
   exact key l r b1 b2 b3 lt gt (by simp only [Nat.zero_max] at b4;lia)
theorem zhb {α:Type} {Q:α->SortSt->Prop} {st:SortSt} {p:Prop} [Decidable p] {t g:StateT SortSt Sem α} (R:SortSt->Prop) (hg:∀u,R u->wpS (model prog w) A E s g Q u) (ht:p->(∀u,R u->wpS (model prog w) A E s g Q u)->wpS (model prog w) A E s t Q st) (hn:¬p->R st):wpS (model prog w) A E s (if p then t else g) Q st:=by
 split
 . exact ht ‹_› hg
 . exact hg _ (hn ‹_›)
theorem zp8 (hc:z5j prog w A E s κ a₀ rk) {st:SortSt} (B:TBs κ a₀ st) {lo nrem:Nat} (hz:lo+nrem<=a₀.size) (h1:1<=nrem) {Q:Option Nat->SortSt->Prop}
  (h:∀n st',1<=n->n<=nrem->TBs κ a₀ st'->TL st st' lo->TSo rk (arrOf st') lo (lo+n)->Q (some n) st'):wpS (model prog w) A E s (countRun' lo nrem) Q st:=by
 rw [countRun'_eq]
 refine wpS_bind (zzt (fun n=>(none,n)) st (fun n=>decide (tk rk (arrOf st) (lo+n)<tk rk (arrOf st) (lo+n - 1))) h1 (fun x n Q a b q=>wpS_bind (zqb hc B (by lia) (by lia) ?_)) fun n hn1 hn2 up dn=>?_)
 . by_cases hl:tk rk (arrOf st) (lo+n)<tk rk (arrOf st) (lo+n - 1)
   . simp only [hl,decide_true,if_true] at q ⊢;exact wpS_pure q
   . simp only [hl,decide_false,Bool.false_eq_true,if_false] at q ⊢;exact wpS_pure q
 have hs:=TSo.ups (n:=n) (TSo.one (rk:=rk) (xs:=arrOf st) lo) hn1 fun i a b=>by have:=up i a b;simp only [decide_eq_false_iff_not] at this;lia
 have hd:n<nrem->tk rk (arrOf st) (lo+n)<tk rk (arrOf st) (lo+n - 1):=fun z=>by simpa using dn z
 dsimp only
 by_cases hnr:n=nrem
 . rw [if_pos (by simp [hnr])]
   exact wpS_pure (h n _ hn1 hn2 B (.refl _ _) hs)
 rw [if_neg (by simp [hnr])]
 have hd':=hd (by lia)
 have z39:∀(xs:Array Keyed),TSo rk xs lo (lo+n)->¬tk rk xs lo<tk rk xs (lo+n - 1)->∀k,lo<=k->k<lo+n->tk rk xs k=tk rk xs (lo+n - 1):=fun xs hs hr k h0 h1=>by
  have a:=hs lo k (Nat.le_refl _) h0 h1
  have b:=hs k (lo+n - 1) h0 (by lia) (by lia)
  lia
 have ni0:∀(xs:Array Keyed),(∀k,lo<=k->k<lo+n->tk rk xs k=tk rk xs (lo+n - 1))->tk rk xs (lo+n)<tk rk xs (lo+n - 1)->∀i j,lo<=i->i<=j->j<lo+(n+1)->tk rk xs j<=tk rk xs i:=fun xs fl hd i j h0 h1 h2=>by
  by_cases hj:j=lo+n
  . subst hj
    by_cases hi:i=lo+n
    . rw [hi];exact Nat.le_refl _
    . rw [fl i h0 (by lia)];lia
  . rw [fl i h0 (by lia),fl j (by lia) (by lia)];exact Nat.le_refl _
 refine zhb (fun u=>TBs κ a₀ u/\TL st u lo/\∀i j,lo<=i->i<=j->j<lo+(n+1)->tk rk (arrOf u) j<=tk rk (arrOf u) i) (fun st1 z=>?_) (fun hn J=>?_) fun hn=>⟨B,.refl _ _,ni0 _ (z39 _ hs (by rw [show lo+n - 1=lo by lia];exact Nat.lt_irrefl _)) hd'⟩
 rotate_left
 . refine wpS_bind (zqb hc B (by lia) (by lia) ?_)
   by_cases hr:tk rk (arrOf st) lo<tk rk (arrOf st) (lo+n - 1)
   . rw [decide_eq_true hr]
     dsimp only
     rw [if_pos rfl]
     exact wpS_pure (h n _ hn1 hn2 B (.refl _ _) hs)
   rw [decide_eq_false hr]
   dsimp only
   rw [if_neg Bool.false_ne_true]
   have hz0:lo+n<=(arrOf st).size:=by rw [B.size];lia
   have fl:=z39 _ hs hr
   have ea:=z94 hz0 fl
   exact wpS_bind (zk9 (J _ ⟨B.set (mirror_perm _ _ _ _),.mirror (Nat.le_refl _) hz0,fun i j h0 h1 h2=>by
    show tk rk (mirror (arrOf st) _ _ _) j<=tk rk (mirror (arrOf st) _ _ _) i
    rw [ea,ea]
    exact ni0 _ fl hd' i j h0 h1 h2⟩))
 clear z39 ni0 hd hd' hs up dn
 obtain ⟨B1,L1,ni⟩:=z
 refine wpS_bind (z84 ?_)
 refine wpS_bind (wpS_mono (wpS_forRange (I:=fun x c st2=>TBs κ a₀ st2/\TL st st2 lo/\∃q,c=(none,x,q)/\q+1<=x/\(∀i j,lo<=i->i<=j->j<lo+x->tk rk (arrOf st2) j<=tk rk (arrOf st2) i)/\∀k,lo+x - (q+1)<=k->k<lo+x->tk rk (arrOf st2) k=tk rk (arrOf st2) (lo+x - 1))
  (Q:=fun c st2=>TBs κ a₀ st2/\TL st st2 lo/\∃x q,c=(none,x,q)/\1<=x/\x<=nrem/\q+1<=x/\(∀i j,lo<=i->i<=j->j<lo+x->tk rk (arrOf st2) j<=tk rk (arrOf st2) i)/\∀k,lo+x - (q+1)<=k->k<lo+x->tk rk (arrOf st2) k=tk rk (arrOf st2) (lo+x - 1)) ?step ?fin ⟨B1,L1,0,rfl,by lia,ni,fun k h0 h1=>by rw [show k=lo+(n+1) - 1 by lia]⟩) ?post)
 case fin=>
  rintro c st2 ⟨B2,L2,q,rfl,hq,ni2,al⟩
  rw [show max (n+1) nrem=nrem by lia] at *
  exact ⟨B2,L2,nrem,q,rfl,h1,Nat.le_refl _,hq,ni2,al⟩
 case post=>
  rintro c st2 ⟨B2,L2,x,q,rfl,hx1,hx2,hq,ni2,al⟩
  have hz2:lo+x<=(arrOf st2).size:=by rw [B2.size];lia
  dsimp only
  refine zhb (fun u=>TBs κ a₀ u/\TL st u lo/\∀i j,lo<=i->i<=j->j<lo+x->tk rk (arrOf u) j<=tk rk (arrOf u) i) (fun st3 z=>?_) (fun hq0 J=>?_) fun _=>⟨B2,L2,ni2⟩
  rotate_left
  . have ea:=z94 hz2 al
    exact wpS_bind (zk9 (J _ ⟨B2.set (mirror_perm _ _ _ _),L2.trans (.mirror (by lia) hz2),fun i j h0 h1 h2=>by
     show tk rk (mirror (arrOf st2) _ _ _) j<=tk rk (mirror (arrOf st2) _ _ _) i
     rw [ea,ea];exact ni2 i j h0 h1 h2⟩))
  obtain ⟨B3,L3,ni3⟩:=z
  have hz3:lo+x<=(arrOf st3).size:=by rw [B3.size];lia
  refine wpS_bind (zk9 ?_)
  obtain ⟨st4,e4⟩:∃st4,st4=setArr st3 (mirror (arrOf st3) lo (lo+x) ((lo+x - lo) / 2)):=⟨_,rfl⟩
  have B4:TBs κ a₀ st4:=e4 ▸ B3.set (mirror_perm _ _ _ _)
  have L4:TL st st4 lo:=e4 ▸ L3.trans (.mirror (Nat.le_refl _) hz3)
  have s0:TSo rk (arrOf st4) lo (lo+x):=fun i j h0 h1 h2=>by
   rw [e4]
   show tk rk (mirror (arrOf st3) lo (lo+x) _) i<=tk rk (mirror (arrOf st3) lo (lo+x) _) j
   rw [z70 hz3,z70 hz3,if_pos (by lia),if_pos (by lia)]
   exact ni3 _ _ (by lia) (by lia) (by lia)
  rw [<-e4]
  clear e4
  refine wpS_bind (zzt (fun n=>(none,n)) st4 (fun n=>decide (tk rk (arrOf st4) (lo+n)<tk rk (arrOf st4) (lo+n - 1))) hx2 (fun y m Q a b q=>wpS_bind (zqb hc B4 (by lia) (by lia) ?_)) fun m hm1 hm2 up _=>?_)
  . by_cases hl:tk rk (arrOf st4) (lo+m)<tk rk (arrOf st4) (lo+m - 1)
    . simp only [hl,decide_true,if_true] at q ⊢;exact wpS_pure q
    . simp only [hl,decide_false,Bool.false_eq_true,if_false] at q ⊢;exact wpS_pure q
  . dsimp only
    refine wpS_pure (h m _ (by lia) hm2 B4 L4 (s0.ups' hx1 hm1 fun i a b=>?_))
    have:=up i a b
    simp only [decide_eq_false_iff_not] at this
    lia
 case step=>
  rintro x c st2 hnx hxr ⟨B2,L2,q,rfl,hq,ni2,al⟩
  have hz2:lo+x<=(arrOf st2).size:=by rw [B2.size];lia
  dsimp only
  refine wpS_bind (zqb hc B2 (by lia) (by lia) ?_)
  have ext:∀(xs:Array Keyed),(∀i j,lo<=i->i<=j->j<lo+x->tk rk xs j<=tk rk xs i)->tk rk xs (lo+x)<=tk rk xs (lo+x - 1)->∀i j,lo<=i->i<=j->j<lo+(x+1)->tk rk xs j<=tk rk xs i:=fun xs nx hx i j h0 h1 h2=>by
   by_cases hj:j=lo+x
   . subst hj
     by_cases hi:i=lo+x
     . rw [hi];exact Nat.le_refl _
     . exact Nat.le_trans hx (nx i (lo+x - 1) h0 (by lia) (by lia))
   . exact nx i j h0 h1 (by lia)
  by_cases hl:tk rk (arrOf st2) (lo+x)<tk rk (arrOf st2) (lo+x - 1)
  . simp only [hl,decide_true,if_true]
    by_cases hq0:q > 0
    . rw [if_pos hq0]
      have ea:=z94 hz2 al
      refine wpS_bind (zk9 (wpS_pure ⟨B2.set (mirror_perm _ _ _ _),L2.trans (.mirror (by lia) hz2),0,rfl,by lia,ext _ (fun i j h0 h1 h2=>?_) ?_,fun k h0 h1=>by rw [show k=lo+(x+1) - 1 by lia]⟩))
      . show tk rk (mirror (arrOf st2) _ _ _) j<=tk rk (mirror (arrOf st2) _ _ _) i
        rw [ea,ea];exact ni2 i j h0 h1 h2
      . show tk rk (mirror (arrOf st2) _ _ _) _<=tk rk (mirror (arrOf st2) _ _ _) _
        rw [ea,ea];exact Nat.le_of_lt hl
    . rw [if_neg hq0]
      exact wpS_pure ⟨B2,L2,0,rfl,by lia,ext _ ni2 (Nat.le_of_lt hl),fun k h0 h1=>by rw [show k=lo+(x+1) - 1 by lia]⟩
  . simp only [hl,decide_false,Bool.false_eq_true,if_false]
    refine wpS_bind (zqb hc B2 (by lia) (by lia) ?_)
    by_cases hg:tk rk (arrOf st2) (lo+x - 1)<tk rk (arrOf st2) (lo+x)
    . simp only [hg,decide_true,if_true]
      exact wpS_pure ⟨B2,L2,x,q,rfl,by lia,by lia,hq,ni2,al⟩
    . simp only [hg,decide_false,Bool.false_eq_true,if_false]
      refine wpS_pure ⟨B2,L2,q+1,rfl,by lia,ext _ ni2 (by lia),fun k h0 h1=>?_⟩
      rw [show lo+(x+1) - 1=lo+x by lia]
      by_cases hk:k=lo+x
      . rw [hk]
      . rw [al k (by lia) (by lia)];lia
theorem TSo.down {xs:Array Keyed} {lo k l:Nat} (hz:lo+k<xs.size) (hl:l<=k) (hs:TSo rk xs lo (lo+k)) (below:∀i,i<l->tk rk xs (lo+i)<=tk rk xs (lo+k)) (above:∀i,l<=i->i<k->tk rk xs (lo+k)<tk rk xs (lo+i)) :
  TSo rk (bubble xs (lo+k) (lo+k - (lo+l))) lo (lo+(k+1)):=fun i j h0 hij hj=>by
 obtain ⟨i,rfl⟩:∃i',i=lo+i':=⟨i - lo,by lia⟩
 obtain ⟨j,rfl⟩:∃j',j=lo+j':=⟨j - lo,by lia⟩
 have val:∀m,m<=k->tk rk (bubble xs (lo+k) (lo+k - (lo+l))) (lo+m)=if m<l then tk rk xs (lo+m) else if m=l then tk rk xs (lo+k) else tk rk xs (lo+(m - 1)):=fun m hm=>by
  rw [zha hz (by lia)]
  by_cases a:m<l
  . rw [if_neg (by lia),if_neg (by lia),if_pos a]
  . by_cases b:m=l
    . rw [if_pos (by lia),if_neg a,if_pos b]
    . rw [if_neg (by lia),if_pos (by lia),if_neg a,if_neg b,show lo+m - 1=lo+(m - 1) by lia]
 have st:∀a b,a<=b->b<k->tk rk xs (lo+a)<=tk rk xs (lo+b):=fun a b u v=>hs _ _ (by lia) (by lia) (by lia)
 rw [val i (by lia),val j (by lia)]
 by_cases a:j<l
 . rw [if_pos a,if_pos (by lia)];exact st i j (by lia) (by lia)
 . rw [if_neg a]
   by_cases b:i<l
   . rw [if_pos b]
     by_cases c:j=l
     . rw [if_pos c];exact below i b
     . rw [if_neg c];exact st i (j - 1) (by lia) (by lia)
   . rw [if_neg b]
     by_cases c:i=l
     . rw [if_pos c]
       by_cases d:j=l
       . rw [if_pos d];exact Nat.le_refl _
       . rw [if_neg d];exact Nat.le_of_lt (above _ (by lia) (by lia))
     . rw [if_neg c,if_neg (by lia)];exact st _ _ (by lia) (by lia)
theorem zye (hc:z5j prog w A E s κ a₀ rk) {st:SortSt} (B:TBs κ a₀ st) {lo n ok:Nat} (hz:lo+n<=a₀.size) (h1:1<=ok) (hok:ok<=n) (hs:TSo rk (arrOf st) lo (lo+ok)) {Q:Bool->SortSt->Prop}
  (h:∀u,TBs κ a₀ u->TL st u lo->TSo rk (arrOf u) lo (lo+n)->Q true u):wpS (model prog w) A E s (binarySort' lo n ok) Q st:=by
 rw [binarySort'_eq,Nat.max_eq_left h1]
 refine wpS_bind (wpS_mono (wpS_forRange (I:=fun k c u=>c=(none,())/\TBs κ a₀ u/\TL st u lo/\TSo rk (arrOf u) lo (lo+k))
  (Q:=fun c u=>c=(none,())/\TBs κ a₀ u/\TL st u lo/\TSo rk (arrOf u) lo (lo+n)) (fun k c u ha hb hI=>?_) (fun c u hI=>by rwa [Nat.max_eq_right hok] at hI) ⟨rfl,B,.refl _ _,hs⟩) fun c u hI=>?_)
 . obtain ⟨rfl,B1,L1,hs⟩:=hI
   have hz1:lo+k<(arrOf u).size:=by rw [B1.size];lia
   refine wpS_bind (zm4 (fun l r=>(none,l,r)) u (fun l r=>(l+r) / 2) (fun i=>decide (tk rk (arrOf u) (lo+i)<=tk rk (arrOf u) (lo+k))) (fun l r _=>by lia) (fun x l r Q a b c q=>?_) (fun x l Q _ q=>?_) (fun i j _ a b c=>?_) (Nat.zero_le _) (by lia) fun l _ hl lt gt=>?_)
   . dsimp only
     rw [if_neg (by lia)]
     refine wpS_bind (zqb hc B1 (by lia) (by lia) ?_)
     by_cases z:tk rk (arrOf u) (lo+k)<tk rk (arrOf u) (lo+(l+r) / 2)
     . simp only [z,Nat.not_le.mpr z,decide_true,decide_false,Bool.false_eq_true,if_true,if_false] at q ⊢
       exact wpS_pure q
     . simp only [z,Nat.not_lt.mp z,decide_true,decide_false,Bool.false_eq_true,if_true,if_false] at q ⊢
       exact wpS_pure q
   . dsimp only
     rw [if_pos (Nat.le_refl _)]
     exact wpS_pure q
   . simp only [decide_eq_true_eq] at c ⊢
     exact Nat.le_trans (hs _ _ (by lia) (by lia) (by lia)) c
   . dsimp only
     rw [moveDown'_eq]
     refine wpS_bind (wpS_modify (wpS_pure ⟨rfl,B1.set (bubble_perm _ _ _),L1.trans ⟨fun j hj=>?_,rfl⟩,?_⟩))
     . show (bubble (arrOf u) (lo+k) (lo+k - (lo+l)))[j]?=_
       rw [getElem?_bubble hz1 _ (by lia),if_neg (by lia),if_neg (by lia)]
     . exact TSo.down hz1 hl hs (fun i a=>by simpa using lt i (Nat.zero_le _) a) fun i a b=>by simpa using gt i a b
 . obtain ⟨rfl,B1,L1,hs⟩:=hI
   exact wpS_pure (h u B1 L1 hs)
end
section
variable {prog:Program} {w:World} {A:Around} {E:Value->Shared->Prop} {s:Shared} {κ:SortKind} {a₀:Array Keyed} {rk:Keyed->Nat}
theorem zud {U β:Type} {f:Nat->β->StateT U Sem (ForInStep β)} (mk:Nat->Nat->β) (st:U) (q:Nat->Bool) {N M:Nat} {Q:β->U->Prop} (q0:q 0=true) (hM:0<M) (hN:M<=N)
  (go:∀x last ofs (Q:ForInStep β->U->Prop),0<ofs->ofs<M->Q (if q ofs=true then .yield (mk ofs (2 * ofs+1)) else .done (mk last ofs)) st->wpS (model prog w) A E s (f x (mk last ofs)) Q st)
  (stop:∀x last ofs (Q:ForInStep β->U->Prop),M<=ofs->Q (.done (mk last ofs)) st->wpS (model prog w) A E s (f x (mk last ofs)) Q st)
  (h:∀last ofs,last<ofs->last<M->q last=true->(ofs<M->q ofs=false)->Q (mk last ofs) st):wpS (model prog w) A E s (forIn [0:N] (mk 0 1) f) Q st:=by
 refine wpS_forRange (I:=fun x c u=>u=st/\∃last ofs,c=mk last ofs/\x<ofs/\last<ofs/\last<M/\q last=true) (fun x c u _ _ hI=>?_) (fun c u hI=>?_) ⟨rfl,0,1,rfl,by lia,by lia,hM,q0⟩
 . obtain ⟨rfl,last,ofs,rfl,b1,b2,b3,b4⟩:=hI
   by_cases hm:ofs<M
   . refine go x last ofs _ (by lia) hm ?_
     cases hq:q ofs
     . exact h last ofs b2 b3 b4 fun _=>hq
     . exact ⟨rfl,ofs,2 * ofs+1,rfl,by lia,by lia,hm,hq⟩
   . exact stop x last ofs _ (by lia) (h last ofs b2 b3 b4 fun z=>absurd z hm)
 . obtain ⟨rfl,last,ofs,rfl,b1,b2,b3,b4⟩:=hI
   exact h last ofs b2 b3 b4 fun z=>by lia
noncomputable def gal:Bool->Keyed->Array Keyed->Nat->Nat->Nat->StateT SortSt Sem (Option Nat):=sortPriv% PySem.Builtin.gallop
noncomputable def bey (rk:Keyed->Nat) (left:Bool) (key:Keyed) (arr:Array Keyed) (base i:Nat):Bool:=if left=true then decide (tk rk arr (base+i)<rk key) else !decide (rk key<tk rk arr (base+i))
theorem zyf (hc:z5j prog w A E s κ a₀ rk) {st:SortSt} (hk:kindOf st=κ) {left:Bool} {key:Keyed} {arr:Array Keyed} {base i:Nat} (kin:key∈a₀) (ain:∀x∈arr,x∈a₀) (hz:base+i<arr.size) {Q:Option Bool->SortSt->Prop}
  (h:Q (some (bey rk left key arr base i)) st):wpS (model prog w) A E s (elem' arr (base+i) >>= fun x=>if left=true then lt' x key else lt' key x >>= fun r=>pure (r.map fun b=>!b)) Q st:=by
 refine wpS_bind (z0u hz ?_)
 unfold bey at h
 rw [z19 hz] at h
 cases left with
 | true=>
  rw [if_pos rfl] at h ⊢
  exact hc _ _ (ain _ (Array.getElem_mem _)) kin st Q hk h
 | false=>
  rw [if_neg Bool.false_ne_true] at h ⊢
  exact wpS_bind (hc _ _ kin (ain _ (Array.getElem_mem _)) st _ hk (wpS_pure h))
theorem zel (hc:z5j prog w A E s κ a₀ rk) {st:SortSt} (hk:kindOf st=κ) {left:Bool} {key:Keyed} {arr:Array Keyed} {base n hint:Nat} (kin:key∈a₀) (ain:∀x∈arr,x∈a₀) (hz:base+n<=arr.size) (hh:hint<n)
  (mono:∀i j,i<=j->j<n->bey rk left key arr base j=true->bey rk left key arr base i=true) {Q:Option Nat->SortSt->Prop}
  (h:∀k,k<=n->(∀i,i<k->bey rk left key arr base i=true)->(∀i,k<=i->i<n->bey rk left key arr base i=false)->Q (some k) st):wpS (model prog w) A E s (gal left key arr base n hint) Q st:=by
 have anti:∀i j,i<=j->j<n->bey rk left key arr base i=false->bey rk left key arr base j=false:=fun i j a b c=>by
  cases e:bey rk left key arr base j
  . rfl
  . rw [mono i j a b e] at c;cases c
 have ask:∀i (Q:Option Bool->SortSt->Prop),i<n->Q (some (bey rk left key arr base i)) st->wpS (model prog w) A E s (elem' arr (base+i) >>= fun x=>if left=true then lt' x key else lt' key x >>= fun r=>pure (r.map fun b=>!b)) Q st:=fun i Q hi q=>zyf hc hk kin ain (by omega) q
 unfold gal
 refine wpS_bind (ask hint _ hh ?_)
 dsimp only
 rcases hr:bey rk left key arr base hint with _ | _
 case' true=>
  rw [if_pos rfl]
  refine wpS_bind (zud (fun l o=>(none,l,o)) st (fun o=>bey rk left key arr base (hint+o)) (M:=n - hint) hr (by omega) (by omega) (fun x last ofs Q a b q=>?_) (fun x last ofs Q a q=>?_) fun last ofs a b c d=>?_)
  . dsimp only
    rw [if_neg (by omega)]
    refine wpS_bind (ask _ _ (by omega) ?_)
    dsimp only
    cases e:bey rk left key arr base (hint+ofs)<;>rw [e] at q<;>exact wpS_pure q
  . dsimp only
    rw [if_pos (by omega)]
    exact wpS_pure q
  dsimp only
  obtain ⟨lo,hi,elo,ehi,b1,b2,b3,b4⟩:∃lo hi,lo=hint+last+1/\hi=hint+min ofs (n - hint)/\lo<=hi/\hi<=n/\(∀i,i<lo->bey rk left key arr base i=true)/\∀i,hi<=i->i<n->bey rk left key arr base i=false:=
   ⟨_,_,rfl,rfl,by omega,by omega,fun i z=>mono i (hint+last) (by omega) (by omega) c,fun i y z=>anti (hint+ofs) i (by omega) z (d (by omega))⟩
  rw [<-elo,<-ehi]
  clear elo ehi c d
 case' false=>
  rw [if_neg Bool.false_ne_true]
  refine wpS_bind (zud (fun l o=>(none,l,o)) st (fun o=>!bey rk left key arr base (hint - o)) (M:=hint+1) (by rw [Nat.sub_zero,hr];rfl) (by omega) (by omega) (fun x last ofs Q a b q=>?_) (fun x last ofs Q a q=>?_) fun last ofs a b c d=>?_)
  . dsimp only
    rw [if_neg (by omega)]
    refine wpS_bind (ask _ _ (by omega) ?_)
    dsimp only
    cases e:bey rk left key arr base (hint - ofs)<;>rw [e] at q<;>exact wpS_pure q
  . dsimp only
    rw [if_pos (by omega)]
    exact wpS_pure q
  dsimp only
  obtain ⟨lo,hi,elo,ehi,b1,b2,b3,b4⟩:∃lo hi,lo=hint+1 - min ofs (hint+1)/\hi=hint - last/\lo<=hi/\hi<=n/\(∀i,i<lo->bey rk left key arr base i=true)/\∀i,hi<=i->i<n->bey rk left key arr base i=false:=
   ⟨_,_,rfl,rfl,by omega,by omega,fun i z=>mono i (hint - ofs) (by omega) (by omega) (by simpa using d (by omega)),fun i y z=>anti (hint - last) i (by omega) z (by simpa using c)⟩
  rw [<-elo,<-ehi]
  clear elo ehi c d
 all_goals
  refine wpS_bind (zm4 (fun l r=>(none,l,r)) st (fun l r=>l+(r - l) / 2) (bey rk left key arr base) (fun l r _=>by omega) (fun x l r Q a b c q=>?_) (fun x l Q _ q=>?_) (fun i j _ a b c=>mono i j a (by omega) c) b1 (by omega) fun k _ hk lt gt=>?_)
  . dsimp only
    rw [if_neg (by omega)]
    refine wpS_bind (ask _ _ (by omega) ?_)
    dsimp only
    cases e:bey rk left key arr base (l+(r - l) / 2)<;>rw [e] at q<;>exact wpS_pure q
  . dsimp only
    rw [if_pos (Nat.le_refl _)]
    exact wpS_pure q
  . dsimp only
    refine wpS_pure (h k (by omega) (fun i z=>?_) fun i y z=>?_)
    . by_cases e:i<lo
      . exact b3 i e
      . exact lt i (by omega) z
    . by_cases e:i<hi
      . exact gt i y e
      . exact b4 i (by omega) z
end
section
variable {R:Keyed->Keyed->Prop}
def AscR (R:Keyed->Keyed->Prop) (l:List Keyed):Prop:=l.Pairwise R
structure MR (R:Keyed->Keyed->Prop) (A B out:List Keyed) (ia ib:Nat):Prop where
 perm:out.Perm (A.take ia++B.take ib)
 asc:AscR R out
 la:∀x∈out,∀y∈A.drop ia,R x y
 lb:∀x∈out,∀y∈B.drop ib,R x y
theorem AscR.drop {l:List Keyed} (h:AscR R l) (n:Nat):AscR R (l.drop n):=h.sublist (List.drop_sublist _ _)
theorem AscR.take {l:List Keyed} (h:AscR R l) (n:Nat):AscR R (l.take n):=h.sublist (List.take_sublist _ _)
theorem drop_take (l:List Keyed) (n k:Nat):l.drop n=(l.drop n).take k++l.drop (n+k):=by
 rw [<-List.drop_drop,List.take_append_drop]
theorem zhc (l:List Keyed) (n k:Nat):l.take (n+k)=l.take n++(l.drop n).take k:=by
 rw [List.take_add]
variable {A B out:List Keyed} {ia ib k:Nat}
theorem MR.appA (M:MR R A B out ia ib) (hA:AscR R A) (h:∀x∈(A.drop ia).take k,∀y∈B.drop ib,R x y):MR R A B (out++(A.drop ia).take k) (ia+k) ib:=by
 have dd:=drop_take A ia k
 have sA:=hA.drop ia
 rw [dd] at sA
 have pw:=List.pairwise_append.mp sA
 refine ⟨?_,List.pairwise_append.mpr ⟨M.asc,pw.1,fun x hx y hy=>M.la x hx y (List.mem_of_mem_take hy)⟩,fun x hx y hy=>?_,fun x hx y hy=>?_⟩
 . rw [zhc]
   refine (M.perm.append_right _).trans ?_
   rw [List.append_assoc,List.append_assoc]
   exact List.perm_append_comm.append_left _
 . rcases List.mem_append.mp hx with z | z
   . exact M.la x z y (by rw [dd];exact List.mem_append_right _ hy)
   . exact pw.2.2 x z y hy
 . rcases List.mem_append.mp hx with z | z
   . exact M.lb x z y hy
   . exact h x z y hy
theorem MR.swap (M:MR R A B out ia ib):MR R B A out ib ia:=⟨M.perm.trans List.perm_append_comm,M.asc,M.lb,M.la⟩
theorem MR.appB (M:MR R A B out ia ib) (hB:AscR R B) (h:∀x∈(B.drop ib).take k,∀y∈A.drop ia,R x y):MR R A B (out++(B.drop ib).take k) ia (ib+k):=(M.swap.appA hB h).swap
theorem MR.fin (M:MR R A B out ia ib) (hA:AscR R A) (h:∀x∈A.drop ia,∀y∈B.drop ib,R x y) (hB:AscR R B):(out++A.drop ia++B.drop ib).Perm (A++B)/\AscR R (out++A.drop ia++B.drop ib):=by
 have m1:=M.appA (k:=A.length) hA (fun x hx=>h x (List.mem_of_mem_take hx))
 have e1:(A.drop ia).take A.length=A.drop ia:=List.take_of_length_le (by rw [List.length_drop];lia)
 rw [e1] at m1
 have d1:A.drop (ia+A.length)=[]:=List.drop_eq_nil_of_le (by lia)
 have m2:=m1.appB (k:=B.length) hB (fun x _ y hy=>by rw [d1] at hy;cases hy)
 have e2:(B.drop ib).take B.length=B.drop ib:=List.take_of_length_le (by rw [List.length_drop];lia)
 rw [e2] at m2
 refine ⟨m2.perm.trans ?_,m2.asc⟩
 rw [List.take_of_length_le (by lia),List.take_of_length_le (by lia)]
variable {rk:Keyed->Nat}
abbrev Asc (rk:Keyed->Nat) (l:List Keyed):Prop:=AscR (fun x y=>rk x<=rk y) l
abbrev MI (rk:Keyed->Nat) (A B out:List Keyed) (ia ib:Nat):Prop:=MR (fun x y=>rk x<=rk y) A B out ia ib
variable {a b:Array Keyed} {outA:Array Keyed}
theorem z28 (h:Asc rk a.toList) {i j:Nat} (hij:i<=j) (hj:j<a.size):tk rk a i<=tk rk a j:=by
 rw [z19 (by lia),z19 hj]
 rcases Nat.lt_or_ge i j with z | z
 . have:=List.pairwise_iff_getElem.mp h i j (by simpa using (by lia:i<a.size)) (by simpa using hj) z
   simpa using this
 . obtain rfl:i=j:=by lia
   exact Nat.le_refl _
theorem zhd {r n:Nat} (h:∀j,n<=j->j<a.size->r<=tk rk a j):∀y∈a.toList.drop n,r<=rk y:=fun y hy=>by
 obtain ⟨i,hi,e⟩:=List.mem_iff_getElem.mp hy
 rw [List.getElem_drop] at e
 have hi':n+i<a.size:=by simp at hi;lia
 have:=h (n+i) (by lia) hi'
 rw [z19 hi'] at this
 rw [<-e]
 simpa using this
theorem zhe {r n k:Nat} (h:∀i,i<k->n+i<a.size->tk rk a (n+i)<=r):∀y∈(a.toList.drop n).take k,rk y<=r:=fun y hy=>by
 obtain ⟨i,hi,e⟩:=List.mem_iff_getElem.mp hy
 rw [List.getElem_take,List.getElem_drop] at e
 simp only [List.length_take,List.length_drop,Array.length_toList] at hi
 have hi':n+i<a.size:=by omega
 have:=h i (by omega) hi'
 rw [z19 hi'] at this
 rw [<-e]
 simpa using this
abbrev MA (rk:Keyed->Nat) (a b out:Array Keyed) (ia ib:Nat):Prop:=MI rk a.toList b.toList out.toList ia ib
theorem zp9 (n k:Nat):(a.extract n (n+k)).toList=(a.toList.drop n).take k:=by
 rw [Array.toList_extract,List.extract_eq_take_drop,Nat.add_sub_cancel_left]
theorem z95 (n:Nat):(a.extract n a.size).toList=a.toList.drop n:=by
 rw [Array.toList_extract,List.extract_eq_take_drop]
 refine List.take_of_length_le ?_
 simp
theorem zue {n:Nat} (h:n<a.size):(a.toList.drop n).take 1=[a[n]]:=by
 rw [List.drop_eq_getElem_cons (by simpa using h)]
 simp
theorem MI.extA (M:MA rk a b outA ia ib) (hA:Asc rk a.toList) {r:Nat} (h1:∀i,i<k->ia+i<a.size->tk rk a (ia+i)<=r) (h2:∀j,ib<=j->j<b.size->r<=tk rk b j):MA rk a b (outA++a.extract ia (ia+k)) (ia+k) ib:=by
 show MI rk a.toList b.toList (outA++a.extract ia (ia+k)).toList (ia+k) ib
 rw [Array.toList_append,zp9]
 exact MR.appA M hA fun x hx y hy=>Nat.le_trans (zhe h1 x hx) (zhd h2 y hy)
theorem MI.pushA (M:MA rk a b outA ia ib) (hA:Asc rk a.toList) (hi:ia<a.size) (h2:∀j,ib<=j->j<b.size->tk rk a ia<=tk rk b j):MA rk a b (outA.push a[ia]) (ia+1) ib:=by
 have m:=M.extA (k:=1) (r:=tk rk a ia) hA (fun i z _=>by rw [show i=0 by lia];exact Nat.le_refl _) h2
 show MI rk a.toList b.toList (outA.push a[ia]).toList (ia+1) ib
 rw [Array.toList_push,<-zue hi,<-zp9,<-Array.toList_append]
 exact m
theorem MI.swapA (M:MA rk a b outA ia ib):MA rk b a outA ib ia:=MR.swap M
theorem MI.done (M:MA rk a b outA ia ib) (hA:Asc rk a.toList) (hB:Asc rk b.toList) (h:a.size<=ia\/b.size<=ib) :
  (outA++a.extract ia a.size++b.extract ib b.size).toList.Perm (a.toList++b.toList)/\Asc rk (outA++a.extract ia a.size++b.extract ib b.size).toList:=by
 rw [Array.toList_append,Array.toList_append,z95,z95]
 refine MR.fin M hA (fun x hx y hy=>?_) hB
 rcases h with z | z
 . rw [List.drop_eq_nil_of_le (by simpa using z)] at hx;cases hx
 . rw [List.drop_eq_nil_of_le (by simpa using z)] at hy;cases hy
theorem MI.last (M:MA rk a b outA ia ib) (hA:Asc rk a.toList) (hB:Asc rk b.toList) (h:∀x∈b.toList.drop ib,∀y∈a.toList.drop ia,rk x<=rk y) :
  (outA++b.extract ib b.size++a.extract ia a.size).toList.Perm (a.toList++b.toList)/\Asc rk (outA++b.extract ib b.size++a.extract ia a.size).toList:=by
 rw [Array.toList_append,Array.toList_append,z95,z95]
 have:=MR.fin M.swap hB h hA
 exact ⟨this.1.trans List.perm_append_comm,this.2⟩
end
section
variable {prog:Program} {w:World} {A:Around} {E:Value->Shared->Prop} {s:Shared} {κ:SortKind} {a₀:Array Keyed} {rk:Keyed->Nat}
noncomputable def mlo:Array Keyed->Array Keyed->StateT SortSt Sem (Array Keyed):=sortPriv% PySem.Builtin.mergeLo
structure GS (st u:SortSt):Prop where
 kind:kindOf u=kindOf st
 arr:arrOf u=arrOf st
 pend:pendingOf u=pendingOf st
 ok:failedOf u=failedOf st
theorem GS.refl (st:SortSt):GS st st:=⟨rfl,rfl,rfl,rfl⟩
theorem GS.g {st u:SortSt} (h:GS st u) (n:Nat):GS st (SortSt.mk' (kindOf u) (arrOf u) (pendingOf u) n (failedOf u)):=⟨h.kind,h.arr,h.pend,h.ok⟩
section
variable {α:Type} {Q:α->SortSt->Prop} {st:SortSt}
theorem z1a {τ:Sort _} {F:τ} {B:τ->StateT SortSt Sem α} (h:wpS (model prog w) A E s (B F) Q st):wpS (model prog w) A E s (have jp:=F;B jp) Q st:=h
theorem zdo {β:Type} {g:β->StateT SortSt Sem α} {p:Prop} [Decidable p] {x y:β} (h:∀m,wpS (model prog w) A E s (g m) Q st):wpS (model prog w) A E s (if p then g x else g y) Q st:=by
 split
 . exact h _
 . exact h _
theorem z96 {β γ:Type} {t:StateT SortSt Sem α} (g:β->γ->StateT SortSt Sem α) (R:β->γ->Prop) (hF:∀o i,R o i->wpS (model prog w) A E s (g o i) Q st) (h:(∀o i,R o i->wpS (model prog w) A E s (g o i) Q st)->wpS (model prog w) A E s t Q st):wpS (model prog w) A E s t Q st:=h hF
end
theorem y0t (hc:z5j prog w A E s κ a₀ rk) {st:SortSt} (hk:kindOf st=κ) {a b:Array Keyed} (ain:∀x∈a,x∈a₀) (bin:∀x∈b,x∈a₀) (hA:Asc rk a.toList) (hB:Asc rk b.toList) (na:0<a.size) (nb:0<b.size)
  (first:∀j,j<a.size->tk rk b 0<=tk rk a j) (last:∀j,j<b.size->tk rk b j<=tk rk a (a.size - 1)) {Q:Array Keyed->SortSt->Prop}
  (h:∀out u,GS st u->out.toList.Perm (a.toList++b.toList)/\Asc rk out.toList->Q out u):wpS (model prog w) A E s (mlo a b) Q st:=by
 have M0:MA rk a b #[b[0]] 0 1:=(MI.pushA (outA:=#[]) (ia:=0) (ib:=0) (show MA rk b a #[] 0 0 from ⟨.refl _,.nil,fun x hx=>absurd hx List.not_mem_nil,fun x hx=>absurd hx List.not_mem_nil⟩) hB nb fun j _ hj=>first j hj).swapA
 have lastA:∀{out:Array Keyed} {ia ib:Nat},MA rk a b out ia ib->ia+1=a.size->(out++b.extract ib b.size++a.extract ia a.size).toList.Perm (a.toList++b.toList)/\Asc rk (out++b.extract ib b.size++a.extract ia a.size).toList:=fun {out ia ib} M e=>by
  refine M.last hA hB fun x hx y hy=>?_
  refine zhd (fun j h1 h2=>?_) y hy
  obtain ⟨i,hi,ex⟩:=List.mem_iff_getElem.mp (List.mem_of_mem_drop hx)
  have hi':i<b.size:=by simpa using hi
  have:=last i hi'
  rw [z19 hi'] at this
  rw [show j=a.size - 1 by lia,<-ex]
  simpa using this
 unfold mlo
 refine wpS_bind (z84 ?_)
 iterate 3 refine z1a ?_
 refine wpS_bind (z0u nb ?_)
 iterate 3 refine z1a ?_
 by_cases e1:1=b.size
 . rw [if_pos (by simp [<-e1])]
   exact wpS_pure (h _ st (.refl _) (M0.done hA hB (.inr (by lia))))
 rw [if_neg (by simpa using e1)]
 by_cases e2:0+1=a.size
 . rw [if_pos (by simp [<-e2])]
   exact wpS_pure (h _ st (.refl _) (lastA M0 e2))
 rw [if_neg (by simpa using e2)]
 refine wpS_bind (wpS_get ?_)
 refine z1a ?_
 refine wpS_bind (wpS_mono (wpS_forRange (I:=fun x c u=>GS st u/\∃out ia ib g,c=(none,out,ia,ib,g)/\MA rk a b out ia ib/\ia+1<a.size/\ib<b.size/\x+1<=ia+ib)
  (Q:=fun c u=>GS st u/\∃r t,c=(some r,t)/\r.toList.Perm (a.toList++b.toList)/\Asc rk r.toList) ?step ?fin ⟨.refl _,_,0,1,_,rfl,M0,by lia,by lia,by lia⟩) ?post)
 case fin=>
  rintro c u ⟨_,out,ia,ib,g,rfl,_,h1,h2,h3⟩
  simp only [Nat.zero_max] at h3
  lia
 case post=>
  rintro c u ⟨G,r,t,rfl,f⟩
  exact wpS_pure (h r u G f)
 case step=>
  rintro x c u _ _ ⟨G,out,ia,ib,g,rfl,M,h1,h2,h3⟩
  iterate 9 refine z1a ?_
  dsimp -zetaHave only
  refine wpS_bind (wpS_mono (wpS_forRange (I:=fun y c v=>v=u/\∃out ia ib ac bc,c=(none,out,ia,ib,ac,bc)/\MA rk a b out ia ib/\ia+1<a.size/\ib<b.size/\x+1+y<=ia+ib)
   (Q:=fun c v=>v=u/\((∃r t,c=(some r,t)/\r.toList.Perm (a.toList++b.toList)/\Asc rk r.toList)\/∃out ia ib ac bc,c=(none,out,ia,ib,ac,bc)/\MA rk a b out ia ib/\ia+1<a.size/\ib<b.size/\x+2<=ia+ib))
   ?walk ?wfin ⟨rfl,out,ia,ib,0,0,rfl,M,h1,h2,by lia⟩) ?wpost)
  case wfin=>
   rintro c v ⟨rfl,out,ia,ib,ac,bc,rfl,M,h1,h2,h3⟩
   simp only [Nat.zero_max] at h3
   exact ⟨rfl,.inr ⟨out,ia,ib,ac,bc,rfl,M,h1,h2,by lia⟩⟩
  case walk=>
   rintro y c v _ _ ⟨rfl,out,ia,ib,ac,bc,rfl,M,h1,h2,h3⟩
   iterate 9 refine z1a ?_
   dsimp -zetaHave only
   refine wpS_bind (z0u h2 (wpS_bind (z0u (show ia<a.size by lia) (wpS_bind (hc _ _ (bin _ (Array.getElem_mem _)) (ain _ (Array.getElem_mem _)) _ _ (G.kind.trans hk) ?_)))))
   rw [<-z19 (rk:=rk),<-z19 (rk:=rk)]
   by_cases l:tk rk b ib<tk rk a ia
   . rw [decide_eq_true l]
     dsimp -zetaHave only
     rw [if_pos rfl]
     have M':=(MI.pushA M.swapA hB h2 fun j z1 z2=>Nat.le_trans (Nat.le_of_lt l) (z28 hA z1 z2)).swapA
     refine wpS_bind (z0u h2 ?_)
     iterate 4 refine z1a ?_
     by_cases f1:ib+1=b.size
     . rw [if_pos (by simpa using f1)]
       exact wpS_pure ⟨rfl,.inl ⟨_,_,rfl,M'.done hA hB (.inr (by lia))⟩⟩
     rw [if_neg (by simpa using f1)]
     split
     . exact wpS_pure ⟨rfl,.inr ⟨_,_,_,_,_,rfl,M',h1,by lia,by lia⟩⟩
     . exact wpS_pure ⟨rfl,_,_,_,_,_,rfl,M',h1,by lia,by lia⟩
   . rw [decide_eq_false l]
     dsimp -zetaHave only
     rw [if_neg Bool.false_ne_true]
     have M':=MI.pushA M hA (by lia) fun j z1 z2=>Nat.le_trans (Nat.not_lt.mp l) (z28 hB z1 z2)
     refine wpS_bind (z0u (show ia<a.size by lia) ?_)
     iterate 4 refine z1a ?_
     by_cases f1:ia+1+1=a.size
     . rw [if_pos (by simpa using f1)]
       exact wpS_pure ⟨rfl,.inl ⟨_,_,rfl,lastA M' f1⟩⟩
     rw [if_neg (by simpa using f1)]
     split
     . exact wpS_pure ⟨rfl,.inr ⟨_,_,_,_,_,rfl,M',by lia,h2,by lia⟩⟩
     . exact wpS_pure ⟨rfl,_,_,_,_,_,rfl,M',by lia,h2,by lia⟩
  case wpost=>
   rintro c v ⟨rfl,⟨r,t,rfl,f⟩ | ⟨out,ia,ib,ac,bc,rfl,M,h1,h2,h3⟩⟩
   . exact wpS_pure ⟨G,r,_,rfl,f⟩
   iterate 10 refine z1a ?_
   dsimp -zetaHave only
   refine wpS_bind (z84 ?_)
   refine z1a ?_
   refine wpS_bind (wpS_mono (wpS_forRange (I:=fun _ c v=>GS st v/\∃out ia ib mg ac bc,c=(none,out,ia,ib,mg,ac,bc)/\MA rk a b out ia ib/\ia+1<a.size/\ib<b.size/\x+2<=ia+ib)
    (Q:=fun c v=>GS st v/\((∃r t,c=(some r,t)/\r.toList.Perm (a.toList++b.toList)/\Asc rk r.toList)\/∃out ia ib mg ac bc,c=(none,out,ia,ib,mg,ac,bc)/\MA rk a b out ia ib/\ia+1<a.size/\ib<b.size/\x+2<=ia+ib))
    ?jump (fun c v hI=>⟨hI.1,.inr hI.2⟩) ⟨G,out,ia,ib,_,ac,bc,rfl,M,h1,h2,h3⟩) ?jpost)
   case jpost=>
    rintro c v2 ⟨G2,⟨r,t,rfl,f⟩ | ⟨out,ia,ib,mg,ac,bc,rfl,M,h1,h2,h3⟩⟩
    . exact wpS_pure ⟨G2,r,_,rfl,f⟩
    . exact wpS_bind (wpS_modify (wpS_pure ⟨G2.g _,out,ia,ib,_,rfl,M,h1,h2,by lia⟩))
   case jump=>
    clear M h1 h2 h3 out ia ib ac bc
    rintro y c v2 _ _ ⟨G2,out,ia,ib,mg,ac,bc,rfl,M,h1,h2,h3⟩
    extract_lets s1 o1 s2 i1 s3 b1 s4 m1 s5 a1 c1 ib1 jp mg1
    have N:MA rk a b o1 i1 b1/\i1+1<a.size/\b1<b.size/\x+2<=i1+b1:=⟨M,h1,h2,h3⟩
    have eib:ib1=b1+1:=rfl
    clear M h1 h2 h3
    clear_value o1 i1 b1 m1 a1 c1 ib1
    obtain ⟨M,h1,h2,h3⟩:=N
    refine zdo (g:=jp ⟨⟩) fun m=>?_
    refine wpS_bind (wpS_modify ?_)
    refine wpS_bind (z0u h2 ?_)
    refine wpS_bind (zel hc (by exact G2.kind.trans hk) (bin _ (Array.getElem_mem _)) ain (by lia) (by lia) (fun i j z1 z2 z3=>?_) fun k hkn lt gt=>?_)
    . unfold bey at z3 ⊢
      rw [if_neg Bool.false_ne_true] at z3 ⊢
      have:=z28 hA (show i1+i<=i1+j by lia) (by lia)
      simp only [Bool.not_eq_true',decide_eq_false_iff_not] at z3 ⊢
      lia
    dsimp -zetaHave only
    have cb:i1+k<a.size->tk rk b b1<=tk rk a (i1+k):=fun z=>by
     have:=gt k (Nat.le_refl _) (by lia)
     unfold bey at this
     rw [if_neg Bool.false_ne_true,<-z19 (rk:=rk)] at this
     simp only [Bool.not_eq_false',decide_eq_true_eq] at this
     lia
    have ca:∀i,i<k->i1+i<a.size->tk rk a (i1+i)<=tk rk b b1:=fun i z _=>by
     have:=lt i z
     unfold bey at this
     rw [if_neg Bool.false_ne_true,<-z19 (rk:=rk)] at this
     simp only [Bool.not_eq_true',decide_eq_false_iff_not] at this
     lia
    have M1:=MI.extA (k:=k) M hA ca fun j z1 z2=>z28 hB z1 z2
    clear ca lt gt
    extract_lets ac2 jq o2 i2
    refine z96 (jq ⟨⟩) (fun out1 ia1=>MA rk a b out1 ia1 b1/\ia1+1<a.size/\tk rk b b1<=tk rk a ia1/\x+2<=ia1+b1) (fun out1 ia1 z=>?_) fun J=>?_
    rotate_left
    . have ei:i2=i1+k:=rfl
      split
      . by_cases f1:i2+1=a.size
        . rw [if_pos (by simpa using f1)]
          exact wpS_pure ⟨G2.g _,.inl ⟨_,_,rfl,lastA M1 f1⟩⟩
        rw [if_neg (by simpa using f1)]
        by_cases f2:i2=a.size
        . rw [if_pos (by simpa using f2)]
          exact wpS_pure ⟨G2.g _,.inl ⟨_,_,rfl,M1.done hA hB (.inl (by lia))⟩⟩
        rw [if_neg (by simpa using f2)]
        exact J _ _ ⟨M1,by lia,cb (by lia),by lia⟩
      . exact J o1 i1 ⟨M,h1,by have:=cb (by lia);rwa [show i1+k=i1 by lia] at this,h3⟩
    clear M M1 cb h1 h3 o2 i2
    obtain ⟨M2,q1,r1,p1⟩:=z
    refine wpS_bind (z0u h2 ?_)
    extract_lets o3 ia2
    have M3:=(MI.pushA M2.swapA hB h2 fun j z1 z2=>Nat.le_trans r1 (z28 hA z1 z2)).swapA
    rw [<-eib] at M3
    have M3:MA rk a b o3 ia1 ib1:=M3
    clear_value o3
    by_cases f3:ib1=b.size
    . rw [if_pos (by simpa using f3)]
      exact wpS_pure ⟨G2.g _,.inl ⟨_,_,rfl,M3.done hA hB (.inr (by lia))⟩⟩
    rw [if_neg (by simpa using f3)]
    have hi1:ia1<a.size:=by lia
    refine wpS_bind (z0u hi1 ?_)
    refine wpS_bind (zel hc (by exact G2.kind.trans hk) (ain _ (Array.getElem_mem _)) bin (by lia) (by lia) (fun i j z1 z2 z3=>?_) fun k2 hkn lt gt=>?_)
    . unfold bey at z3 ⊢
      rw [if_pos rfl] at z3 ⊢
      have:=z28 hB (show ib1+i<=ib1+j by lia) (by lia)
      simp only [decide_eq_true_eq] at z3 ⊢
      lia
    dsimp -zetaHave only
    have cb:ib1+k2<b.size->tk rk a ia1<=tk rk b (ib1+k2):=fun z=>by
     have:=gt k2 (Nat.le_refl _) (by lia)
     unfold bey at this
     rw [if_pos rfl,<-z19 (rk:=rk)] at this
     simp only [decide_eq_false_iff_not] at this
     lia
    have ca:∀i,i<k2->ib1+i<b.size->tk rk b (ib1+i)<=tk rk a ia1:=fun i z _=>by
     have:=lt i z
     unfold bey at this
     rw [if_pos rfl,<-z19 (rk:=rk)] at this
     simp only [decide_eq_true_eq] at this
     lia
    have M4:=(MI.extA (k:=k2) M3.swapA hB ca fun j z1 z2=>z28 hA z1 z2).swapA
    clear ca lt gt
    extract_lets bc2 jr o4 ib2
    refine z96 (jr ⟨⟩) (fun out3 ib=>MA rk a b out3 ia1 ib/\ib<b.size/\tk rk a ia1<=tk rk b ib/\x+2<=ia1+ib) (fun out3 ib z=>?_) fun J=>?_
    rotate_left
    . have ei:ib2=ib1+k2:=rfl
      split
      . by_cases f4:ib2=b.size
        . rw [if_pos (by simpa using f4)]
          exact wpS_pure ⟨G2.g _,.inl ⟨_,_,rfl,M4.done hA hB (.inr (by lia))⟩⟩
        rw [if_neg (by simpa using f4)]
        exact J _ _ ⟨M4,by lia,cb (by lia),by lia⟩
      . exact J o3 ib1 ⟨M3,by lia,by have:=cb (by lia);rwa [show ib1+k2=ib1 by lia] at this,by lia⟩
    clear M4 M3 cb o4 ib2
    obtain ⟨M5,b2,c2,p2⟩:=z
    refine wpS_bind (z0u hi1 ?_)
    extract_lets o5
    have M6:=MI.pushA M5 hA hi1 fun j z1 z2=>Nat.le_trans c2 (z28 hB z1 z2)
    by_cases f5:ia1+1+1=a.size
    . rw [if_pos (show (ia2+1==a.size)=true by simpa using f5)]
      exact wpS_pure ⟨G2.g _,.inl ⟨_,_,rfl,lastA M6 f5⟩⟩
    rw [if_neg (show ¬(ia2+1==a.size)=true by simpa using f5)]
    split
    . exact wpS_pure ⟨G2.g _,.inr ⟨_,_,_,_,_,_,rfl,M6,by lia,b2,by lia⟩⟩
    . exact wpS_pure ⟨G2.g _,_,_,_,_,_,_,rfl,M6,by lia,b2,by lia⟩
end
section
variable {rk:Keyed->Nat} {a b outA:Array Keyed} {na nb:Nat}
abbrev MH (rk:Keyed->Nat) (a b out:Array Keyed) (na nb:Nat):Prop:=MR (fun x y=>rk y<=rk x) a.toList.reverse b.toList.reverse out.toList (a.size - na) (b.size - nb)
theorem zc6 (h:Asc rk a.toList):AscR (fun x y=>rk y<=rk x) a.toList.reverse:=List.pairwise_reverse.mpr h
theorem z3t (h:na<=a.size):a.toList.reverse.drop (a.size - na)=(a.toList.take na).reverse:=by
 rw [List.drop_reverse,Array.length_toList,show a.size - (a.size - na)=na by omega]
theorem zhf {r:Nat} (h:∀j,j<na->j<a.size->tk rk a j<=r):∀y∈a.toList.take na,rk y<=r:=by
 have:=zhe (rk:=rk) (a:=a) (n:=0) (k:=na) (r:=r) (fun i z1 z2=>by rw [Nat.zero_add];exact h i z1 (by lia))
 rwa [List.drop_zero] at this
theorem MR.extH (M:MH rk a b outA na nb) (hA:Asc rk a.toList) {p r:Nat} (hp:p<=na) (hn:na<=a.size) (hb:nb<=b.size) (h1:∀i,p<=i->i<na->r<=tk rk a i) (h2:∀j,j<nb->tk rk b j<=r):MH rk a b (outA++(a.extract p na).reverse) p nb:=by
 have e:((a.extract p na).reverse).toList=(a.toList.reverse.drop (a.size - na)).take (na - p):=by
  rw [z3t hn,Array.toList_reverse,Array.toList_extract,List.extract_eq_take_drop,List.take_reverse,List.length_take,Array.length_toList,List.drop_take]
  rw [show min na a.size - (na - p)=p by lia]
 show MR _ _ _ (outA++(a.extract p na).reverse).toList (a.size - p) (b.size - nb)
 rw [Array.toList_append,e,show a.size - p=a.size - na+(na - p) by lia]
 refine MR.appA M (zc6 hA) fun x hx y hy=>?_
 rw [<-e,Array.toList_reverse,List.mem_reverse,Array.toList_extract,List.extract_eq_take_drop] at hx
 rw [z3t hb,List.mem_reverse] at hy
 refine Nat.le_trans (zhf (fun j z _=>h2 j z) y hy) ?_
 obtain ⟨i,hi,ex⟩:=List.mem_iff_getElem.mp hx
 rw [List.getElem_take,List.getElem_drop] at ex
 simp only [List.length_take,List.length_drop,Array.length_toList] at hi
 have:=h1 (p+i) (by lia) (by lia)
 rw [z19 (show p+i<a.size by lia)] at this
 rw [<-ex]
 simpa using this
theorem MR.pushH (M:MH rk a b outA na nb) (hA:Asc rk a.toList) (h0:0<na) (hn:na<=a.size) (hb:nb<=b.size) (h2:∀j,j<nb->tk rk b j<=tk rk a (na - 1)):MH rk a b (outA.push a[na - 1]) (na - 1) nb:=by
 have m:=MR.extH M hA (p:=na - 1) (r:=tk rk a (na - 1)) (by omega) hn hb (fun i z1 z2=>by rw [show i=na - 1 by omega];exact Nat.le_refl _) h2
 have e:(a.extract (na - 1) na).reverse.toList=[a[na - 1]]:=by
  rw [Array.toList_reverse,show a.extract (na - 1) na=a.extract (na - 1) (na - 1+1) by rw [Nat.sub_add_cancel h0],zp9,zue (by omega)]
  rfl
 show MR _ _ _ (outA.push a[na - 1]).toList _ _
 rw [Array.toList_push,<-e,<-Array.toList_append]
 exact m
theorem MR.finH (M:MH rk a b outA na nb) (hA:Asc rk a.toList) (hB:Asc rk b.toList) (hn:na<=a.size) (hb:nb<=b.size) (h:∀x∈b.toList.take nb,∀y∈a.toList.take na,rk y<=rk x) :
  (a.extract 0 na++b.extract 0 nb++outA.reverse).toList.Perm (a.toList++b.toList)/\Asc rk (a.extract 0 na++b.extract 0 nb++outA.reverse).toList:=by
 have f:=MR.fin M.swap (zc6 hB) (fun x hx y hy=>?_) (zc6 hA)
 . rw [z3t hn,z3t hb] at f
   have e:(a.extract 0 na++b.extract 0 nb++outA.reverse).toList=(outA.toList++(b.toList.take nb).reverse++(a.toList.take na).reverse).reverse:=by
    have ea:∀(c:Array Keyed) (k:Nat),(c.extract 0 k).toList=c.toList.take k:=fun c k=>by
     rw [Array.toList_extract,List.extract_eq_take_drop,List.drop_zero,Nat.sub_zero]
    rw [Array.toList_append,Array.toList_append,ea,ea,Array.toList_reverse]
    simp
   rw [e]
   refine ⟨(List.reverse_perm _).trans (f.1.trans ?_),List.pairwise_reverse.mpr f.2⟩
   exact ((List.reverse_perm _).append (List.reverse_perm _)).trans List.perm_append_comm
 . rw [z3t hb,List.mem_reverse] at hx
   rw [z3t hn,List.mem_reverse] at hy
   exact h x hx y hy
end
section
variable {prog:Program} {w:World} {A:Around} {E:Value->Shared->Prop} {s:Shared} {κ:SortKind} {a₀:Array Keyed} {rk:Keyed->Nat}
noncomputable def mhi:Array Keyed->Array Keyed->StateT SortSt Sem (Array Keyed):=sortPriv% PySem.Builtin.mergeHi
theorem y0u (hc:z5j prog w A E s κ a₀ rk) {st:SortSt} (hk:kindOf st=κ) {a b:Array Keyed} (ain:∀x∈a,x∈a₀) (bin:∀x∈b,x∈a₀) (hA:Asc rk a.toList) (hB:Asc rk b.toList) (na0:0<a.size) (nb0:0<b.size)
  (first:∀j,j<a.size->tk rk b 0<=tk rk a j) (last:∀j,j<b.size->tk rk b j<=tk rk a (a.size - 1)) {Q:Array Keyed->SortSt->Prop}
  (h:∀out u,GS st u->out.toList.Perm (a.toList++b.toList)/\Asc rk out.toList->Q out u):wpS (model prog w) A E s (mhi a b) Q st:=by
 have M0:MH rk a b #[a[a.size - 1]] (a.size - 1) b.size:=MR.pushH (outA:=#[]) (na:=a.size) (nb:=b.size)
  (show MH rk a b #[] a.size b.size from ⟨by simp,.nil,fun x hx=>absurd hx List.not_mem_nil,fun x hx=>absurd hx List.not_mem_nil⟩) hA na0 (Nat.le_refl _) (Nat.le_refl _) last
 have dn:∀{out:Array Keyed} {na nb:Nat},MH rk a b out na nb->na<=a.size->nb<=b.size->(na=0\/nb=0)->(a.extract 0 na++b.extract 0 nb++out.reverse).toList.Perm (a.toList++b.toList)/\Asc rk (a.extract 0 na++b.extract 0 nb++out.reverse).toList:=fun {out na nb} M h1 h2 e=>by
  refine MR.finH M hA hB h1 h2 fun x hx y hy=>?_
  rcases e with rfl | rfl
  . rw [List.take_zero] at hy;cases hy
  . rw [List.take_zero] at hx;cases hx
 have fb:∀{out:Array Keyed} {na nb:Nat},MH rk a b out na nb->na<=a.size->nb<=b.size->nb=1->(b.extract 0 nb++a.extract 0 na++out.reverse).toList.Perm (a.toList++b.toList)/\Asc rk (b.extract 0 nb++a.extract 0 na++out.reverse).toList:=fun {out na nb} M h1 h2 e=>by
  have f:=MR.finH (a:=b) (b:=a) M.swap hB hA h2 h1 fun x hx y hy=>?_
  . exact ⟨f.1.trans List.perm_append_comm,f.2⟩
  . obtain ⟨i,hi,ex⟩:=List.mem_iff_getElem.mp (List.mem_of_mem_take hx)
    have hi':i<a.size:=by simpa using hi
    have q:=first i hi'
    rw [z19 hi'] at q
    rw [<-ex]
    refine Nat.le_trans (zhf (r:=tk rk b 0) (fun j z1 z2=>by rw [show j=0 by lia];exact Nat.le_refl _) y hy) (by simpa using q)
 unfold mhi
 refine wpS_bind (z84 ?_)
 iterate 3 refine z1a ?_
 refine wpS_bind (z0u (show a.size - 1<a.size by lia) ?_)
 iterate 3 refine z1a ?_
 by_cases e1:a.size - 1=0
 . rw [if_pos (by simpa using e1)]
   exact wpS_pure (h _ st (.refl _) (dn M0 (by lia) (Nat.le_refl _) (.inl e1)))
 rw [if_neg (by simpa using e1)]
 by_cases e2:b.size=1
 . rw [if_pos (by simpa using e2)]
   exact wpS_pure (h _ st (.refl _) (fb M0 (by lia) (Nat.le_refl _) e2))
 rw [if_neg (by simpa using e2)]
 refine wpS_bind (wpS_get ?_)
 refine z1a ?_
 refine wpS_bind (wpS_mono (wpS_forRange (I:=fun x c u=>GS st u/\∃na nb out g,c=(none,na,nb,out,g)/\MH rk a b out na nb/\(0<na/\na<=a.size)/\(1<nb/\nb<=b.size)/\na+nb+x+1<=a.size+b.size)
  (Q:=fun c u=>GS st u/\∃r t,c=(some r,t)/\r.toList.Perm (a.toList++b.toList)/\Asc rk r.toList) ?step ?fin ⟨.refl _,_,_,_,_,rfl,M0,by lia,by lia,by lia⟩) ?post)
 case fin=>
  rintro c u ⟨_,na,nb,out,g,rfl,_,h1,h2,h3⟩
  simp only [Nat.zero_max] at h3
  lia
 case post=>
  rintro c u ⟨G,r,t,rfl,f⟩
  exact wpS_pure (h r u G f)
 case step=>
  rintro x c u _ _ ⟨G,na,nb,out,g,rfl,M,h1,h2,h3⟩
  iterate 9 refine z1a ?_
  dsimp -zetaHave only
  refine wpS_bind (wpS_mono (wpS_forRange (I:=fun y c v=>v=u/\∃na nb out ac bc,c=(none,na,nb,out,ac,bc)/\MH rk a b out na nb/\(0<na/\na<=a.size)/\(1<nb/\nb<=b.size)/\na+nb+x+1+y<=a.size+b.size)
   (Q:=fun c v=>v=u/\((∃r t,c=(some r,t)/\r.toList.Perm (a.toList++b.toList)/\Asc rk r.toList)\/∃na nb out ac bc,c=(none,na,nb,out,ac,bc)/\MH rk a b out na nb/\(0<na/\na<=a.size)/\(1<nb/\nb<=b.size)/\na+nb+x+2<=a.size+b.size))
   ?walk ?wfin ⟨rfl,na,nb,out,0,0,rfl,M,h1,h2,by lia⟩) ?wpost)
  case wfin=>
   rintro c v ⟨rfl,na,nb,out,ac,bc,rfl,M,h1,h2,h3⟩
   simp only [Nat.zero_max] at h3
   exact ⟨rfl,.inr ⟨na,nb,out,ac,bc,rfl,M,h1,h2,by lia⟩⟩
  case walk=>
   rintro y c v _ _ ⟨rfl,na,nb,out,ac,bc,rfl,M,h1,h2,h3⟩
   iterate 9 refine z1a ?_
   dsimp -zetaHave only
   refine wpS_bind (z0u (show nb - 1<b.size by lia) (wpS_bind (z0u (show na - 1<a.size by lia) (wpS_bind (hc _ _ (bin _ (Array.getElem_mem _)) (ain _ (Array.getElem_mem _)) _ _ (G.kind.trans hk) ?_)))))
   rw [<-z19 (rk:=rk),<-z19 (rk:=rk)]
   by_cases l:tk rk b (nb - 1)<tk rk a (na - 1)
   . rw [decide_eq_true l]
     dsimp -zetaHave only
     rw [if_pos rfl]
     have M':=MR.pushH M hA h1.1 h1.2 h2.2 fun j z=>Nat.le_trans (z28 hB (show j<=nb - 1 by lia) (by lia)) (Nat.le_of_lt l)
     refine wpS_bind (z0u (show na - 1<a.size by lia) ?_)
     iterate 4 refine z1a ?_
     by_cases f1:na - 1=0
     . rw [if_pos (by simpa using f1)]
       exact wpS_pure ⟨rfl,.inl ⟨_,_,rfl,dn M' (by lia) h2.2 (.inl f1)⟩⟩
     rw [if_neg (by simpa using f1)]
     split
     . exact wpS_pure ⟨rfl,.inr ⟨_,_,_,_,_,rfl,M',by lia,h2,by lia⟩⟩
     . exact wpS_pure ⟨rfl,_,_,_,_,_,rfl,M',by lia,h2,by lia⟩
   . rw [decide_eq_false l]
     dsimp -zetaHave only
     rw [if_neg Bool.false_ne_true]
     have M':MH rk a b (out.push b[nb - 1]) na (nb - 1):=(MR.pushH (a:=b) (b:=a) M.swap hB (by lia) h2.2 h1.2 fun j z=>Nat.le_trans (z28 hA (show j<=na - 1 by lia) (by lia)) (Nat.not_lt.mp l)).swap
     refine wpS_bind (z0u (show nb - 1<b.size by lia) ?_)
     iterate 4 refine z1a ?_
     by_cases f1:nb - 1=1
     . rw [if_pos (by simpa using f1)]
       exact wpS_pure ⟨rfl,.inl ⟨_,_,rfl,fb M' h1.2 (by lia) f1⟩⟩
     rw [if_neg (by simpa using f1)]
     split
     . exact wpS_pure ⟨rfl,.inr ⟨_,_,_,_,_,rfl,M',h1,by lia,by lia⟩⟩
     . exact wpS_pure ⟨rfl,_,_,_,_,_,rfl,M',h1,by lia,by lia⟩
  case wpost=>
   rintro c v ⟨rfl,⟨r,t,rfl,f⟩ | ⟨na,nb,out,ac,bc,rfl,M,h1,h2,h3⟩⟩
   . exact wpS_pure ⟨G,r,_,rfl,f⟩
   iterate 10 refine z1a ?_
   dsimp -zetaHave only
   refine wpS_bind (z84 ?_)
   refine z1a ?_
   refine wpS_bind (wpS_mono (wpS_forRange (I:=fun _ c v=>GS st v/\∃na nb out mg ac bc,c=(none,na,nb,out,mg,ac,bc)/\MH rk a b out na nb/\(0<na/\na<=a.size)/\(1<nb/\nb<=b.size)/\na+nb+x+2<=a.size+b.size)
    (Q:=fun c v=>GS st v/\((∃r t,c=(some r,t)/\r.toList.Perm (a.toList++b.toList)/\Asc rk r.toList)\/∃na nb out mg ac bc,c=(none,na,nb,out,mg,ac,bc)/\MH rk a b out na nb/\(0<na/\na<=a.size)/\(1<nb/\nb<=b.size)/\na+nb+x+2<=a.size+b.size))
    ?jump (fun c v hI=>⟨hI.1,.inr hI.2⟩) ⟨G,na,nb,out,_,ac,bc,rfl,M,h1,h2,h3⟩) ?jpost)
   case jpost=>
    rintro c v2 ⟨G2,⟨r,t,rfl,f⟩ | ⟨na,nb,out,mg,ac,bc,rfl,M,h1,h2,h3⟩⟩
    . exact wpS_pure ⟨G2,r,_,rfl,f⟩
    . exact wpS_bind (wpS_modify (wpS_pure ⟨G2.g _,na,nb,out,_,rfl,M,h1,h2,by lia⟩))
   case jump=>
    clear M h1 h2 h3 out na nb ac bc
    rintro y c v2 _ _ ⟨G2,na,nb,out,mg,ac,bc,rfl,M,h1,h2,h3⟩
    extract_lets s1 n1 s2 b1 s3 o1 s4 m1 s5 a1 c1 nb1 jp mg1
    have N:MH rk a b o1 n1 b1/\(0<n1/\n1<=a.size)/\(1<b1/\b1<=b.size)/\n1+b1+x+2<=a.size+b.size:=⟨M,h1,h2,h3⟩
    have eb:nb1=b1 - 1:=rfl
    clear M h1 h2 h3
    clear_value o1 n1 b1 m1 a1 c1 nb1
    obtain ⟨M,h1,h2,h3⟩:=N
    have hb1:b1 - 1<b.size:=by lia
    refine zdo (g:=jp ⟨⟩) fun m=>?_
    refine wpS_bind (wpS_modify ?_)
    refine wpS_bind (z0u hb1 ?_)
    refine wpS_bind (zel hc (by exact G2.kind.trans hk) (bin _ (Array.getElem_mem _)) ain (by lia) (by lia) (fun i j z1 z2 z3=>?_) fun p hp lt gt=>?_)
    . unfold bey at z3 ⊢
      rw [if_neg Bool.false_ne_true] at z3 ⊢
      have:=z28 hA (show 0+i<=0+j by lia) (by lia)
      simp only [Bool.not_eq_true',decide_eq_false_iff_not] at z3 ⊢
      lia
    dsimp -zetaHave only
    have ca:∀i,p<=i->i<n1->tk rk b (b1 - 1)<=tk rk a i:=fun i z1 z2=>by
     have:=gt i z1 z2
     unfold bey at this
     rw [if_neg Bool.false_ne_true,<-z19 (rk:=rk),Nat.zero_add] at this
     simp only [Bool.not_eq_false',decide_eq_true_eq] at this
     lia
    have cb:∀i,i<p->tk rk a i<=tk rk b (b1 - 1):=fun i z=>by
     have:=lt i z
     unfold bey at this
     rw [if_neg Bool.false_ne_true,<-z19 (rk:=rk),Nat.zero_add] at this
     simp only [Bool.not_eq_true',decide_eq_false_iff_not] at this
     lia
    have M1:=MR.extH M hA (p:=p) hp h1.2 h2.2 ca fun j z=>z28 hB (show j<=b1 - 1 by lia) (by lia)
    clear ca lt gt
    extract_lets k ac2 jq o2 n2
    refine z96 (jq ⟨⟩) (fun na1 out1=>MH rk a b out1 na1 b1/\(0<na1/\na1<=a.size)/\(∀i,i<na1->tk rk a i<=tk rk b (b1 - 1))/\na1+b1+x+2<=a.size+b.size) (fun na1 out1 z=>?_) fun J=>?_
    rotate_left
    . have ek:k=n1 - p:=rfl
      split
      . by_cases f1:p=0
        . rw [if_pos (by simpa using f1)]
          exact wpS_pure ⟨G2.g _,.inl ⟨_,_,rfl,dn M1 (by lia) h2.2 (.inl f1)⟩⟩
        rw [if_neg (by simpa using f1)]
        exact J _ _ ⟨M1,by lia,cb,by lia⟩
      . exact J n1 o1 ⟨M,h1,fun i z=>cb i (by lia),h3⟩
    clear M M1 cb h1 h3 o2 n2
    obtain ⟨M2,q1,r1,p1⟩:=z
    rw [<-eb] at hb1 r1
    refine wpS_bind (z0u hb1 ?_)
    extract_lets o3 na2
    have M3:MH rk a b (out1.push b[b1 - 1]) na1 (b1 - 1):=(MR.pushH (a:=b) (b:=a) M2.swap hB (by lia) h2.2 q1.2 (eb ▸ r1)).swap
    have M3:MH rk a b o3 na1 nb1:=by subst eb;exact M3
    clear_value o3
    by_cases f3:nb1=1
    . rw [if_pos (by simpa using f3)]
      exact wpS_pure ⟨G2.g _,.inl ⟨_,_,rfl,fb M3 q1.2 (by lia) f3⟩⟩
    rw [if_neg (by simpa using f3)]
    have hi1:na1 - 1<a.size:=by lia
    refine wpS_bind (z0u hi1 ?_)
    refine wpS_bind (zel hc (by exact G2.kind.trans hk) (ain _ (Array.getElem_mem _)) bin (by lia) (by lia) (fun i j z1 z2 z3=>?_) fun p2 hp2 lt gt=>?_)
    . unfold bey at z3 ⊢
      rw [if_pos rfl] at z3 ⊢
      have:=z28 hB (show 0+i<=0+j by lia) (by lia)
      simp only [decide_eq_true_eq] at z3 ⊢
      lia
    dsimp -zetaHave only
    have ca:∀i,p2<=i->i<nb1->tk rk a (na1 - 1)<=tk rk b i:=fun i z1 z2=>by
     have:=gt i z1 z2
     unfold bey at this
     rw [if_pos rfl,<-z19 (rk:=rk),Nat.zero_add] at this
     simp only [decide_eq_false_iff_not] at this
     lia
    have cb:∀i,i<p2->tk rk b i<=tk rk a (na1 - 1):=fun i z=>by
     have:=lt i z
     unfold bey at this
     rw [if_pos rfl,<-z19 (rk:=rk),Nat.zero_add] at this
     simp only [decide_eq_true_eq] at this
     lia
    have M4:MH rk a b (o3++(b.extract p2 nb1).reverse) na1 p2:=(MR.extH (a:=b) (b:=a) M3.swap hB (p:=p2) hp2 (by lia) q1.2 ca fun j z=>z28 hA (show j<=na1 - 1 by lia) (by lia)).swap
    clear ca lt gt
    extract_lets k2 bc2 jr o4 nb2
    refine z96 (jr ⟨⟩) (fun nb out3=>MH rk a b out3 na1 nb/\(1<nb/\nb<=b.size)/\(∀i,i<nb->tk rk b i<=tk rk a (na1 - 1))/\na1+nb+x+2<=a.size+b.size) (fun nb out3 z=>?_) fun J=>?_
    rotate_left
    . have ek:k2=nb1 - p2:=rfl
      split
      . by_cases f4:p2=1
        . rw [if_pos (by simpa using f4)]
          exact wpS_pure ⟨G2.g _,.inl ⟨_,_,rfl,fb M4 q1.2 (by lia) f4⟩⟩
        rw [if_neg (by simpa using f4)]
        by_cases f5:p2=0
        . rw [if_pos (by simpa using f5)]
          exact wpS_pure ⟨G2.g _,.inl ⟨_,_,rfl,dn M4 q1.2 (by lia) (.inr f5)⟩⟩
        rw [if_neg (by simpa using f5)]
        exact J _ _ ⟨M4,by lia,cb,by lia⟩
      . exact J nb1 o3 ⟨M3,by lia,fun i z=>cb i (by lia),by lia⟩
    clear M4 M3 cb o4 nb2
    obtain ⟨M5,b2,c2,p2⟩:=z
    refine wpS_bind (z0u hi1 ?_)
    extract_lets o5
    have M6:=MR.pushH M5 hA q1.1 q1.2 b2.2 c2
    by_cases f6:na1 - 1=0
    . rw [if_pos (show (na2==0)=true by simpa using f6)]
      exact wpS_pure ⟨G2.g _,.inl ⟨_,_,rfl,dn M6 (by lia) b2.2 (.inl f6)⟩⟩
    rw [if_neg (show ¬(na2==0)=true by simpa using f6)]
    split
    . exact wpS_pure ⟨G2.g _,.inr ⟨_,_,_,_,_,_,rfl,M6,by lia,b2,by lia⟩⟩
    . exact wpS_pure ⟨G2.g _,_,_,_,_,_,_,rfl,M6,by lia,b2,by lia⟩
end
section
variable {rk:Keyed->Nat}
theorem zm5 (c:Nat):∀(m:List Keyed) (n:Nat) (ys:Array Keyed),c+n+m.length<=ys.size ->
  ((m.zipIdx n).foldl (fun a (q:Keyed×Nat)=>a.setIfInBounds (c+q.2) q.1) ys).toList=ys.toList.take (c+n)++m++ys.toList.drop (c+n+m.length)
 | [],n,ys,_=>by simp
 | p::m,n,ys,h=>by
  simp only [List.length_cons] at h
  rw [List.zipIdx_cons,List.foldl_cons,zm5 c m (n+1) _ (by rw [Array.size_setIfInBounds];lia),Array.toList_setIfInBounds]
  have hl:c+n<ys.toList.length:=by rw [Array.length_toList];lia
  rw [show c+(n+1)=c+n+1 by lia,List.take_set,List.drop_set_of_lt (by lia),List.take_succ_eq_append_getElem hl,List.set_append_right _ _ (by rw [List.length_take];lia)]
  rw [List.length_take,show c+n - min (c+n) ys.toList.length=0 by lia,List.set_cons_zero,List.length_cons,show c+n+1+m.length=c+n+(m.length+1) by lia]
  simp
structure Seg (xs:Array Keyed) (pre X post:List Keyed):Prop where
 eq:xs.toList=pre++X++post
variable {xs:Array Keyed} {pre X post:List Keyed}
theorem Seg.size (S:Seg xs pre X post):xs.size=pre.length+X.length+post.length:=by
 rw [<-Array.length_toList,S.eq,List.length_append,List.length_append]
theorem Seg.at (S:Seg xs pre X post) {i:Nat} (h:i<X.length):∃hh:pre.length+i<xs.size,xs[pre.length+i]=X[i]:=by
 refine ⟨by rw [S.size];lia,?_⟩
 rw [<-Array.getElem_toList]
 simp only [S.eq]
 rw [List.getElem_append_left (by rw [List.length_append];lia),List.getElem_append_right (by lia)]
 simp
theorem Seg.tk (S:Seg xs pre X post) {i:Nat} (h:i<X.length):tk rk xs (pre.length+i)=rk X[i]:=by
 obtain ⟨hh,e⟩:=S.at h
 rw [z19 hh,e]
theorem Asc.at {l:List Keyed} (h:Asc rk l) {i j:Nat} (hij:i<=j) (hj:j<l.length):rk l[i]<=rk l[j]:=by
 rcases Nat.lt_or_ge i j with z | z
 . exact List.pairwise_iff_getElem.mp h i j (by lia) hj z
 . obtain rfl:i=j:=by lia
   exact Nat.le_refl _
theorem Seg.ext (S:Seg xs pre X post) (k m:Nat) (h:k<=m) (hm:m<=X.length):(xs.extract (pre.length+k) (pre.length+m)).toList=(X.drop k).take (m - k):=by
 rw [Array.toList_extract,List.extract_eq_take_drop,S.eq,List.append_assoc,<-List.drop_drop,List.drop_left,List.drop_append_of_le_length (by lia),show pre.length+m - (pre.length+k)=m - k by lia,
  List.take_append_of_le_length (by rw [List.length_drop];lia)]
end
section
variable {prog:Program} {w:World} {A:Around} {E:Value->Shared->Prop} {s:Shared} {κ:SortKind} {a₀:Array Keyed} {rk:Keyed->Nat}
theorem zzu {a:Array Keyed} {l:List Keyed} (e:a.toList=l) {i:Nat} (h:i<l.length):tk rk a i=rk l[i]:=by
 subst e
 rw [z19 (by simpa using h)]
 simp
theorem zyg {U:Type} {M:Model} {v st:U} {Q:PUnit->U->Prop} (h:Q ⟨⟩ v):wpS M A E s (set v:StateT U Sem PUnit) Q st:=by
 unfold wpS;rw [StateT.run_set];exact wpAny_pure ⟨rfl,h⟩
theorem y0v (hc:z5j prog w A E s κ a₀ rk) {st:SortSt} (B:TBs κ a₀ st) {L R:List (Nat×Nat×Nat)} {pw pw':Nat} {pre X Y post:List Keyed} (hP:(pendingOf st).toList=L++(pre.length,X.length,pw)::(pre.length+X.length,Y.length,pw')::R)
  (hx:(arrOf st).toList=pre++X++(Y++post)) (aX:Asc rk X) (aY:Asc rk Y) (nX:0<X.length) (nY:0<Y.length) {Q:Bool->SortSt->Prop}
  (h:∀u Z,TBs κ a₀ u->(pendingOf u).toList=L++(pre.length,X.length+Y.length,pw)::R->(arrOf u).toList=pre++Z++post->Asc rk Z->Z.length=X.length+Y.length->Q true u):wpS (model prog w) A E s (mergeAt' L.length) Q st:=by
 have S1:Seg (arrOf st) pre X (Y++post):=⟨hx⟩
 have S2:Seg (arrOf st) (pre++X) Y post:=⟨by rw [hx,<-List.append_assoc]⟩
 have l2:(pre++X).length=pre.length+X.length:=List.length_append
 have p1:(pendingOf st)[L.length]?=some (pre.length,X.length,pw):=by rw [<-Array.getElem?_toList,hP];simp
 have p2:(pendingOf st)[L.length+1]?=some (pre.length+X.length,Y.length,pw'):=by rw [<-Array.getElem?_toList,hP];simp
 have pn:(((pendingOf st).setIfInBounds L.length (pre.length,X.length+Y.length,pw)).eraseIdxIfInBounds (L.length+1)).toList=L++(pre.length,X.length+Y.length,pw)::R:=by
  rw [Array.toList_eraseIdxIfInBounds,Array.toList_setIfInBounds,hP]
  simp [List.eraseIdx_append_of_length_le]
 unfold mergeAt'
 refine wpS_bind (wpS_get ?_)
 dsimp only
 rw [p1,p2]
 dsimp only
 refine wpS_bind (zyg ?_)
 have z0:pre.length+X.length<(arrOf st).size:=by rw [S1.size,List.length_append];lia
 refine wpS_bind (z0u z0 ?_)
 have kin:∀x∈arrOf st,x∈a₀:=fun x hx=>B.mem hx
 have hX:=S1.size
 rw [List.length_append] at hX
 have vX:∀{i:Nat} (hi:i<X.length),tk rk (arrOf st) (pre.length+i)=rk X[i]:=fun hi=>S1.tk hi
 have vY:∀{i:Nat} (hi:i<Y.length),tk rk (arrOf st) (pre.length+X.length+i)=rk Y[i]:=fun {i} hi=>by have:=S2.tk (rk:=rk) hi;rwa [l2] at this
 have ky:rk (arrOf st)[pre.length+X.length]=rk Y[0]:=by rw [<-z19 (rk:=rk) z0];exact vY nY
 refine wpS_bind (zel hc (by exact B.kind) (kin _ (Array.getElem_mem _)) kin (by lia) nX (fun i j z1 z2 z3=>?_) fun k hkn lt gt=>?_)
 . unfold bey at z3 ⊢
   rw [if_neg Bool.false_ne_true] at z3 ⊢
   rw [vX (by lia)] at z3 ⊢
   have:=aX.at z1 z2
   simp only [Bool.not_eq_true',decide_eq_false_iff_not] at z3 ⊢
   lia
 dsimp only
 have ca:∀i (hi:i<X.length),i<k->rk X[i]<=rk Y[0]:=fun i hi z=>by
  have:=lt i z
  unfold bey at this
  rw [if_neg Bool.false_ne_true,vX hi,ky] at this
  simp only [Bool.not_eq_true',decide_eq_false_iff_not] at this
  lia
 have cb:∀i (hi:i<X.length),k<=i->rk Y[0]<rk X[i]:=fun i hi z=>by
  have:=gt i z hi
  unfold bey at this
  rw [if_neg Bool.false_ne_true,vX hi,ky] at this
  simpa using this
 have finXY:(∀i (hi:i<X.length) j (hj:j<Y.length),rk X[i]<=rk Y[j])->Asc rk (X++Y):=fun q=>by
  refine List.pairwise_append.mpr ⟨aX,aY,fun x hx y hy=>?_⟩
  obtain ⟨i,hi,rfl⟩:=List.mem_iff_getElem.mp hx
  obtain ⟨j,hj,rfl⟩:=List.mem_iff_getElem.mp hy
  exact q i hi j hj
 by_cases e1:X.length - k=0
 . rw [if_pos (by simpa using e1)]
   exact wpS_pure (h _ (X++Y) ⟨B.perm,B.kind,B.ok⟩ pn (by show (arrOf st).toList=_;rw [hx];simp) (finXY fun i hi j hj=>Nat.le_trans (ca i hi (by lia)) (aY.at (Nat.zero_le _) hj)) List.length_append)
 rw [if_neg (by simpa using e1)]
 have z1:pre.length+k+(X.length - k) - 1<(arrOf st).size:=by lia
 refine wpS_bind (z0u z1 ?_)
 have kx:rk (arrOf st)[pre.length+k+(X.length - k) - 1]=rk X[X.length - 1]:=by
  rw [<-z19 (rk:=rk) z1,show pre.length+k+(X.length - k) - 1=pre.length+(X.length - 1) by lia]
  exact vX (by lia)
 refine wpS_bind (zel hc (by exact B.kind) (kin _ (Array.getElem_mem _)) kin (by lia) (by lia) (fun i j z1 z2 z3=>?_) fun m hm lt2 gt2=>?_)
 . unfold bey at z3 ⊢
   rw [if_pos rfl] at z3 ⊢
   rw [vY (by lia)] at z3 ⊢
   have:=aY.at z1 z2
   simp only [decide_eq_true_eq] at z3 ⊢
   lia
 dsimp only
 have da:∀j (hj:j<Y.length),j<m->rk Y[j]<rk X[X.length - 1]:=fun j hj z=>by
  have:=lt2 j z
  unfold bey at this
  rw [if_pos rfl,vY hj,kx] at this
  simpa using this
 have db:∀j (hj:j<Y.length),m<=j->rk X[X.length - 1]<=rk Y[j]:=fun j hj z=>by
  have:=gt2 j z hj
  unfold bey at this
  rw [if_pos rfl,vY hj,kx] at this
  simp only [decide_eq_false_iff_not] at this
  lia
 by_cases e2:m=0
 . rw [if_pos (by simpa using e2)]
   exact wpS_pure (h _ (X++Y) ⟨B.perm,B.kind,B.ok⟩ pn (by show (arrOf st).toList=_;rw [hx];simp) (finXY fun i hi j hj=>Nat.le_trans (aX.at (show i<=X.length - 1 by lia) (by lia)) (db j hj (by lia))) List.length_append)
 rw [if_neg (by simpa using e2)]
 have ex:((arrOf st).extract (pre.length+k) (pre.length+X.length)).toList=X.drop k:=by
  rw [S1.ext k X.length hkn (Nat.le_refl _)]
  exact List.take_of_length_le (by rw [List.length_drop];lia)
 have ey:((arrOf st).extract (pre.length+X.length) (pre.length+X.length+m)).toList=Y.take m:=by
  have:=S2.ext 0 m (Nat.zero_le _) hm
  rwa [l2,Nat.add_zero,List.drop_zero,Nat.sub_zero] at this
 generalize hx1:(arrOf st).extract (pre.length+k) (pre.length+X.length)=x1 at *
 generalize hy1:(arrOf st).extract (pre.length+X.length) (pre.length+X.length+m)=y1 at *
 have lx:x1.size=X.length - k:=by rw [<-Array.length_toList,ex,List.length_drop]
 have ly:y1.size=m:=by rw [<-Array.length_toList,ey,List.length_take];lia
 have tx:∀i,i<X.length - k->∃hi:k+i<X.length,tk rk x1 i=rk X[k+i]:=fun i hi=>⟨by lia,by rw [zzu ex (by rw [List.length_drop];exact hi),List.getElem_drop]⟩
 have ty:∀i,i<m->∃hi:i<Y.length,tk rk y1 i=rk Y[i]:=fun i hi=>⟨by lia,by rw [zzu ey (by rw [List.length_take];lia),List.getElem_take]⟩
 have xin:∀x∈x1,x∈a₀:=fun x hx=>kin x (Array.mem_def.mpr (by rw [Array.mem_def,ex] at hx;rw [S1.eq];exact List.mem_append_left _ (List.mem_append_right _ (List.mem_of_mem_drop hx))))
 have yin:∀x∈y1,x∈a₀:=fun x hx=>kin x (Array.mem_def.mpr (by rw [Array.mem_def,ey] at hx;rw [S2.eq];exact List.mem_append_left _ (List.mem_append_right _ (List.mem_of_mem_take hx))))
 have first:∀j,j<x1.size->tk rk y1 0<=tk rk x1 j:=fun j hj=>by
  obtain ⟨h1,e1⟩:=tx j (by lia)
  obtain ⟨h2,e2⟩:=ty 0 (by lia)
  rw [e1,e2];exact Nat.le_of_lt (cb _ h1 (by lia))
 have last:∀j,j<y1.size->tk rk y1 j<=tk rk x1 (x1.size - 1):=fun j hj=>by
  obtain ⟨h1,e1⟩:=tx (x1.size - 1) (by lia)
  obtain ⟨h2,e2⟩:=ty j (by lia)
  rw [e1,e2]
  have:=da j h2 (by lia)
  simp only [show k+(x1.size - 1)=X.length - 1 by lia]
  lia
 have A1:Asc rk x1.toList:=by rw [ex];exact aX.drop k
 have A2:Asc rk y1.toList:=by rw [ey];exact aY.take m
 have done:∀(out:Array Keyed) (u:SortSt),GS (SortSt.mk' (kindOf st) (arrOf st) (((pendingOf st).setIfInBounds L.length (pre.length,X.length+Y.length,pw)).eraseIdxIfInBounds (L.length+1)) (gallopOf st) (failedOf st)) u->out.toList.Perm (x1.toList++y1.toList)/\Asc rk out.toList ->
   Q (failedOf (SortSt.mk' (kindOf u) (List.foldl (fun a (q:Keyed×Nat)=>a.setIfInBounds (pre.length+k+q.2) q.1) (arrOf u) out.toList.zipIdx) (pendingOf u) (gallopOf u) (failedOf u))).isNone (SortSt.mk' (kindOf u) (List.foldl (fun a (q:Keyed×Nat)=>a.setIfInBounds (pre.length+k+q.2) q.1) (arrOf u) out.toList.zipIdx) (pendingOf u) (gallopOf u) (failedOf u)):=fun out u G f=>by
  have eu:arrOf u=arrOf st:=G.arr
  have lo:out.toList.length=X.length - k+m:=by rw [f.1.length_eq,List.length_append,ex,ey,List.length_drop,List.length_take];lia
  have en:=zm5 (pre.length+k) out.toList 0 (arrOf u) (by rw [eu];lia)
  rw [Nat.add_zero,eu,hx,lo] at en
  have t1:(pre++X++(Y++post)).take (pre.length+k)=pre++X.take k:=by
   rw [List.append_assoc,List.take_length_add_append,List.take_append_of_le_length hkn]
  have t2:(pre++X++(Y++post)).drop (pre.length+k+(X.length - k+m))=Y.drop m++post:=by
   rw [show pre.length+k+(X.length - k+m)=(pre++X).length+m by rw [l2];lia,List.drop_length_add_append,List.drop_append_of_le_length hm]
  rw [t1,t2] at en
  have ok:failedOf u=none:=G.ok.trans B.ok
  have pz:(X.take k++out.toList++Y.drop m).Perm (X++Y):=by
   refine ((f.1.append_left (X.take k)).append_right (Y.drop m)).trans ?_
   rw [ex,ey,<-List.append_assoc,List.take_append_drop,List.append_assoc,List.take_append_drop]
  rw [show (failedOf (SortSt.mk' (kindOf u) (List.foldl (fun a (q:Keyed×Nat)=>a.setIfInBounds (pre.length+k+q.2) q.1) (arrOf u) out.toList.zipIdx) (pendingOf u) (gallopOf u) (failedOf u))).isNone=true by show (failedOf u).isNone=true;rw [ok];rfl]
  refine h _ (X.take k++out.toList++Y.drop m) ⟨?_,G.kind.trans B.kind,ok⟩ (by show (pendingOf u).toList=_;rw [G.pend];exact pn) (by show (List.foldl _ (arrOf u) _).toList=_;rw [eu,en];simp) ?_ (by rw [pz.length_eq,List.length_append])
  . refine Array.perm_iff_toList_perm.mpr ?_
    show (List.foldl _ (arrOf u) _).toList.Perm _
    rw [eu,en]
    refine List.Perm.trans ?_ (Array.perm_iff_toList_perm.mp B.perm)
    rw [hx]
    have e1:pre++X.take k++out.toList++(Y.drop m++post)=pre++((X.take k++out.toList++Y.drop m)++post):=by simp
    have e2:pre++X++(Y++post)=pre++((X++Y)++post):=by simp
    rw [e1,e2]
    exact (pz.append_right _).append_left _
  . have mem1:∀y∈out.toList,(∃(i:Nat) (hi:i<X.length),k<=i/\y=X[i])\/∃(j:Nat) (hj:j<Y.length),j<m/\y=Y[j]:=fun y hy=>by
     rcases List.mem_append.mp (f.1.mem_iff.mp hy) with z | z
     . rw [ex] at z
       obtain ⟨i,hi,rfl⟩:=List.mem_iff_getElem.mp z
       rw [List.length_drop] at hi
       exact .inl ⟨k+i,by lia,by lia,List.getElem_drop⟩
     . rw [ey] at z
       obtain ⟨i,hi,rfl⟩:=List.mem_iff_getElem.mp z
       rw [List.length_take] at hi
       exact .inr ⟨i,by lia,by lia,List.getElem_take⟩
    refine List.pairwise_append.mpr ⟨List.pairwise_append.mpr ⟨aX.take k,f.2,fun x hx y hy=>?_⟩,aY.drop m,fun x hx y hy=>?_⟩
    . obtain ⟨i,hi,rfl⟩:=List.mem_iff_getElem.mp hx
      rw [List.length_take] at hi
      rw [List.getElem_take]
      rcases mem1 y hy with ⟨j,hj,z,rfl⟩ | ⟨j,hj,z,rfl⟩
      . exact aX.at (by lia) hj
      . exact Nat.le_trans (ca i (by lia) (by lia)) (aY.at (Nat.zero_le _) hj)
    . obtain ⟨j,hj,rfl⟩:=List.mem_iff_getElem.mp hy
      rw [List.length_drop] at hj
      rw [List.getElem_drop]
      rcases List.mem_append.mp hx with z | z
      . obtain ⟨i,hi,rfl⟩:=List.mem_iff_getElem.mp z
        rw [List.length_take] at hi
        rw [List.getElem_take]
        exact Nat.le_trans (ca i (by lia) (by lia)) (aY.at (Nat.zero_le _) (by lia))
      . rcases mem1 x z with ⟨i,hi,_,rfl⟩ | ⟨i,hi,q,rfl⟩
        . exact Nat.le_trans (aX.at (show i<=X.length - 1 by lia) (by lia)) (db _ (by lia) (by lia))
        . exact aY.at (by lia) (by lia)
 by_cases e3:X.length - k<=m
 . rw [if_pos e3]
   exact wpS_bind (y0t hc (by exact B.kind) xin yin A1 A2 (by lia) (by lia) first last fun out u G f=>wpS_bind (wpS_modify (wpS_bind (wpS_get (wpS_pure (done out u G f))))))
 . rw [if_neg e3]
   exact wpS_bind (y0u hc (by exact B.kind) xin yin A1 A2 (by lia) (by lia) first last fun out u G f=>wpS_bind (wpS_modify (wpS_bind (wpS_get (wpS_pure (done out u G f))))))
end
section
variable {rk:Keyed->Nat}
noncomputable def pend:Nat->List (List Keyed×Nat)->List (Nat×Nat×Nat)
 | _,[]=>[]
 | lo,(X,pw)::S=>(lo,X.length,pw)::pend (lo+X.length) S
noncomputable def z39 (S:List (List Keyed×Nat)):List Keyed:=(S.map (·.1)).flatten
theorem z1e (S T:List (List Keyed×Nat)):z39 (S++T)=z39 S++z39 T:=by simp [z39]
theorem z0f (X:List Keyed) (pw:Nat) (S:List (List Keyed×Nat)):z39 ((X,pw)::S)=X++z39 S:=by simp [z39]
theorem z3u:∀(lo:Nat) (S T:List (List Keyed×Nat)),pend lo (S++T)=pend lo S++pend (lo+(z39 S).length) T
 | lo,[],T=>by simp [pend,z39]
 | lo,(X,pw)::S,T=>by
  rw [List.cons_append,pend,pend,z3u,z0f,List.length_append,List.cons_append,Nat.add_assoc]
theorem z3v:∀(lo:Nat) (S:List (List Keyed×Nat)),(pend lo S).length=S.length
 | _,[]=>rfl
 | lo,(X,pw)::S=>by rw [pend,List.length_cons,z3v,List.length_cons]
structure Runs (rk:Keyed->Nat) (u:SortSt) (S:List (List Keyed×Nat)) (rest:List Keyed):Prop where
 arr:(arrOf u).toList=z39 S++rest
 pend:(pendingOf u).toList=L2.pend 0 S
 asc:∀X∈S,Asc rk X.1/\0<X.1.length
variable {prog:Program} {w:World} {A:Around} {E:Value->Shared->Prop} {s:Shared} {κ:SortKind} {a₀:Array Keyed}
theorem zuf (hc:z5j prog w A E s κ a₀ rk) {u:SortSt} (B:TBs κ a₀ u) {S T:List (List Keyed×Nat)} {X Y:List Keyed} {pw pw':Nat} {rest:List Keyed} (H:Runs rk u (S++(X,pw)::(Y,pw')::T) rest) {Q:Bool->SortSt->Prop}
  (h:∀v Z,TBs κ a₀ v->Runs rk v (S++(Z,pw)::T) rest->Z.length=X.length+Y.length->Q true v):wpS (model prog w) A E s (mergeAt' S.length) Q u:=by
 have aX:=H.asc (X,pw) (by simp)
 have aY:=H.asc (Y,pw') (by simp)
 have hl:(pend 0 S).length=S.length:=z3v 0 S
 rw [<-hl]
 refine y0v hc B (L:=pend 0 S) (R:=pend ((z39 S).length+X.length+Y.length) T) (pw:=pw) (pw':=pw') (pre:=z39 S) (X:=X) (Y:=Y) (post:=z39 T++rest) ?_ ?_ aX.1 aY.1 aX.2 aY.2 fun v Z B' hp ha aZ lZ=>?_
 . rw [H.pend,z3u,Nat.zero_add,pend,pend]
 . rw [H.arr,z1e,z0f,z0f];simp
 . refine h v Z B' ⟨?_,?_,fun W hW=>?_⟩ lZ
   . rw [ha,z1e,z0f];simp
   . rw [hp,z3u,Nat.zero_add,pend,lZ,Nat.add_assoc]
   . rcases List.mem_append.mp hW with z | z
     . exact H.asc W (List.mem_append_left _ z)
     . rcases List.mem_cons.mp z with rfl | z
       . exact ⟨aZ,by show 0<Z.length;rw [lZ];exact Nat.lt_of_lt_of_le aX.2 (Nat.le_add_right _ _)⟩
       . exact H.asc W (List.mem_append_right _ (.tail _ (.tail _ z)))
theorem zug {xs:Array Keyed} {lo n:Nat} (h:TSo rk xs lo (lo+n)) (hz:lo+n<=xs.size):Asc rk ((xs.toList.drop lo).take n):=by
 refine List.pairwise_iff_getElem.mpr fun i j hi hj hij=>?_
 simp only [List.length_take,List.length_drop,Array.length_toList] at hi hj
 have:=h (lo+i) (lo+j) (by lia) (by lia) (by lia)
 rw [z19 (by lia),z19 (by lia)] at this
 simpa using this
theorem Runs.few {u:SortSt} {rest:List Keyed}:∀{S:List (List Keyed×Nat)},(∀X∈S,Asc rk X.1/\0<X.1.length)->S.length<=(z39 S).length
 | [],_=>Nat.zero_le _
 | (X,pw)::S,h=>by
  have:=Runs.few (u:=u) (rest:=rest) (S:=S) fun Y hY=>h Y (.tail _ hY)
  have:=(h (X,pw) (.head _)).2
  rw [z0f,List.length_append,List.length_cons]
  simp only at this
  lia
theorem zuh {S:List (List Keyed×Nat)} {i:Nat} (h:i+1<S.length):∃S1 X pw Y pw' T,S=S1++(X,pw)::(Y,pw')::T/\S1.length=i:=by
 refine ⟨S.take i,S[i].1,S[i].2,S[i+1].1,S[i+1].2,S.drop (i+2),?_,by rw [List.length_take];lia⟩
 have e1:=List.drop_eq_getElem_cons (show i<S.length by lia)
 have e2:=List.drop_eq_getElem_cons h
 show S=S.take i++S[i]::S[i+1]::S.drop (i+1+1)
 rw [<-e2,<-e1,List.take_append_drop]
theorem zui (hc:z5j prog w A E s κ a₀ rk) {u:SortSt} (B:TBs κ a₀ u) {S:List (List Keyed×Nat)} {rest:List Keyed} (H:Runs rk u S rest) {i:Nat} (hi:i+1<S.length) {Q:Bool->SortSt->Prop}
  (h:∀v S',TBs κ a₀ v->Runs rk v S' rest->(z39 S').length=(z39 S).length->S'.length+1=S.length->Q true v):wpS (model prog w) A E s (mergeAt' i) Q u:=by
 obtain ⟨S1,X,pw,Y,pw',T,rfl,rfl⟩:=zuh hi
 refine zuf hc B H fun v Z B' H' lZ=>h v _ B' H' ?_ ?_
 . rw [z1e,z1e,z0f,z0f,z0f];simp only [List.length_append];lia
 . simp only [List.length_append,List.length_cons];lia
theorem Runs.push {v:SortSt} {S:List (List Keyed×Nat)} {Z r:List Keyed} (H:Runs rk v S (Z++r)) (a:Asc rk Z) (z:0<Z.length):Runs rk (setPending v ((pendingOf v).push ((z39 S).length,Z.length,0))) (S++[(Z,0)]) r:=by
 refine ⟨?_,?_,fun X hX=>?_⟩
 . show (arrOf v).toList=_
   rw [H.arr,z1e,z0f];simp [z39]
 . show ((pendingOf v).push _).toList=_
   rw [Array.toList_push,H.pend,z3u,Nat.zero_add];rfl
 . rcases List.mem_append.mp hX with q | q
   . exact H.asc X q
   . rw [List.mem_singleton] at q;subst q;exact ⟨a,z⟩
theorem zhg {β:Type} (f:β->β):∀(l:List β) (x:β),(l++[x]).modify l.length f=l++[f x]
 | [],_=>rfl
 | a::l,x=>by
  rw [List.cons_append,List.length_cons,List.modify_succ_cons,zhg f l x,List.cons_append]
theorem Runs.repow {v:SortSt} {S:List (List Keyed×Nat)} {r:List Keyed} (H:Runs rk v S r) (hS:S≠[]) (P:Nat):∃S',Runs rk (setPending v ((pendingOf v).modify ((pendingOf v).size - 1) fun x=>(x.1,x.2.1,P))) S' r/\z39 S'=z39 S:=by
 obtain ⟨S0,⟨X,pw⟩,rfl⟩:∃S0 t,S=S0++[t]:=⟨S.dropLast,S.getLast hS,(List.dropLast_concat_getLast hS).symm⟩
 have sz:(pendingOf v).size=S0.length+1:=by rw [<-Array.length_toList,H.pend,z3v];simp
 refine ⟨S0++[(X,P)],⟨?_,?_,fun Y hY=>?_⟩,by rw [z1e,z1e,z0f,z0f]⟩
 . show (arrOf v).toList=_
   rw [H.arr,z1e,z1e,z0f,z0f]
 . show ((pendingOf v).modify _ _).toList=_
   rw [Array.toList_modify,H.pend,sz,z3u,z3u,Nat.add_sub_cancel,<-z3v 0 S0]
   exact zhg _ _ _
 . rcases List.mem_append.mp hY with q | q
   . exact H.asc Y (List.mem_append_left _ q)
   . rw [List.mem_singleton] at q;subst q;exact H.asc (X,pw) (by simp)
theorem zyh {c:Prop} [Decidable c] {n m:Nat} (h:n=m) (h2:¬n<=1):(if c then n - 2 - 1 else n - 2)+1<m:=by split<;>omega
theorem zpa {α:Type} {Q:α->SortSt->Prop} {C:Nat->SortSt->Prop} {p:Nat->Prop} {dp:∀n,Decidable (p n)} {t g:Nat->StateT SortSt Sem α} (R:Nat->SortSt->Prop) (hg:∀m u,R m u->wpS (model prog w) A E s (g m) Q u) (ht:∀n u,C n u->p n->(∀m u,R m u->wpS (model prog w) A E s (g m) Q u)->wpS (model prog w) A E s (t n) Q u) (hn:∀n u,C n u->¬p n->R n u):∀n u,C n u->wpS (model prog w) A E s (if p n then t n else g n) Q u:=by
 intro n u c
 by_cases h:p n
 . rw [if_pos h];exact ht n u c h hg
 . rw [if_neg h];exact hg _ _ (hn n u c h)
theorem zuj (hc:z5j prog w A E s κ a₀ rk) {st:SortSt} (B:TBs κ a₀ st) (h2:2<=a₀.size) (hp:pendingOf st=#[]) {Q:Unit->SortSt->Prop} (h:∀u,TBs κ a₀ u->Asc rk (arrOf u).toList->Q () u):wpS (model prog w) A E s sortRuns' Q st:=by
 rw [sortRuns'_eq]
 refine wpS_bind (wpS_get ?_)
 dsimp only
 rw [B.size]
 refine wpS_bind (wpS_mono (wpS_forRange (I:=fun x c u=>TBs κ a₀ u/\∃lo S rest,c=(none,lo)/\Runs rk u S rest/\(z39 S).length=lo/\lo<=a₀.size/\(x<=lo\/lo=a₀.size))
  (Q:=fun c u=>TBs κ a₀ u/\∃S rest,c=(none,a₀.size)/\Runs rk u S rest/\(z39 S).length=a₀.size) ?step ?fin ⟨B,0,[],(arrOf st).toList,rfl,⟨rfl,by rw [hp];rfl,fun X hX=>absurd hX List.not_mem_nil⟩,rfl,Nat.zero_le _,.inl (Nat.le_refl _)⟩) ?post)
 case fin=>
  rintro c u ⟨B1,lo,S,rest,rfl,H,e,l1,l2⟩
  simp only [Nat.zero_max] at l2
  obtain rfl:lo=a₀.size:=by lia
  exact ⟨B1,S,rest,rfl,H,e⟩
 case post=>
  rintro c u ⟨B1,S,rest,rfl,H,e⟩
  dsimp only
  refine wpS_bind (wpS_mono (wpS_forRange (I:=fun x c v=>c=(none,())/\TBs κ a₀ v/\∃S rest,Runs rk v S rest/\(z39 S).length=a₀.size/\S.length+x<=a₀.size)
   (Q:=fun c v=>c=(none,())/\TBs κ a₀ v/\∃S rest,Runs rk v S rest/\(z39 S).length=a₀.size/\S.length<=1) (fun x c v _ _ hI=>?_) (fun c v hI=>?_) ⟨rfl,B1,S,rest,H,e,by have:=Runs.few (u:=u) (rest:=rest) H.asc;lia⟩) fun c v hI=>?_)
  . obtain ⟨rfl,B2,S,rest,H,e,l⟩:=hI
    have sz:(pendingOf v).size=S.length:=by rw [<-Array.length_toList,H.pend,z3v]
    refine wpS_bind (wpS_get ?_)
    by_cases q:(pendingOf v).size<=1
    . rw [if_pos q]
      exact wpS_pure ⟨rfl,B2,S,rest,H,e,by lia⟩
    . rw [if_neg q]
      refine wpS_bind (zui hc B2 H (zyh sz q) fun u2 S' B3 H' e' l'=>?_)
      exact wpS_pure ⟨rfl,B3,S',rest,H',e'.trans e,by lia⟩
  . obtain ⟨rfl,B2,S,rest,H,e,l⟩:=hI
    exact ⟨rfl,B2,S,rest,H,e,by simp only [Nat.zero_max] at l;lia⟩
  . obtain ⟨rfl,B2,S,rest,H,e,l⟩:=hI
    refine wpS_pure (h v B2 ?_)
    have hr:rest=[]:=by
     have:=congrArg List.length H.arr
     rw [Array.length_toList,B2.size,List.length_append,e] at this
     exact List.length_eq_zero_iff.mp (by lia)
    rw [H.arr,hr,List.append_nil]
    match S,l,H.asc with
    | [],_,_=>exact .nil
    | [(X,pw)],_,a=>rw [z0f];simpa [z39] using (a _ (.head _)).1
    | _::_::_,l,_=>simp at l
 case step=>
  rintro x c u _ _ ⟨B1,lo,S,rest,rfl,H,e,l1,l2⟩
  dsimp only
  by_cases q:lo ≥ a₀.size
  . rw [if_pos q]
    obtain rfl:lo=a₀.size:=by lia
    exact wpS_pure ⟨B1,S,rest,rfl,H,e⟩
  rw [if_neg q]
  refine wpS_bind (zp8 hc B1 (by lia) (by lia) fun n u1 n1 n2 B2 L2 so=>?_)
  dsimp only
  generalize minRun' a₀.size a₀.size 0=mr
  have hh:=And.intro n1 (And.intro n2 (And.intro B2 (And.intro L2 so)))
  clear n1 n2 B2 L2 so
  revert n u1
  refine zpa (fun m u2=>1<=m/\lo+m<=a₀.size/\TSo rk (arrOf u2) lo (lo+m)/\TBs κ a₀ u2/\TL u u2 lo) (fun m u2 hR=>?_) (fun n u1 ⟨n1,n2,B2,L2,so⟩ hn k=>?_) fun n u1 ⟨n1,n2,B2,L2,so⟩ hn=>⟨n1,by lia,so,B2,L2⟩
  rotate_left
  . refine wpS_bind (z84 ?_)
    refine wpS_bind (zye hc B2 (n:=min (a₀.size - lo) mr) (by lia) n1 (by lia) so fun u2 B3 L3 so2=>?_)
    rw [if_neg (by simp)]
    exact k _ _ ⟨by lia,by lia,so2,B3,L2.trans L3⟩
  . obtain ⟨m1,m2,so3,B3,L4⟩:=hR
    have hz:lo+m<=(arrOf u2).size:=by rw [B3.size];exact m2
    obtain ⟨Z,eZ⟩:∃Z,Z=((arrOf u2).toList.drop lo).take m:=⟨_,rfl⟩
    have aZ:Asc rk Z:=eZ ▸ zug so3 hz
    have lZ:Z.length=m:=by rw [eZ,List.length_take,List.length_drop,Array.length_toList];lia
    have H2:Runs rk u2 S (Z++(arrOf u2).toList.drop (lo+m)):=by
     refine ⟨?_,by rw [L4.pend];exact H.pend,H.asc⟩
     have t:(arrOf u2).toList.take lo=z39 S:=by
      have:(arrOf u2).toList.take lo=(arrOf u).toList.take lo:=by
       refine List.ext_getElem? fun i=>?_
       rw [List.getElem?_take,List.getElem?_take]
       by_cases z:i<lo
       . rw [if_pos z,if_pos z,Array.getElem?_toList,Array.getElem?_toList];exact L4.low i z
       . rw [if_neg z,if_neg z]
      rw [this,H.arr,<-e,List.take_left]
     rw [<-t,eZ,<-drop_take,List.take_append_drop]
    generalize (arrOf u2).toList.drop (lo+m)=r2 at H2
    refine wpS_bind (wpS_get ?_)
    have fin:∀(v:SortSt) (S':List (List Keyed×Nat)),TBs κ a₀ v->Runs rk v S' (Z++r2)->(z39 S').length=lo ->
      TBs κ a₀ (setPending v ((pendingOf v).push (lo,m,0)))/\∃lo' S'' rest,((none:Option Unit),lo+m)=(none,lo')/\Runs rk (setPending v ((pendingOf v).push (lo,m,0))) S'' rest/\(z39 S'').length=lo'/\lo'<=a₀.size/\(x+1<=lo'\/lo'=a₀.size):=fun v S' Bv Hv ev=>by
     have:=Hv.push aZ (by lia)
     rw [ev,lZ] at this
     exact ⟨⟨Bv.perm,Bv.kind,Bv.ok⟩,lo+m,_,r2,rfl,this,by rw [z1e,z0f,List.length_append,ev,List.length_append,lZ];simp [z39],m2,.inl (by lia)⟩
    cases hb:(pendingOf u2).back? with
    | none=>exact wpS_bind (wpS_modify (wpS_pure (fin u2 S B3 H2 e)))
    | some t=>
     obtain ⟨s1,n1',p1⟩:=t
     dsimp only
     have hS:S≠[]:=fun z=>by
      have:=H2.pend
      rw [z] at this
      rw [Array.toList_eq_nil_iff.mp this] at hb
      cases hb
     refine wpS_bind (wpS_mono (wpS_forRange (I:=fun _ c v=>c=(none,())/\TBs κ a₀ v/\∃S',Runs rk v S' (Z++r2)/\(z39 S').length=lo/\S'≠[])
      (Q:=fun c v=>c=(none,())/\TBs κ a₀ v/\∃S',Runs rk v S' (Z++r2)/\(z39 S').length=lo/\S'≠[]) (fun y c v _ _ hI=>?_) (fun c v hI=>hI) ⟨rfl,B3,S,H2,e,hS⟩) fun c v hI=>?_)
     . obtain ⟨rfl,Bv,S',Hv,ev,nv⟩:=hI
       refine wpS_bind (wpS_get ?_)
       have sz:(pendingOf v).size=S'.length:=by rw [<-Array.length_toList,Hv.pend,z3v]
       cases hq:(if (pendingOf v).size > 1 then (pendingOf v)[(pendingOf v).size - 2]? else none) with
       | none=>exact wpS_pure ⟨rfl,Bv,S',Hv,ev,nv⟩
       | some t=>
        obtain ⟨q1,q2,older⟩:=t
        dsimp only
        have hs:(pendingOf v).size > 1:=by
         by_cases z:(pendingOf v).size > 1
         . exact z
         . rw [if_neg z] at hq;cases hq
        split
        . exact wpS_pure ⟨rfl,Bv,S',Hv,ev,nv⟩
        . refine wpS_bind (zui hc Bv Hv (by lia) fun v2 S2 B5 H5 e5 l5=>?_)
          rw [if_neg (by simp)]
          exact wpS_pure ⟨rfl,B5,S2,H5,e5.trans ev,fun z=>by rw [z] at l5;simp at l5;lia⟩
     . obtain ⟨rfl,Bv,S',Hv,ev,nv⟩:=hI
       dsimp only
       obtain ⟨S2,H5,e5⟩:=Hv.repow nv (power' a₀.size (2 * s1+n1') (2 * s1+n1'+n1'+m) a₀.size)
       exact wpS_bind (wpS_modify (wpS_bind (wpS_modify (wpS_pure (fin _ S2 ⟨Bv.perm,Bv.kind,Bv.ok⟩ H5 (by rw [e5];exact ev))))))
end
section
variable {prog:Program} {w:World} {E:Value->Shared->Prop} {s:Shared} {A:Around}
noncomputable def z0g (h:Heap) (a:Addr) (vs:List Value):Heap:=((h.update a (Obj.mapSeq fun _=>#[])).push (seqObj "tuple" vs.toArray 0)).push (seqObj "list" #[] 0)
theorem z5k {h:Heap} {a:Addr} {vs:List Value} {n:Nat} (ho:h.get? a=some (seqObj "list" vs.toArray n)) :
  ∃k,(h.update a (Obj.mapSeq fun _=>#[])).get? a=some (seqObj "list" #[] k)/\(z0g h a vs).get? a=some (seqObj "list" #[] k):=
 ⟨_,get?_update_seq ho fun _=>#[],Heap.get?_push_of_some _ (Heap.get?_push_of_some _ (get?_update_seq ho fun _=>#[]))⟩
theorem zdp {a:Addr} {vs:List Value} {n:Nat} {P:PySem.Fin->Shared->Prop} {κ:SortKind} {rk:Keyed->Nat} (ho:s.heap.get? a=some (seqObj "list" vs.toArray n)) (h2:2<=vs.length) (hz:vs.length<=sizeLine)
  (hκ:∀(Q:SortKind->Shared->Prop),Q κ { s with heap:=z0g s.heap a vs }->wpAny (model prog w) A (keyKind' vs.toArray) Q E { s with heap:=z0g s.heap a vs })
  (hc:z5j prog w A E { s with heap:=z0g s.heap a vs } κ (pairsOf vs) rk)
  (h:∀out:Array Keyed,out.Perm (pairsOf vs)->Asc rk out.toList->P (.done (.ret .none)) { s with heap:=sortedHeap s.heap a vs (out.map (·.2)) }):wpAny (model prog w) A (Builtin.«list.sort» ⟨[.ref a],[]⟩) P E s:=by
 obtain ⟨k,k1,k2⟩:=z5k ho
 have nn:¬vs.toArray.size<2:=by rw [List.size_toArray];lia
 rw [list_sort_plain]
 refine wpAny_bind (listItems_at ho rfl (wpAny_bind (listUpdate_at ho rfl (wpAny_bind (seqEpoch_at k1 rfl (wpAny_bind (wpAny_newTuple (wpAny_bind (wpAny_newList (wpAny_holding ?_) (Nat.zero_le _))) hz)))) (by rw [List.size_toArray];exact hz) (Nat.zero_le _))))
 show wpAny (model prog w) A _ P E { s with heap:=z0g s.heap a vs }
 rw [if_neg nn,if_neg nn]
 refine wpAny_bind (hκ _ (wpAny_bind (wpAny_mono (zuj (st:=SortSt.mk' κ (pairsOf vs) #[] 7 none) hc ⟨.refl _,rfl,rfl⟩ (by rw [pairsOf_size];exact h2) rfl (Q:=fun _ u=>TBs κ (pairsOf vs) u/\Asc rk (arrOf u).toList) fun u B a=>⟨B,a⟩) ?_ fun _ _ x=>x)))
 rintro ⟨⟨⟩,u⟩ s' ⟨rfl,B,hA⟩
 refine wpAny_bind (seqEpoch_at k2 rfl (wpAny_bind (listUpdate_at k2 rfl ?_ (Nat.zero_le _) (by rw [Array.size_map,B.size,pairsOf_size];exact Nat.le_succ_of_le hz))))
 rw [B.ok,bne_self_eq_false]
 exact wpAny_pure (h _ B.perm hA)
noncomputable def z29 (h:Heap) (vs:List Value):Heap:=((h.push (seqObj "list" #[] 0)).update h.objs.size (Obj.mapSeq (·++vs.toArray))).push (seqObj "list" vs.toArray 0)
theorem z71 (h:Heap) (vs:List Value):(z29 h vs).get? (h.objs.size+1)=some (seqObj "list" vs.toArray 0):=by
 have e:((h.push (seqObj "list" #[] 0)).update h.objs.size (Obj.mapSeq (·++vs.toArray))).objs.size=h.objs.size+1:=(Heap.size_update _ _ _).trans (size_push' _ _)
 unfold z29
 conv=>lhs;arg 2;rw [<-e]
 exact Heap.get?_push_size _ rfl
theorem zem {h:Heap} {vs:List Value} {b:Addr} {o:Obj} (q:h.get? b=some o):(z0g (z29 h vs) (h.objs.size+1) vs).get? b=some o:=by
 have lt:b<h.objs.size:=Heap.lt_size q
 refine Heap.get?_push_of_some _ (Heap.get?_push_of_some _ ?_)
 rw [Heap.get?_update_ne _ _ _ _ (Nat.ne_of_lt (Nat.lt_add_right 1 lt))]
 refine Heap.get?_push_of_some _ ?_
 rw [Heap.get?_update_ne _ _ _ _ (Nat.ne_of_lt lt)]
 exact Heap.get?_push_of_some _ q
theorem zen {l:Addr} {vs:List Value} {Q:Value->Shared->Prop} {κ:SortKind} {rk:Keyed->Nat} (hl:s.heap.IsList l vs.toArray) (h2:2<=vs.length) (hz:vs.length<=sizeLine)
  (hκ:∀(Q:SortKind->Shared->Prop),Q κ { s with heap:=z0g (z29 s.heap vs) (s.heap.objs.size+1) vs }->wpAny (model prog w) A.in1.in1 (keyKind' vs.toArray) Q (fun _ _=>False) { s with heap:=z0g (z29 s.heap vs) (s.heap.objs.size+1) vs })
  (hc:z5j prog w A.in1.in1 (fun _ _=>False) { s with heap:=z0g (z29 s.heap vs) (s.heap.objs.size+1) vs } κ (pairsOf vs) rk)
  (h:∀out:Array Keyed,out.Perm (pairsOf vs)->Asc rk out.toList->Q (.ref (s.heap.objs.size+1)) { s with heap:=sortedAll s.heap vs (out.map (·.2)) }):wpAny (model prog w) A (call (.builtin "sorted") [.ref l]) Q E s:=by
 have e:((s.heap.push (seqObj "list" #[] 0)).update s.heap.objs.size (Obj.mapSeq (·++vs.toArray))).objs.size=s.heap.objs.size+1:=(Heap.size_update _ _ _).trans (size_push' _ _)
 have b:=zdp (s:={ s with heap:=z29 s.heap vs }) (E:=fun _ _=>False) (P:=fun f s'=>∃x,f=.done (.ret x)/\Q (.ref (s.heap.objs.size+1)) s') (z71 s.heap vs) h2 hz hκ hc fun out p a=>⟨_,rfl,h out p a⟩
 apply Calls.call_function_entry kind_sorted plain_sorted entry_sorted (args_sorted1 (.ref l))
 unfold Builtin.«sorted»
 refine wpAny_bind (m:=checkCount "sorted" 1 1 _) (wpAny_pure (wpAny_bind (collect_list hl (wpAny_bind (wpAny_newList ?_ hz)) hz)))
 show wpAny _ _ _ _ _ { s with heap:=z29 s.heap vs }
 rw [e]
 refine wpAny_bind (wpAny_holding (wpAny_call_entry slot_list_sort ⟨_,z71 s.heap vs,rfl⟩ entry_list_sort (wpAny_mono b (fun f s' q=>?_) fun _ _ x=>x.elim) (args_list_sort _)))
 obtain ⟨x,rfl,q⟩:=q
 exact ⟨_,rfl,wpAny_pure ⟨_,rfl,q⟩⟩
end
noncomputable def rkD (ds:List D) (d:D):Nat:=ds.countP fun e=>ltT e d
theorem zdq {ds:List D} (h:ois ds=true) {d e:D} (hd:d∈ds) (he:e∈ds):decide (rkD ds d<rkD ds e)=ltT d e:=by
 have ho:∀x∈ds,x.oi=true:=fun x hx=>ois_mem.mp h x hx
 have up:∀{d e:D},d∈ds->e∈ds->ltT d e=true->rkD ds d<rkD ds e:=fun {d e} hd he q=>by
  unfold rkD
  have le:∀l:List D,(∀x∈l,x∈ds)->l.countP (fun x=>ltT x d)<=l.countP (fun x=>ltT x e):=fun l hl=>
   List.countP_mono_left fun x hx hxd=>zjt (ho x (hl x hx)) (ho d hd) (ho e he) hxd q
  obtain ⟨l1,l2,rfl⟩:=List.append_of_mem hd
  have a:=le l1 fun x hx=>by simp [hx]
  have b:=le l2 fun x hx=>by simp [hx]
  simp only [List.countP_append,List.countP_cons,q,zgd (ho d hd)]
  simp
  lia
 cases q:ltT d e with
 | true=>simpa using up hd he q
 | false=>
  cases q':ltT e d with
  | true=>have:=up he hd q';simp;lia
  | false=>obtain rfl:=zda (ho d hd) (ho e he) q q';simp
theorem z52 {d:D} (h:d.oi=true):(∃a,d=.int a)\/∃ds,d=.tup ds/\ois ds=true:=by
 cases d with
 | int a=>exact .inl ⟨a,rfl⟩
 | tup ds=>exact .inr ⟨ds,rfl,by simpa only [D.oi] using h⟩
 | _=>exact nomatch h
theorem zpb {K:Frag} {H:Hp} {n:Nat} (ih:∀{d e:D} {x:V},d.dep<=n->d.oi=true->e.oi=true->RD K H d x->RD K H e x->d=e):∀{ds es:List D} {xs:List V},z2s ds<=n->ois ds=true->ois es=true->RDs K H ds xs->RDs K H es xs->ds=es:=by
 intro ds
 induction ds with
 | nil=>
  intro es xs _ _ _ r1 r2
  have l:=r2.length
  rw [<-r1.length] at l
  exact (List.length_eq_zero_iff.mp l).symm
 | cons d ds ihl=>
  intro es xs hd o1 o2 r1 r2
  cases es with
  | nil=>
   have l:=r1.length
   rw [<-r2.length] at l
   cases l
  | cons e es=>
   simp only [RDs] at r1 r2
   obtain ⟨x,ys,h1,p1,q1⟩:=r1
   obtain ⟨y,zs,h2,p2,q2⟩:=r2
   rw [h1] at h2;cases h2
   simp only [ois,Bool.and_eq_true] at o1 o2
   simp only [z2s] at hd
   rw [ih (Nat.le_trans (Nat.le_max_left _ _) hd) o1.1 o2.1 p1 p2,ihl (Nat.le_trans (Nat.le_max_right _ _) hd) o1.2 o2.2 q1 q2]
theorem zuk {K:Frag} {H:Hp}:∀(n:Nat) {d e:D} {x:V},d.dep<=n->d.oi=true->e.oi=true->RD K H d x->RD K H e x->d=e:=by
 intro n
 induction n with
 | zero=>
  intro d e x hd o1 o2 r1 r2
  rcases z52 o1 with ⟨a,rfl⟩ | ⟨ds,rfl,_⟩
  . have h1:=r1.int
    rcases z52 o2 with ⟨b,rfl⟩ | ⟨es,rfl,_⟩
    . have h2:=r2.int;rw [h1] at h2;cases h2;rfl
    . obtain ⟨_,_,h2,_⟩:=r2.tup;rw [h1] at h2;cases h2
  . simp only [D.dep] at hd;exact absurd hd (Nat.not_succ_le_zero _)
 | succ n ih=>
  intro d e x hd o1 o2 r1 r2
  rcases z52 o1 with ⟨a,rfl⟩ | ⟨ds,rfl,p1⟩
  . have h1:=r1.int
    rcases z52 o2 with ⟨b,rfl⟩ | ⟨es,rfl,_⟩
    . have h2:=r2.int;rw [h1] at h2;cases h2;rfl
    . obtain ⟨_,_,h2,_⟩:=r2.tup;rw [h1] at h2;cases h2
  . obtain ⟨a,ys,h1,q1,w1⟩:=r1.tup
    rcases z52 o2 with ⟨b,rfl⟩ | ⟨es,rfl,p2⟩
    . have h2:=r2.int;rw [h1] at h2;cases h2
    . obtain ⟨b,zs,h2,q2,w2⟩:=r2.tup
      rw [h1] at h2;cases h2
      rw [q1] at q2;cases q2
      simp only [D.dep] at hd
      rw [zpb ih (Nat.le_of_succ_le_succ hd) p1 p2 w1 w2]
theorem zul {K:Frag} {H:Hp} {d e:D} {x:V} (o1:d.oi=true) (o2:e.oi=true) (r1:RD K H d x) (r2:RD K H e x):d=e:=zuk d.dep (Nat.le_refl _) o1 o2 r1 r2
theorem z72 {α β:Type} {f:α->β} {l m:List β} (p:l.Perm m):∀{xs:List α},m=xs.map f->∃ys:List α,ys.Perm xs/\l=ys.map f:=by
 induction p with
 | nil=>intro xs h;exact ⟨xs,.refl _,h⟩
 | cons a p ih=>
  intro xs h
  cases xs with
  | nil=>cases h
  | cons x xs=>
   simp only [List.map_cons,List.cons.injEq] at h
   obtain ⟨ys,p',e⟩:=ih h.2
   exact ⟨x::ys,p'.cons x,by rw [e,h.1];rfl⟩
 | swap a b l=>
  intro xs h
  match xs,h with
  | x::y::xs,h=>
   simp only [List.map_cons,List.cons.injEq] at h
   exact ⟨y::x::xs,.swap _ _ _,by rw [h.1,h.2.1,h.2.2];rfl⟩
 | trans p q ih1 ih2=>
  intro xs h
  obtain ⟨ys,p',e⟩:=ih2 h
  obtain ⟨zs,q',e'⟩:=ih1 e
  exact ⟨zs,q'.trans p',e'⟩
theorem z3w (l:List D):(List.range l.length).map (fun i=>l.getD i (.int 0))=l:=by
 apply List.ext_getElem?
 intro i
 rw [List.getElem?_map]
 by_cases hi:i<l.length
 . rw [List.getElem?_range hi];simp [hi]
 . rw [List.getElem?_eq_none (by simpa using hi),List.getElem?_eq_none (by simpa using hi)];rfl
noncomputable def atOf (its:List Value) (v:Value):Nat:=Classical.epsilon fun i=>i<its.length/\its.getD i Value.none=v
theorem z5l {its:List Value} {i:Nat} (h:i<its.length):atOf its (its.getD i Value.none)<its.length/\its.getD (atOf its (its.getD i Value.none)) Value.none=its.getD i Value.none:=by
 have hh:∃j,j<its.length/\its.getD j Value.none=its.getD i Value.none:=⟨i,h,rfl⟩
 exact Classical.epsilon_spec hh
noncomputable def z2u (ds:List D):Bool:=ois ds&&decide (z2s ds<=20)&&ds.all (fun d=>ds.all fun e=>(z1i d e).isSome)&&(ds.all isI||ds.all zc0||ds.all zgg)
noncomputable def z2a:List D->Option D
 | [.lst ds]=>if z2u ds=true then some (.lst (z2j ds)) else none
 | _=>none
def zm6 (K:Frag):List V->Hp->VK->Prop:=fun xs H Q=>∃p ys ds,xs=[.ref p]/\H p=some (.lst ys)/\RDs K H ds ys/\z2u ds=true/\∀(l:Addr) (is:List Nat),H l=none->(∀i∈is,i<ys.length)->z2j ds=is.map (fun i=>ds.getD i (.int 0))->Q (.ref l) (upd H l (.lst (is.map fun i=>ys.getD i .non)))
theorem z2v {K:Frag}:z5c K true z2a (zm6 K):=by
 intro H0 H xs ds z Q s r ho k
 unfold z2a at ho
 split at ho<;>first | cases ho | skip
 split at ho<;>cases ho
 rename_i es hok
 obtain ⟨x,rfl,q1⟩:=r.uno
 obtain ⟨p,ys,rfl,hp,ry⟩:=q1.lst
 refine ⟨p,ys,es,rfl,s _ _ hp,ry.mono s,hok,fun l is hl hi he=>k _ _ (.new s hl fun H' hH=>?_)⟩
 simp only [OB]
 refine ⟨_,hH,?_⟩
 rw [he]
 exact ry.pick hi
section
variable {X:Cx} {pins:List (Addr×Obj)} {U:St} {H:Hp} {s:Shared}
theorem zhh {x y:V} {v:Value} (hx:(∃k,x=.int k)\/∃a,x=.ref a) (hy:(∃k,y=.int k)\/∃a,y=.ref a) (r1:RelV x v) (r2:RelV y v):x=y:=by
 rcases hx with ⟨k,rfl⟩ | ⟨a,rfl⟩<;>rcases hy with ⟨j,rfl⟩ | ⟨b,rfl⟩<;>simp only [RelV] at r1 r2
 . obtain ⟨t,rfl⟩:=r1;obtain ⟨u,h⟩:=r2;cases h;rfl
 . obtain ⟨t,rfl⟩:=r1;cases r2
 . obtain ⟨t,rfl⟩:=r2;cases r1
 . subst r1;cases r2;rfl
theorem zvu {K:Frag} {d:D} {x:V} (o:d.oi=true) (r:RD K H d x):(∃k,x=.int k)\/∃a,x=.ref a:=by
 cases d<;>simp only [D.oi] at o<;>first | cases o | skip
 . exact .inl ⟨_,r.int⟩
 . obtain ⟨a,_,h,_⟩:=r.tup;exact .inr ⟨a,h⟩
theorem z4g (vs:List Value):(pairsOf vs).toList=(List.range vs.length).map fun i=>((vs.getD i Value.none,vs.getD i Value.none):Keyed):=by
 unfold pairsOf
 rw [Array.toList_zip]
 apply List.ext_getElem
 . simp
 . intro i h1 h2
   simp at h1
   simp [h1]
theorem z53 {vs:List Value} {x:Keyed} (h:x∈pairsOf vs):∃i,i<vs.length/\x=(vs.getD i Value.none,vs.getD i Value.none):=by
 rw [Array.mem_def,z4g] at h
 obtain ⟨i,hi,e⟩:=List.mem_map.mp h
 exact ⟨i,List.mem_range.mp hi,e.symm⟩
theorem z5m:∀(vs:List Value),(∀i,i<vs.length->∃n t,vs.getD i Value.none=.int n t)->∃ns,IntsAre vs ns
 | [],_=>⟨[],.nil⟩
 | v::vs,h=>by
  obtain ⟨n,t,e⟩:=h 0 (by simp)
  obtain ⟨ns,r⟩:=z5m vs fun i hi=>by simpa using h (i+1) (by simpa using hi)
  have e':v=.int n t:=by simpa using e
  subst e'
  exact ⟨n::ns,.cons n t r⟩
theorem zhi {vs:List Value} {ns:List Int} (ia:IntsAre vs ns) (h:2<=vs.length):keyKind' vs.toArray=pure oneType':=by
 match vs,ia,h with
 | v1::v2::vs,ia,_=>exact keyKind_ints ia
theorem z4h (hc:X.calm=true) (hu:X.A.units+64<cLine):CallR X (.builtin "sorted") (zm6 X.K):=by
 intro pins s U H xs us Q I r h
 obtain ⟨p,ys,ds,rfl,hp,rd,hok,k⟩:=h
 obtain ⟨u,rfl,ru⟩:=z5a r
 cases ru
 obtain ⟨its,rv,pl,hz⟩:=I.list (.of hp)
 obtain ⟨m,hn,_⟩:=id I.loc
 have F:=Att.fr_all hn
 have N:=z8i (g:=Att.noObjs s.heap) (h:=s.heap) (L:=X.env.locals)
 unfold z2u at hok
 simp only [Bool.and_eq_true,Bool.or_eq_true,decide_eq_true_eq] at hok
 obtain ⟨⟨⟨hoi,hdep⟩,hcmp⟩,hkind⟩:=hok
 have hl1:=rd.length
 have hl2:=rv.length
 have fin:∀{vs':Array Value} {is:List Nat},(∀i∈is,i<ys.length)->z2j ds=is.map (fun i=>ds.getD i (.int 0))->vs'=(is.map fun i=>its.getD i Value.none).toArray->EP X pins U Q (.ref (s.heap.objs.size+1)) { s with heap:=sortedAll s.heap its vs' }:=fun {vs' is} hi he hv=>by
  have hlen:(is.map fun i=>ys.getD i .non).length<=sizeLine:=by
   have e1:is.length=ds.length:=by have:=congrArg List.length he;rw [List.length_map,(z0l ds).length_eq] at this;exact this.symm
   rw [List.length_map,e1,hl1];exact hz
  obtain ⟨e,he'⟩:=sortedAll_at s.heap its vs'
  have kp:∀b o,s.heap.get? b=some o->(sortedAll s.heap its vs').get? b=some o:=fun b o q=>sortedAll_old q
  have hN:=N.kept_cons F kp (Nat.le_succ _) he'
  obtain ⟨HD,I'⟩:=I.frnew (tk:=s.toks) (o:=.lst (is.map fun i=>ys.getD i .non)) hn (F.kept kp) hN (Heap.get?_none_of_le (Nat.le_succ _)) ⟨hlen,_,e,rv.pick hi,by subst hv;exact (hN _ (.head _)).1⟩
  exact ⟨.ref _,_,I',rfl,k _ is HD hi he⟩
 by_cases h2:2<=its.length
 . have kp:∀b o,s.heap.get? b=some o->(z0g (z29 s.heap its) (s.heap.objs.size+1) its).get? b=some o:=fun b o q=>zem q
   have I':Inv X pins U H { s with heap:=z0g (z29 s.heap its) (s.heap.objs.size+1) its }:=I.frn (tk:=s.toks) hn (F.kept kp) fun q hq=>(N.kept_cons F kp (Nat.le_succ _) (z5k (z71 s.heap its)).choose_spec.2) q (.tail _ hq)
   have huu:X.A.in1.in1.units+20<cLine:=by show X.A.units+1+1+20<cLine;lia
   have main:∀κ:SortKind,(∀(Q:SortKind->Shared->Prop),Q κ { s with heap:=z0g (z29 s.heap its) (s.heap.objs.size+1) its }->wpAny (model X.prog X.w) X.A.in1.in1 (keyKind' its.toArray) Q (fun _ _=>False) { s with heap:=z0g (z29 s.heap its) (s.heap.objs.size+1) its }) ->
     (∀(E:Value->Shared->Prop) (C:Bool->Shared->Prop) (i j:Nat),i<ys.length->j<ys.length->C (ltI ds i j) { s with heap:=z0g (z29 s.heap its) (s.heap.objs.size+1) its }->wpAny (model X.prog X.w) X.A.in1.in1 (keyLt' κ (its.getD i Value.none) (its.getD j Value.none)) C E { s with heap:=z0g (z29 s.heap its) (s.heap.objs.size+1) its }) ->
     wpAny (model X.prog X.w) X.A (call (.builtin "sorted") [.ref p]) (EP X pins U Q) X.xe s:=by
    intro κ hκ hlt
    refine zen (rk:=fun q=>rkD ds (ds.getD (atOf its q.1) (.int 0))) pl.isList h2 (by lia) hκ ?_ fun out hp' hA=>?_
    . intro x y hx hy st Q' hk q
      obtain ⟨i,hi,rfl⟩:=z53 hx
      obtain ⟨j,hj,rfl⟩:=z53 hy
      have ai:=z5l hi
      have aj:=z5l hj
      dsimp only at q
      rw [zdq hoi (z0q (by lia)) (z0q (by lia))] at q
      rw [lt'_eq]
      refine wpS_bind (wpS_get (wpS_bind (wpS_lift (wpAny_attempt ?_))))
      rw [hk]
      dsimp only
      generalize atOf its (its.getD i Value.none)=i' at *
      generalize atOf its (its.getD j Value.none)=j' at *
      rw [<-ai.2,<-aj.2]
      exact hlt _ _ i' j' (by lia) (by lia) ⟨rfl,wpS_pure q⟩
    . have e0:(pairsOf its).toList=(List.range its.length).map fun i=>((its.getD i Value.none,its.getD i Value.none):Keyed):=z4g its
      obtain ⟨is,hip,hie⟩:=z72 (Array.perm_iff_toList_perm.mp hp') e0
      have him:∀i∈is,i<its.length:=fun i hi=>List.mem_range.mp (hip.mem_iff.mp hi)
      have pm:(is.map fun i=>ds.getD i (.int 0)).Perm ds:=by
       refine (hip.map _).trans ?_
       rw [show its.length=ds.length by lia,z3w]
      refine fin (is:=is) (fun i hi=>by have:=him i hi;lia) (z3r (z4x (z0l _) hoi) ((z0l _).trans pm.symm) (z1y hoi) ?_) ?_
      . rw [hie] at hA
        refine List.pairwise_map.mpr ((List.pairwise_map.mp hA).imp_of_mem fun {a b} ha hb hab=>?_)
        have same:∀i,i<its.length->ds.getD (atOf its (its.getD i Value.none)) (.int 0)=ds.getD i (.int 0):=fun i hi=>by
         have q:=z5l hi
         have v1:=rv.getD (i:=atOf its (its.getD i Value.none)) (by lia)
         have v2:=rv.getD (i:=i) (by lia)
         have r1:=rd.getD (i:=atOf its (its.getD i Value.none)) (by lia)
         have r2:=rd.getD (i:=i) (by lia)
         have o1:=z6x (i:=atOf its (its.getD i Value.none)) hoi
         have o2:=z6x (i:=i) hoi
         rw [q.2] at v1
         rw [zhh (zvu o1 r1) (zvu o2 r2) v1 v2] at r1
         exact zul o1 o2 r1 r2
        dsimp only at hab
        rw [same a (him a ha),same b (him b hb)] at hab
        have z:=zdq hoi (d:=ds.getD b (.int 0)) (e:=ds.getD a (.int 0)) (z0q (by have:=him b hb;lia)) (z0q (by have:=him a ha;lia))
        rw [<-z,decide_eq_false_iff_not]
        lia
      . rw [<-Array.toList_inj,Array.toList_map,hie,List.map_map]
        rfl
   by_cases hI:ds.all isI=true
   . have getI:∀i,i<ys.length->∃n t,ds.getD i (.int 0)=.int n/\its.getD i Value.none=.int n t:=fun i hi=>by
      have r1:=rd.getD hi
      have v1:=rv.getD hi
      have m1:isI (ds.getD i (.int 0))=true:=List.all_eq_true.mp hI _ (z0q (by lia))
      generalize ds.getD i (.int 0)=d at *
      cases d<;>simp only [isI] at m1<;>first | cases m1 | skip
      rw [r1.int] at v1
      obtain ⟨t,e⟩:=v1
      exact ⟨_,t,rfl,e⟩
     refine main oneType' (fun Q' q=>?_) fun E C i j hi hj hC=>?_
     . have ia:∃ns,IntsAre its ns:=z5m its fun i hi=>by obtain ⟨n,t,_,e⟩:=getI i (by lia);exact ⟨n,t,e⟩
       obtain ⟨ns,ia⟩:=ia
       rw [zhi ia h2]
       exact wpAny_pure q
     . obtain ⟨n,t,e1,e2⟩:=getI i hi
       obtain ⟨n',t',e3,e4⟩:=getI j hj
       rw [e2,e4]
       refine PySem.W.kat_lt_int ?_
       unfold ltI at hC
       rw [e1,e3] at hC
       simpa only [ltT] using hC
   . obtain ⟨T,hT⟩:∃T:Bool,∀d∈ds,(if T=true then zgg d else zc0 d)=true:=by
      rcases hkind with (z | z) | z
      . exact absurd z hI
      . exact ⟨false,fun d hd=>by rw [if_neg Bool.false_ne_true];exact List.all_eq_true.mp z d hd⟩
      . exact ⟨true,fun d hd=>by rw [if_pos rfl];exact List.all_eq_true.mp z d hd⟩
     obtain ⟨fs,t1,t2,t3⟩:=zgh (M:=model X.prog X.w) I' T hT rd rv
     refine main (tuples' ((.type (if T=true then "tuple" else "int"):Value) != Value.type "tuple")) (fun Q' q=>PySem.W.kat_kind t1 (by lia) t3 (by cases T<;>rfl) q) fun E C i j hi hj hC=>?_
     have r1:=rd.getD hi
     have r2:=rd.getD hj
     have v1:=rv.getD hi
     have v2:=rv.getD hj
     have m1:ds.getD i (.int 0)∈ds:=z0q (by lia)
     have m2:ds.getD j (.int 0)∈ds:=z0q (by lia)
     have o1:=(ois_mem.mp hoi) _ m1
     have o2:=(ois_mem.mp hoi) _ m2
     have d1:=z67 m1
     have f1:=hT _ m1
     have f2:=hT _ m2
     obtain ⟨b,hb⟩:=Option.isSome_iff_exists.mp (List.all_eq_true.mp (List.all_eq_true.mp hcmp _ m1) _ m2)
     have hbl:b=ltI ds i j:=zga hb
     rw [<-hbl] at hC
     generalize ds.getD i (.int 0)=da at *
     generalize ds.getD j (.int 0)=db at *
     have tp:∀{d:L2.D},(if T=true then zgg d else zc0 d)=true->∃es,d=.tup es/\(T=false->∃k r,es=.int k::r):=fun {d} h=>by
      cases T with
      | false=>
       rw [if_neg Bool.false_ne_true] at h
       cases d<;>simp only [zc0] at h<;>first | cases h | skip
       rename_i es
       cases es with
       | nil=>simp at h
       | cons e es=>cases e<;>simp at h;exact ⟨_,rfl,fun _=>⟨_,_,rfl⟩⟩
      | true=>
       rw [if_pos rfl] at h
       cases d<;>simp only [zgg] at h<;>first | cases h | skip
       exact ⟨_,rfl,fun z=>nomatch z⟩
     obtain ⟨ea,rfl,ka⟩:=tp f1
     obtain ⟨eb,rfl,kb⟩:=tp f2
     obtain ⟨a,xa,e1,ha,ra⟩:=r1.tup
     obtain ⟨c,xc,e2,hcc,rc⟩:=r2.tup
     rw [e1] at v1;rw [e2] at v2
     rw [show its.getD i Value.none=Value.ref a from v1,show its.getD j Value.none=Value.ref c from v2]
     obtain ⟨ia,va,oa,hoa,_,na,hda⟩:=I'.tupA ha
     obtain ⟨ic,vc,oc,hoc,_,nc,hdc⟩:=I'.tupA hcc
     simp only [L2.D.oi] at o1 o2
     simp only [L2.D.dep] at d1
     simp only [z1i] at hb
     refine PySem.W.kat_lt hoa hda hoc hdc (zc1 I' huu hC 0 (fun hb0 _=>?_) o1 o2 (by lia) ra rc va vc hb (by simp))
     cases T with
     | false=>exact ⟨ka rfl,kb rfl⟩
     | true=>exact absurd hb0 (by simp)
 . have hs1:z2j ds=ds:=by
    match ds,hl1,hl2 with
    | [],_,_=>rfl
    | [d],_,_=>rfl
    | _::_::_,a,b=>simp at a;lia
   have pz:∀l:List Value,l.length<2->(pairsOf l).map (·.2)=(List.map (fun i=>l.getD i Value.none) (List.range l.length)).toArray:=fun l hl=>by
    match l,hl with
    | [],_=>simp [pairsOf]
    | [v],_=>simp [pairsOf]
    | _::_::_,z=>simp at z;lia
   refine zal pl.isList (by lia) (fin (is:=List.range its.length) (fun i hi=>by simp at hi;lia) ?_ (pz its (by lia)))
   rw [hs1,show its.length=ds.length by lia,z3w]
end
noncomputable def nw (h:Heap) (vs:List Value):Heap:=h.push (seqObj "list" vs.toArray 0)
theorem zhj (h:Heap) (vs:List Value):(nw h vs).get? h.objs.size=some (seqObj "list" vs.toArray 0):=Heap.get?_push_size _ rfl
theorem zhk {h:Heap} {vs:List Value} {b:Addr} {o:Obj} (q:h.get? b=some o):(nw h vs).get? b=some o:=Heap.get?_push_of_some _ q
theorem zka {h:Heap} {vs:List Value} {b:Addr} {o:Obj} (q:h.get? b=some o):(z0g (nw h vs) h.objs.size vs).get? b=some o:=by
 refine Heap.get?_push_of_some _ (Heap.get?_push_of_some _ ?_)
 rw [Heap.get?_update_ne _ _ _ _ (Nat.ne_of_lt (Heap.lt_size q))]
 exact zhk q
theorem zkb {h:Heap} {vs:List Value} {out:Array Value} {b:Addr} {o:Obj} (q:h.get? b=some o):(sortedHeap (nw h vs) h.objs.size vs out).get? b=some o:=by
 have lt:=Heap.lt_size q
 rw [sortedHeap_old (Nat.ne_of_lt lt) (Heap.lt_size (zhk (vs:=vs) q))]
 exact zhk q
section
variable {X:Cx} {pins:List (Addr×Obj)} {U:St} {H:Hp} {s:Shared}
theorem zkc (hu:X.A.units+64<cLine) (I:Inv X pins U H s) {ds:List D} {ys:List V} {its:List Value} {Q:VK} (rd:RDs X.K H ds ys) (rv:Vals ys its) (hz:ys.length<=sizeLine) (hok:z2u ds=true)
  (k:∀(l:Addr) (is:List Nat),H l=none->(∀i∈is,i<ys.length)->z2j ds=is.map (fun i=>ds.getD i (.int 0))->Q (.ref l) (upd H l (.lst (is.map fun i=>ys.getD i .non)))) :
  wpAny (model X.prog X.w) X.A.in1.in1 (Builtin.«list.sort» ⟨[.ref s.heap.objs.size],[]⟩) (fun f s'=>∃x,f=.done (.ret x)/\EP X pins U Q (.ref s.heap.objs.size) s') (fun _ _=>False) { s with heap:=nw s.heap its }:=by
 obtain ⟨m,hn,_⟩:=id I.loc
 have F:=Att.fr_all hn
 have N:=z8i (g:=Att.noObjs s.heap) (h:=s.heap) (L:=X.env.locals)
 unfold z2u at hok
 simp only [Bool.and_eq_true,Bool.or_eq_true,decide_eq_true_eq] at hok
 obtain ⟨⟨⟨hoi,hdep⟩,hcmp⟩,hkind⟩:=hok
 have hl1:=rd.length
 have hl2:=rv.length
 have fin:∀{vs':Array Value} {is:List Nat},(∀i∈is,i<ys.length)->z2j ds=is.map (fun i=>ds.getD i (.int 0))->vs'=(is.map fun i=>its.getD i Value.none).toArray->EP X pins U Q (.ref s.heap.objs.size) { s with heap:=sortedHeap (nw s.heap its) s.heap.objs.size its vs' }:=fun {vs' is} hi he hv=>by
  have hlen:(is.map fun i=>ys.getD i .non).length<=sizeLine:=by
   have e1:is.length=ds.length:=by have:=congrArg List.length he;rw [List.length_map,(z0l ds).length_eq] at this;exact this.symm
   rw [List.length_map,e1,hl1];exact hz
  obtain ⟨e,he'⟩:=sortedHeap_at (out:=vs') (zhj s.heap its)
  have kp:∀b o,s.heap.get? b=some o->(sortedHeap (nw s.heap its) s.heap.objs.size its vs').get? b=some o:=fun b o q=>zkb q
  have hN:=N.kept_cons F kp (Nat.le_refl _) he'
  obtain ⟨HD,I'⟩:=I.frnew (tk:=s.toks) (o:=.lst (is.map fun i=>ys.getD i .non)) hn (F.kept kp) hN (Heap.get?_none_of_le (Nat.le_refl _)) ⟨hlen,_,e,rv.pick hi,by subst hv;exact (hN _ (.head _)).1⟩
  exact ⟨.ref _,_,I',rfl,k _ is HD hi he⟩
 by_cases h2:2<=its.length
 . have kp:∀b o,s.heap.get? b=some o->(z0g (nw s.heap its) s.heap.objs.size its).get? b=some o:=fun b o q=>zka q
   have I':Inv X pins U H { s with heap:=z0g (nw s.heap its) s.heap.objs.size its }:=I.frn (tk:=s.toks) hn (F.kept kp) fun q hq=>(N.kept_cons F kp (Nat.le_refl _) (z5k (zhj s.heap its)).choose_spec.2) q (.tail _ hq)
   have huu:X.A.in1.in1.units+20<cLine:=by show X.A.units+1+1+20<cLine;omega
   have main:∀κ:SortKind,(∀(Q:SortKind->Shared->Prop),Q κ { s with heap:=z0g (nw s.heap its) s.heap.objs.size its }->wpAny (model X.prog X.w) X.A.in1.in1 (keyKind' its.toArray) Q (fun _ _=>False) { s with heap:=z0g (nw s.heap its) s.heap.objs.size its }) ->
     (∀(E:Value->Shared->Prop) (C:Bool->Shared->Prop) (i j:Nat),i<ys.length->j<ys.length->C (ltI ds i j) { s with heap:=z0g (nw s.heap its) s.heap.objs.size its }->wpAny (model X.prog X.w) X.A.in1.in1 (keyLt' κ (its.getD i Value.none) (its.getD j Value.none)) C E { s with heap:=z0g (nw s.heap its) s.heap.objs.size its }) ->
     wpAny (model X.prog X.w) X.A.in1.in1 (Builtin.«list.sort» ⟨[.ref s.heap.objs.size],[]⟩) (fun f s'=>∃x,f=.done (.ret x)/\EP X pins U Q (.ref s.heap.objs.size) s') (fun _ _=>False) { s with heap:=nw s.heap its }:=by
    intro κ hκ hlt
    refine zdp (s:={ s with heap:=nw s.heap its }) (rk:=fun q=>rkD ds (ds.getD (atOf its q.1) (.int 0))) (zhj s.heap its) h2 (by omega) hκ ?_ fun out hp' hA=>⟨_,rfl,?_⟩
    . intro x y hx hy st Q' hk q
      obtain ⟨i,hi,rfl⟩:=z53 hx
      obtain ⟨j,hj,rfl⟩:=z53 hy
      have ai:=z5l hi
      have aj:=z5l hj
      dsimp only at q
      rw [zdq hoi (z0q (by omega)) (z0q (by omega))] at q
      rw [lt'_eq]
      refine wpS_bind (wpS_get (wpS_bind (wpS_lift (wpAny_attempt ?_))))
      rw [hk]
      dsimp only
      generalize atOf its (its.getD i Value.none)=i' at *
      generalize atOf its (its.getD j Value.none)=j' at *
      rw [<-ai.2,<-aj.2]
      exact hlt _ _ i' j' (by omega) (by omega) ⟨rfl,wpS_pure q⟩
    . have e0:(pairsOf its).toList=(List.range its.length).map fun i=>((its.getD i Value.none,its.getD i Value.none):Keyed):=z4g its
      obtain ⟨is,hip,hie⟩:=z72 (Array.perm_iff_toList_perm.mp hp') e0
      have him:∀i∈is,i<its.length:=fun i hi=>List.mem_range.mp (hip.mem_iff.mp hi)
      have pm:(is.map fun i=>ds.getD i (.int 0)).Perm ds:=by
       refine (hip.map _).trans ?_
       rw [show its.length=ds.length by omega,z3w]
      refine fin (is:=is) (fun i hi=>by have:=him i hi;omega) (z3r (z4x (z0l _) hoi) ((z0l _).trans pm.symm) (z1y hoi) ?_) ?_
      . rw [hie] at hA
        refine List.pairwise_map.mpr ((List.pairwise_map.mp hA).imp_of_mem fun {a b} ha hb hab=>?_)
        have same:∀i,i<its.length->ds.getD (atOf its (its.getD i Value.none)) (.int 0)=ds.getD i (.int 0):=fun i hi=>by
         have q:=z5l hi
         have v1:=rv.getD (i:=atOf its (its.getD i Value.none)) (by omega)
         have v2:=rv.getD (i:=i) (by omega)
         have r1:=rd.getD (i:=atOf its (its.getD i Value.none)) (by omega)
         have r2:=rd.getD (i:=i) (by omega)
         have o1:=z6x (i:=atOf its (its.getD i Value.none)) hoi
         have o2:=z6x (i:=i) hoi
         rw [q.2] at v1
         rw [zhh (zvu o1 r1) (zvu o2 r2) v1 v2] at r1
         exact zul o1 o2 r1 r2
        dsimp only at hab
        rw [same a (him a ha),same b (him b hb)] at hab
        have z:=zdq hoi (d:=ds.getD b (.int 0)) (e:=ds.getD a (.int 0)) (z0q (by have:=him b hb;omega)) (z0q (by have:=him a ha;omega))
        rw [<-z,decide_eq_false_iff_not]
        omega
      . rw [<-Array.toList_inj,Array.toList_map,hie,List.map_map]
        rfl
   by_cases hI:ds.all isI=true
   . have getI:∀i,i<ys.length->∃n t,ds.getD i (.int 0)=.int n/\its.getD i Value.none=.int n t:=fun i hi=>by
      have r1:=rd.getD hi
      have v1:=rv.getD hi
      have m1:isI (ds.getD i (.int 0))=true:=List.all_eq_true.mp hI _ (z0q (by omega))
      generalize ds.getD i (.int 0)=d at *
      cases d<;>simp only [isI] at m1<;>first | cases m1 | skip
      rw [r1.int] at v1
      obtain ⟨t,e⟩:=v1
      exact ⟨_,t,rfl,e⟩
     refine main oneType' (fun Q' q=>?_) fun E C i j hi hj hC=>?_
     . have ia:∃ns,IntsAre its ns:=z5m its fun i hi=>by obtain ⟨n,t,_,e⟩:=getI i (by omega);exact ⟨n,t,e⟩
       obtain ⟨ns,ia⟩:=ia
       rw [zhi ia h2]
       exact wpAny_pure q
     . obtain ⟨n,t,e1,e2⟩:=getI i hi
       obtain ⟨n',t',e3,e4⟩:=getI j hj
       rw [e2,e4]
       refine PySem.W.kat_lt_int ?_
       unfold ltI at hC
       rw [e1,e3] at hC
       simpa only [ltT] using hC
   . obtain ⟨T,hT⟩:∃T:Bool,∀d∈ds,(if T=true then zgg d else zc0 d)=true:=by
      rcases hkind with (z | z) | z
      . exact absurd z hI
      . exact ⟨false,fun d hd=>by rw [if_neg Bool.false_ne_true];exact List.all_eq_true.mp z d hd⟩
      . exact ⟨true,fun d hd=>by rw [if_pos rfl];exact List.all_eq_true.mp z d hd⟩
     obtain ⟨fs,t1,t2,t3⟩:=zgh (M:=model X.prog X.w) I' T hT rd rv
     refine main (tuples' ((.type (if T=true then "tuple" else "int"):Value) != Value.type "tuple")) (fun Q' q=>PySem.W.kat_kind t1 (by omega) t3 (by cases T<;>rfl) q) fun E C i j hi hj hC=>?_
     have r1:=rd.getD hi
     have r2:=rd.getD hj
     have v1:=rv.getD hi
     have v2:=rv.getD hj
     have m1:ds.getD i (.int 0)∈ds:=z0q (by omega)
     have m2:ds.getD j (.int 0)∈ds:=z0q (by omega)
     have o1:=(ois_mem.mp hoi) _ m1
     have o2:=(ois_mem.mp hoi) _ m2
     have d1:=z67 m1
     have f1:=hT _ m1
     have f2:=hT _ m2
     obtain ⟨b,hb⟩:=Option.isSome_iff_exists.mp (List.all_eq_true.mp (List.all_eq_true.mp hcmp _ m1) _ m2)
     have hbl:b=ltI ds i j:=zga hb
     rw [<-hbl] at hC
     generalize ds.getD i (.int 0)=da at *
     generalize ds.getD j (.int 0)=db at *
     have tp:∀{d:L2.D},(if T=true then zgg d else zc0 d)=true->∃es,d=.tup es/\(T=false->∃k r,es=.int k::r):=fun {d} h=>by
      cases T with
      | false=>
       rw [if_neg Bool.false_ne_true] at h
       cases d<;>simp only [zc0] at h<;>first | cases h | skip
       rename_i es
       cases es with
       | nil=>simp at h
       | cons e es=>cases e<;>simp at h;exact ⟨_,rfl,fun _=>⟨_,_,rfl⟩⟩
      | true=>
       rw [if_pos rfl] at h
       cases d<;>simp only [zgg] at h<;>first | cases h | skip
       exact ⟨_,rfl,fun z=>nomatch z⟩
     obtain ⟨ea,rfl,ka⟩:=tp f1
     obtain ⟨eb,rfl,kb⟩:=tp f2
     obtain ⟨a,xa,e1,ha,ra⟩:=r1.tup
     obtain ⟨c,xc,e2,hcc,rc⟩:=r2.tup
     rw [e1] at v1;rw [e2] at v2
     rw [show its.getD i Value.none=Value.ref a from v1,show its.getD j Value.none=Value.ref c from v2]
     obtain ⟨ia,va,oa,hoa,_,na,hda⟩:=I'.tupA ha
     obtain ⟨ic,vc,oc,hoc,_,nc,hdc⟩:=I'.tupA hcc
     simp only [L2.D.oi] at o1 o2
     simp only [L2.D.dep] at d1
     simp only [z1i] at hb
     refine PySem.W.kat_lt hoa hda hoc hdc (zc1 I' huu hC 0 (fun hb0 _=>?_) o1 o2 (by omega) ra rc va vc hb (by simp))
     cases T with
     | false=>exact ⟨ka rfl,kb rfl⟩
     | true=>exact absurd hb0 (by simp)
 . have hs1:z2j ds=ds:=by
    match ds,hl1,hl2 with
    | [],_,_=>rfl
    | [d],_,_=>rfl
    | _::_::_,a,b=>simp at a;omega
   have pz:∀l:List Value,l.length<2->(pairsOf l).map (·.2)=(List.map (fun i=>l.getD i Value.none) (List.range l.length)).toArray:=fun l hl=>by
    match l,hl with
    | [],_=>simp [pairsOf]
    | [v],_=>simp [pairsOf]
    | _::_::_,z=>simp at z;omega
   refine z81 (s:={ s with heap:=nw s.heap its }) (zhj s.heap its) (by omega) ⟨_,rfl,fin (is:=List.range its.length) (fun i hi=>by simp at hi;omega) ?_ (pz its (by omega))⟩
   rw [hs1,show its.length=ds.length by omega,z3w]
end
section
open PySem.SeqAt
open PySem.AutoSeq1 (wpAny_loadPart')
end
end L2
namespace L2
open PySem PySem.Spec PyProof.Rows
theorem zhl {α:Type}:∀(l:List α) (i:Nat) (h:i<l.length),([l[i]]++l.eraseIdx i).Perm l
 | x::l,0,_=>.refl _
 | x::l,i+1,h=>by
  have ih:=zhl l i (by simpa using h)
  exact (List.Perm.swap _ _ _).trans (ih.cons x)
theorem zhm {α:Type} (next:Nat->Nat):∀(fuel k:Nat) (left:List α) (out:Array α),left.length=fuel->(pickOrder.go next fuel k left out).toList.Perm (out.toList++left)
 | 0,k,left,out,h=>by
  rw [List.length_eq_zero_iff.mp h,List.append_nil]
  exact .refl _
 | fuel+1,k,left,out,h=>by
  have hk:next k % left.length<left.length:=Nat.mod_lt _ (by omega)
  unfold pickOrder.go
  rw [List.getElem?_eq_getElem hk]
  dsimp only
  refine (zhm next fuel (k+1) _ _ (by rw [List.length_eraseIdx_of_lt hk];omega)).trans ?_
  rw [Array.toList_push,List.append_assoc]
  refine List.Perm.append_left _ ?_
  exact zhl left _ hk
theorem zat {α:Type} (next:Nat->Nat) (xs:Array α):(pickOrder next xs).toList.Perm xs.toList:=by
 have:=zhm next xs.size 0 xs.toList #[] (by simp)
 simpa [pickOrder] using this
noncomputable def zkd (es:Array (Int×Value)) (ep:Nat) (t:SetTable):Obj:=⟨.type "set",none,.set es ep t,#[]⟩
noncomputable def z2l (a:Addr) (sl i n ep:Nat):Obj:={ cls:=.type "set_iterator",data:=.fields #[rawInt (sl:Int),rawInt (i:Int),.ref a,rawInt (n:Int),rawInt (ep:Int)] }
noncomputable def zc7 (w:World) (a:Addr) (es:Array (Int×Value)) (ep:Nat):Array (Int×Value):=if w.params.followText "set-order"=true then pickOrder (w.params.setOrder a ep) es else es
noncomputable def z7j (w:World) (t:SetTable) (i:Nat):Nat:=if w.params.followText "set-order"=true then 0 else z7m t.place i
theorem z73 (w:World) (a:Addr) (es:Array (Int×Value)) (ep:Nat):(zc7 w a es ep).toList.Perm es.toList:=by
 unfold zc7
 split
 . exact zat _ _
 . exact .refl _
structure Wk (w:World) (es:Array (Int×Value)) (t:SetTable):Prop where
 tok:Tok t es.size
 pl:t.plain=true
 led:t.led=!w.params.followText "set-order"
 ris:Ris t.place
section
open PySem.AutoSeq1 (wpAny_loadPart')
variable {prog:Program} {w:World} {A:Around} {E:Value->Shared->Prop} {s:Shared} {a it:Addr} {es:Array (Int×Value)} {ep i:Nat} {t:SetTable}
theorem slot_seI:Slot "set_iterator" "__next__" "set_iterator.__next__":=.of (owner:="set_iterator") (n:="__next__") (by rw [typeLookup_type,builtinLookup_eq_fast];kernel_rfl) (by decide +kernel) (by decide +kernel) (by decide +kernel) (by first | exact .inl (by decide +kernel) | exact .inr (by decide +kernel)) (by rw [isSubtype_type];kernel_rfl)
theorem zau:entryFor table "set_iterator.__next__"=some Builtin.«set_iterator.__next__»:=entryFor_of_tree (by kernel_rfl)
theorem zhn:entryFor table "set.__iter__"=some Builtin.«frozenset.__iter__»:=entryFor_alias (id':="frozenset.__iter__") (by kernel_rfl) rfl (by decide +kernel) (by kernel_rfl)
theorem zho:Manifest.owners.lookup (String.ofList ['r','o','t','a','r','e','t','i','_','t','e','s'].reverse)=some Manifest.sig_set_iterator:=by kernel_rfl
theorem zdr (v:Value):argsOk "set_iterator.__next__" ⟨[v],[]⟩:=by
 unfold argsOk;rw [signature?_of (id:="set_iterator.__next__") (n:=['_','_','t','x','e','n','_','_']) (o:=['r','o','t','a','r','e','t','i','_','t','e','s']) (by kernel_rfl) zho];kernel_rfl
theorem zke (W:Wk w es t) {Q:Fin->Shared->Prop} (ho:s.heap.get? a=some (zkd es ep t)) (h:Q (.done (.ret (.ref s.heap.objs.size))) { s with heap:=s.heap.push (z2l a 0 0 es.size ep) }) :
  wpAny (model prog w) A (Builtin.«frozenset.__iter__» ⟨[.ref a],[]⟩) Q E s:=by
 obtain ⟨hp,g,d,tk,os⟩:=s
 have st:∀{Q:Array (Int×Value)×Nat×SetTable->Shared->Prop},Q (es,ep,t) ⟨hp,g,d,tk,os⟩->wpAny (model prog w) A (setState a) Q E ⟨hp,g,d,tk,os⟩:=fun {Q} z=>wpAny_setState_of ho rfl W.tok.fits z
 unfold Builtin.«frozenset.__iter__» Builtin.Frozenset.slot0 Builtin.Frozenset.sizeOf setDrawn setEpoch setEntries
 wp_walk using st
 refine wpAny_askSetting (wpAny_pure (wpAny_pure ?_))
 dsimp only
 rw [if_neg (fun z=>by
  have z2:(!t.plain&&decide (es.size > 1))=true:=(Bool.and_eq_true _ _ ▸ z:_/\_).2
  rw [W.pl] at z2
  cases z2)]
 wp_walk using st
 exact h
theorem zkf (W:Wk w es t) {Q:Fin->Shared->Prop} (hl:s.heap.get? it=some (z2l a (z7j w t i) i es.size ep)) (ho:s.heap.get? a=some (zkd es ep t)) (hi:i<es.size)
  (h:∀h' e,(zc7 w a es ep)[i]?=some e->h'.get? it=some (z2l a (z7j w t (i+1)) (i+1) es.size ep)->(∀b,b≠it->h'.get? b=s.heap.get? b)->Q (.done (.ret e.2)) { s with heap:=h' }) :
  wpAny (model prog w) A (Builtin.«set_iterator.__next__» ⟨[.ref it],[]⟩) Q E s:=by
 obtain ⟨hp,g,d,tk,os⟩:=s
 have st:∀{Q:Array (Int×Value)×Nat×SetTable->Shared->Prop},Q (es,ep,t) ⟨hp,g,d,tk,os⟩->wpAny (model prog w) A (setState a) Q E ⟨hp,g,d,tk,os⟩:=fun {Q} z=>wpAny_setState_of ho rfl W.tok.fits z
 have hsz:(((es.size:Int) != (es.size:Int))=true)=False:=by simp
 have nx:∀{Q:Option (Value×Nat)->Shared->Prop},(∀e,(zc7 w a es ep)[i]?=some e->Q (some (e.2,z7j w t (i+1))) ⟨hp,g,d,tk,os⟩)->wpAny (model prog w) A (setNext a (z7j w t i) i ep) Q E ⟨hp,g,d,tk,os⟩:=fun {Q} z=>by
  unfold setNext setWalk setsByText
  refine wpAny_bind (st ?_)
  dsimp only
  refine wpAny_bind (wpAny_bind (wpAny_askSetting (wpAny_pure ?_)))
  have hn:(zc7 w a es ep).size=es.size:=by rw [<-Array.length_toList,(z73 w a es ep).length_eq,Array.length_toList]
  have z:=z _ (Array.getElem?_eq_getElem (by rw [hn];exact hi))
  cases bt:w.params.followText "set-order" with
  | true=>
   rw [if_pos (show (model prog w).w.params.followText "set-order"=true from bt)]
   rw [if_neg (by simp)]
   refine wpAny_bind (wpAny_bind (st ?_))
   dsimp only
   refine wpAny_bind (wpAny_bind (wpAny_askSetting (wpAny_pure ?_)))
   rw [if_pos (show (model prog w).w.params.followText "set-order"=true from bt)]
   refine wpAny_bind (wpAny_askSetting (wpAny_pure (wpAny_pure ?_)))
   have e1:zc7 w a es ep=pickOrder (w.params.setOrder a ep) es:=by unfold zc7;rw [if_pos bt]
   have e2:z7j w t i=0/\z7j w t (i+1)=0:=by unfold z7j;rw [if_pos bt,if_pos bt];exact ⟨rfl,rfl⟩
   rw [e2.1]
   rw [e2.2] at z
   show Q (Option.map (fun e=>(e.2,0)) (pickOrder (w.params.setOrder a ep) es)[i]?) _
   rw [<-e1,Array.getElem?_eq_getElem (by rw [hn];exact hi)]
   exact z
  | false=>
   rw [if_neg (show ¬(model prog w).w.params.followText "set-order"=true from by show ¬w.params.followText "set-order"=true;rw [bt];exact Bool.false_ne_true)]
   rw [if_neg (fun z=>by
    have z2:(!t.plain&&decide (es.size > 1))=true:=z
    rw [W.pl] at z2
    cases z2)]
   have ld:t.led=true:=by rw [W.led,bt];rfl
   refine wpAny_bind ?_
   show wpAny (model prog w) A (if (!t.led&&!es.isEmpty)=true then _ else _) _ _ _
   rw [if_neg (by rw [ld];exact Bool.false_ne_true)]
   refine wpAny_pure (wpAny_pure ?_)
   have e1:zc7 w a es ep=es:=by unfold zc7;rw [if_neg (by rw [bt];exact Bool.false_ne_true)]
   have e2:∀k,z7j w t k=z7m t.place k:=fun k=>by unfold z7j;rw [if_neg (by rw [bt];exact Bool.false_ne_true)]
   have hp2:i<t.place.size:=by rw [W.tok.1];exact hi
   rw [e2,zdl W.ris i (by omega),Array.getElem?_eq_getElem hi,Array.getElem?_eq_getElem hp2]
   rw [e2] at z
   simp only [e1] at z
   have e3:z7m t.place (i+1)=t.place[i]+1:=by
    show t.place.getD i 0+1=_
    rw [Array.getD_eq_getD_getElem?,Array.getElem?_eq_getElem hp2];rfl
   rw [e3] at z
   exact z
 have nw:wpAny (model prog w) A (setNext a ((z7j w t i:Nat):Int).toNat ((i:Nat):Int).toNat ((ep:Nat):Int).toNat) (fun r s'=>∃e,(zc7 w a es ep)[i]?=some e/\r=some (e.2,z7j w t (i+1))/\s'=⟨hp,g,d,tk,os⟩) E ⟨hp,g,d,tk,os⟩:=nx fun e he=>⟨e,he,rfl,rfl⟩
 unfold z2l at hl
 unfold Builtin.«set_iterator.__next__» setEntries
 wp_walk using wpAny_loadPart' hl,st,thn nw
 rintro _ _ ⟨e,he,rfl,rfl⟩
 wp_walk using wpAny_loadPart' hl
 refine h _ e he ?_ fun b hb=>?_
 . rw [Heap.get?_update_self _ (Heap.get?_update_self _ hl rfl) rfl]
   simp [z2l,Obj.mapFields,rawInt]
 . rw [Heap.get?_update_ne _ _ _ _ hb,Heap.get?_update_ne _ _ _ _ hb]
theorem zpc (W:Wk w es t) {Q:Fin->Shared->Prop} {E:Value->Shared->Prop} (hl:s.heap.get? it=some (z2l a (z7j w t es.size) es.size es.size ep)) (ho:s.heap.get? a=some (zkd es ep t)) (hh:A.handled=none)
  (h:∀h' e,(∀c o,c≠it->s.heap.get? c=some o->h'.get? c=some o)->(∃o,h'.get? e=some o/\o.cls=.type "StopIteration")->E (.ref e) { s with heap:=h' }) :
  wpAny (model prog w) A (Builtin.«set_iterator.__next__» ⟨[.ref it],[]⟩) Q E s:=by
 obtain ⟨hp,g,d,tk,os⟩:=s
 have st:∀{E:Value->Shared->Prop} {Q:Array (Int×Value)×Nat×SetTable->Shared->Prop},Q (es,ep,t) ⟨hp,g,d,tk,os⟩->wpAny (model prog w) A (setState a) Q E ⟨hp,g,d,tk,os⟩:=fun {_ Q} z=>wpAny_setState_of ho rfl W.tok.fits z
 have hsz:(((es.size:Int) != (es.size:Int))=true)=False:=by simp
 have nx:wpAny (model prog w) A (setNext a (z7j w t es.size) es.size ep) (fun r s'=>r=none/\s'=⟨hp,g,d,tk,os⟩) E ⟨hp,g,d,tk,os⟩:=by
  unfold setNext setWalk setsByText
  refine wpAny_bind (st ?_)
  dsimp only
  refine wpAny_bind (wpAny_bind (wpAny_askSetting (wpAny_pure ?_)))
  cases bt:w.params.followText "set-order" with
  | true=>
   rw [if_pos (show (model prog w).w.params.followText "set-order"=true from bt)]
   rw [if_neg (by simp)]
   refine wpAny_bind (wpAny_bind (st ?_))
   dsimp only
   refine wpAny_bind (wpAny_bind (wpAny_askSetting (wpAny_pure ?_)))
   rw [if_pos (show (model prog w).w.params.followText "set-order"=true from bt)]
   refine wpAny_bind (wpAny_askSetting (wpAny_pure (wpAny_pure ⟨?_,rfl⟩)))
   have hn:(pickOrder (w.params.setOrder a ep) es).size=es.size:=by rw [<-Array.length_toList,(zat _ es).length_eq,Array.length_toList]
   show Option.map _ (pickOrder (w.params.setOrder a ep) es)[es.size]?=none
   rw [Array.getElem?_eq_none (by omega)];rfl
  | false=>
   rw [if_neg (show ¬(model prog w).w.params.followText "set-order"=true from by show ¬w.params.followText "set-order"=true;rw [bt];exact Bool.false_ne_true)]
   rw [if_neg (fun z=>by
    have z2:(!t.plain&&decide (es.size > 1))=true:=z
    rw [W.pl] at z2
    cases z2)]
   have ld:t.led=true:=by rw [W.led,bt];rfl
   refine wpAny_bind ?_
   show wpAny (model prog w) A (if (!t.led&&!es.isEmpty)=true then _ else _) _ _ _
   rw [if_neg (by rw [ld];exact Bool.false_ne_true)]
   refine wpAny_pure (wpAny_pure ⟨?_,rfl⟩)
   have e2:z7j w t es.size=z7m t.place es.size:=by unfold z7j;rw [if_neg (by rw [bt];exact Bool.false_ne_true)]
   rw [e2,zdl W.ris es.size (by rw [W.tok.1];exact Nat.le_refl _),Array.getElem?_eq_none (Nat.le_refl _)]
 have nw:wpAny (model prog w) A (setNext a ((z7j w t es.size:Nat):Int).toNat ((es.size:Nat):Int).toNat ((ep:Nat):Int).toNat) (fun r s'=>r=none/\s'=⟨hp,g,d,tk,os⟩) E ⟨hp,g,d,tk,os⟩:=nx
 unfold z2l at hl
 unfold Builtin.«set_iterator.__next__» setEntries
 wp_walk using wpAny_loadPart' hl,st,thn nw
 rintro _ _ ⟨rfl,rfl⟩
 wp_walk using wpAny_loadPart' hl
 unfold raiseNew
 refine wpAny_bind (wpAny_handled ?_)
 rw [hh]
 refine wpAny_bind (wpAny_pure (wpAny_throw (h _ _ (fun c o hc e=>?_) ⟨_,Heap.get?_push_size _ rfl,rfl⟩)))
 refine Heap.get?_push_of_some _ (Heap.get?_push_of_some _ ?_)
 rw [Heap.get?_update_ne _ _ _ _ hc]
 exact e
theorem zpd (W:Wk w es t) {Q:Value->Shared->Prop} (ho:s.heap.get? a=some (zkd es ep t)) (hQ:Q (.ref s.heap.objs.size) { s with heap:=s.heap.push (z2l a 0 0 es.size ep) }):wpAny (model prog w) A (pyIter (.ref a)) Q E s:=
 wpAny_pyIter_slot ⟨_,ho,rfl⟩ F.slot_set_iter (wpAny_call_entry F.slot_set_iter ⟨_,ho,rfl⟩ zhn (zke W ho ⟨_,rfl,"set_iterator",_,⟨_,Heap.get?_push_size _ rfl,rfl⟩,slot_seI.lookup,hQ⟩) (F.args_set_iter_1 _))
theorem zpe (W:Wk w es t) {Q:Option Value->Shared->Prop} (hl:s.heap.get? it=some (z2l a (z7j w t i) i es.size ep)) (ho:s.heap.get? a=some (zkd es ep t)) (hi:i<es.size)
  (h:∀h' e,(zc7 w a es ep)[i]?=some e->h'.get? it=some (z2l a (z7j w t (i+1)) (i+1) es.size ep)->(∀b,b≠it->h'.get? b=s.heap.get? b)->Q (some e.2) { s with heap:=h' }):wpAny (model prog w) A (pyNext (.ref it)) Q E s:=by
 unfold pyNext
 exact wpAny_bind (wpAny_attempt (wpAny_callSpecial?_slot (name:=Str.ofString "__next__") ⟨_,hl,rfl⟩ slot_seI (wpAny_call_entry slot_seI ⟨_,hl,rfl⟩ zau (zkf W hl ho hi fun h' e he h1 h2=>⟨_,rfl,wpAny_pure (h h' e he h1 h2)⟩) (zdr _))))
theorem zum (W:Wk w es t) {Q:Option Value->Shared->Prop} (hl:s.heap.get? it=some (z2l a (z7j w t es.size) es.size es.size ep)) (ho:s.heap.get? a=some (zkd es ep t)) (hh:A.handled=none)
  (h:∀h',(∀c o,c≠it->s.heap.get? c=some o->h'.get? c=some o)->Q none { s with heap:=h' }):wpAny (model prog w) A (pyNext (.ref it)) Q E s:=by
 unfold pyNext
 refine wpAny_bind (wpAny_attempt (wpAny_callSpecial?_slot (name:=Str.ofString "__next__") ⟨_,hl,rfl⟩ slot_seI (wpAny_call_entry slot_seI ⟨_,hl,rfl⟩ zau (zpc W hl ho (by simpa using hh) fun h' e kp he=>?_) (zdr _))))
 obtain ⟨o,ho,hc⟩:=he
 exact wpAny_bind (wpAny_isInstance (T:="StopIteration") (b:=true) ⟨o,ho,hc⟩ isSubtype_stop (wpAny_pure (h h' kp)))
end
end L2
namespace L2
open PySem PySem.Spec PyProof.Rows
section
variable {prog:Program} {w:World} {A:Around} {E:Value->Shared->Prop} {s:Shared} {a:Addr} {es:Array (Int×Value)} {ep:Nat} {t:SetTable}
theorem zpf {Q:Bool->Shared->Prop} (hT:s.TypeIs (.ref a) "set") (h:Q false s):wpAny (model prog w) A (Builtin.List.listLengthHint (.ref a)) Q E s:=by
 have isS:isSubtype (.type "set") (.type "set")=pure true:=PySem.F.called_set.sub
 unfold Builtin.List.listLengthHint
 refine wpAny_bind (wpAny_specialOf hT F.slot_set_len.lookup ?_)
 have sp:splitId "set.__len__"=some ("set","__len__"):=by decide +kernel
 generalize hid:("set.__len__":String)=id0 at sp
 dsimp only
 rw [sp]
 subst hid
 refine wpAny_bind (wpAny_isInstance (T:="set") (b:=true) hT isS ?_)
 rw [if_neg (by decide),if_pos (by decide +kernel)]
 exact wpAny_bind (wpAny_typeOf hT (wpAny_pure h))
theorem zds:Slot "set_iterator" "__iter__" "set_iterator.__iter__":=.of (owner:="set_iterator") (n:="__iter__") (by rw [typeLookup_type,builtinLookup_eq_fast];kernel_rfl) (by decide +kernel) (by decide +kernel) (by decide +kernel) (by first | exact .inl (by decide +kernel) | exact .inr (by decide +kernel)) (by rw [isSubtype_type];kernel_rfl)
theorem zhp:entryFor table "set_iterator.__iter__"=some Builtin.«dict_keyiterator.__iter__»:=entryFor_alias (id':="dict_keyiterator.__iter__") (by kernel_rfl) rfl (by decide +kernel) (by kernel_rfl)
theorem zkg (v:Value):argsOk "set_iterator.__iter__" ⟨[v],[]⟩:=by
 unfold argsOk;rw [signature?_of (id:="set_iterator.__iter__") (n:=['_','_','r','e','t','i','_','_']) (o:=['r','o','t','a','r','e','t','i','_','t','e','s']) (by kernel_rfl) zho];kernel_rfl
theorem zkh (W:Wk w es t) (hh:A.handled=none) (I:Addr) (hne:a≠I) :
  Walks prog w A I [I,a] [I] es.size (fun i v=>∃e,(zc7 w a es ep)[i]?=some e/\v=e.2) (fun i h=>h.get? I=some (z2l a (z7j w t i) i es.size ep)/\h.get? a=some (zkd es ep t)) where
 sub:=fun b hb=>by simp at hb;simp [hb]
 frame:=fun _ _ _ st kp=>⟨kp I (by simp) _ st.1,kp a (by simp) _ st.2⟩
 item:=fun i s Q E hi st k=>zpe W st.1 st.2 hi fun h' e he h1 h2=>k _ _ s.toks ⟨e,he,rfl⟩ ⟨h1,by rw [h2 a hne];exact st.2⟩ fun b o hb z=>by
  rw [h2 b (fun y=>hb (by simp [y]))];exact z
 done:=fun s Q E st k=>zum W st.1 st.2 hh fun h' kp=>k h' s.toks fun b o hb e=>kp b o (fun z=>hb (by simp [z])) e
 self:=fun _ _ _ _ st k=>wpAny_pyIter_slot ⟨_,st.1,rfl⟩ zds (wpAny_call_entry zds ⟨_,st.1,rfl⟩ zhp (by show wpAny _ _ (ret (.ref I)) _ _ _;exact wpAny_pure ⟨_,rfl,"set_iterator",_,⟨_,st.1,rfl⟩,slot_seI.lookup,k⟩) (zkg _))
theorem zun (W:Wk w es t):PySem.W.KdlSrc prog w "set" a a es.size (fun i v=>∃e,(zc7 w a es ep)[i]?=some e/\v=e.2) (fun h=>h.get? a=some (zkd es ep t)) where
 type:=fun _ hm=>⟨_,hm,rfl⟩
 there:=fun _ hm=>⟨Heap.lt_size hm,Heap.lt_size hm⟩
 keep:=fun _ _ hm kp=>kp a (.inl rfl) _ hm
 notList:=by decide
 notTuple:=by decide
 hint:=fun _ _ _ _ hm hq=>zpf ⟨_,hm,rfl⟩ hq
 iter:=fun _ s hh hm=>⟨z2l a 0 0 es.size ep,_,(fun _ _ hq=>zpd W hm hq),zkh W hh _ (Nat.ne_of_lt (Heap.lt_size hm)),by
  have e:z7j w t 0=0:=by unfold z7j;split<;>rfl
  rw [e];exact Heap.get?_push_size _ rfl,Heap.get?_push_of_some _ hm⟩
end
def setIP (prog:Program) (w:World) (a:Addr) (ms:List Int):Heap->Prop:=fun h=>zir prog w h a ms
theorem setIP.stay {prog:Program} {w:World} {a:Addr} {ms:List Int}:∀h1 h2:Heap,setIP prog w a ms h1->(∀o,h1.get? a=some o->h2.get? a=some o)->setIP prog w a ms h2:=fun _ _ ⟨o,es,ep,t,e,z⟩ k=>⟨o,es,ep,t,k _ e,z⟩
def zpg (prog:Program) (w:World) (K:Frag):List V->Hp->VK->Prop:=fun vs H Q=>∃(l:Addr) (ns:List Int),vs=[.ref l]/\SqL K H l (ns.map V.int)/\ns.length<=64/\∀a,H a=none->Q (.ref a) (upd H a (.ext (setIP prog w a (ns.foldl z7n []))))
def zhq (prog:Program) (w:World):List V->Hp->VK->Prop:=fun vs H Q=>∃(a:Addr) (ms:List Int),vs=[.ref a]/\H a=some (.ext (setIP prog w a ms))/\ms.length<=64/\∀l,H l=none->Q (.ref l) (upd H l (.lst ((soI ms).map V.int)))
theorem zhr:∀{ns:List Int} {us:List Value},Vals (ns.map V.int) us->us.map iv=ns.map some
 | [],_,r=>by cases r;rfl
 | n::ns,_,r=>by
  cases r with
  | cons r1 r2=>
   obtain ⟨u,rfl⟩:=r1
   rw [List.map_cons,zhr r2];rfl
theorem zhs:∀{ns:List Int} {us:List Value},us.map iv=ns.map some->Vals (ns.map V.int) us
 | [],us,h=>by rw [List.map_eq_nil_iff.mp h];exact .nil
 | n::ns,us,h=>by
  cases us with
  | nil=>cases h
  | cons u us=>
   rw [List.map_cons,List.map_cons] at h
   obtain ⟨h1,h2⟩:=List.cons.inj h
   exact .cons (zm3 h1) (zhs h2)
section
variable {X:Cx} {pins:List (Addr×Obj)} {U:St} {H:Hp} {s:Shared}
theorem zuo (hc:X.calm=true) (hu:X.A.units+64<cLine):CallR X (.type "set") (zpg X.prog X.w X.K):=by
 intro pins s U H xs us Q I r h
 obtain ⟨l,ns,rfl,hq,hz,q⟩:=h
 obtain ⟨u,rfl,ru⟩:=z5a r
 cases ru
 obtain ⟨its,v1,pl,_⟩:=I.list hq
 refine zp7 pl.isList (I.ok.hd hc) (by omega) ns (by simpa using zhr v1) hz fun h' tk hS kp=>?_
 have pp:setIP X.prog X.w s.heap.objs.size (ns.foldl z7n []) h':=hS
 obtain ⟨o,es,ep,t,d1,_⟩:=hS
 exact ⟨.ref s.heap.objs.size,_,I.laid (t':=tk) (o:=.ext (setIP X.prog X.w s.heap.objs.size (ns.foldl z7n []))) kp (Nat.le_refl _) ⟨pp,⟨o,d1⟩,setIP.stay⟩,rfl,q _ (I.hok.fresh (Nat.le_refl _))⟩
theorem zc8 {K:Frag} {H:Hp}:∀ns:List Int,RDs K H (ns.map D.int) (ns.map V.int)
 | []=>.nil
 | n::ns=>.cons (.mkInt n) (zc8 ns)
theorem zav:∀ns:List Int,z2s (ns.map D.int)=0
 | []=>by simp [z2s]
 | n::ns=>by rw [List.map_cons];simp [z2s,D.dep,zav ns]
theorem zht (ns:List Int):z2u (ns.map D.int)=true:=by
 unfold z2u
 rw [z27 ns D.int zq8,zav]
 have h1:(ns.map D.int).all (fun d=>(ns.map D.int).all fun e=>(z1i d e).isSome)=true:=by
  rw [List.all_eq_true]
  intro d hd
  rw [List.all_eq_true]
  intro e he
  obtain ⟨x,_,rfl⟩:=List.mem_map.mp hd
  obtain ⟨y,_,rfl⟩:=List.mem_map.mp he
  rfl
 have h2:(ns.map D.int).all isI=true:=by
  rw [List.all_eq_true]
  intro d hd
  obtain ⟨x,_,rfl⟩:=List.mem_map.mp hd
  rfl
 rw [h1,h2];rfl
theorem zup {a b:List Int} (p:a.Perm b):soI a=soI b:=by
 have:=z36 (z27 b D.int zq8) (p.map D.int)
 rw [z37,z37] at this
 exact z1d (fun _ _ z=>D.int.inj z) this
theorem zph (hc:X.calm=true) (hu:X.A.units+64<cLine):CallR X (.builtin "sorted") (zhq X.prog X.w):=by
 intro pins s U H xs us Q I r h
 obtain ⟨a,ms,rfl,ha,hz,k⟩:=h
 obtain ⟨u,rfl,ru⟩:=z5a r
 cases ru
 obtain ⟨⟨o,es,ep,t,ho,hx,hd,S⟩,_,_⟩:=(show ObjOk X.prog X.w H s.heap a (.ext (setIP X.prog X.w a ms)) from I.hok a _ ha)
 obtain ⟨oc,od,odt,osl⟩:=o
 obtain ⟨h1,h2,h3⟩:=hx
 dsimp only at h1 h2 h3 hd
 subst h1 h2 h3 hd
 have ho:s.heap.get? a=some (zkd es ep t):=ho
 obtain ⟨ks,pk,en⟩:=S.en
 have W:Wk X.w es t:=⟨S.tok,S.pl,S.led,S.ris⟩
 obtain ⟨ks',pk',en'⟩:=en.perm (z73 X.w a es ep)
 have sz:es.size=ms.length:=by
  have:=congrArg List.length en
  rw [List.length_map,List.length_map,Array.length_toList,pk.length_eq] at this
  exact this
 have hz':es.size<=sizeLine:=by rw [sz];exact Nat.le_trans hz (by decide)
 apply Calls.call_function_entry kind_sorted plain_sorted entry_sorted (args_sorted1 (.ref a))
 unfold Builtin.«sorted»
 refine wpAny_bind (m:=checkCount "sorted" 1 1 _) (wpAny_pure (wpAny_bind (PySem.W.kdu_collect (A:=X.A.in1) (zun (ep:=ep) W) (I.ok.hd hc) ho hz' fun h' tk acc kp hit=>?_)))
 have on:(zc7 X.w a es ep).size=es.size:=by rw [<-Array.length_toList,(z73 X.w a es ep).length_eq,Array.length_toList]
 have ea:acc.toList=(zc7 X.w a es ep).toList.map (·.2):=by
  apply List.ext_getElem
  . rw [Array.length_toList,List.length_map,Array.length_toList,hit.1,on]
  . intro i z1 z2
    obtain ⟨e,he,hx⟩:=hit.2 i acc[i] (by simp [show i<acc.size by simpa using z1])
    rw [Array.getElem?_eq_getElem (by simpa using z2)] at he
    cases he
    simpa using hx
 have iva:acc.toList.map iv=ks'.map some:=by
  have:=congrArg (List.map fun q:Int×Option Int=>q.2) en'
  rw [List.map_map,List.map_map] at this
  rw [ea,List.map_map]
  exact this
 have I':Inv X pins U H { s with heap:=h',toks:=tk }:=I.kept (t':=tk) kp
 have hk:ks'.length=ms.length:=by rw [pk'.length_eq,pk.length_eq]
 refine wpAny_bind (wpAny_newList ?_ (by rw [Array.length_toList,hit.1];exact hz'))
 refine wpAny_bind (wpAny_holding (wpAny_call_entry slot_list_sort ⟨_,zhj h' acc.toList,rfl⟩ entry_list_sort (wpAny_mono (zkc (s:={ s with heap:=h',toks:=tk }) (its:=acc.toList) (Q:=Q) hu I' (zc8 ks') (zhs iva) (by rw [List.length_map,hk];exact Nat.le_trans hz (by decide)) (zht ks') fun l is hl hi he=>?_) (fun f s' q=>?_) fun _ _ x=>x.elim) (args_list_sort _)))
 . have e2:is.map (fun i=>(ks'.map V.int).getD i .non)=(soI ms).map V.int:=by
    rw [z37,zup (pk'.trans pk)] at he
    have e3:is.map (fun i=>(ks'.map D.int).getD i (.int 0))=(is.map fun i=>ks'.getD i 0).map D.int:=by
     rw [List.map_map]
     refine List.map_congr_left fun i _=>?_
     rw [List.getD_eq_getElem?_getD,List.getElem?_map]
     show _=D.int (ks'.getD i 0)
     rw [List.getD_eq_getElem?_getD]
     cases ks'[i]?<;>rfl
    rw [e3] at he
    rw [z1d (fun _ _ z=>D.int.inj z) he,List.map_map]
    refine List.map_congr_left fun i h=>?_
    have:=hi i h
    rw [List.length_map] at this
    rw [List.getD_eq_getElem?_getD,List.getElem?_map,List.getElem?_eq_getElem this]
    show _=V.int (ks'.getD i 0)
    rw [List.getD_eq_getElem?_getD,List.getElem?_eq_getElem this];rfl
   rw [e2]
   exact k l hl
 . obtain ⟨x,rfl,q⟩:=q
   exact ⟨_,rfl,wpAny_pure ⟨_,rfl,q⟩⟩
end
noncomputable def zc9:List D->Option (List Int)
 | []=>some []
 | .int n::ds=>(zc9 ds).map (n::·)
 | _=>none
theorem zhu:∀{ds:List D} {ns:List Int},zc9 ds=some ns->ds=ns.map D.int
 | [],ns,h=>by simp only [zc9,Option.some.injEq] at h;subst h;rfl
 | d::ds,ns,h=>by
  cases d<;>simp only [zc9,reduceCtorEq] at h
  rename_i n
  obtain ⟨r,hr,rfl⟩:=Option.map_eq_some_iff.mp h
  rw [zhu hr];rfl
theorem zhv:∀ns:List Int,zc9 (ns.map D.int)=some ns
 | []=>rfl
 | n::ns=>by rw [List.map_cons,zc9,zhv ns];rfl
noncomputable def dSS:List D->Option D
 | [.lst ds]=>match zc9 ds with
  | some ns=>if ns.length<=64 then some (.lst ((soI (ns.foldl z7n [])).map D.int)) else none
  | none=>none
 | _=>none
theorem zhw {K:Frag} {H:Hp}:∀{ns:List Int} {xs:List V},RDs K H (ns.map D.int) xs->xs=ns.map V.int
 | [],xs,r=>by simpa only [List.map_nil,RDs] using r
 | n::ns,xs,r=>by
  simp only [List.map_cons,RDs] at r
  obtain ⟨x,r',rfl,r1,r2⟩:=r
  simp only [RD] at r1
  rw [r1,zhw r2];rfl
theorem zki (ns:List Int):∀acc:List Int,(ns.foldl z7n acc).length<=acc.length+ns.length:=by
 induction ns with
 | nil=>intro acc;simp
 | cons n ns ih=>
  intro acc
  rw [List.foldl_cons,List.length_cons]
  have:=ih (z7n acc n)
  have:=zdn acc n
  omega
theorem zyi {prog:Program} {w:World} {K:Frag}:z5c K true dSS (fun vs H Q=>zpg prog w K vs H fun x H1=>zhq prog w [x] H1 Q):=by
 intro H0 H xs ds z Q s r ho k
 unfold dSS at ho
 split at ho<;>first | (cases ho;done) | skip
 rename_i es
 split at ho<;>first | (cases ho;done) | skip
 rename_i ns hns
 split at ho<;>first | (cases ho;done) | skip
 rename_i hl
 cases ho
 obtain ⟨x,rfl,q1⟩:=r.uno
 obtain ⟨a,ys,rfl,ha,ra⟩:=q1.lst
 rw [zhu hns] at ra
 have ey:=zhw ra
 subst ey
 have fl:=zki ns []
 refine ⟨a,ns,rfl,.of (s _ _ ha),hl,fun p hp=>⟨p,_,rfl,z0o,by rw [List.length_nil] at fl;omega,fun l hl2=>k _ _ ?_⟩⟩
 have s2:Same H (upd H p (.ext (setIP prog w p (ns.foldl z7n [])))):=Same.upd_new hp
 have e2:Ext H0 H H0 (upd H p (.ext (setIP prog w p (ns.foldl z7n [])))):=(Ext.refl s).grow s2
 refine Out.after s2 e2 (.new e2.2.1 hl2 fun H' hH=>?_)
 simp only [OB]
 exact ⟨_,hH,zc8 _⟩
noncomputable def eSS (fs:DE->R (List D)):DE->R D:=eCB dSS fs
theorem zhx {X:Cx} {EX:XW} {e:Expr} {fs:DE->R (List D)} {p p2 pos pos2:Pos} (hc:X.calm=true) (hu:X.A.units+64<cLine) (hg:Gl X "sorted") (hm:X.mg "sorted"=none) (hv:bootBuiltins "sorted"=some (.builtin "sorted")) (hg2:Gl X "set") (hm2:X.mg "set"=none) (hv2:bootBuiltins "set"=some (.type "set")) (ha:QA X EX [e] fs)
  (he:starEach [e] X.env=(false,eval e X.env)::starEach [] X.env:=by rfl) (he2:starEach [Expr.Call (.Name "set" p2) [e] [] pos2] X.env=(false,eval (.Call (.Name "set" p2) [e] [] pos2) X.env)::starEach [] X.env:=by rfl) :
  QE X EX true (.Call (.Name "sorted" p) [.Call (.Name "set" p2) [e] [] pos2] [] pos) (eSS fs):=
 ⟨(z8j (zph hc hu) hg hm hv (z6j (za0 (zuo hc hu) hg2 hm2 hv2 ha.h (he:=he)) pa_nil he2) (he:=he2)).imp fun U H Q q=>(show tCB (fun vs H Q=>zpg X.prog X.w X.K vs H fun x H1=>zhq X.prog X.w [x] H1 Q) (TAd X.K EX fs) U H Q from zvq zyi q)⟩
section
variable {X:Cx} {K:Frag}
def zuq:V->List V->Hp->VK->Prop:=fun x vs H Q=>∃l b xs zs,x=.ref l/\vs=[.ref b]/\H l=some (.lst xs)/\H b=some (.tup zs)/\xs.length+zs.length<=sizeLine/\Q .non (upd H l (.lst (xs++zs)))
theorem zpi:MtM X "list.extend" zuq:=by
 intro pins s U H x vs v us Q I rx rv h
 obtain ⟨l,b,xs,zs,rfl,rfl,hH,hB,hz,q⟩:=h
 cases rx
 obtain ⟨u,rfl,ru⟩:=rv.one
 cases ru
 obtain ⟨z,its,n,r,hl,e⟩:=I.lstM hH
 obtain ⟨z2,its2,r2,ot,e2,c2,⟨n2,q2⟩,d2⟩:=I.hok b _ hB
 obtain ⟨oc,od,odt,osl⟩:=ot
 dsimp only at c2 d2 q2
 subst c2 d2 q2
 have hl1:=r.length
 have hl2:=r2.length
 have hsz:its.toArray.size+its2.toArray.size<=sizeLine:=by rw [List.size_toArray,List.size_toArray];omega
 have hlong:¬(!its.toArray.isEmpty&&Builtin.List.listTooLong (its.toArray.size+its2.toArray.size))=true:=by
  rw [zj1 hsz,Bool.and_false];exact Bool.false_ne_true
 have hz':(its.toArray++its2.toArray).size<=sizeLine+1:=by rw [Array.size_append];omega
 have hz1:its.toArray.size<=sizeLine:=by omega
 have g2:=AutoSeq1.sub_tuple_tuple
 have g3:=AutoSeq1.sub_list_list
 have g4:=AutoSeq1.sub_tuple_list
 have g5:=AutoSeq1.sub_list_tuple
 obtain ⟨hp,g,d,tk,os⟩:=s
 refine wpAny_call_entry F.slot_list_extend ⟨_,e,rfl⟩ F.entry_list_extend ?_ (F.args_list_extend_2 _ _)
 unfold Builtin.«list.extend»
 wp_walk using AutoSeq1.wpAny_loadPart' e,AutoSeq1.wpAny_loadPart' e2
 rw [if_neg hlong]
 wp_walk using AutoSeq1.wpAny_loadPart' e
 rw [show (Obj.mapSeq (fun x=>x++its2.toArray) { cls:=Value.type "list",data:=Data.seq its.toArray n }).data.pastItsLine=none from pastItsLine_seq hz']
 exact wpAny_pure (wpAny_pure ⟨_,rfl,.non,_,I.lset (its':=its++its2) hH e (by simp) (r.append r2) (by rw [List.length_append];omega),rfl,q⟩)
noncomputable def zhy:D->List D->Option D
 | .lst ds,[.tup es]=>if ds.length+es.length<=100000 then some (.lst (ds++es)) else none
 | _,_=>none
theorem zpj:zvr K zhy zuq:=by
 intro H0 H a d d' ds vs Q s h0 ob r hm k
 unfold zhy at hm
 split at hm<;>first | cases hm | skip
 split at hm<;>cases hm
 rename_i es gs hl
 simp only [OB] at ob
 obtain ⟨xs,hx,rx⟩:=ob
 obtain ⟨y,rfl,q1⟩:=r.uno
 obtain ⟨b,ys,rfl,hb,rb⟩:=q1.tup
 refine ⟨a,b,xs,ys,rfl,rfl,hx,s _ _ hb,by rw [<-rx.length,<-rb.length];exact zry hl,k _ _ ?_⟩
 simp only [OB]
 exact ⟨_,z0o,rx.append rb⟩
end
noncomputable def dInN (neg:Bool):D->D->Option D
 | .tup es,.dn ks _=>match nkD (.tup es) with
  | some k=>if k.dep<=8 then some (.bl (if neg=true then !decide (k∈ks) else decide (k∈ks))) else none
  | none=>none
 | _,_=>none
noncomputable def rInN (neg:Bool):R2:=fun y x H Q=>∃(a:Addr) (qs:List (NK×Addr)) (xs:List V) (ob:Obj) (k:NK) (b:Addr),x=.ref a/\y=.ref b/\H a=some (.ext (dnP a qs xs ob))/\DN H a qs/\NKr H k (.ref b)/\k.dep<=8 /\
 Q (.bl (if neg=true then !decide (k∈qs.map (·.1)) else decide (k∈qs.map (·.1)))) H
section
variable {X:Cx} {K:Frag}
theorem zyj (qs:List (NK×Addr)) (vs:List Value) (h:qs.length=vs.length) (k:NK):(atKey (z3 qs vs) k).isSome=decide (k∈qs.map (·.1)):=by
 have e:=zgv (z3 qs vs) k
 rw [zdj qs vs h] at e
 exact e
theorem zkj (hu:X.A.units+64<cLine):OpR X (compareOp .NotIn) (rInN true):=by
 intro pins s U H x y v u Q I rx ry h
 obtain ⟨a,qs,xs,ob,k,b,rfl,rfl,e,n,hk,hd,q⟩:=h
 cases rx;cases ry
 obtain ⟨_,vs,p1,p2,dd⟩:=zgx I e n
 refine wpAny_notIn_heap (knd:=deepKind X.prog X.w) (by show X.A.units+1+8<cLine;omega) ⟨zjd I hk rfl,hd⟩ n.2.2.1 dd ?_
 rw [zyj qs vs p2]
 generalize decide (k∈qs.map (·.1))=c at q ⊢
 exact ⟨.bl (!c),H,I.tok _,rfl,q⟩
theorem zur {neg:Bool}:OpD K false (dInN neg) (rInN neg):=by
 intro H0 H x y d e z Q s rx ry ho k
 cases d<;>simp only [dInN] at ho<;>first | (cases ho;done) | skip
 cases e<;>simp only [dInN] at ho<;>first | (cases ho;done) | skip
 rename_i es ks ds
 split at ho<;>first | (cases ho;done) | skip
 rename_i kk hkk
 split at ho<;>first | (cases ho;done) | skip
 rename_i hd
 cases ho
 have nk:=zgt hkk rx
 obtain ⟨b,ys,rfl,hb,rb⟩:=rx.tup
 simp only [RD] at ry
 obtain ⟨a,qs,xs,ob,rfl,h1,hk,n,ra⟩:=ry
 refine ⟨a,qs,xs,ob,kk,b,rfl,rfl,s _ _ h1,n.tk fun b zs q=>s _ _ q,NKr.mono (fun b zs q=>s _ _ q) nk,hd,?_⟩
 rw [hk]
 exact k _ H (.pure s (.mkBl _))
end
open PySem.W in
noncomputable def z97 (tb:String->Option Builtin) (p:Program) (w:World) (m:Nat) (ann:Option Value):Nat->SharedT->Thread->Option SharedT
 | 0,_,_=>none
 | n+1,s,t=>match through t with
  | true=>some s
  | false=>match stepOk m ann t with
   | false=>none
   | true=>match stepT (denote tb) p w s t with
    | some (s',t')=>z97 tb p w m ann n s' t'
    | none=>none
open PySem.W in
theorem z85 {tb:String->Option Builtin} {p:Program} {w:World} {m:Nat} {ann:Option Value}:∀(n:Nat) {s s':SharedT} {t:Thread},z97 tb p w m ann n s t=some s'->topRun tb p w m ann n s.abs t=some s'.abs
 | 0,_,_,_,h=>nomatch h
 | n+1,s,s',t,h=>by
  unfold z97 at h
  unfold topRun
  cases a:through t with
  | true=>rw [a] at h;cases h;rfl
  | false=>
   rw [a] at h
   cases b:stepOk m ann t with
   | false=>rw [b] at h;cases h
   | true=>
    rw [b] at h
    cases c:stepT (denote tb) p w s t with
    | none=>rw [c] at h;cases h
    | some z=>
     obtain ⟨s2,t2⟩:=z
     rw [c] at h
     rw [stepT_spec c]
     exact z85 n h
open PySem.W in
noncomputable def zm7:List Obj->Nat->BT->BT
 | [],_,t=>t
 | o::l,i,t=>zm7 l (i+1) (t.ins i o)
open PySem.W in
noncomputable def bootS (w:World) (os:OsState):SharedT:=⟨zm7 (boot_heap w.params).objs.toList 0 .nil,(boot_heap w.params).objs.size,(boot_heap w.params).life,Array.mk [],boot_drawn,boot_toks,os⟩
open PySem.W in
noncomputable def seenAt (p q:Program) (loose:List Str) (Xt:Shared->Bool) {α:Type} (Yf:Shared->α) (w:World) (t:Shared):=
 (staticsOk (importedModules p.main.body) (boot_heap w.params) t.heap&&namesBound p t.heap&&gensDone t&&laidKept (boot_heap w.params) t.heap,openSeen q loose (importedModules p.main.body) Xt true t,Yf t)
open PySem.W in
noncomputable def outAt (p q:Program) (loose:List Str) (Xt:Shared->Bool) {α:Type} (Yf:Shared->α) (N:Nat) (w:World) (os:OsState):=
 (z97 treeTable p w (boot_heap w.params).objs.size ((boot_heap w.params).nsMap mainGlobals "__annotations__") N (bootS w os) (topStub p)).map fun s=>seenAt p q loose Xt Yf w s.abs
open PySem.W in
theorem zkk:∀(w:World) (os:OsState),(bootS w os).abs=⟨boot_heap w.params,Array.mk [],boot_drawn,boot_toks,os⟩:=fun _ _=>by kernel_rfl
open PySem.W in
theorem zpk:∀w:World,(boot_heap w.params).isNs mainGlobals=true:=fun _=>by kernel_rfl
open PySem.W in
theorem zpl {p q:Program} {loose:List Str} {Xt:Shared->Bool} {α:Type} {Yf:Shared->α} {Ya:World->α} {N:Nat} (e:opening p=plainProg p.main.scope.names) (hN:Nat.ble 600 N=true)
  (f:∀s,fenceModules? p s=some s) (h:∀w os,outAt p q loose Xt Yf N w os=some (true,openGood q loose,Ya w)):LeftO p q loose Xt Yf Ya N:=fun w=>by
 obtain ⟨⟨hp,gs,d,k,os⟩,a,b⟩:=Option.map_eq_some_iff.mp (boot_open e hN f w)
 obtain ⟨rfl,rfl,rfl,rfl⟩:hp=boot_heap w.params/\gs=Array.mk []/\d=boot_drawn/\k=boot_toks:=by simpa using b
 obtain ⟨s,r,c⟩:=Option.map_eq_some_iff.mp (h w os)
 have r2:=z85 N r
 rw [zkk] at r2
 obtain ⟨l1,l2,l3⟩:_/\_/\_:=by simpa only [seenAt,Prod.mk.injEq] using c
 have t:topFrom treeTable p w N ⟨boot_heap w.params,Array.mk [],boot_drawn,boot_toks,os⟩=some s.abs:=by
  unfold topFrom
  dsimp only
  rw [zpk,r2]
  show (match staticsOk (importedModules p.main.body) (boot_heap w.params) s.abs.heap&&namesBound p s.abs.heap&&gensDone s.abs&&laidKept (boot_heap w.params) s.abs.heap with | true=>_ | false=>_)=_
  rw [l1]
 unfold openEnds
 rw [a]
 show (topFrom treeTable p w N _).map _=_
 rw [t]
 exact congrArg some (Prod.ext l2 l3)
abbrev vs (x:String) (t:Nat):Value:=.str (Str.ofString x) t
abbrev en (P:Params) (x:String) (t:Nat) (v:Value):DictEntry:=⟨PyData.keyHash P (Str.ofString x),.str (Str.ofString x) t,v⟩
abbrev oT (l:List Value):Obj:={ cls:=.type "tuple",data:=.seq l.toArray }
abbrev oD (l:List DictEntry) (n:Nat):Obj:={ cls:=.type "dict",data:=.dict l.toArray n }
abbrev oF (st:Stmt) (x q:String) (dV kV doc pm:Value) (an:Option Addr) (cd ct:Value):Obj:={ cls:=.type "function",data:=.func (PySem.W.fnOf (Str.ofString x) (Str.ofString q) (z33 st) (z1u st) (z03 st) dV kV doc pm an cd ct) }
end L2
namespace Cu
abbrev P2:=Int×Int
abbrev P3:=Int×Int×Int
def sh (at' x:Int):Int:=if x > at' then x+1 else x
def sh2 (c:Int) (p:P2):P2:=(sh c p.1,sh c p.2)
def sh3 (c:Int) (p:P3):P3:=(sh c p.1,sh c p.2.1,sh c p.2.2)
def outer (p:P3):P2:=(p.1,p.2.2)
def z1p (n c:Int):P2:=if c=n - 1 then (0,c) else (c,c+2)
def z98 (n c:Int):P3:=if c=n - 1 then (0,c,n) else (c,c+1,c+2)
structure CInv (n:Int) (ls:List P2) (T:List P3):Prop where
 n3:3<=n
 tri:∀a c b,(a,c,b)∈T->0<=a/\a<c/\c<b/\b<=n - 1/\((a,c)∈ls\/c=a+1)/\((c,b)∈ls\/b=c+1)
 lin:∀a b,(a,b)∈ls->0<=a/\a+2<=b/\b<=n - 1/\¬(a=0/\b=n - 1)
 nc:∀a b c d,(a,b)∈ls->(c,d)∈ls->¬(a<c/\c<b/\b<d)
 nd:ls.Nodup
 prm:(T.map outer).Perm ((0,n - 1)::ls)
theorem y0w:CInv 3 [] [(0,1,2)] where
 n3:=by omega
 tri:=fun a c b h=>by simp only [List.mem_cons,Prod.mk.injEq,List.not_mem_nil,or_false] at h;omega
 lin:=fun a b h=>by simp at h
 nc:=fun a b c d h=>by simp at h
 nd:=List.nodup_nil
 prm:=.refl _
theorem z3a {c:Int} {ls:List P2} {x y:Int} (h:(x,y)∈ls.map (sh2 c)):∃a b,(a,b)∈ls/\x=sh c a/\y=sh c b:=by
 obtain ⟨⟨a,b⟩,hm,e⟩:=List.mem_map.mp h
 simp only [sh2,Prod.mk.injEq] at e
 exact ⟨a,b,hm,e.1.symm,e.2.symm⟩
theorem zca {c:Int} {ls:List P2} {a b:Int} (h:(a,b)∈ls):(sh c a,sh c b)∈ls.map (sh2 c):=List.mem_map.mpr ⟨(a,b),h,rfl⟩
theorem zaw {c x y:Int} (h:sh c x=sh c y):x=y:=by
 unfold sh at h;split at h<;>split at h<;>lia
theorem CInv.grow {n:Int} {ls:List P2} {T:List P3} (I:CInv n ls T) (c:Int) (h0:0<=c) (h1:c<n):CInv (n+1) (ls.map (sh2 c)++[z1p n c]) (T.map (sh3 c)++[z98 n c]) where
 n3:=by have:=I.n3;lia
 tri:=fun x y z h=>by
  have h3:=I.n3
  rcases List.mem_append.mp h with h | h
  . obtain ⟨⟨a,m,b⟩,hm,e⟩:=List.mem_map.mp h
    simp only [sh3,Prod.mk.injEq] at e
    obtain ⟨rfl,rfl,rfl⟩:=e
    obtain ⟨g1,g2,g3,g4,g5,g6⟩:=I.tri a m b hm
    have k1:0<=sh c a:=by unfold sh;split<;>lia
    have k2:sh c a<sh c m:=by unfold sh;split<;>split<;>lia
    have k3:sh c m<sh c b:=by unfold sh;split<;>split<;>lia
    have k4:sh c b<=n+1 - 1:=by unfold sh;split<;>lia
    have side:∀u w,u+1=w->w<=n - 1->(sh c u,sh c w)∈ls.map (sh2 c)++[z1p n c]\/sh c w=sh c u+1:=fun u w e hw=>by
     by_cases q:u=c
     . left
       refine List.mem_append.mpr (.inr ?_)
       have e1:sh c u=c:=by unfold sh;split<;>lia
       have e2:sh c w=c+2:=by unfold sh;split<;>lia
       rw [e1,e2];unfold z1p;rw [if_neg (by lia)];simp
     . right;unfold sh;split<;>split<;>lia
    refine ⟨k1,k2,k3,k4,?_,?_⟩
    . rcases g5 with g5 | g5
      . exact .inl (List.mem_append.mpr (.inl (zca g5)))
      . exact side a m (by lia) (by lia)
    . rcases g6 with g6 | g6
      . exact .inl (List.mem_append.mpr (.inl (zca g6)))
      . exact side m b (by lia) (by lia)
  . simp only [List.mem_singleton] at h
    unfold z98 at h
    by_cases q:c=n - 1
    . rw [if_pos q] at h
      simp only [Prod.mk.injEq] at h
      obtain ⟨rfl,rfl,rfl⟩:=h
      refine ⟨by lia,by lia,by lia,by lia,.inl (List.mem_append.mpr (.inr ?_)),.inr (by lia)⟩
      unfold z1p;rw [if_pos q];simp
    . rw [if_neg q] at h
      simp only [Prod.mk.injEq] at h
      obtain ⟨rfl,rfl,rfl⟩:=h
      exact ⟨by lia,by lia,by lia,by lia,.inr rfl,.inr (by lia)⟩
 lin:=fun x y h=>by
  have h3:=I.n3
  rcases List.mem_append.mp h with h | h
  . obtain ⟨a,b,hm,rfl,rfl⟩:=z3a h
    obtain ⟨g1,g2,g3,g4⟩:=I.lin a b hm
    unfold sh;split<;>split<;>lia
  . simp only [List.mem_singleton] at h
    unfold z1p at h
    by_cases q:c=n - 1
    . rw [if_pos q] at h;simp only [Prod.mk.injEq] at h;lia
    . rw [if_neg q] at h;simp only [Prod.mk.injEq] at h;lia
 nc:=fun x y z w h h'=>by
  have h3:=I.n3
  rcases List.mem_append.mp h with h | h<;>rcases List.mem_append.mp h' with h' | h'
  . obtain ⟨a,b,hm,rfl,rfl⟩:=z3a h
    obtain ⟨a',b',hm',rfl,rfl⟩:=z3a h'
    have:=I.nc a b a' b' hm hm'
    unfold sh;split<;>split<;>split<;>split<;>lia
  . obtain ⟨a,b,hm,rfl,rfl⟩:=z3a h
    simp only [List.mem_singleton] at h'
    have:=I.lin a b hm
    unfold z1p at h'
    by_cases q:c=n - 1
    . rw [if_pos q] at h';simp only [Prod.mk.injEq] at h';unfold sh;split<;>split<;>lia
    . rw [if_neg q] at h';simp only [Prod.mk.injEq] at h';unfold sh;split<;>split<;>lia
  . obtain ⟨a,b,hm,rfl,rfl⟩:=z3a h'
    simp only [List.mem_singleton] at h
    have:=I.lin a b hm
    unfold z1p at h
    by_cases q:c=n - 1
    . rw [if_pos q] at h;simp only [Prod.mk.injEq] at h;unfold sh;split<;>split<;>lia
    . rw [if_neg q] at h;simp only [Prod.mk.injEq] at h;unfold sh;split<;>split<;>lia
  . simp only [List.mem_singleton] at h h'
    rw [<-h'] at h;simp only [Prod.mk.injEq] at h;lia
 nd:=by
  have h3:=I.n3
  rw [List.nodup_append]
  refine ⟨?_,by simp,fun p hp q hq=>?_⟩
  . refine (List.pairwise_map.mpr (I.nd.imp fun {p q} hne e=>hne ?_))
    simp only [sh2,Prod.mk.injEq] at e
    exact Prod.ext (zaw e.1) (zaw e.2)
  . simp only [List.mem_singleton] at hq
    subst hq
    obtain ⟨x,y⟩:=p
    obtain ⟨a,b,hm,rfl,rfl⟩:=z3a hp
    have:=I.lin a b hm
    intro e
    unfold z1p at e
    by_cases q:c=n - 1
    . rw [if_pos q] at e;simp only [Prod.mk.injEq] at e;unfold sh at e;split at e<;>split at e<;>lia
    . rw [if_neg q] at e;simp only [Prod.mk.injEq] at e;unfold sh at e;split at e<;>split at e<;>lia
 prm:=by
  have h3:=I.n3
  have e1:(T.map (sh3 c)++[z98 n c]).map outer=(T.map outer).map (sh2 c)++[outer (z98 n c)]:=by
   simp only [List.map_append,List.map_map,List.map_cons,List.map_nil];rfl
  have p1:((T.map outer).map (sh2 c)++[outer (z98 n c)]).Perm (((0,n - 1)::ls).map (sh2 c)++[outer (z98 n c)]):=(I.prm.map (sh2 c)).append_right _
  rw [e1]
  refine p1.trans ?_
  have e0:sh c 0=0:=by unfold sh;split<;>lia
  rw [List.map_cons]
  by_cases q:c=n - 1
  . have e2:sh2 c (0,n - 1)=z1p n c:=by
     unfold z1p sh2;rw [if_pos q];simp only [Prod.mk.injEq];exact ⟨e0,by unfold sh;split<;>lia⟩
    have e3:outer (z98 n c)=(0,n+1 - 1):=by unfold z98 outer;rw [if_pos q];simp
    rw [e2,e3]
    refine (List.perm_append_comm (l₁:=_::_) (l₂:=[_])).trans ?_
    refine List.Perm.cons _ ?_
    exact (List.perm_append_comm (l₁:=[z1p n c]) (l₂:=ls.map (sh2 c)))
  . have e2:sh2 c (0,n - 1)=(0,n+1 - 1):=by
     unfold sh2;simp only [Prod.mk.injEq];exact ⟨e0,by unfold sh;split<;>lia⟩
    have e3:outer (z98 n c)=z1p n c:=by unfold z98 z1p outer;rw [if_neg q,if_neg q]
    rw [e2,e3];exact .refl _
end Cu
namespace Cu
open L2 (mxD zgr T2 T3 so3 zdi z1r)
def pk (x:Int) (p l:P2):Bool:=decide (l.1=x)&&(decide (l.2<=p.2)&&!(decide (l.1=p.1)&&decide (l.2=p.2)))
theorem zus {x:Int} {p l:P2}:pk x p l=true↔l.1=x/\l.2<=p.2/\¬(l.1=p.1/\l.2=p.2):=by
 simp only [pk,Bool.and_eq_true,decide_eq_true_eq,Bool.not_eq_true',Bool.and_eq_false_iff,decide_eq_false_iff_not]
 constructor
 . rintro ⟨h1,h2,h3⟩;exact ⟨h1,h2,fun h=>by rcases h3 with z | z<;>lia⟩
 . rintro ⟨h1,h2,h3⟩
   refine ⟨h1,h2,?_⟩
   by_cases z:l.1=p.1
   . exact .inr fun w=>h3 ⟨z,w⟩
   . exact .inl z
def ends (x:Int) (p:P2) (ls:List P2):List Int:=(ls.filter (pk x p)).map (·.2)
theorem mem_ends {x:Int} {p:P2} {ls:List P2} {y:Int}:y∈ends x p ls↔(x,y)∈ls/\y<=p.2/\¬(x=p.1/\y=p.2):=by
 simp only [ends,List.mem_map,List.mem_filter,zus]
 constructor
 . rintro ⟨⟨a,b⟩,⟨h1,h2,h3,h4⟩,rfl⟩
   simp only at h2 h3 h4 ⊢
   subst h2;exact ⟨h1,h3,h4⟩
 . rintro ⟨h1,h2,h3⟩;exact ⟨(x,y),⟨h1,rfl,h2,h3⟩,rfl⟩
section
variable {n:Int} {ls ls':List P2} {T:List P3} {a b c:Int}
theorem CInv.beh1 (I:CInv n ls T) (p:ls'.Perm ls) (h:(a,c,b)∈T):mxD (a+1) (ends a (a,b) ls')=c:=by
 obtain ⟨g1,g2,g3,g4,g5,g6⟩:=I.tri a c b h
 have key:∀y∈ends a (a,b) ls',y<=c:=fun y hy=>by
  obtain ⟨m1,m2,m3⟩:=mem_ends.mp hy
  have m1:=p.mem_iff.mp m1
  simp only at m2 m3
  have:¬y=b:=fun z=>m3 (by simpa using z)
  rcases g6 with g6 | g6
  . have:=I.nc a y c b m1 g6;lia
  . lia
 refine zgr key ?_
 rcases g5 with g5 | g5
 . left;exact mem_ends.mpr ⟨p.mem_iff.mpr g5,by simp only;lia,by simp only;lia⟩
 . by_cases z:ends a (a,b) ls'=[]
   . exact .inr ⟨z,by lia⟩
   . obtain ⟨y,hy⟩:=List.exists_mem_of_ne_nil _ z
     have:=key y hy
     obtain ⟨m1,m2,m3⟩:=mem_ends.mp hy
     have:=I.lin a y (p.mem_iff.mp m1);lia
theorem CInv.beh2 (I:CInv n ls T) (p:ls'.Perm ls) (h:(a,c,b)∈T):mxD (c+1) (ends c (a,b) ls')=b:=by
 obtain ⟨g1,g2,g3,g4,g5,g6⟩:=I.tri a c b h
 refine zgr (fun y hy=>(mem_ends.mp hy).2.1) ?_
 rcases g6 with g6 | g6
 . left;exact mem_ends.mpr ⟨p.mem_iff.mpr g6,by simp only;lia,by simp only;lia⟩
 . by_cases z:ends c (a,b) ls'=[]
   . exact .inr ⟨z,by lia⟩
   . obtain ⟨y,hy⟩:=List.exists_mem_of_ne_nil _ z
     obtain ⟨m1,m2,m3⟩:=mem_ends.mp hy
     have:=I.lin c y (p.mem_iff.mp m1);simp only at m2;lia
def thr (T:List P3) (p:P2):P3:=(T.find? fun t=>decide (outer t=p)).getD (0,0,0)
theorem zm8 {p:P2} (h:p∈T.map outer):thr T p∈T/\outer (thr T p)=p:=by
 obtain ⟨t,ht,e⟩:=List.mem_map.mp h
 unfold thr
 cases hf:T.find? fun t=>decide (outer t=p) with
 | none=>
  have:=List.find?_eq_none.mp hf t ht
  simp [e] at this
 | some u=>
  have h1:=List.mem_of_find?_eq_some hf
  have h2:=List.find?_some hf
  exact ⟨h1,by simpa using h2⟩
theorem CInv.thr_outer (I:CInv n ls T) {t:P3} (h:t∈T):thr T (outer t)=t:=by
 obtain ⟨h1,h2⟩:=zm8 (T:=T) (List.mem_map.mpr ⟨t,h,rfl⟩)
 obtain ⟨a,c,b⟩:=t
 generalize thr T (outer (a,c,b))=u at h1 h2
 obtain ⟨a',c',b'⟩:=u
 simp only [outer,Prod.mk.injEq] at h2
 obtain ⟨rfl,rfl⟩:=h2
 have e1:=I.beh1 (.refl _) h1
 have e2:=I.beh1 (.refl _) h
 rw [e1] at e2
 rw [e2]
theorem CInv.tops (I:CInv n ls T) (p:ls'.Perm ls):(((0,n - 1)::ls').map (thr T)).Perm T:=by
 have q:((0,n - 1)::ls').Perm (T.map outer):=(p.cons _).trans I.prm.symm
 refine (q.map (thr T)).trans ?_
 rw [List.map_map]
 have:T.map (thr T∘outer)=T:=by
  conv=>rhs;rw [<-List.map_id T]
  exact List.map_congr_left fun t ht=>I.thr_outer ht
 rw [this]
theorem CInv.top_in (I:CInv n ls T) (p:ls'.Perm ls) {q:P2} (h:q∈(0,n - 1)::ls'):thr T q∈T/\outer (thr T q)=q:=
 zm8 ((((p.cons _).trans I.prm.symm).mem_iff).mp h)
theorem CInv.len (I:CInv n ls T):T.length=ls.length+1:=by
 have:=I.prm.length_eq;simpa using this
end
def bth (x y:Int) (t:P3):Bool:=(decide (x=t.1)||(decide (x=t.2.1)||decide (x=t.2.2)))&&(decide (y=t.1)||(decide (y=t.2.1)||decide (y=t.2.2)))
theorem bth_iff {x y:Int} {a c b:Int}:bth x y (a,c,b)=true↔(x=a\/x=c\/x=b)/\(y=a\/y=c\/y=b):=by
 simp only [bth,Bool.and_eq_true,Bool.or_eq_true,decide_eq_true_eq]
open Classical in
noncomputable def ee (n:Int) (ls:List P2) (x y:Int):Nat:=(if (x,y)∈ls then 2 else 0)+(if y=x+1/\0<=x/\y<=n - 1 then 1 else 0)+(if x=0/\y=n - 1 then 1 else 0)
def Cnt (n:Int) (ls:List P2) (T:List P3):Prop:=∀x y,x<y->(T.filter (bth x y)).length=ee n ls x y
theorem y0x:Cnt 3 [] [(0,1,2)]:=by
 intro x y h
 unfold ee
 by_cases b:bth x y (0,1,2)=true
 . rw [List.filter_cons_of_pos b]
   rw [bth_iff] at b
   simp only [List.filter_nil,List.length_cons,List.length_nil,List.not_mem_nil,if_false]
   by_cases z:y=x+1/\0<=x/\y<=3 - 1
   . rw [if_pos z,if_neg (by lia)]
   . rw [if_neg z,if_pos (by lia)]
 . rw [List.filter_cons_of_neg b]
   rw [bth_iff] at b
   simp only [List.filter_nil,List.length_nil,List.not_mem_nil,if_false]
   rw [if_neg (by lia),if_neg (by lia)]
theorem z7o {α β:Type} (f:α->β) (p:β->Bool) (q:α->Bool) (h:∀a,p (f a)=q a) (l:List α):((l.map f).filter p).length=(l.filter q).length:=by
 induction l with
 | nil=>rfl
 | cons a r ih=>
  rw [List.map_cons,List.filter_cons,List.filter_cons,h a]
  split<;>simp [ih]
theorem zyk {c x y:Int}:(sh c x=sh c y)↔x=y:=⟨zaw,fun h=>by rw [h]⟩
theorem zut (c x y:Int) (t:P3):bth (sh c x) (sh c y) (sh3 c t)=bth x y t:=by
 simp only [bth,sh3,zyk]
theorem Cnt.grow {n:Int} {ls:List P2} {T:List P3} (I:CInv n ls T) (C:Cnt n ls T) (c:Int) (h0:0<=c) (h1:c<n):Cnt (n+1) (ls.map (sh2 c)++[z1p n c]) (T.map (sh3 c)++[z98 n c]):=by
 intro x y hxy
 have h3:=I.n3
 rw [List.filter_append,List.length_append]
 by_cases old:x≠c+1/\y≠c+1
 . obtain ⟨u,rfl⟩:∃u,x=sh c u:=by
    by_cases z:x > c
    . exact ⟨x - 1,by unfold sh;rw [if_pos (by omega)];omega⟩
    . exact ⟨x,by unfold sh;rw [if_neg (by omega)]⟩
   obtain ⟨w,rfl⟩:∃w,y=sh c w:=by
    by_cases z:y > c
    . exact ⟨y - 1,by unfold sh;rw [if_pos (by omega)];omega⟩
    . exact ⟨y,by unfold sh;rw [if_neg (by omega)]⟩
   have huw:u<w:=by unfold sh at hxy;split at hxy<;>split at hxy<;>omega
   rw [z7o (sh3 c) _ (bth u w) (zut c u w),C u w huw]
   have hm:((sh c u,sh c w)∈ls.map (sh2 c)++[z1p n c])↔((u,w)∈ls\/(sh c u,sh c w)=z1p n c):=by
    rw [List.mem_append,List.mem_singleton]
    refine ⟨fun h=>h.elim (fun h=>.inl ?_) .inr,fun h=>h.elim (fun h=>.inl (zca h)) .inr⟩
    obtain ⟨a,b,g,e1,e2⟩:=z3a h
    rw [zaw e1,zaw e2];exact g
   have hlin:=I.lin u w
   unfold ee
   by_cases q:c=n - 1
   . have en:z1p n c=(0,c):=by unfold z1p;rw [if_pos q]
     have et:z98 n c=(0,c,n):=by unfold z98;rw [if_pos q]
     rw [en] at hm
     rw [en,et]
     simp only [Prod.mk.injEq] at hm
     by_cases l1:(u,w)∈ls
     . have:=hlin l1
       rw [if_pos l1,if_pos (hm.mpr (.inl l1)),if_neg (by omega),if_neg (by omega),if_neg (by unfold sh;split<;>split<;>omega),if_neg (by unfold sh;split<;>split<;>omega),
        List.filter_cons_of_neg (by rw [bth_iff];unfold sh;split<;>split<;>omega)];rfl
     . rw [if_neg l1]
       by_cases z:u=0/\w=n - 1
       . rw [if_neg (by omega),if_pos z,if_pos (hm.mpr (.inr (by unfold sh;split<;>split<;>omega))),if_neg (by unfold sh;split<;>split<;>omega),if_neg (by unfold sh;split<;>split<;>omega),
          List.filter_cons_of_pos (by rw [bth_iff];unfold sh;split<;>split<;>omega)];rfl
       . rw [if_neg z,if_neg (fun h=>(hm.mp h).elim l1 (by unfold sh;split<;>split<;>omega)),List.filter_cons_of_neg (by rw [bth_iff];unfold sh;split<;>split<;>omega),
          if_neg (show ¬(sh c u=0/\sh c w=n+1 - 1) by unfold sh;split<;>split<;>omega)]
         by_cases y1:w=u+1/\0<=u/\w<=n - 1
         . rw [if_pos y1,if_pos (by unfold sh;split<;>split<;>omega)];rfl
         . rw [if_neg y1,if_neg (by unfold sh;split<;>split<;>omega)];rfl
   . have en:z1p n c=(c,c+2):=by unfold z1p;rw [if_neg q]
     have et:z98 n c=(c,c+1,c+2):=by unfold z98;rw [if_neg q]
     rw [en] at hm
     rw [en,et]
     simp only [Prod.mk.injEq] at hm
     by_cases l1:(u,w)∈ls
     . have:=hlin l1
       rw [if_pos l1,if_pos (hm.mpr (.inl l1)),if_neg (by omega),if_neg (by omega),if_neg (by unfold sh;split<;>split<;>omega),if_neg (by unfold sh;split<;>split<;>omega),
        List.filter_cons_of_neg (by rw [bth_iff];unfold sh;split<;>split<;>omega)];rfl
     . rw [if_neg l1]
       by_cases z:u=c/\w=c+1
       . rw [if_pos (by omega),if_neg (show ¬(u=0/\w=n - 1) by omega),if_pos (hm.mpr (.inr (by unfold sh;split<;>split<;>omega))),if_neg (by unfold sh;split<;>split<;>omega),if_neg (by unfold sh;split<;>split<;>omega),
          List.filter_cons_of_pos (by rw [bth_iff];unfold sh;split<;>split<;>omega)];rfl
       . rw [if_neg (fun h=>(hm.mp h).elim l1 (by unfold sh;split<;>split<;>omega)),List.filter_cons_of_neg (by rw [bth_iff];unfold sh;split<;>split<;>omega)]
         by_cases y1:w=u+1/\0<=u/\w<=n - 1
         . rw [if_pos y1,if_pos (show sh c w=sh c u+1/\0<=sh c u/\sh c w<=n+1 - 1 by unfold sh;split<;>split<;>omega),if_neg (by omega),if_neg (by unfold sh;split<;>split<;>omega)];rfl
         . rw [if_neg y1,if_neg (show ¬(sh c w=sh c u+1/\0<=sh c u/\sh c w<=n+1 - 1) by unfold sh;split<;>split<;>omega)]
           by_cases y2:u=0/\w=n - 1
           . rw [if_pos y2,if_pos (by unfold sh;split<;>split<;>omega)];rfl
           . rw [if_neg y2,if_neg (by unfold sh;split<;>split<;>omega)];rfl
 . have hnil:(T.map (sh3 c)).filter (bth x y)=[]:=by
    rw [List.filter_eq_nil_iff]
    intro t ht
    obtain ⟨⟨a,m,b⟩,_,rfl⟩:=List.mem_map.mp ht
    simp only [sh3]
    rw [bth_iff]
    have k1:sh c a≠c+1:=by unfold sh;split<;>omega
    have k2:sh c m≠c+1:=by unfold sh;split<;>omega
    have k3:sh c b≠c+1:=by unfold sh;split<;>omega
    rintro ⟨hu,hv⟩
    refine old ⟨?_,?_⟩
    . rcases hu with h | h | h<;>rw [h]<;>assumption
    . rcases hv with h | h | h<;>rw [h]<;>assumption
   rw [hnil,List.length_nil,Nat.zero_add]
   have hm:¬((x,y)∈ls.map (sh2 c)++[z1p n c]):=by
    rw [List.mem_append,List.mem_singleton]
    rintro (h | h)
    . obtain ⟨a,b,g,e1,e2⟩:=z3a h
      have k1:sh c a≠c+1:=by unfold sh;split<;>omega
      have k2:sh c b≠c+1:=by unfold sh;split<;>omega
      exact old ⟨by rw [e1];exact k1,by rw [e2];exact k2⟩
    . unfold z1p at h
      by_cases q:c=n - 1
      . rw [if_pos q] at h;simp only [Prod.mk.injEq] at h;omega
      . rw [if_neg q] at h;simp only [Prod.mk.injEq] at h;omega
   unfold ee
   rw [if_neg hm]
   unfold z98
   by_cases q:c=n - 1
   . rw [if_pos q]
     by_cases z:bth x y (0,c,n)=true
     . rw [List.filter_cons_of_pos z]
       rw [bth_iff] at z
       by_cases y1:y=x+1/\0<=x/\y<=n+1 - 1
       . rw [if_pos y1,if_neg (by omega)];rfl
       . rw [if_neg y1,if_pos (by omega)];rfl
     . rw [List.filter_cons_of_neg z]
       rw [bth_iff] at z
       rw [if_neg (by omega),if_neg (by omega)];rfl
   . rw [if_neg q]
     by_cases z:bth x y (c,c+1,c+2)=true
     . rw [List.filter_cons_of_pos z]
       rw [bth_iff] at z
       rw [if_pos (by omega),if_neg (by omega)];rfl
     . rw [List.filter_cons_of_neg z]
       rw [bth_iff] at z
       rw [if_neg (by omega),if_neg (by omega)];rfl
end Cu
namespace Cu
def b1n (b:Bool):Nat:=if b=true then 1 else 0
theorem z1z (p:P3->Bool) (t u:P3) (r:List P3):((t::u::r).filter p).length=b1n (p t)+b1n (p u)+(r.filter p).length:=by
 simp only [List.filter_cons,b1n]
 cases p t<;>cases p u<;>simp<;>lia
theorem z74 (x y a c b:Int):b1n (bth x y (a,c,b))=if ((x=a\/x=c\/x=b)/\(y=a\/y=c\/y=b)) then 1 else 0:=by
 unfold b1n
 by_cases h:bth x y (a,c,b)=true
 . rw [if_pos h,if_pos (bth_iff.mp h)]
 . rw [if_neg h,if_neg (fun z=>h (bth_iff.mpr z))]
def e2 (x y a b:Int):Nat:=if x=a/\y=b then 1 else 0
theorem zax {x y a c b:Int} (hxy:x<y) (h1:a<c) (h2:c<b):b1n (bth x y (a,c,b))=e2 x y a c+e2 x y c b+e2 x y a b:=by
 rw [z74];unfold e2
 by_cases z1:x=a/\y=c
 . rw [if_pos (by lia),if_pos z1,if_neg (by lia),if_neg (by lia)]
 . by_cases z2:x=c/\y=b
   . rw [if_pos (by lia),if_neg z1,if_pos z2,if_neg (by lia)]
   . by_cases z3:x=a/\y=b
     . rw [if_pos (by lia),if_neg z1,if_neg z2,if_pos z3]
     . rw [if_neg (by lia),if_neg z1,if_neg z2,if_neg z3]
theorem zvv (x y a b:Int):(if (x,y)=(a,b) then 2 else 0)=2 * e2 x y a b:=by
 unfold e2
 by_cases z:x=a/\y=b
 . rw [if_pos z,if_pos (by rw [z.1,z.2])]
 . rw [if_neg z,if_neg (fun h=>z (by simpa only [Prod.mk.injEq] using h))]
theorem zay {n:Int} {ls ls0:List P2} {T T0:List P3} {t1 t2 u1 u2:P3} {l w:P2} (C:Cnt n ls T) (pT:T.Perm (t1::t2::T0)) (pl:ls.Perm (l::ls0)) (hw:w∉ls) (hl:l∉ls0)
  (key:∀x y,x<y->b1n (bth x y u1)+b1n (bth x y u2)+(if (x,y)=l then 2 else 0)=b1n (bth x y t1)+b1n (bth x y t2)+(if (x,y)=w then 2 else 0))
  (hlw:l.1<l.2/\w.1<w.2) (hls:¬(l.2=l.1+1)/\¬(l.1=0/\l.2=n - 1)) (hws:¬(w.2=w.1+1)/\¬(w.1=0/\w.2=n - 1)):Cnt n (ls0++[w]) (u1::u2::T0):=by
 intro x y hxy
 have c:=C x y hxy
 rw [(pT.filter _).length_eq,z1z] at c
 rw [z1z]
 have k:=key x y hxy
 have e:ee n (ls0++[w]) x y+(if (x,y)=l then 2 else 0)=ee n ls x y+(if (x,y)=w then 2 else 0):=by
  unfold ee
  have m1:(x,y)∈ls↔((x,y)=l\/(x,y)∈ls0):=by rw [pl.mem_iff,List.mem_cons]
  have m2:(x,y)∈ls0++[w]↔((x,y)∈ls0\/(x,y)=w):=by rw [List.mem_append,List.mem_singleton]
  by_cases a:(x,y)=l
  . have b:(x,y)≠w:=fun z=>hw (by rw [<-z];exact m1.mpr (.inl a))
    have b0:(x,y)∉ls0:=fun z=>hl (by rw [<-a];exact z)
    rw [if_pos a,if_neg b,if_neg (fun z=>(m2.mp z).elim b0 b),if_pos (m1.mpr (.inl a))];lia
  . by_cases b:(x,y)=w
    . have a0:(x,y)∉ls:=fun z=>hw (by rw [<-b];exact z)
      rw [if_neg a,if_pos b,if_pos (m2.mpr (.inr b)),if_neg a0];lia
    . rw [if_neg a,if_neg b]
      by_cases z:(x,y)∈ls0
      . rw [if_pos (m2.mpr (.inl z)),if_pos (m1.mpr (.inr z))]
      . rw [if_neg (fun q=>(m2.mp q).elim z b),if_neg (fun q=>(m1.mp q).elim a z)]
 lia
theorem CInv.top_or {n:Int} {ls:List P2} {T:List P3} (I:CInv n ls T) {a c b:Int} (h:(a,c,b)∈T):(a,b)∈ls\/(a=0/\b=n - 1):=by
 have:(a,b)∈(0,n - 1)::ls:=I.prm.mem_iff.mp (List.mem_map.mpr ⟨(a,c,b),h,rfl⟩)
 rcases List.mem_cons.mp this with z | z
 . simp only [Prod.mk.injEq] at z;exact .inr z
 . exact .inl z
structure Cut (n:Int) (ls:List P2) (T:List P3):Prop where
 inv:CInv n ls T
 cnt:Cnt n ls T
theorem nc2 {n:Int} {ls:List P2} {T:List P3} (I:CInv n ls T) {a b x y:Int} (h:(a,b)∈ls\/b=a+1) (hx:(x,y)∈ls):¬(a<x/\x<b/\b<y)/\¬(x<a/\a<y/\y<b):=by
 rcases h with h | h
 . exact ⟨I.nc a b x y h hx,I.nc x y a b hx h⟩
 . lia
theorem nc3 {n:Int} {ls:List P2} {T:List P3} (I:CInv n ls T) {a b x y:Int} (h:(a,b)∈ls\/(a=0/\b=n - 1)) (hx:(x,y)∈ls):¬(a<x/\x<b/\b<y)/\¬(x<a/\a<y/\y<b):=by
 rcases h with h | h
 . exact ⟨I.nc a b x y h hx,I.nc x y a b hx h⟩
 . have:=I.lin x y hx;omega
theorem y0y {p m q r x y:Int} (a2:p<m) (a3:m<q) (b3:q<r) (k1:¬(p<x/\x<m/\m<y)/\¬(x<p/\p<y/\y<m)) (k2:¬(m<x/\x<q/\q<y)/\¬(x<m/\m<y/\y<q)) (k3:¬(q<x/\x<r/\r<y)/\¬(x<q/\q<y/\y<r)) (k4:¬(p<x/\x<r/\r<y)/\¬(x<p/\p<y/\y<r)) (h2:¬(x=p/\y=q)) (hl:x+2<=y) :
  ¬(m<x/\x<r/\r<y)/\¬(x<m/\m<y/\y<r):=by
 refine ⟨fun ⟨u,v,z⟩=>k4.1 ⟨Int.lt_trans a2 u,v,z⟩,fun ⟨u,v,z⟩=>?_⟩
 rcases Int.lt_trichotomy y q with f | f | f
 . exact k2.2 ⟨u,v,f⟩
 . subst f
   rcases Int.lt_trichotomy x p with e | e | e
   . exact k4.2 ⟨e,Int.lt_trans a2 v,z⟩
   . exact h2 ⟨e,rfl⟩
   . exact k1.1 ⟨e,u,v⟩
 . exact k3.2 ⟨Int.lt_trans u a3,f,z⟩
theorem y0z {p m q r x y:Int} (a2:p<m) (a3:m<q) (b2:r<p) (k1:¬(p<x/\x<m/\m<y)/\¬(x<p/\p<y/\y<m)) (k2:¬(m<x/\x<q/\q<y)/\¬(x<m/\m<y/\y<q)) (k3:¬(r<x/\x<p/\p<y)/\¬(x<r/\r<y/\y<p)) (k4:¬(r<x/\x<q/\q<y)/\¬(x<r/\r<y/\y<q)) (h2:¬(x=p/\y=q)) (hl:x+2<=y) :
  ¬(r<x/\x<m/\m<y)/\¬(x<r/\r<y/\y<m):=by
 refine ⟨fun ⟨u,v,z⟩=>?_,fun ⟨u,v,z⟩=>k4.2 ⟨u,v,Int.lt_trans z a3⟩⟩
 rcases Int.lt_trichotomy x p with e | e | e
 . exact k3.1 ⟨u,e,Int.lt_trans a2 z⟩
 . subst e
   rcases Int.lt_trichotomy y q with f | f | f
   . exact k2.2 ⟨v,z,f⟩
   . exact h2 ⟨rfl,f⟩
   . exact k4.1 ⟨u,Int.lt_trans v a3,f⟩
 . exact k1.1 ⟨e,v,z⟩
theorem Cut.turnA {n:Int} {ls ls0:List P2} {T T0:List P3} {p m q r:Int} (K:Cut n ls T) (pT:T.Perm ((p,m,q)::(p,q,r)::T0)) (pl:ls.Perm ((p,q)::ls0)) :
  Cut n (ls0++[(m,r)]) ((p,m,r)::(m,q,r)::T0):=by
 have I:=K.inv
 have m1:(p,m,q)∈T:=pT.mem_iff.mpr (by simp)
 have m2:(p,q,r)∈T:=pT.mem_iff.mpr (by simp)
 obtain ⟨a1,a2,a3,a4,a5,a6⟩:=I.tri p m q m1
 obtain ⟨b1,b2,b3,b4,b5,b6⟩:=I.tri p q r m2
 have tp:=I.top_or m2
 have nd0:(p,q)∉ls0/\ls0.Nodup:=by
  have:=pl.nodup_iff.mp I.nd;rw [List.nodup_cons] at this;exact this
 have hlq:(p,q)∈ls:=pl.mem_iff.mpr (by simp)
 have sub:∀x y,(x,y)∈ls0->(x,y)∈ls/\¬(x=p/\y=q):=fun x y h=>⟨pl.mem_iff.mpr (List.mem_cons_of_mem _ h),fun z=>nd0.1 (by rw [<-z.1,<-z.2];exact h)⟩
 have new:∀x y,(x,y)∈ls0->¬(m<x/\x<r/\r<y)/\¬(x<m/\m<y/\y<r):=fun x y h=>by
  obtain ⟨h1,h2⟩:=sub x y h
  exact y0y a2 a3 b3 (nc2 I a5 h1) (nc2 I a6 h1) (nc2 I b6 h1) (nc3 I tp h1) h2 (I.lin x y h1).2.1
 have wn:(m,r)∉ls:=fun z=>by have:=I.nc p q m r hlq z;lia
 have keep:∀x y,(x,y)∈ls->¬(x=p/\y=q)->(x,y)∈ls0++[(m,r)]:=fun x y h1 h2=>by
  rcases List.mem_cons.mp (pl.mem_iff.mp h1) with z | z
  . simp only [Prod.mk.injEq] at z;exact absurd z h2
  . exact List.mem_append.mpr (.inl z)
 have inw:(m,r)∈ls0++[(m,r)]:=List.mem_append.mpr (.inr (by simp))
 refine ⟨⟨I.n3,fun x y z h=>?_,fun x y h=>?_,fun x y z w h h'=>?_,?_,?_⟩,?_⟩
 . rcases List.mem_cons.mp h with h | h
   . simp only [Prod.mk.injEq] at h;obtain ⟨rfl,rfl,rfl⟩:=h
     exact ⟨a1,a2,by lia,b4,a5.imp (fun h=>keep _ _ h (by lia)) id,.inl inw⟩
   rcases List.mem_cons.mp h with h | h
   . simp only [Prod.mk.injEq] at h;obtain ⟨rfl,rfl,rfl⟩:=h
     exact ⟨by lia,a3,b3,b4,a6.imp (fun h=>keep _ _ h (by lia)) id,b6.imp (fun h=>keep _ _ h (by lia)) id⟩
   . have hT:(x,y,z)∈T:=pT.mem_iff.mpr (by simp [h])
     obtain ⟨c1,c2,c3,c4,c5,c6⟩:=I.tri x y z hT
     have cn:=K.cnt p q (by lia)
     have two:ee n ls p q=2:=by
      unfold ee;have:=I.lin p q hlq
      rw [if_pos hlq,if_neg (by lia),if_neg (by lia)]
     rw [two,(pT.filter _).length_eq,z1z,z74,z74,if_pos (by lia),if_pos (by lia)] at cn
     have nil:T0.filter (bth p q)=[]:=List.length_eq_zero_iff.mp (by lia)
     have nb:¬(bth p q (x,y,z)=true):=fun w=>by
      have:(x,y,z)∈T0.filter (bth p q):=List.mem_filter.mpr ⟨h,w⟩
      rw [nil] at this;cases this
     rw [bth_iff] at nb
     exact ⟨c1,c2,c3,c4,c5.imp (fun h=>keep _ _ h (by lia)) id,c6.imp (fun h=>keep _ _ h (by lia)) id⟩
 . rcases List.mem_append.mp h with h | h
   . exact I.lin x y (sub x y h).1
   . simp only [List.mem_singleton,Prod.mk.injEq] at h;lia
 . rcases List.mem_append.mp h with h | h<;>rcases List.mem_append.mp h' with h' | h'
   . exact I.nc x y z w (sub x y h).1 (sub z w h').1
   . simp only [List.mem_singleton,Prod.mk.injEq] at h';have:=new x y h;lia
   . simp only [List.mem_singleton,Prod.mk.injEq] at h;have:=new z w h';lia
   . simp only [List.mem_singleton,Prod.mk.injEq] at h h';lia
 . rw [List.nodup_append]
   refine ⟨nd0.2,by simp,fun a ha b hb=>?_⟩
   simp only [List.mem_singleton] at hb
   subst hb;intro e;subst e
   exact wn (sub _ _ ha).1
 . have p1:((p,q)::(p,r)::T0.map outer).Perm ((0,n - 1)::(p,q)::ls0):=((pT.map outer).symm.trans I.prm).trans (pl.cons _)
   have p2:((p,r)::T0.map outer).Perm ((0,n - 1)::ls0):=(List.perm_cons (p,q)).mp (p1.trans (.swap _ _ _))
   show ((p,r)::(m,r)::T0.map outer).Perm _
   refine (List.Perm.swap _ _ _).trans ((p2.cons _).trans ?_)
   refine (List.Perm.swap _ _ _).trans (List.Perm.cons _ ?_)
   exact (List.perm_append_singleton _ _).symm
 . refine zay K.cnt pT pl wn nd0.1 (fun x y hxy=>?_) ⟨by simp only;lia,by simp only;lia⟩ ⟨by have:=I.lin p q hlq;simp only;lia,by have:=I.lin p q hlq;simp only;lia⟩ ⟨by simp only;lia,by simp only;lia⟩
   rw [zax hxy (by lia) (by lia),zax hxy (by lia) (by lia),zax hxy (by lia) (by lia),zax hxy (by lia) (by lia),zvv,zvv]
   lia
theorem Cut.turnB {n:Int} {ls ls0:List P2} {T T0:List P3} {p m q r:Int} (K:Cut n ls T) (pT:T.Perm ((p,m,q)::(r,p,q)::T0)) (pl:ls.Perm ((p,q)::ls0)) :
  Cut n (ls0++[(r,m)]) ((r,p,m)::(r,m,q)::T0):=by
 have I:=K.inv
 have m1:(p,m,q)∈T:=pT.mem_iff.mpr (by simp)
 have m2:(r,p,q)∈T:=pT.mem_iff.mpr (by simp)
 obtain ⟨a1,a2,a3,a4,a5,a6⟩:=I.tri p m q m1
 obtain ⟨b1,b2,b3,b4,b5,b6⟩:=I.tri r p q m2
 have tp:=I.top_or m2
 have nd0:(p,q)∉ls0/\ls0.Nodup:=by
  have:=pl.nodup_iff.mp I.nd;rw [List.nodup_cons] at this;exact this
 have hlq:(p,q)∈ls:=pl.mem_iff.mpr (by simp)
 have sub:∀x y,(x,y)∈ls0->(x,y)∈ls/\¬(x=p/\y=q):=fun x y h=>⟨pl.mem_iff.mpr (List.mem_cons_of_mem _ h),fun z=>nd0.1 (by rw [<-z.1,<-z.2];exact h)⟩
 have new:∀x y,(x,y)∈ls0->¬(r<x/\x<m/\m<y)/\¬(x<r/\r<y/\y<m):=fun x y h=>by
  obtain ⟨h1,h2⟩:=sub x y h
  exact y0z a2 a3 b2 (nc2 I a5 h1) (nc2 I a6 h1) (nc2 I b5 h1) (nc3 I tp h1) h2 (I.lin x y h1).2.1
 have wn:(r,m)∉ls:=fun z=>by have:=I.nc r m p q z hlq;lia
 have keep:∀x y,(x,y)∈ls->¬(x=p/\y=q)->(x,y)∈ls0++[(r,m)]:=fun x y h1 h2=>by
  rcases List.mem_cons.mp (pl.mem_iff.mp h1) with z | z
  . simp only [Prod.mk.injEq] at z;exact absurd z h2
  . exact List.mem_append.mpr (.inl z)
 have inw:(r,m)∈ls0++[(r,m)]:=List.mem_append.mpr (.inr (by simp))
 refine ⟨⟨I.n3,fun x y z h=>?_,fun x y h=>?_,fun x y z w h h'=>?_,?_,?_⟩,?_⟩
 . rcases List.mem_cons.mp h with h | h
   . simp only [Prod.mk.injEq] at h;obtain ⟨rfl,rfl,rfl⟩:=h
     exact ⟨b1,b2,a2,by lia,b5.imp (fun h=>keep _ _ h (by lia)) id,a5.imp (fun h=>keep _ _ h (by lia)) id⟩
   rcases List.mem_cons.mp h with h | h
   . simp only [Prod.mk.injEq] at h;obtain ⟨rfl,rfl,rfl⟩:=h
     exact ⟨b1,by lia,a3,a4,.inl inw,a6.imp (fun h=>keep _ _ h (by lia)) id⟩
   . have hT:(x,y,z)∈T:=pT.mem_iff.mpr (by simp [h])
     obtain ⟨c1,c2,c3,c4,c5,c6⟩:=I.tri x y z hT
     have cn:=K.cnt p q (by lia)
     have two:ee n ls p q=2:=by
      unfold ee;have:=I.lin p q hlq
      rw [if_pos hlq,if_neg (by lia),if_neg (by lia)]
     rw [two,(pT.filter _).length_eq,z1z,z74,z74,if_pos (by lia),if_pos (by lia)] at cn
     have nil:T0.filter (bth p q)=[]:=List.length_eq_zero_iff.mp (by lia)
     have nb:¬(bth p q (x,y,z)=true):=fun w=>by
      have:(x,y,z)∈T0.filter (bth p q):=List.mem_filter.mpr ⟨h,w⟩
      rw [nil] at this;cases this
     rw [bth_iff] at nb
     exact ⟨c1,c2,c3,c4,c5.imp (fun h=>keep _ _ h (by lia)) id,c6.imp (fun h=>keep _ _ h (by lia)) id⟩
 . rcases List.mem_append.mp h with h | h
   . exact I.lin x y (sub x y h).1
   . simp only [List.mem_singleton,Prod.mk.injEq] at h;lia
 . rcases List.mem_append.mp h with h | h<;>rcases List.mem_append.mp h' with h' | h'
   . exact I.nc x y z w (sub x y h).1 (sub z w h').1
   . simp only [List.mem_singleton,Prod.mk.injEq] at h';have:=new x y h;lia
   . simp only [List.mem_singleton,Prod.mk.injEq] at h;have:=new z w h';lia
   . simp only [List.mem_singleton,Prod.mk.injEq] at h h';lia
 . rw [List.nodup_append]
   refine ⟨nd0.2,by simp,fun a ha b hb=>?_⟩
   simp only [List.mem_singleton] at hb
   subst hb;intro e;subst e
   exact wn (sub _ _ ha).1
 . have p1:((p,q)::(r,q)::T0.map outer).Perm ((0,n - 1)::(p,q)::ls0):=((pT.map outer).symm.trans I.prm).trans (pl.cons _)
   have p2:((r,q)::T0.map outer).Perm ((0,n - 1)::ls0):=(List.perm_cons (p,q)).mp (p1.trans (.swap _ _ _))
   show ((r,m)::(r,q)::T0.map outer).Perm _
   refine ((p2.cons _).trans ?_)
   refine (List.Perm.swap _ _ _).trans (List.Perm.cons _ ?_)
   exact (List.perm_append_singleton _ _).symm
 . refine zay K.cnt pT pl wn nd0.1 (fun x y hxy=>?_) ⟨by simp only;lia,by simp only;lia⟩ ⟨by have:=I.lin p q hlq;simp only;lia,by have:=I.lin p q hlq;simp only;lia⟩ ⟨by simp only;lia,by simp only;lia⟩
   rw [zax hxy (by lia) (by lia),zax hxy (by lia) (by lia),zax hxy (by lia) (by lia),zax hxy (by lia) (by lia),zvv,zvv]
   lia
theorem CInv.T_nodup {n:Int} {ls:List P2} {T:List P3} (I:CInv n ls T):T.Nodup:=by
 have h:((0,n - 1)::ls).Nodup:=by
  rw [List.nodup_cons]
  exact ⟨fun z=>by have:=I.lin _ _ z;omega,I.nd⟩
 have:=I.prm.nodup_iff.mpr h
 exact List.Pairwise.of_map outer (fun a b h e=>h (by rw [e])) this
open L2 (so3 z1r soI zk2 ltT L z36 z27 zq8 z37 z1d)
theorem z6f {a b:List Int} (p:a.Perm b):soI a=soI b:=by
 have:=z36 (z27 b L2.D.int zq8) (p.map L2.D.int)
 rw [z37,z37] at this
 exact z1d (fun _ _ h=>by cases h;rfl) this
theorem zeo {a b:Int} (h:a<b):soI [a,b]=[a,b]:=by
 have e:ltT (L2.D.int b) (L2.D.int a)=false:=by simp only [L2.ltT];exact decide_eq_false (by lia)
 simp only [soI,L2.sortB,L2.insB,e,Bool.false_eq_true,if_false]
def zm9 (T:List P3) (p:P2):List Int:=soI (((so3 T).filter (bth p.1 p.2)).map fun t=>t.1+(t.2.1+(t.2.2+0)) - (p.1+(p.2+0)))
theorem z3b {T:List P3} {p:P2} {F:List P3} (h:(T.filter (bth p.1 p.2)).Perm F):zm9 T p=soI (F.map fun t=>t.1+(t.2.1+(t.2.2+0)) - (p.1+(p.2+0))):=
 z6f (((((z1r T).filter _).trans h)).map _)
theorem Cut.two {n:Int} {ls:List P2} {T:List P3} (K:Cut n ls T) {l:P2} (hl:l∈ls):(T.filter (bth l.1 l.2)).length=2:=by
 have:=K.inv.lin l.1 l.2 hl
 rw [K.cnt l.1 l.2 (by omega)]
 unfold ee
 rw [if_pos (show (l.1,l.2)∈ls from hl),if_neg (by omega),if_neg (by omega)]
end Cu
namespace Bd
abbrev Vc:=Int×Int
def dt (u v:Vc):Int:=u.1 * v.2 - u.2 * v.1
theorem zpm (a:Vc):dt a a=0:=by simp only [dt];grind
def ng (u:Vc):Vc:=(-u.1,-u.2)
theorem zyl (a c:Vc):dt c a=- dt a c:=by simp only [dt];grind
structure Fr (n:Nat) (R:Nat->Int) (v:Nat->Vc):Prop where
 per:∀k,v (k+n)=ng (v k)
 ini:dt (v 0) (v 1)=1
 rc1:∀k,(v (k+2)).1=R ((k+1) % n) * (v (k+1)).1 - (v k).1
 rc2:∀k,(v (k+2)).2=R ((k+1) % n) * (v (k+1)).2 - (v k).2
 pos:∀i j,i<j->j<i+n->0<dt (v i) (v j)
variable {n:Nat} {R:Nat->Int} {v:Nat->Vc}
theorem Fr.rc (F:Fr n R v) (u:Vc) (k:Nat) :
  dt u (v (k+2))=R ((k+1) % n) * dt u (v (k+1)) - dt u (v k):=by
 simp only [dt,F.rc1 k,F.rc2 k];grind
theorem Fr.one (F:Fr n R v):∀k,dt (v k) (v (k+1))=1
 | 0=>F.ini
 | k+1=>by
  have h:=F.rc (v (k+1)) k
  rw [h,zpm,zyl (v k),F.one k];grind
def gR (n c:Nat) (R:Nat->Int) (k:Nat):Int:=
 if k=c+1 then 1 else
 let o:=if k<=c then k else k - 1
 R o+(if o=c then 1 else 0)+(if o=(c+1) % n then 1 else 0)
theorem sm (q n:Nat):(q+1) * n=q * n+n:=Nat.succ_mul q n
def lin (x:Int) (b a:Vc):Vc:=(x * b.1 - a.1,x * b.2 - a.2)
def v3 (k:Nat):Vc:=if k % 6=0 then (1,0) else if k % 6=1 then (0,1) else if k % 6=2 then (-1,1)
 else if k % 6=3 then (-1,0) else if k % 6=4 then (0,-1) else (1,-1)
theorem y10 (k:Nat):k % 6=0\/k % 6=1\/k % 6=2\/k % 6=3\/k % 6=4\/k % 6=5:=by
 have h:k % 6<6:=Nat.mod_lt _ (by decide)
 revert h
 generalize k % 6=m
 intro h
 rcases m with _ | _ | _ | _ | _ | _ | m
 . exact .inl rfl
 . exact .inr (.inl rfl)
 . exact .inr (.inr (.inl rfl))
 . exact .inr (.inr (.inr (.inl rfl)))
 . exact .inr (.inr (.inr (.inr (.inl rfl))))
 . exact .inr (.inr (.inr (.inr (.inr rfl))))
 . exact absurd h (Nat.not_lt_of_le (Nat.le_add_left 6 m))
theorem fr3:Fr 3 (fun _=>1) v3:=by
 have key:∀k,v3 k=v3 (k % 6):=fun k=>by simp only [v3,Nat.mod_mod]
 have ks:∀k a,v3 (k+a)=v3 ((k % 6+a) % 6):=fun k a=>by rw [key (k+a)];congr 1;lia
 have six:=y10
 refine ⟨fun k=>?_,rfl,fun k=>?_,fun k=>?_,fun i j h h2=>?_⟩
 . rw [ks k 3,key k];rcases six k with e | e | e | e | e | e<;>rw [e]<;>rfl
 . rw [ks k 2,ks k 1,key k];rcases six k with e | e | e | e | e | e<;>rw [e]<;>rfl
 . rw [ks k 2,ks k 1,key k];rcases six k with e | e | e | e | e | e<;>rw [e]<;>rfl
 . obtain rfl | rfl:j=i+1\/j=i+2:=by lia
   . rw [ks i 1,key i];rcases six i with e | e | e | e | e | e<;>rw [e]<;>decide
   . rw [ks i 2,key i];rcases six i with e | e | e | e | e | e<;>rw [e]<;>decide
def zhz (row:List Int) (c:Nat):List Int:=
 let m1:=row.set c (row.getD c 0+1)
 let m2:=m1.set ((c+1) % row.length) (m1.getD ((c+1) % row.length) 0+1)
 m2.take (c+1)++1::m2.drop (c+1)
theorem zi0 (row:List Int) (c:Nat) (hc:c<row.length):(zhz row c).length=row.length+1:=by
 simp only [zhz,List.length_append,List.length_take,List.length_set,List.length_cons,List.length_drop];lia
theorem z75 (l:List Int) (i j:Nat) (x:Int) (hi:i<l.length):(l.set i x).getD j 0=if j=i then x else l.getD j 0:=by
 rw [List.getD_eq_getElem?_getD,List.getElem?_set,List.getD_eq_getElem?_getD]
 by_cases e:i=j
 . subst e;simp [hi]
 . rw [if_neg e,if_neg (Ne.symm e)]
theorem zkl (row:List Int) (c k:Nat) (hc:c<row.length) (hn:2<=row.length) (hk:k<row.length+1) :
  (zhz row c).getD k 0=gR row.length c (fun k=>row.getD k 0) k:=by
 have hm:(c+1) % row.length<row.length:=Nat.mod_lt _ (by lia)
 have hne:(c+1) % row.length≠c:=by
  by_cases z:c+1=row.length
  . rw [z,Nat.mod_self];lia
  . rw [Nat.mod_eq_of_lt (by lia)];lia
 have e2:∀j,((row.set c (row.getD c 0+1)).set ((c+1) % row.length) ((row.set c (row.getD c 0+1)).getD ((c+1) % row.length) 0+1)).getD j 0
   = row.getD j 0+(if j=c then 1 else 0)+(if j=(c+1) % row.length then 1 else 0):=fun j=>by
  rw [z75 _ _ _ _ (by rw [List.length_set];exact hm),z75 _ _ _ _ hc,z75 _ _ _ _ hc,if_neg hne]
  by_cases a:j=(c+1) % row.length
  . rw [if_pos a,if_pos a,if_neg (by lia),a];lia
  . rw [if_neg a,if_neg a]
    by_cases b:j=c
    . rw [if_pos b,if_pos b,b];lia
    . rw [if_neg b,if_neg b];lia
 simp only [zhz]
 generalize hm2:(row.set c (row.getD c 0+1)).set ((c+1) % row.length) ((row.set c (row.getD c 0+1)).getD ((c+1) % row.length) 0+1)=m2 at e2 ⊢
 have hl:m2.length=row.length:=by rw [<-hm2,List.length_set,List.length_set]
 have ht:(m2.take (c+1)).length=c+1:=by rw [List.length_take,hl];lia
 unfold gR
 by_cases a:k=c+1
 . rw [if_pos a,List.getD_eq_getElem?_getD,List.getElem?_append_right (by lia),ht,a];simp
 . rw [if_neg a]
   by_cases b:k<=c
   . rw [if_pos b]
     show _=row.getD k 0+(if k=c then 1 else 0)+(if k=(c+1) % row.length then 1 else 0)
     rw [<-e2,List.getD_eq_getElem?_getD,List.getElem?_append_left (by lia),List.getElem?_take,if_pos (by lia),List.getD_eq_getElem?_getD]
   . rw [if_neg b]
     show _=row.getD (k-1) 0+(if k-1=c then 1 else 0)+(if k-1=(c+1) % row.length then 1 else 0)
     obtain ⟨t,rfl⟩:∃t,k=c+1+(t+1):=⟨k - (c+2),by lia⟩
     rw [<-e2,List.getD_eq_getElem?_getD,List.getElem?_append_right (by lia),ht,List.getD_eq_getElem?_getD,
      show c+1+(t+1) - (c+1)=t+1 by lia,List.getElem?_cons_succ,List.getElem?_drop,show c+1+(t+1) - 1=c+1+t by lia]
end Bd
namespace Cu
open Bd (gR zhz zkl zi0)
def ind (k:Int) (t:P3):Int:=(if k=t.1 then 1 else 0)+(if k=t.2.1 then 1 else 0)+(if k=t.2.2 then 1 else 0)
def c1 (k:Int):List P3->Int
 | []=>0
 | t::r=>ind k t+c1 k r
def Rw (row:List Int) (T:List P3):Prop:=∀k,k<row.length->row.getD k 0=c1 (k:Int) T
end Cu
namespace Cu
open L2 (so2 z0b z5i ltT T2 Srt z3r z1y z27 zc3 z1d zdh D)
theorem zma (p q:P2):ltT (T2 p) (T2 q)=decide (p.1<q.1\/(p.1=q.1/\p.2<q.2)):=by
 obtain ⟨a,b⟩:=p;obtain ⟨c,d⟩:=q
 simp only [T2,L2.ltT,L2.ltTs,L2.eqD]
 by_cases h1:a<c
 . have:¬a=c:=by lia
   simp [h1,this]
 . by_cases h2:c<a
   . simp [h1,show ¬a=c by lia]
   . have:a=c:=by lia
     subst this
     by_cases h3:b<d
     . simp [h3,show ¬b=d by lia]
     . by_cases h4:b=d
       . simp [h4]
       . simp [h3,h4]
def le2 (a b:P2):Prop:=a.1<b.1\/(a.1=b.1/\a.2<=b.2)
theorem zcb (xs:List P2):Srt (xs.map T2)↔xs.Pairwise le2:=by
 unfold Srt
 rw [List.pairwise_map]
 constructor
 . exact fun h=>h.imp fun {a b} h=>(by rw [zma,decide_eq_false_iff_not] at h;unfold le2;omega)
 . exact fun h=>h.imp fun {a b} h=>(by rw [zma,decide_eq_false_iff_not];unfold le2 at h;omega)
theorem zuu (ls:List P2):(so2 ls).Pairwise le2:=by
 rw [<-zcb,<-z5i];exact z1y (z27 ls T2 zc3)
theorem zuv {xs ls:List P2} (h:xs.Pairwise le2) (p:xs.Perm ls):xs=so2 ls:=by
 have:=z3r (z27 xs T2 zc3) ((p.trans (z0b ls).symm).map T2) ((zcb xs).mpr h) ((zcb _).mpr (zuu ls))
 exact z1d (fun _ _=>zdh) this
def un (e x:Int):Int:=if x > e then x - 1 else x
def zvw (k:Int) (p:P2):Int:=(if k=p.1 then 1 else 0)+(if k=p.2 then 1 else 0)
end Cu
namespace Cu
end Cu
namespace Bd
def sc (s:Int) (u:Vc):Vc:=(s * u.1,s * u.2)
end Bd
namespace Cu
open L2 (so2 z0b z6c)
open Bd
open PySem (intBits_mul_le intBits_sub_le)
open PySem.Builtin.Int (intBits)
def bn (row:List Int) (i:Nat):Nat->Int
 | 0=>0
 | 1=>1
 | d+2=>row.getD ((i+(d+1)) % row.length) 0 * bn row i (d+1) - bn row i d
def pr (a b:Nat):P2:=((a:Int),(b:Int))
def st2 (a b:P2):Prop:=a.1<b.1\/(a.1=b.1/\a.2<b.2)
end Cu
namespace Cu
def s3 (c:Int) (w:P2):P3:=if c<w.1 then (c,w.1,w.2) else if c<w.2 then (w.1,c,w.2) else (w.1,w.2,c)
structure Trn (n:Int) (ls:List P2) (T:List P3) (l w:P2) (ls0:List P2) (T0:List P3) (t1 t2:P3):Prop where
 pl:ls.Perm (l::ls0)
 pT:T.Perm (t1::t2::T0)
 cut:Cut n (ls0++[w]) (s3 l.1 w::s3 l.2 w::T0)
 d1:zm9 T l=[w.1,w.2]
 d2:zm9 (s3 l.1 w::s3 l.2 w::T0) w=[l.1,l.2]
 nw:w∉ls
 b1:bth l.1 l.2 t1=true
 b2:bth l.1 l.2 t2=true
 b0:∀t∈T0,bth l.1 l.2 t=false
 cn:∀k,ind k t1+ind k t2+zvw k w=ind k (s3 l.1 w)+ind k (s3 l.2 w)+zvw k l
 q4:(∃p m q r,l=(p,q)/\w=(m,r)/\(p,m,q)∈T/\(p,q,r)∈T)\/∃p m q r,l=(p,q)/\w=(r,m)/\(p,m,q)∈T/\(r,p,q)∈T
theorem Cut.turnX {n:Int} {ls:List P2} {T:List P3} (K:Cut n ls T) {l:P2} (hl:l∈ls):∃(w:P2) (ls0:List P2) (T0:List P3) (t1 t2:P3),Trn n ls T l w ls0 T0 t1 t2:=by
 obtain ⟨p,q⟩:=l
 have I:=K.inv
 have two:=K.two hl
 simp only at two
 have hlin:=I.lin p q hl
 obtain ⟨ls0,pl⟩:∃ls0,ls.Perm ((p,q)::ls0):=⟨ls.erase (p,q),List.perm_cons_erase hl⟩
 obtain ⟨t1m,t1o⟩:=I.top_in (ls':=ls) (.refl _) (q:=(p,q)) (List.mem_cons_of_mem _ hl)
 generalize thr T (p,q)=t1 at t1m t1o
 obtain ⟨a,m,b⟩:=t1
 simp only [outer,Prod.mk.injEq] at t1o
 obtain ⟨rfl,rfl⟩:=t1o
 have g1:=I.tri a m b t1m
 obtain ⟨T1,pT1⟩:∃T1,T.Perm ((a,m,b)::T1):=⟨T.erase (a,m,b),List.perm_cons_erase t1m⟩
 have len1:(T1.filter (bth a b)).length=1:=by
  have:=(pT1.filter (bth a b)).length_eq
  rw [two,List.filter_cons_of_pos (bth_iff.mpr (by lia))] at this
  simp only [List.length_cons] at this;lia
 obtain ⟨t2,ht2⟩:∃t2,t2∈T1.filter (bth a b):=by
  cases hf:T1.filter (bth a b) with
  | nil=>rw [hf] at len1;cases len1
  | cons x r=>exact ⟨x,by simp⟩
 obtain ⟨t2m,t2b⟩:=List.mem_filter.mp ht2
 obtain ⟨T0,pT2⟩:∃T0,T1.Perm (t2::T0):=⟨T1.erase t2,List.perm_cons_erase t2m⟩
 have pT:T.Perm ((a,m,b)::t2::T0):=pT1.trans (pT2.cons _)
 have nd:=pT.nodup_iff.mp I.T_nodup
 have fl:(T.filter (bth a b)).Perm [(a,m,b),t2]:=by
  refine (pT.filter _).trans ?_
  have l0:(T0.filter (bth a b)).length=0:=by
   have:=(pT2.filter (bth a b)).length_eq
   rw [len1,List.filter_cons_of_pos t2b] at this
   simp only [List.length_cons] at this;lia
  rw [List.filter_cons_of_pos (bth_iff.mpr (by lia)),List.filter_cons_of_pos t2b,List.length_eq_zero_iff.mp l0]
 obtain ⟨x,y,z⟩:=t2
 have t2T:(x,y,z)∈T:=pT.mem_iff.mpr (by simp)
 have g2:=I.tri x y z t2T
 rw [bth_iff] at t2b
 have nout:¬(x=a/\z=b):=fun hh=>by
  have e1:=I.thr_outer t1m
  have e2:=I.thr_outer t2T
  simp only [outer] at e1 e2
  rw [hh.1,hh.2,e1] at e2
  simp only [Prod.mk.injEq] at e2
  obtain ⟨_,rfl,_⟩:=e2
  obtain ⟨rfl,rfl⟩:=hh
  rw [List.nodup_cons] at nd
  exact nd.1 (by simp)
 have z0:∀t∈T0,bth a b t=false:=fun t ht=>by
  have l0:(T0.filter (bth a b)).length=0:=by
   have:=fl.length_eq
   rw [(pT.filter _).length_eq,List.filter_cons_of_pos (bth_iff.mpr (by lia)),List.filter_cons_of_pos (bth_iff.mpr t2b)] at this
   simp only [List.length_cons,List.length_nil] at this;lia
  cases h:bth a b t with
  | false=>rfl
  | true=>
   have:t∈T0.filter (bth a b):=List.mem_filter.mpr ⟨ht,h⟩
   rw [List.length_eq_zero_iff.mp l0] at this
   cases this
 by_cases cA:x=a/\y=b
 . obtain ⟨rfl,rfl⟩:=cA
   have K':=K.turnA pT pl
   have wn:(m,z)∉ls:=fun hz=>by have:=I.nc x y m z hl hz;lia
   have s1:s3 x (m,z)=(x,m,z):=by unfold s3;rw [if_pos (by lia)]
   have s2:s3 y (m,z)=(m,y,z):=by unfold s3;rw [if_neg (by simp only;lia),if_pos (by simp only;lia)]
   refine ⟨(m,z),ls0,T0,(x,m,y),(x,y,z),pl,pT,by simp only;rw [s1,s2];exact K',?_,?_,wn,bth_iff.mpr (by lia),bth_iff.mpr (by lia),z0,fun k=>?_,.inl ⟨x,m,y,z,rfl,rfl,t1m,t2T⟩⟩
   . rw [z3b fl]
     simp only [List.map_cons,List.map_nil]
     rw [show x+(m+(y+0)) - (x+(y+0))=m by lia,show x+(y+(z+0)) - (x+(y+0))=z by lia,zeo (by lia)]
   . simp only
     rw [s1,s2]
     have two':=K'.two (l:=(m,z)) (List.mem_append.mpr (.inr (by simp)))
     have fl':(((x,m,z)::(m,y,z)::T0).filter (bth m z)).Perm [(x,m,z),(m,y,z)]:=by
      simp only at two'
      rw [List.filter_cons_of_pos (bth_iff.mpr (by lia)),List.filter_cons_of_pos (bth_iff.mpr (by lia))] at two' ⊢
      simp only [List.length_cons] at two'
      rw [List.length_eq_zero_iff.mp (show (T0.filter (bth m z)).length=0 by lia)]
     rw [z3b (p:=(m,z)) fl']
     simp only [List.map_cons,List.map_nil]
     rw [show x+(m+(z+0)) - (m+(z+0))=x by lia,show m+(y+(z+0)) - (m+(z+0))=y by lia,zeo (by lia)]
   . simp only
     rw [s1,s2]
     simp only [ind,zvw]
     generalize (if k=x then (1:Int) else 0)=ix
     generalize (if k=m then (1:Int) else 0)=im
     generalize (if k=y then (1:Int) else 0)=iy
     generalize (if k=z then (1:Int) else 0)=iz
     lia
 . have cB:y=a/\z=b:=by
    obtain ⟨_,lt1,lt2,_⟩:=g2
    have lab:a<b:=Int.lt_of_lt_of_le (by lia:a<a+2) hlin.2.1
    obtain ⟨h1 | h1 | h1,h2⟩:=t2b
    . rcases h2 with h2 | h2 | h2
      . exact absurd (h1.trans h2.symm) (Int.ne_of_lt lab)
      . exact absurd ⟨h1.symm,h2.symm⟩ cA
      . exact absurd ⟨h1.symm,h2.symm⟩ nout
    . rcases h2 with h2 | h2 | h2
      . rw [h1,h2] at lab;exact absurd (Int.lt_trans lt1 lab) (Int.lt_irrefl _)
      . exact absurd (h1.trans h2.symm) (Int.ne_of_lt lab)
      . exact ⟨h1.symm,h2.symm⟩
    . rcases h2 with h2 | h2 | h2
      . rw [h1,h2] at lab;exact absurd (Int.lt_trans (Int.lt_trans lt1 lt2) lab) (Int.lt_irrefl _)
      . rw [h1,h2] at lab;exact absurd (Int.lt_trans lt2 lab) (Int.lt_irrefl _)
      . exact absurd (h1.trans h2.symm) (Int.ne_of_lt lab)
   obtain ⟨rfl,rfl⟩:=cB
   have K':=K.turnB pT pl
   have wn:(x,m)∉ls:=fun hz=>by have:=I.nc x m y z hz hl;lia
   have s1:s3 y (x,m)=(x,y,m):=by unfold s3;rw [if_neg (by simp only;lia),if_pos (by simp only;lia)]
   have s2:s3 z (x,m)=(x,m,z):=by unfold s3;rw [if_neg (by simp only;lia),if_neg (by simp only;lia)]
   refine ⟨(x,m),ls0,T0,(y,m,z),(x,y,z),pl,pT,by simp only;rw [s1,s2];exact K',?_,?_,wn,bth_iff.mpr (by lia),bth_iff.mpr (by lia),z0,fun k=>?_,.inr ⟨y,m,z,x,rfl,rfl,t1m,t2T⟩⟩
   . rw [z3b fl]
     simp only [List.map_cons,List.map_nil]
     rw [show y+(m+(z+0)) - (y+(z+0))=m by lia,show x+(y+(z+0)) - (y+(z+0))=x by lia,z6f (List.Perm.swap x m []),zeo (by lia)]
   . simp only
     rw [s1,s2]
     have two':=K'.two (l:=(x,m)) (List.mem_append.mpr (.inr (by simp)))
     have fl':(((x,y,m)::(x,m,z)::T0).filter (bth x m)).Perm [(x,y,m),(x,m,z)]:=by
      simp only at two'
      rw [List.filter_cons_of_pos (bth_iff.mpr (by lia)),List.filter_cons_of_pos (bth_iff.mpr (by lia))] at two' ⊢
      simp only [List.length_cons] at two'
      rw [List.length_eq_zero_iff.mp (show (T0.filter (bth x m)).length=0 by lia)]
     rw [z3b (p:=(x,m)) fl']
     simp only [List.map_cons,List.map_nil]
     rw [show x+(y+(m+0)) - (x+(m+0))=y by lia,show x+(m+(z+0)) - (x+(m+0))=z by lia,zeo (by lia)]
   . simp only
     rw [s1,s2]
     simp only [ind,zvw]
     generalize (if k=x then (1:Int) else 0)=ix
     generalize (if k=m then (1:Int) else 0)=im
     generalize (if k=y then (1:Int) else 0)=iy
     generalize (if k=z then (1:Int) else 0)=iz
     lia
section
open Bd
end
end Cu
noncomputable section
namespace K52
open PySem PySem.Spec PyProof.Rows L2
def z86:DS->SR:=
 (z30 [true] (zbn (eUn (z7h "int") (z02 0)) (eUn (fun d=>(zee d).map fun b=>.bl (!b)) (eUn (z7h "bool") (z02 0)))))
def z1s:List D->R D:=mOf false 1 0 z86
def zaz:DS->SR:=
 (z0y (z1n false 2 [false,true] (eOp dIx (z02 1) (eC (.int 0))))
  (z0y (z1n false 3 [false,true] (eOp dIx (z02 1) (eC (.int 1))))
  (z0y (sIf (bOr (z24 asB (eOp znn (z02 2) (eC (.int 0)))) (z24 asB (eOp dGe (z02 3) (z02 0))))
   (z30 [] (eC (.bl false)))
   sNx)
  (z30 [true,false,true,true] (eOr (eOp dEq (z02 3) (eOp z2g (z02 2) (eC (.int 1)))) (zbn (eOp dEq (z02 2) (eC (.int 0))) (eOp dEq (z02 3) (eOp zl9 (z02 0) (eC (.int 1))))))))))
def z3c:List D->R D:=mOf false 2 2 zaz
def z2m:DE->R Bool:=
 (zin (z24 asB (eOp dEq (eOp dIx (z02 0) (eC (.int 0))) (z02 1))) (zin (z24 asB (eOp dLe (eOp dIx (z02 0) (eC (.int 1))) (eOp dIx (z02 2) (eC (.int 1))))) (z24 asB (eOp dNe (z02 0) (z02 2)))))
def z2n:DE->R D:=
 (eOp dIx (z02 0) (eC (.int 1)))
def z3d:DS->SR:=
 (z0y (z1n true 3 [true,true,true] (z31 (iL (z02 2)) b1 [0,1] z2m z2n))
  (z30 [true,false,false,true] (eCB zei (z01 (z02 3) (z01 (eOp z2g (z02 0) (eC (.int 1))) z08)))))
def z0v:List D->R D:=mOf false 3 1 z3d
def z76:DS->SR:=
 (z0y (sIf (z24 asB (eOp znn (z02 1) (eCB z7i (z01 (z02 0) z08))))
   (z30 [true,true] (eOp dIx (z02 0) (z02 1)))
   sNx)
  (z30 [] (eC (.int 0))))
def z0w:List D->R D:=mOf false 2 0 z76
def z16:DS->SR:=
 (z0y (z1n false 3 [false,false,false,true,true] (eOp z9q (eOp z2g (eOp z2g (eOp zrw (z02 3) (eC (.int 48271))) (eOp zrw (z02 4) (z02 4))) (eC (.int 1))) (eC (.int 2147483647))))
  (z0y (sIf (z24 asB (eOp znn (z02 4) (eCB z7i (z01 (z02 0) z08))))
   (z1n false 3 [true,false,false,true,true] (eOp z9q (eOp z2g (z02 3) (eOp dIx (z02 0) (z02 4))) (eC (.int 2147483647))))
   sNx)
  (zeb "list" z9r 2 [false,false,false,true] (z01 (z02 3) z08))))
def z54:DS->SR:=
 (z0y (z1n true 2 [] (zac z08))
  (z0y (z1n false 3 [] (eC (.int 7)))
  (z0y (zes true [false,true] (znw (z01 (z02 1) z08)) (.n 4) z16)
  (zfu 2))))
def z17:List D->R D:=mOf true 2 3 z54
def z42:DE->R D:=
 (z59 (z01 (eOp z2g (z02 0) (eCB zjr (z01 (eOp zlb (z02 0) (z02 2)) z08))) (z01 (eOp z2g (z02 1) (eCB zjr (z01 (eOp zlb (z02 1) (z02 2)) z08))) z08)))
def z43:DE->R D:=
 (z59 (z01 (eOp z2g (z02 0) (eCB zjr (z01 (eOp zlb (z02 0) (z02 3)) z08))) (z01 (eOp z2g (z02 1) (eCB zjr (z01 (eOp zlb (z02 1) (z02 3)) z08))) (z01 (eOp z2g (z02 2) (eCB zjr (z01 (eOp zlb (z02 2) (z02 3)) z08))) z08))))
def z1f:DS->SR:=
 (z0y (z1n false 5 [false,true,false,false,true] (eOp z9q (z02 4) (z02 1)))
  (z0y (z1n true 2 [false,false,true,false,false,true] (z31 (iL (z02 2)) (bT 2) [5] zjs z42))
  (z0y (z1n true 3 [false,false,false,true,false,true] (z31 (iL (z02 3)) (bT 3) [5] zjs z43))
  (z0y (sIf (z24 asB (eOp dEq (z02 5) (eOp zl9 (z02 1) (eC (.int 1)))))
   (z0y (zeb "list" z9r 2 [false,false,false,false,false,true] (z01 (z59 (z01 (eC (.int 0)) (z01 (z02 5) z08))) z08))
  (zeb "list" z9r 3 [false,true,false,false,false,true] (z01 (z59 (z01 (eC (.int 0)) (z01 (z02 5) (z01 (z02 1) z08)))) z08)))
   (z0y (zeb "list" z9r 2 [false,false,false,false,false,true] (z01 (z59 (z01 (z02 5) (z01 (eOp z2g (z02 5) (eC (.int 2))) z08))) z08))
  (zeb "list" z9r 3 [false,false,false,false,false,true] (z01 (z59 (z01 (z02 5) (z01 (eOp z2g (z02 5) (eC (.int 1))) (z01 (eOp z2g (z02 5) (eC (.int 2))) z08)))) z08))))
  (z1n false 1 [false,true] (eOp z2g (z02 1) (eC (.int 1))))))))
def z5u:DS->SR:=
 (z0y (z1n false 1 [] (eC (.int 3)))
  (z0y (z1n true 2 [] (zac z08))
  (z0y (z1n true 3 [] (zac (z01 (z59 (z01 (eC (.int 0)) (z01 (eC (.int 1)) (z01 (eC (.int 2)) z08)))) z08)))
  (z0y (zes false [true] (iL (z02 0)) (.n 4) z1f)
  (z30 [false,true,true,true] (z59 (z01 (z02 1) (z01 (eCB z2a (z01 (z02 2) z08)) (z01 (eCB z2a (z01 (z02 3) z08)) z08)))))))))
def z1j:List D->R D:=mOf false 1 5 z5u
def z44:DE->R Bool:=
 (z24 asB (eOp (dIn false) (z02 0) (z02 1)))
def z45:DE->R D:=
 (z02 0)
def z5v:DS->SR:=
 (z30 [true,true] (z31 (iL (zac (z01 (z59 (z01 (eOp dIx (z02 0) (eC (.int 0))) (z01 (eOp dIx (z02 0) (eC (.int 1))) z08))) (z01 (z59 (z01 (eOp dIx (z02 0) (eC (.int 1))) (z01 (eOp dIx (z02 0) (eC (.int 2))) z08))) (z01 (z59 (z01 (eOp dIx (z02 0) (eC (.int 0))) (z01 (eOp dIx (z02 0) (eC (.int 2))) z08))) z08))))) b1 [1] z44 z45))
def z0x:List D->R D:=mOf true 2 0 z5v
def z11:DS->SR:=
 (sIf (bOr (zin (z24 asB (eOp (dIn false) (eOp dIx (z02 1) (eC (.int 0))) (z02 4))) (z24 asB (eOp (dIn false) (eOp dIx (z02 1) (eC (.int 1))) (z02 4)))) (zin (z24 asB (eOp (dIn false) (eOp dIx (z02 2) (eC (.int 0))) (z02 4))) (z24 asB (eOp (dIn false) (eOp dIx (z02 2) (eC (.int 1))) (z02 4)))))
  (zeb "list" zhy 3 [false,false,false,false,true] (z01 (z02 4) z08))
  sNx)
def z46:DS->SR:=
 (z0y (z1n true 3 [] (zac z08))
  (z0y (zes false [true] (iL (z02 0)) (.n 4) z11)
  (z30 [false,false,false,true] (eSS (z01 (z02 3) z08)))))
def z0k:List D->R D:=mOf true 3 2 z46
def z2o:DS->SR:=
 (z0y (zq5 (.t [1,2,3,4,5]) [true] (z02 0))
  (z30 [false,true,true,true,true,true] (zac (z01 (z59 (z01 (z02 1) (z01 (z02 3) z08))) (z01 (z59 (z01 (z02 1) (z01 (z02 4) z08))) (z01 (z59 (z01 (z02 2) (z01 (z02 4) z08))) (z01 (z59 (z01 (z02 2) (z01 (z02 5) z08))) (z01 (z59 (z01 (z02 3) (z01 (z02 5) z08))) z08))))))))
def z0m:List D->R D:=mOf true 1 5 z2o
def zdt:DS->SR:=
 (z30 [true] (zbn (eUn (z7h "tuple") (z02 0)) (zbn (eOp dEq (eCB z7i (z01 (z02 0) z08)) (eC (.int 2))) (zbn (z0r z1s (z01 (eOp dIx (z02 0) (eC (.int 0))) z08)) (z0r z1s (z01 (eOp dIx (z02 0) (eC (.int 1))) z08))))))
def z3x:List D->R D:=mOf false 1 0 zdt
def z1g:DE->R Bool:=
 (z24 asB (eOp znn (eOp dIx (z02 2) (eUn zrx (eC (.int 1)))) (eOp dIx (z02 0) (eC (.int 1)))))
def z1h:DS->SR:=
 (zeb "list" z9r 2 [true,true,true] (z01 (z0r z0v (z01 (eOp dIx (z02 2) (eUn zrx (eC (.int 1)))) (z01 (z02 0) (z01 (z02 1) z08)))) z08))
def z5w:DS->SR:=
 (z0y (z1n true 2 [true] (zac (z01 (eOp dIx (z02 0) (eC (.int 0))) z08)))
  (z0y (zad 1000 z1g z1h)
  (z30 [false,false,true] (eCB z4v (z01 (z02 2) z08)))))
def z1k:List D->R D:=mOf false 2 1 z5w
def z77:DS->SR:=
 (z0y (z1n false 1 [true] (z0r z0w (z01 (z02 0) (z01 (eC (.int 0)) z08))))
  (z0y (sIf (z24 asB (eOp dEq (eOp z9q (z02 1) (eC (.int 4))) (eC (.int 3))))
   (z30 [false,true] (eOp z2g (eC (.int 2)) (eOp z9q (eOp zla (z02 1) (eC (.int 4))) (eC (.int 56)))))
   sNx)
  (z0y (sIf (z24 asB (eOp dEq (eOp z9q (z02 1) (eC (.int 4))) (eC (.int 2))))
   (z30 [false,true] (eOp z2g (eC (.int 2)) (eOp z9q (eOp zla (z02 1) (eC (.int 4))) (eC (.int 8)))))
   sNx)
  (z30 [true] (eCB zjq (z01 (eC (.int 57)) (z01 (eCB zjp (z01 (eC (.int 2)) (z01 (eOp zl9 (eCB z7i (z01 (z02 0) z08)) (eC (.int 4))) z08))) z08)))))))
def z20:List D->R D:=mOf false 1 1 z77
def z2b:DS->SR:=
 (zrr dSetN 3 [false,false,false,false,false,false,true,true] (z59 (z01 (z02 6) (z01 (z02 7) z08))) (eC (.bl true)))
def z2c:DS->SR:=
 (zes false [false,false,false,false,false,true] (iL (z02 5)) (.n 7) z2b)
def z2d:DS->SR:=
 (z0y (z1n true 5 [true,false,false,false,true] (z0r z0x (z01 (z02 4) (z01 (z02 0) z08))))
  (zes false [false,false,false,false,false,true] (iL (z02 5)) (.n 6) z2c))
def z3e:DE->R Bool:=
 (z24 asB (eOp (dInN true) (z59 (z01 (z02 2) (z01 (z02 0) z08))) (z02 1)))
def z3f:DE->R D:=
 (z02 0)
def z09:DS->SR:=
 (z0y (z1n false 6 [true,false,true,false,false,false,false,false,true] (eOp dIx (z02 0) (eOp z9q (eOp z2g (z02 2) (z02 8)) (eCB z7i (z01 (z02 0) z08)))))
  (z0y (z1n true 9 [true,false,false,true,false,false,true,true] (z31 (iL (z02 0)) b1 [3,6] z3e z3f))
  (sIf (z24 asB (eOp dNe (z02 9) (zac z08)))
   (z30 [false,false,true,false,false,false,true,false,false,true] (z59 (z01 (z02 6) (z01 (eOp dIx (z02 9) (eOp z9q (eOp zla (z02 2) (eC (.int 64))) (eCB z7i (z01 (z02 9) z08)))) z08))))
   sNx)))
def z87:DS->SR:=
 (z0y (z1n true 3 [] zoz)
  (z0y (zes false [false,true] (iL (z02 1)) (.n 4) z2d)
  (z0y (zes true [true] (znw (z01 (eCB z7i (z01 (z02 0) z08)) z08)) (.n 8) z09)
  (z30 [] (eC .non)))))
def z1b:List D->R D:=mOf false 3 7 z87
def z88:DS->SR:=
 (z30 [true,true] (zbn (z0r z3x (z01 (z02 1) z08)) (eOr (z0r z3c (z01 (eOp dIx (z02 0) (eC (.int 0))) (z01 (z02 1) z08))) (eOp (dIn false) (z02 1) (eOp dIx (z02 0) (eC (.int 1)))))))
def z2p:List D->R D:=mOf false 2 0 z88
def z5x:DS->SR:=
 (sIf (bOr (zje (z24 zee (z0r z3x (z01 (z02 1) z08)))) (z24 asB (eOp (dIn true) (z02 1) (eOp dIx (z02 0) (eC (.int 1))))))
  sNo
  sNx)
def z1l:List D->R D:=mOf false 2 0 z5x
def zb0:DE->R D:=
 (z0r z1k (z01 (z02 0) (z01 (z02 1) z08)))
def zi1:DS->SR:=
 (z0y (z1n true 2 [true,true] (eOp zjl (zac (z01 (z59 (z01 (eC (.int 0)) (z01 (eOp zl9 (z02 0) (eC (.int 1))) z08))) z08)) (eCB zeg (z01 (z02 1) z08))))
  (z30 [false,true,true] (eCB z2a (z01 (z31 (iL (z02 2)) b1 [1] zjs zb0) z08))))
def z78:List D->R D:=mOf true 2 1 zi1
def z5y:DS->SR:=
 (sIf (zje (z24 zee (z0r z2p (z01 (z02 0) (z01 (z02 1) z08)))))
  sNo
  sNx)
def z1m:List D->R D:=mOf false 2 0 z5y
def z79:DS->SR:=
 (z30 [true] (z0r z78 (z01 (eOp dIx (z02 0) (eC (.int 0))) (z01 (eOp dIx (z02 0) (eC (.int 1))) z08))))
def z21:List D->R D:=mOf true 1 0 z79
def z89:DE->R Bool:=
 (zin (z24 asB (eOp (dIn false) (eOp dIx (z02 1) (eC (.int 0))) (z02 0))) (z24 asB (eOp (dIn false) (eOp dIx (z02 1) (eC (.int 1))) (z02 0))))
def z8a:DE->R D:=
 (z02 0)
def z8b:DE->R D:=
 (eOp zl9 (eCB zio (z01 (z02 0) z08)) (eCB zio (z01 (z02 1) z08)))
def zdu:DS->SR:=
 (z0y (zea (z0r z1m (z01 (z02 0) (z01 (z02 1) z08))))
  (z0y (z1n true 2 [true,true] (z31 (iL (z0r z21 (z01 (z02 0) z08))) b1 [1] z89 z8a))
  (z30 [false,true,true] (eCB z2a (z01 (z31 (iL (z02 2)) b1 [1] zjs z8b) z08)))))
def z3y:List D->R D:=mOf true 2 1 zdu
def z8c:DE->R Bool:=
 (z24 asB (eOp dNe (z02 0) (z02 1)))
def z8d:DE->R D:=
 (z02 0)
def zdv:DS->SR:=
 (z0y (zea (z0r z1l (z01 (z02 0) (z01 (z02 1) z08))))
  (z0y (z1n false 2 [true,true] (eCB z4v (z01 (z0r z3y (z01 (z02 0) (z01 (z02 1) z08))) z08)))
  (z0y (z1n true 3 [true,true] (z31 (iL (eOp dIx (z02 0) (eC (.int 1)))) b1 [1] z8c z8d))
  (z30 [true,false,true,true] (z59 (z01 (z59 (z01 (eOp dIx (z02 0) (eC (.int 0))) (z01 (eCB z4v (z01 (eCB z2a (z01 (eOp zjl (z02 3) (zac (z01 (z02 2) z08))) z08)) z08)) z08))) (z01 (z02 2) z08)))))))
def z07:List D->R D:=mOf false 2 2 zdv
def z7a:DS->SR:=
 (z0y (z1n false 3 [true,true] (z0r z07 (z01 (z02 0) (z01 (z02 1) z08))))
  (z0y (sIf (bOr (zje (z24 zee (eUn (z7h "tuple") (z02 3)))) (bOr (z24 asB (eOp dNe (eCB z7i (z01 (z02 3) z08)) (eC (.int 2)))) (zje (z24 zee (eUn (z7h "tuple") (eOp dIx (z02 3) (eC (.int 0))))))))
   (z30 [] (eC .non))
   sNx)
  (z0y (sIf (bOr (z24 asB (eOp (dIn true) (z02 1) (z02 2))) (z24 asB (eOp (dIn true) (eOp dIx (z02 3) (eC (.int 1))) (z02 2))))
   (z30 [] (eC .non))
   sNx)
  (z30 [false,false,false,true] (z02 3)))))
def z22:List D->R D:=mOf false 3 1 z7a
def z55:DS->SR:=
 (z0y (z1n false 3 [true,true] (z0r z07 (z01 (z02 0) (z01 (z02 1) z08))))
  (z0y (z1n false 4 [true,false,true] (z0r z07 (z01 (z02 0) (z01 (z02 2) z08))))
  (z0y (z1n false 5 [false,false,true,true] (z0r z07 (z01 (eOp dIx (z02 3) (eC (.int 0))) (z01 (z02 2) z08))))
  (z0y (z1n false 6 [false,true,false,false,true] (z0r z07 (z01 (eOp dIx (z02 4) (eC (.int 0))) (z01 (z02 1) z08))))
  (z30 [true,false,false,true,true,true,true] (zbn (eOp dEq (eOp dIx (z02 5) (eC (.int 0))) (eOp dIx (z02 6) (eC (.int 0)))) (zbn (eOp dEq (eOp dIx (z02 5) (eC (.int 1))) (eOp dIx (z02 4) (eC (.int 1)))) (zbn (eOp dEq (eOp dIx (z02 6) (eC (.int 1))) (eOp dIx (z02 3) (eC (.int 1)))) (eOp dNe (eOp dIx (z02 5) (eC (.int 0))) (z02 0))))))))))
def z18:List D->R D:=mOf false 3 4 z55
def z0s:DS->SR:=
 (z0y (z1n false 9 [false,false,false,false,true,false,true,true,true] (z0r z22 (z01 (z02 7) (z01 (eOp dIx (z02 6) (z02 8)) (z01 (z02 4) z08)))))
  (z0y (sIf (z24 asB (eOp zny (z02 9) (eC .non)))
   (z30 [] (eC (.bl false)))
   sNx)
  (z0y (z1n false 7 [false,false,false,false,false,false,false,false,false,true] (eOp dIx (z02 9) (eC (.int 0))))
  (z0y (zeb "list" z9r 6 [false,false,false,false,false,false,false,false,false,true] (z01 (eOp dIx (z02 9) (eC (.int 1))) z08))
  (z0y (sIf (zin (z24 asB (eOp znn (z02 8) (eC (.int 4)))) (z24 asB (eOp (dIn false) (z02 7) (z02 5))))
   (z30 [] (eC (.bl false)))
   sNx)
  (zeb "list" z9r 5 [false,false,false,false,false,false,false,true] (z01 (z02 7) z08)))))))
def z2y:DS->SR:=
 (z0y (z1n true 4 [false,true,true,true] (z0r z0m (z01 (z0r z0k (z01 (z02 3) (z01 (z02 1) (z01 (z02 2) z08)))) z08)))
  (z0y (z1n true 5 [true] (zac (z01 (z02 0) z08)))
  (z0y (z1n true 6 [false,true,true] (zac (z01 (z02 1) (z01 (z02 2) z08))))
  (z0y (z1n false 7 [true] (z02 0))
  (z0y (zes true [] (znw (z01 (eC (.int 5)) z08)) (.n 8) z0s)
  (z30 [true,false,false,false,true,false,true,true] (zbn (eOp dEq (z02 7) (z02 0)) (zbn (eOp dEq (eCB z2a (z01 (eSl dSl (z02 6) oNo (oSo (eC (.int 5)))) z08)) (z02 4)) (eOp dEq (eCB z2a (z01 (eSl dSl (z02 6) (oSo (eC (.int 2))) oNo) z08)) (z02 4))))))))))
def z0i:List D->R D:=mOf false 4 6 z2y
def zcc:DE->R Bool:=
 (z24 asB (eOp zlb (eCB z7i (z01 (z0r z0x (z01 (z02 0) (z01 (z02 1) z08))) z08)) (eC (.int 1))))
def zcd:DE->R D:=
 (z0r z0x (z01 (z02 0) (z01 (z02 1) z08)))
def zuw:DS->SR:=
 (z0y (zq5 (.t [1,2,3]) [true] (z0r z1j (z01 (z0r z17 (z01 (eSl dSl (z02 0) (oSo (eC (.int 4))) oNo) (z01 (z0r z20 (z01 (z02 0) z08)) z08))) z08)))
  (z0y (z1n false 4 [false,true,true] (z59 (z01 (z02 1) (z01 (eCB z4v (z01 (z02 2) z08)) z08))))
  (z0y (z1n true 5 [false,false,true,true] (z31 (iL (z02 3)) b1 [2] zcc zcd))
  (z0y (z1n false 6 [true,false,false,false,false,true] (eOp dIx (z02 5) (eOp z9q (z0r z0w (z01 (z02 0) (z01 (eC (.int 1)) z08))) (eCB z7i (z01 (z02 5) z08)))))
  (z0y (z1n false 7 [true] (z0r z0w (z01 (z02 0) (z01 (eC (.int 2)) z08))))
  (z0y (z1n false 8 [false,false,false,false,false,false,true,true] (eOp dIx (z02 6) (eOp z9q (z02 7) (eCB z7i (z01 (z02 6) z08)))))
  (z0y (z1n false 9 [false,false,false,false,false,false,true,true] (eOp dIx (z02 6) (eOp z9q (eOp z2g (eOp z2g (z02 7) (eC (.int 1))) (eOp z9q (eOp zla (z02 7) (eC (.int 6))) (eOp zl9 (eCB z7i (z01 (z02 6) z08)) (eC (.int 1))))) (eCB z7i (z01 (z02 6) z08)))))
  (z0y (sIf (zje (z24 zee (z0r z0i (z01 (z02 4) (z01 (z02 8) (z01 (z02 9) (z01 (z02 3) z08)))))))
   (z30 [] (eC (.bl false)))
   sNx)
  (z0y (z1n false 10 [true,false,true,true] (z0r z1b (z01 (z02 2) (z01 (z02 3) (z01 (eOp z9q (z0r z0w (z01 (z02 0) (z01 (eC (.int 3)) z08))) (eC (.int 2147483647))) z08)))))
  (z30 [false,false,false,false,true,false,false,false,false,false,true] (eOr (eOp zny (z02 10) (eC .non)) (z0r z18 (z01 (z02 4) (z01 (eOp dIx (z02 10) (eC (.int 0))) (z01 (eOp dIx (z02 10) (eC (.int 1))) z08)))))))))))))))
def zep:List D->R D:=mOf false 1 10 zuw
def top (i:Nat):Stmt:=PySem.Challenge.pw_friezeyard_k52_five_turnings.main.body.getD i (.Pass ⟨0,0,0,0⟩)
abbrev z5n:Stmt:=top 4
abbrev z7b:Stmt:=top 5
abbrev z99:Stmt:=top 7
abbrev z5o:Stmt:=top 8
abbrev z3g:Stmt:=top 9
abbrev z3h:Stmt:=top 10
abbrev zce:Stmt:=top 12
abbrev z3i:Stmt:=top 13
abbrev z23:Stmt:=top 14
abbrev z4i:Stmt:=top 15
abbrev z9a:Stmt:=top 16
abbrev z9b:Stmt:=top 18
abbrev z4j:Stmt:=top 20
abbrev z4k:Stmt:=top 21
abbrev z2w:Stmt:=top 22
abbrev z3j:Stmt:=top 23
abbrev z3k:Stmt:=top 24
abbrev z2h:Stmt:=top 25
abbrev z1c:Stmt:=top 26
abbrev z4l:Stmt:=top 27
abbrev z1q:Stmt:=top 28
abbrev z5p:Stmt:=top 29
abbrev z2x:Stmt:=top 30
abbrev zpn:Stmt:=top 31
structure Txt (mg:Str->Option Value):Prop where
 bool:mg "bool"=none
 int:mg "int"=none
 isinstance:mg "isinstance"=none
 len:mg "len"=none
 list:mg "list"=none
 «max»:mg "max"=none
 «min»:mg "min"=none
 range:mg "range"=none
 «set»:mg "set"=none
 sorted:mg "sorted"=none
 sum:mg "sum"=none
 tuple:mg "tuple"=none
theorem zcf:FnScope ["thing"] ["thing"] (z03 z5n):=fsc
theorem sc_is_side:FnScope ["n","p","a","b"] ["n","p"] (z03 z7b):=fsc
theorem zi2:FnScope ["thing"] ["thing"] (z03 z99):=fsc
theorem zcg:FnScope ["cut","p"] ["cut","p"] (z03 z5o):=fsc
theorem z9c:FnScope ["cut","p"] ["cut","p"] (z03 z3g):=fsc
theorem z9d:FnScope ["cut","p"] ["cut","p"] (z03 z3h):=fsc
theorem sc_rooms:FnScope ["n","lines","tops"] ["n","lines"] (z03 zce):=fsc
theorem sc_room_under:FnScope ["top","lines","room"] ["top","lines"] (z03 z3i):=fsc
theorem sc_corner_behind:FnScope ["corner","top","lines","ends"] ["corner","top","lines"] (z03 z23):=fsc
theorem zb1:FnScope ["cut"] ["cut"] (z03 z4i):=fsc
theorem sc_thirds:FnScope ["cut","p","both"] ["cut","p"] (z03 z9a):=fsc
theorem sc_turned:FnScope ["cut","line","new","kept"] ["cut","line"] (z03 z9b):=fsc
theorem zb2:FnScope ["_law_script","_law_k"] ["_law_script","_law_k"] (z03 z4j):=fsc
theorem sc__law_many:FnScope ["_law_script","_law_cell"] ["_law_script"] (z03 z4k):=fsc
theorem sc__law_stream:FnScope ["_law_cells","_law_many_here","_law_found","_law_number","_law_k"] ["_law_cells","_law_many_here"] (z03 z2w):=fsc
theorem sc__law_grown:FnScope ["_law_stream_here","_law_n","_law_lines","_law_rows","_law_number","_law_at"] ["_law_stream_here"] (z03 z3j):=fsc
theorem z9e:FnScope ["_law_row","_law_lines"] ["_law_row","_law_lines"] (z03 z3k):=fsc
theorem sc__law_corners:FnScope ["_law_rows","_law_one","_law_other","_law_corners_here","_law_row"] ["_law_rows","_law_one","_law_other"] (z03 z2h):=fsc
theorem sc__law_five_lines:FnScope ["_law_corners_here","_law_a","_law_b","_law_c","_law_d","_law_e"] ["_law_corners_here"] (z03 z1c):=fsc
theorem sc__law_step:FnScope ["_law_cut","_law_line","_law_five","_law_found"] ["_law_cut","_law_line","_law_five"] (z03 z4l):=fsc
theorem sc__law_five_back:FnScope ["_law_cut","_law_one","_law_other","_law_rows","_law_five","_law_seen","_law_came","_law_now","_law_k","_law_found"] ["_law_cut","_law_one","_law_other","_law_rows"] (z03 z1q):=fsc
theorem sc__law_far:FnScope ["_law_lines","_law_rows","_law_cell","_law_near","_law_row","_law_edges_here","_law_one","_law_other","_law_k","_law_some"] ["_law_lines","_law_rows","_law_cell"] (z03 z5p):=fsc
theorem sc__law_either:FnScope ["_law_cut","_law_one","_law_other","_law_first","_law_second","_law_behind","_law_beyond"] ["_law_cut","_law_one","_law_other"] (z03 z2x):=fsc
theorem sc_law:FnScope ["_law_script","_law_n","_law_lines","_law_rows","_law_cut","_law_some","_law_edges_here","_law_turn","_law_one","_law_other","_law_far_here"] ["_law_script"] (z03 zpn):=fsc
abbrev z8e (P:Program) (w:World) (K:Frag) (mg:Str->Option Value) (base:Heap):Prop:=z5r P w K mg base "is_whole" ["thing"] 1 (spD K mg false z1s 1)
abbrev zb3 (P:Program) (w:World) (K:Frag) (mg:Str->Option Value) (base:Heap):Prop:=z5r P w K mg base "is_side" ["n","p"] 1 (spD K mg false z3c 2)
abbrev z3l (P:Program) (w:World) (K:Frag) (mg:Str->Option Value) (base:Heap):Prop:=z5r P w K mg base "corner_behind" ["corner","top","lines"] 1 (spD K mg false z0v 3)
abbrev z4m (P:Program) (w:World) (K:Frag) (mg:Str->Option Value) (base:Heap):Prop:=z5r P w K mg base "_law_pick" ["_law_script","_law_k"] 1 (spD K mg false z0w 2)
abbrev z56 (P:Program) (w:World) (K:Frag) (mg:Str->Option Value) (base:Heap):Prop:=z5r P w K mg base "_law_stream" ["_law_cells","_law_many_here"] 1 (spD K mg true z17 2)
abbrev z5z (P:Program) (w:World) (K:Frag) (mg:Str->Option Value) (base:Heap):Prop:=z5r P w K mg base "_law_grown" ["_law_stream_here"] 1 (spD K mg false z1j 1)
abbrev z3m (P:Program) (w:World) (K:Frag) (mg:Str->Option Value) (base:Heap):Prop:=z5r P w K mg base "_law_edges" ["_law_row","_law_lines"] 1 (spD K mg true z0x 2)
abbrev z47 (P:Program) (w:World) (K:Frag) (mg:Str->Option Value) (base:Heap):Prop:=z5r P w K mg base "_law_corners" ["_law_rows","_law_one","_law_other"] 1 (spD K mg true z0k 3)
abbrev z2q (P:Program) (w:World) (K:Frag) (mg:Str->Option Value) (base:Heap):Prop:=z5r P w K mg base "_law_five_lines" ["_law_corners_here"] 1 (spD K mg true z0m 1)
abbrev z9f (P:Program) (w:World) (K:Frag) (mg:Str->Option Value) (base:Heap):Prop:=z5r P w K mg base "is_two" ["thing"] 2 (spD K mg false z3x 1)
abbrev z60 (P:Program) (w:World) (K:Frag) (mg:Str->Option Value) (base:Heap):Prop:=z5r P w K mg base "room_under" ["top","lines"] 2 (spD K mg false z1k 2)
abbrev z7c (P:Program) (w:World) (K:Frag) (mg:Str->Option Value) (base:Heap):Prop:=z5r P w K mg base "_law_many" ["_law_script"] 2 (spD K mg false z20 1)
abbrev z8f (P:Program) (w:World) (K:Frag) (mg:Str->Option Value) (base:Heap):Prop:=z5r P w K mg base "_law_far" ["_law_lines","_law_rows","_law_cell"] 2 (spD K mg false z1b 3)
abbrev z8g (P:Program) (w:World) (K:Frag) (mg:Str->Option Value) (base:Heap):Prop:=z5r P w K mg base "has_pair" ["cut","p"] 3 (spD K mg false z2p 2)
abbrev z61 (P:Program) (w:World) (K:Frag) (mg:Str->Option Value) (base:Heap):Prop:=z5r P w K mg base "check_line" ["cut","p"] 3 (spD K mg false z1l 2)
abbrev zi3 (P:Program) (w:World) (K:Frag) (mg:Str->Option Value) (base:Heap):Prop:=z5r P w K mg base "rooms" ["n","lines"] 3 (spD K mg true z78 2)
abbrev z62 (P:Program) (w:World) (K:Frag) (mg:Str->Option Value) (base:Heap):Prop:=z5r P w K mg base "check_pair" ["cut","p"] 4 (spD K mg false z1m 2)
abbrev z7d (P:Program) (w:World) (K:Frag) (mg:Str->Option Value) (base:Heap):Prop:=z5r P w K mg base "triangles" ["cut"] 4 (spD K mg true z21 1)
abbrev zdw (P:Program) (w:World) (K:Frag) (mg:Str->Option Value) (base:Heap):Prop:=z5r P w K mg base "thirds" ["cut","p"] 5 (spD K mg true z3y 2)
abbrev z9g (P:Program) (w:World) (K:Frag) (mg:Str->Option Value) (base:Heap):Prop:=z5r P w K mg base "turned" ["cut","line"] 6 (spD K mg false z07 2)
abbrev z7e (P:Program) (w:World) (K:Frag) (mg:Str->Option Value) (base:Heap):Prop:=z5r P w K mg base "_law_step" ["_law_cut","_law_line","_law_five"] 7 (spD K mg false z22 3)
abbrev z57 (P:Program) (w:World) (K:Frag) (mg:Str->Option Value) (base:Heap):Prop:=z5r P w K mg base "_law_either" ["_law_cut","_law_one","_law_other"] 7 (spD K mg false z18 3)
abbrev z2z (P:Program) (w:World) (K:Frag) (mg:Str->Option Value) (base:Heap):Prop:=z5r P w K mg base "_law_five_back" ["_law_cut","_law_one","_law_other","_law_rows"] 8 (spD K mg false z0i 4)
section
variable {P:Program} {w:World} {K:Frag} {mg:Str->Option Value} {base:Heap} {f:Addr} {fd:FuncData}
theorem zch (F:Fun K "is_whole" "is_whole" z5n f fd) (T:Txt mg)  : FnOk P w K mg base (CX1 P w) 1 f fd ["thing"] (spD K mg false z1s 1):=
 fnD (k:=0) F zcf rfl rfl fun cdv A outer s H E hr=>
  (z0c (z12 (z6u (zg5 rfl T.isinstance boot_isinstance (qv 0) (z6h (v:=.ty "int") rfl T.int boot_int rfl)) (z8x (zs5 (zg5 rfl T.isinstance boot_isinstance (qv 0) (z6h (v:=.ty "bool") rfl T.bool boot_bool rfl)))))))
theorem zeq (F:Fun K "is_side" "is_side" z7b f fd) (T:Txt mg)  : FnOk P w K mg base (CX1 P w) 1 f fd ["n","p"] (spD K mg false z3c 2):=
 fnD (k:=0) F sc_is_side rfl rfl fun cdv A outer s H E hr=>
  (z06 (sA 2 sc_is_side.nd (qI hr (qv 1) z05))
   (z06 (sA 3 sc_is_side.nd (qI hr (qv 1) z05))
   (z06 (zby (QW.pt (zq7 (z1w zr4 zaf (qv 2) z05 (z0a _)) (zg4 (z1w y03 zx3 (qv 3) (qv 0) (z0a _)))))
    (z0c (z12 zs4))
    z4w)
   (z0c (z12 (zxb (z32 (z6s hr.units) z6t (qv 3) (z0e z2r z0p (qv 2) z05) (z0a _)) (z8x (z6u (z32 (z6s hr.units) z6t (qv 2) z05 (z0a _)) (z8x (z32 (z6s hr.units) z6t (qv 3) (z0e ze6 z7z (qv 0) z05) (z0a _)))))))))))
theorem z66 (F:Fun K "corner_behind" "corner_behind" z23 f fd) (T:Txt mg)  : FnOk P w K mg base (CX1 P w) 1 f fd ["corner","top","lines"] (spD K mg false z0v 3):=
 fnD (k:=0) F sc_corner_behind rfl rfl fun cdv A outer s H E hr=>
  (z06 (zs9 sc_corner_behind.nd (k:=3) rfl rfl (z10 (caps:=["corner","top"]) (ix:=[0,1]) rfl rfl) (by decide +kernel) rfl (z4d (qv 2)) (.one fun _ _ _=>(QW.pt (zef (tE hr (qI hr (qv 0) z05) (qv 1) (z0a _)) (zef (z1w y02 zx2 (qI hr (qv 0) z05) (qI hr (qv 2) z05) (z0a _)) (zah (tN hr (qv 0) (qv 2) (z0a _))))))) (fun _ _ _=>(qI hr (qv 0) z05)))
   (z0c (z12 (zse rfl rfl T.«max» boot_max (qv 3) (z0e z2r z0p (qv 0) z05)))))
theorem zb4 (F:Fun K "_law_pick" "_law_pick" z4j f fd) (T:Txt mg)  : FnOk P w K mg base (CX1 P w) 1 f fd ["_law_script","_law_k"] (spD K mg false z0w 2):=
 fnD (k:=0) F zb2 rfl rfl fun cdv A outer s H E hr=>
  (z06 (zby (z1w zr4 zaf (qv 1) (qL T.len (qv 0)) (z0a _))
    (z0c (z12 (qI hr (qv 0) (qv 1))))
    z4w)
   (z0c (z12 z05)))
theorem z7p (F:Fun K "_law_stream" "_law_stream" z2w f fd) (T:Txt mg)  : FnOk P w K mg base (CX1 P w) 1 f fd ["_law_cells","_law_many_here"] (spD K mg true z17 2):=
 fnD (k:=0) F sc__law_stream rfl rfl fun cdv A outer s H E hr=>
  (z06 (sA 2 sc__law_stream.nd (z65 z04))
   (z06 (sA 3 sc__law_stream.nd z05)
   (z06 (zaj PassesOwn.leaving rfl (zxh rfl T.range (z00 (qv 1) z04)) (g_n (i:=4) sc__law_stream.nd rfl (Or.inl rfl))
    (z06 (sA 3 sc__law_stream.nd (z0e z4p z25 (z0e z2r z0p (z0e z2r z0p (z0e zr3 zlc (qv 3) z05) (z0e zr3 zlc (qv 4) (qv 4))) z05) z05))
   (z06 (zby (z1w zr4 zaf (qv 4) (qL T.len (qv 0)) (z0a _))
    (z0c (sA 3 sc__law_stream.nd (z0e z4p z25 (z0e z2r z0p (qv 3) (qI hr (qv 0) (qv 4))) z05)))
    z4w)
   (z0c (z8y PySem.F.plainAttrs_list PySem.F.slot_list_append PySem.F.type_list_append z14 z5s z2t (pw 2) (z00 (qv 3) z04))))))
   (z0c (zsa (i:=2))))))
theorem z9h (F:Fun K "_law_grown" "_law_grown" z3j f fd) (T:Txt mg)  : FnOk P w K mg base (CX1 P w) 1 f fd ["_law_stream_here"] (spD K mg false z1j 1):=
 fnD (k:=0) F sc__law_grown rfl rfl fun cdv A outer s H E hr=>
  (z06 (sA 1 sc__law_grown.nd z05)
   (z06 (sA 2 sc__law_grown.nd (z65 z04))
   (z06 (sA 3 sc__law_grown.nd (z65 (z00 (z1v (z00 z05 (z00 z05 (z00 z05 z04)))) z04)))
   (z06 (zaj PassesOwn.leaving rfl (z4d (qv 0)) (g_n (i:=4) sc__law_grown.nd rfl (Or.inl rfl))
    (z06 (sA 5 sc__law_grown.nd (z0e z4p z25 (qv 4) (qv 1)))
   (z06 (y0l sc__law_grown.nd (k:=2) rfl rfl (z10 (caps:=["_law_at"]) (ix:=[5]) rfl rfl) (by decide +kernel) rfl rfl (z4d (qv 2)) .nil (fun _ _ _=>(z1v (z00 (z0e z2r z0p (qv 0) (z7l zfn zai rfl T.int boot_int (z00 (z32 zq3 z80 (qv 0) (qv 2) (z0a _)) z04))) (z00 (z0e z2r z0p (qv 1) (z7l zfn zai rfl T.int boot_int (z00 (z32 zq3 z80 (qv 1) (qv 2) (z0a _)) z04))) z04)))))
   (z06 (y0m sc__law_grown.nd (k:=3) rfl rfl (z10 (caps:=["_law_at"]) (ix:=[5]) rfl rfl) (by decide +kernel) rfl rfl rfl (z4d (qv 3)) .nil (fun _ _ _=>(z1v (z00 (z0e z2r z0p (qv 0) (z7l zfn zai rfl T.int boot_int (z00 (z32 zq3 z80 (qv 0) (qv 3) (z0a _)) z04))) (z00 (z0e z2r z0p (qv 1) (z7l zfn zai rfl T.int boot_int (z00 (z32 zq3 z80 (qv 1) (qv 3) (z0a _)) z04))) (z00 (z0e z2r z0p (qv 2) (z7l zfn zai rfl T.int boot_int (z00 (z32 zq3 z80 (qv 2) (qv 3) (z0a _)) z04))) z04))))))
   (z06 (zby (tE hr (qv 5) (z0e ze6 z7z (qv 1) z05) (z0a _))
    (z06 (z8y PySem.F.plainAttrs_list PySem.F.slot_list_append PySem.F.type_list_append z14 z5s z2t (pw 2) (z00 (z1v (z00 z05 (z00 (qv 5) z04))) z04))
   (z0c (z8y PySem.F.plainAttrs_list PySem.F.slot_list_append PySem.F.type_list_append z14 z5s z2t (pw 3) (z00 (z1v (z00 z05 (z00 (qv 5) (z00 (qv 1) z04)))) z04))))
    (z06 (z8y PySem.F.plainAttrs_list PySem.F.slot_list_append PySem.F.type_list_append z14 z5s z2t (pw 2) (z00 (z1v (z00 (qv 5) (z00 (z0e z2r z0p (qv 5) z05) z04))) z04))
   (z0c (z8y PySem.F.plainAttrs_list PySem.F.slot_list_append PySem.F.type_list_append z14 z5s z2t (pw 3) (z00 (z1v (z00 (qv 5) (z00 (z0e z2r z0p (qv 5) z05) (z00 (z0e z2r z0p (qv 5) z05) z04)))) z04)))))
   (z0c (sA 1 sc__law_grown.nd (z0e z2r z0p (qv 1) z05))))))))
   (z0c (z12 (z1v (z00 (qv 1) (z00 (QE.wk (zeu (z4h rfl hr.units) z2v rfl T.sorted boot_sorted (z00 (qv 2) z04))) (z00 (QE.wk (zeu (z4h rfl hr.units) z2v rfl T.sorted boot_sorted (z00 (qv 3) z04))) z04))))))))))
theorem z9i (F:Fun K "_law_edges" "_law_edges" z3k f fd) (T:Txt mg)  : FnOk P w K mg base (CX1 P w) 1 f fd ["_law_row","_law_lines"] (spD K mg true z0x 2):=
 fnD (k:=0) F z9e rfl rfl fun cdv A outer s H E hr=>
  (z0c (z12 (zxi (z10 (caps:=["_law_lines"]) (ix:=[1]) rfl rfl) (by decide +kernel) rfl (z4d (QE.wk (z65 (z00 (z1v (z00 (qI hr (qv 0) z05) (z00 (qI hr (qv 0) z05) z04))) (z00 (z1v (z00 (qI hr (qv 0) z05) (z00 (qI hr (qv 0) z05) z04))) (z00 (z1v (z00 (qI hr (qv 0) z05) (z00 (qI hr (qv 0) z05) z04))) z04)))))) (.one fun _ _ _=>(z1w (z8v hr.units) z64 (qv 0) (qv 1) (by with_unfolding_all rfl))) (fun _ _ _=>(qv 0)))))
theorem z7f (F:Fun K "_law_corners" "_law_corners" z2h f fd) (T:Txt mg)  : FnOk P w K mg base (CX1 P w) 1 f fd ["_law_rows","_law_one","_law_other"] (spD K mg true z0k 3):=
 fnD (k:=0) F sc__law_corners rfl rfl fun cdv A outer s H E hr=>
  (z06 (sA 3 sc__law_corners.nd (z65 z04))
   (z06 (zaj PassesOwn.leaving rfl (z4d (qv 0)) (g_n (i:=4) sc__law_corners.nd rfl (Or.inl rfl))
    (z0c (zby (QW.pt (zq7 (QW.pt (zef (z1w (z8v hr.units) z64 (qI hr (qv 1) z05) (qv 4) (by with_unfolding_all rfl)) (zah (z1w (z8v hr.units) z64 (qI hr (qv 1) z05) (qv 4) (by with_unfolding_all rfl))))) (zg4 (QW.pt (zef (z1w (z8v hr.units) z64 (qI hr (qv 2) z05) (qv 4) (by with_unfolding_all rfl)) (zah (z1w (z8v hr.units) z64 (qI hr (qv 2) z05) (qv 4) (by with_unfolding_all rfl))))))))
    (z0c (z8y PySem.F.plainAttrs_list PySem.F.slot_list_extend PySem.F.type_list_extend zpi zpj z2t (pw 3) (z00 (qv 4) z04)))
    z4w)))
   (z0c (z12 (zhx rfl hr.units rfl T.sorted boot_sorted rfl T.set PyProof.Rows.Boot.«set» (z00 (qv 3) z04))))))
theorem z58 (F:Fun K "_law_five_lines" "_law_five_lines" z1c f fd) (T:Txt mg)  : FnOk P w K mg base (CX1 P w) 1 f fd ["_law_corners_here"] (spD K mg true z0m 1):=
 fnD (k:=0) F sc__law_five_lines rfl rfl fun cdv A outer s H E hr=>
  (z06 (zsb (qv 0) (g_t rfl (z35 (i:=1) sc__law_five_lines.nd rfl (Or.inl rfl) (z35 (i:=2) sc__law_five_lines.nd rfl (Or.inl rfl) (z35 (i:=3) sc__law_five_lines.nd rfl (Or.inl rfl) (z35 (i:=4) sc__law_five_lines.nd rfl (Or.inl rfl) (z35 (i:=5) sc__law_five_lines.nd rfl (Or.inl rfl) zlj)))))))
   (z0c (z12 (z65 (z00 (z1v (z00 (qv 1) (z00 (qv 3) z04))) (z00 (z1v (z00 (qv 1) (z00 (qv 4) z04))) (z00 (z1v (z00 (qv 2) (z00 (qv 4) z04))) (z00 (z1v (z00 (qv 2) (z00 (qv 5) z04))) (z00 (z1v (z00 (qv 3) (z00 (qv 5) z04))) z04)))))))))
theorem zi4 (F:Fun K "is_two" "is_two" z99 f fd) (T:Txt mg) (G_is_whole:z8e P w K mg base):FnOk P w K mg base (CX1 P w) 2 f fd ["thing"] (spD K mg false z3x 1):=
 fnD (k:=1) F zi2 rfl rfl fun cdv A outer s H E hr=>
  (z0c (z12 (z6u (zg5 rfl T.isinstance boot_isinstance (qv 0) (z6h (v:=.ty "tuple") rfl T.tuple boot_tuple rfl)) (z6u (z32 (z6s hr.units) z6t (qL T.len (qv 0)) z05 (z0a _)) (z6u (z0z z4b G_is_whole hr rfl (z00 (qI hr (qv 0) z05) z04)) (z8x (z0z z4b G_is_whole hr rfl (z00 (qI hr (qv 0) z05) z04))))))))
theorem z9j (F:Fun K "room_under" "room_under" z3i f fd) (T:Txt mg) (G_corner_behind:z3l P w K mg base):FnOk P w K mg base (CX1 P w) 2 f fd ["top","lines"] (spD K mg false z1k 2):=
 fnD (k:=1) F sc_room_under rfl rfl fun cdv A outer s H E hr=>
  (z06 (sA 2 sc_room_under.nd (z65 (z00 (qI hr (qv 0) z05) z04)))
   (z06 (znx (n:=1000) PassesOwn.leaving (z1w zr4 zaf (qI hr (qv 2) (zzs zr5 zld z05)) (qI hr (qv 0) z05) (z0a _))
    (z0c (z8y PySem.F.plainAttrs_list PySem.F.slot_list_append PySem.F.type_list_append z14 z5s z2t (pw 2) (z00 (z0z z4b G_corner_behind hr rfl (z00 (qI hr (qv 2) (zzs zr5 zld z05)) (z00 (qv 0) (z00 (qv 1) z04)))) z04))))
   (z0c (z12 (z7l z69 z6a rfl T.tuple boot_tuple (z00 (qv 2) z04))))))
theorem zb5 (F:Fun K "_law_many" "_law_many" z4k f fd) (T:Txt mg) (G__law_pick:z4m P w K mg base):FnOk P w K mg base (CX1 P w) 2 f fd ["_law_script"] (spD K mg false z20 1):=
 fnD (k:=1) F sc__law_many rfl rfl fun cdv A outer s H E hr=>
  (z06 (sA 1 sc__law_many.nd (z0z z4b G__law_pick hr rfl (z00 (qv 0) (z00 z05 z04))))
   (z06 (zby (tE hr (z0e z4p z25 (qv 1) z05) z05 (z0a _))
    (z0c (z12 (z0e z2r z0p z05 (z0e z4p z25 (z0e zcx zd7 (qv 1) z05) z05))))
    z4w)
   (z06 (zby (tE hr (z0e z4p z25 (qv 1) z05) z05 (z0a _))
    (z0c (z12 (z0e z2r z0p z05 (z0e z4p z25 (z0e zcx zd7 (qv 1) z05) z05))))
    z4w)
   (z0c (z12 (zeu (zrg rfl) znt rfl T.«min» boot_min (z00 z05 (z00 (zeu (zrf rfl) zns rfl T.«max» boot_max (z00 z05 (z00 (z0e ze6 z7z (qL T.len (qv 0)) z05) z04))) z04))))))))
theorem zci (F:Fun K "_law_far" "_law_far" z5p f fd) (T:Txt mg) (G__law_edges:z3m P w K mg base):FnOk P w K mg base (CX1 P w) 2 f fd ["_law_lines","_law_rows","_law_cell"] (spD K mg false z1b 3):=
 fnD (k:=1) F sc__law_far rfl rfl fun cdv A outer s H E hr=>
  (z06 (sA 3 sc__law_far.nd zu6)
   (z06 (zaj PassesOwn.leaving rfl (z4d (qv 1)) (g_n (i:=4) sc__law_far.nd rfl (Or.inl rfl))
    (z06 (sA 5 sc__law_far.nd (z0z z4b G__law_edges hr rfl (z00 (qv 4) (z00 (qv 0) z04))))
   (z0c (zaj PassesOwn.leaving rfl (z4d (qv 5)) (g_n (i:=6) sc__law_far.nd rfl (Or.inr rfl))
    (z0c (zaj PassesOwn.leaving rfl (z4d (qv 5)) (g_n (i:=7) sc__law_far.nd rfl (Or.inl rfl))
    (z0c (zu5 hr.units (pw 3) (z1v (z00 (qv 6) (z00 (qv 7) z04))) zs4))))))))
   (z06 (zaj PassesOwn.leaving rfl (zxh rfl T.range (z00 (qL T.len (qv 0)) z04)) (g_n (i:=8) sc__law_far.nd rfl (Or.inl rfl))
    (z06 (sA 6 sc__law_far.nd (qI hr (qv 0) (z0e z4p z25 (z0e z2r z0p (qv 2) (qv 8)) (qL T.len (qv 0)))))
   (z06 (zs9 sc__law_far.nd (k:=9) rfl rfl (z10 (caps:=["_law_near","_law_one"]) (ix:=[3,6]) rfl rfl) (by decide +kernel) rfl (z4d (qv 0)) (.one fun _ _ _=>(z1w (zkj hr.units) zur (z1v (z00 (qv 2) (z00 (qv 0) z04))) (qv 1) (by with_unfolding_all rfl))) (fun _ _ _=>(qv 0)))
   (z0c (zby (tN hr (qv 9) (QE.wk (z65 z04)) (z0a _))
    (z0c (z12 (z1v (z00 (qv 6) (z00 (qI hr (qv 9) (z0e z4p z25 (z0e zcx zd7 (qv 2) z05) (qL T.len (qv 9)))) z04)))))
    z4w)))))
   (z0c (z12 zg1)))))
theorem zcj (F:Fun K "has_pair" "has_pair" z5o f fd) (T:Txt mg) (G_is_side:zb3 P w K mg base) (G_is_two:z9f P w K mg base):FnOk P w K mg base (CX1 P w) 3 f fd ["cut","p"] (spD K mg false z2p 2):=
 fnD (k:=2) F zcg rfl rfl fun cdv A outer s H E hr=>
  (z0c (z12 (z6u (z0z z4b G_is_two hr rfl (z00 (qv 1) z04)) (z8x (zxb (z0z z4b G_is_side hr rfl (z00 (qI hr (qv 0) z05) (z00 (qv 1) z04))) (z8x (z32 (z8v hr.units) z64 (qv 1) (qI hr (qv 0) z05) (by with_unfolding_all rfl))))))))
theorem z9k (F:Fun K "check_line" "check_line" z3g f fd) (T:Txt mg) (G_is_two:z9f P w K mg base):FnOk P w K mg base (CX1 P w) 3 f fd ["cut","p"] (spD K mg false z1l 2):=
 fnD (k:=2) F z9c rfl rfl fun cdv A outer s H E hr=>
  (z0c (zby (QW.pt (zq7 (zg3 (zg2 (z0z z4b G_is_two hr rfl (z00 (qv 1) z04)))) (zg4 (z1w (z8w hr.units) z64 (qv 1) (qI hr (qv 0) z05) (by with_unfolding_all rfl)))))
   (z0c zg9)
   z4w))
theorem zkm (F:Fun K "rooms" "rooms" zce f fd) (T:Txt mg) (G_room_under:z60 P w K mg base):FnOk P w K mg base (CX1 P w) 3 f fd ["n","lines"] (spD K mg true z78 2):=
 fnD (k:=2) F sc_rooms rfl rfl fun cdv A outer s H E hr=>
  (z06 (sA 2 sc_rooms.nd (z0e zl4 zle (QE.wk (z65 (z00 (z1v (z00 z05 (z00 (z0e ze6 z7z (qv 0) z05) z04))) z04))) (QE.wk (z7l znu znv rfl T.list boot_list (z00 (qv 1) z04)))))
   (z0c (z12 (zeu (z4h rfl hr.units) z2v rfl T.sorted boot_sorted (z00 (QE.wk (zxi (z10 (caps:=["lines"]) (ix:=[1]) rfl rfl) (by decide +kernel) rfl (z4d (qv 2)) .nil (fun _ _ _=>(z0z zx1 G_room_under hr rfl (z00 (qv 0) (z00 (qv 1) z04)))))) z04)))))
theorem z9l (F:Fun K "check_pair" "check_pair" z3h f fd) (T:Txt mg) (G_has_pair:z8g P w K mg base):FnOk P w K mg base (CX1 P w) 4 f fd ["cut","p"] (spD K mg false z1m 2):=
 fnD (k:=3) F z9d rfl rfl fun cdv A outer s H E hr=>
  (z0c (zby (zg3 (zg2 (z0z z4b G_has_pair hr rfl (z00 (qv 0) (z00 (qv 1) z04)))))
   (z0c zg9)
   z4w))
theorem zb6 (F:Fun K "triangles" "triangles" z4i f fd) (T:Txt mg) (G_rooms:zi3 P w K mg base):FnOk P w K mg base (CX1 P w) 4 f fd ["cut"] (spD K mg true z21 1):=
 fnD (k:=3) F zb1 rfl rfl fun cdv A outer s H E hr=>
  (z0c (z12 (z0z z4b G_rooms hr rfl (z00 (qI hr (qv 0) z05) (z00 (qI hr (qv 0) z05) z04)))))
theorem zi5 (F:Fun K "thirds" "thirds" z9a f fd) (T:Txt mg) (G_check_pair:z62 P w K mg base) (G_triangles:z7d P w K mg base):FnOk P w K mg base (CX1 P w) 5 f fd ["cut","p"] (spD K mg true z3y 2):=
 fnD (k:=4) F sc_thirds rfl rfl fun cdv A outer s H E hr=>
  (z06 (zli (z0z z4b G_check_pair hr rfl (z00 (qv 0) (z00 (qv 1) z04))))
   (z06 (zs9 sc_thirds.nd (k:=2) rfl rfl (z10 (caps:=["p"]) (ix:=[1]) rfl rfl) (by decide +kernel) rfl (z4d (QE.wk (z0z z4b G_triangles hr rfl (z00 (qv 0) z04)))) (.one fun _ _ _=>(QW.pt (zef (z1w (z8v hr.units) z64 (qI hr (qv 1) z05) (qv 0) (by with_unfolding_all rfl)) (zah (z1w (z8v hr.units) z64 (qI hr (qv 1) z05) (qv 0) (by with_unfolding_all rfl)))))) (fun _ _ _=>(qv 0)))
   (z0c (z12 (zeu (z4h rfl hr.units) z2v rfl T.sorted boot_sorted (z00 (QE.wk (zxi (z10 (caps:=["p"]) (ix:=[1]) rfl rfl) (by decide +kernel) rfl (z4d (qv 2)) .nil (fun _ _ _=>(z0e ze6 z7z (zeu (zre rfl) zlg rfl T.sum boot_sum (z00 (qv 0) z04)) (zeu (zre rfl) zlg rfl T.sum boot_sum (z00 (qv 1) z04)))))) z04))))))
theorem zi6 (F:Fun K "turned" "turned" z9b f fd) (T:Txt mg) (G_check_line:z61 P w K mg base) (G_thirds:zdw P w K mg base):FnOk P w K mg base (CX1 P w) 6 f fd ["cut","line"] (spD K mg false z07 2):=
 fnD (k:=5) F sc_turned rfl rfl fun cdv A outer s H E hr=>
  (z06 (zli (z0z z4b G_check_line hr rfl (z00 (qv 0) (z00 (qv 1) z04))))
   (z06 (sA 2 sc_turned.nd (z7l z69 z6a rfl T.tuple boot_tuple (z00 (QE.wk (z0z z4b G_thirds hr rfl (z00 (qv 0) (z00 (qv 1) z04)))) z04)))
   (z06 (zs9 sc_turned.nd (k:=3) rfl rfl (z10 (caps:=["line"]) (ix:=[1]) rfl rfl) (by decide +kernel) rfl (z4d (qI hr (qv 0) z05)) (.one fun _ _ _=>(tN hr (qv 0) (qv 1) (z0a _))) (fun _ _ _=>(qv 0)))
   (z0c (z12 (z1v (z00 (z1v (z00 (qI hr (qv 0) z05) (z00 (z7l z69 z6a rfl T.tuple boot_tuple (z00 (QE.wk (zeu (z4h rfl hr.units) z2v rfl T.sorted boot_sorted (z00 (QE.wk (z0e zl4 zle (qv 3) (QE.wk (z65 (z00 (qv 2) z04))))) z04))) z04)) z04))) (z00 (qv 2) z04))))))))
theorem zb7 (F:Fun K "_law_step" "_law_step" z4l f fd) (T:Txt mg) (G_turned:z9g P w K mg base):FnOk P w K mg base (CX1 P w) 7 f fd ["_law_cut","_law_line","_law_five"] (spD K mg false z22 3):=
 fnD (k:=6) F sc__law_step rfl rfl fun cdv A outer s H E hr=>
  (z06 (sA 3 sc__law_step.nd (z0z z4b G_turned hr rfl (z00 (qv 0) (z00 (qv 1) z04))))
   (z06 (zby (QW.pt (zq7 (zg3 (zg2 (zg5 rfl T.isinstance boot_isinstance (qv 3) (z6h (v:=.ty "tuple") rfl T.tuple boot_tuple rfl)))) (zq7 (tN hr (qL T.len (qv 3)) z05 (z0a _)) (zg4 (zg3 (zg2 (zg5 rfl T.isinstance boot_isinstance (qI hr (qv 3) z05) (z6h (v:=.ty "tuple") rfl T.tuple boot_tuple rfl))))))))
    (z0c (z12 zg1))
    z4w)
   (z06 (zby (QW.pt (zq7 (z1w (z8w hr.units) z64 (qv 1) (qv 2) (by with_unfolding_all rfl)) (zg4 (z1w (z8w hr.units) z64 (qI hr (qv 3) z05) (qv 2) (by with_unfolding_all rfl)))))
    (z0c (z12 zg1))
    z4w)
   (z0c (z12 (qv 3))))))
theorem z7q (F:Fun K "_law_either" "_law_either" z2x f fd) (T:Txt mg) (G_turned:z9g P w K mg base):FnOk P w K mg base (CX1 P w) 7 f fd ["_law_cut","_law_one","_law_other"] (spD K mg false z18 3):=
 fnD (k:=6) F sc__law_either rfl rfl fun cdv A outer s H E hr=>
  (z06 (sA 3 sc__law_either.nd (z0z z4b G_turned hr rfl (z00 (qv 0) (z00 (qv 1) z04))))
   (z06 (sA 4 sc__law_either.nd (z0z z4b G_turned hr rfl (z00 (qv 0) (z00 (qv 2) z04))))
   (z06 (sA 5 sc__law_either.nd (z0z z4b G_turned hr rfl (z00 (qI hr (qv 3) z05) (z00 (qv 2) z04))))
   (z06 (sA 6 sc__law_either.nd (z0z z4b G_turned hr rfl (z00 (qI hr (qv 4) z05) (z00 (qv 1) z04))))
   (z0c (z12 (z6u (z32 (z6s hr.units) z6t (qI hr (qv 5) z05) (qI hr (qv 6) z05) (z0a _)) (z6u (z32 (z6s hr.units) z6t (qI hr (qv 5) z05) (qI hr (qv 4) z05) (z0a _)) (z6u (z32 (z6s hr.units) z6t (qI hr (qv 6) z05) (qI hr (qv 3) z05) (z0a _)) (z8x (z32 (zrz hr.units) zs0 (qI hr (qv 5) z05) (qv 0) (z0a _))))))))))))
theorem z5q (F:Fun K "_law_five_back" "_law_five_back" z1q f fd) (T:Txt mg) (G__law_corners:z47 P w K mg base) (G__law_five_lines:z2q P w K mg base) (G__law_step:z7e P w K mg base):FnOk P w K mg base (CX1 P w) 8 f fd ["_law_cut","_law_one","_law_other","_law_rows"] (spD K mg false z0i 4):=
 fnD (k:=7) F sc__law_five_back rfl rfl fun cdv A outer s H E hr=>
  (z06 (sA 4 sc__law_five_back.nd (z0z z4b G__law_five_lines hr rfl (z00 (QE.wk (z0z z4b G__law_corners hr rfl (z00 (qv 3) (z00 (qv 1) (z00 (qv 2) z04))))) z04)))
   (z06 (sA 5 sc__law_five_back.nd (z65 (z00 (qv 0) z04)))
   (z06 (sA 6 sc__law_five_back.nd (z65 (z00 (qv 1) (z00 (qv 2) z04))))
   (z06 (sA 7 sc__law_five_back.nd (qv 0))
   (z06 (zaj PassesOwn.leaving rfl (zxh rfl T.range (z00 z05 z04)) (g_n (i:=8) sc__law_five_back.nd rfl (Or.inl rfl))
    (z06 (sA 9 sc__law_five_back.nd (z0z z4b G__law_step hr rfl (z00 (qv 7) (z00 (qI hr (qv 6) (qv 8)) (z00 (qv 4) z04)))))
   (z06 (zby (z1w zl2 zlo (qv 9) zg1 (z0a _))
    (z0c (z12 zs4))
    z4w)
   (z06 (sA 7 sc__law_five_back.nd (qI hr (qv 9) z05))
   (z06 (z8y PySem.F.plainAttrs_list PySem.F.slot_list_append PySem.F.type_list_append z14 z5s z2t (pw 6) (z00 (qI hr (qv 9) z05) z04))
   (z06 (zby (QW.pt (zef (z1w zr4 zaf (qv 8) z05 (z0a _)) (zah (z1w (z8v hr.units) z64 (qv 7) (qv 5) (by with_unfolding_all rfl)))))
    (z0c (z12 zs4))
    z4w)
   (z0c (z8y PySem.F.plainAttrs_list PySem.F.slot_list_append PySem.F.type_list_append z14 z5s z2t (pw 5) (z00 (qv 7) z04)))))))))
   (z0c (z12 (z6u (z32 (z6s hr.units) z6t (qv 7) (qv 0) (z0a _)) (z6u (z32 (z6s hr.units) z6t (QE.wk (zeu (z4h rfl hr.units) z2v rfl T.sorted boot_sorted (z00 (QE.wk (zxf zbj zbx (qv 6) zxd (zxe z05))) z04))) (qv 4) (z0a _)) (z8x (z32 (z6s hr.units) z6t (QE.wk (zeu (z4h rfl hr.units) z2v rfl T.sorted boot_sorted (z00 (QE.wk (zxf zbj zbx (qv 6) (zxe z05) zxd)) z04))) (qv 4) (z0a _))))))))))))
theorem zux (F:Fun K "law" "law" zpn f fd) (T:Txt mg) (G__law_edges:z3m P w K mg base) (G__law_either:z57 P w K mg base) (G__law_far:z8f P w K mg base) (G__law_five_back:z2z P w K mg base) (G__law_grown:z5z P w K mg base) (G__law_many:z7c P w K mg base) (G__law_pick:z4m P w K mg base) (G__law_stream:z56 P w K mg base):FnOk P w K mg base (CX1 P w) 9 f fd ["_law_script"] (spD K mg false zep 1):=
 fnD (k:=8) F sc_law rfl rfl fun cdv A outer s H E hr=>
  (z06 (zsb (z0z z4b G__law_grown hr rfl (z00 (QE.wk (z0z z4b G__law_stream hr rfl (z00 (QE.wk (zxf zbj zbx (qv 0) (zxe z05) zxd)) (z00 (z0z z4b G__law_many hr rfl (z00 (qv 0) z04)) z04)))) z04)) (g_t rfl (z35 (i:=1) sc_law.nd rfl (Or.inl rfl) (z35 (i:=2) sc_law.nd rfl (Or.inr rfl) (z35 (i:=3) sc_law.nd rfl (Or.inl rfl) zlj)))))
   (z06 (sA 4 sc_law.nd (z1v (z00 (qv 1) (z00 (z7l z69 z6a rfl T.tuple boot_tuple (z00 (qv 2) z04)) z04))))
   (z06 (zs9 sc_law.nd (k:=5) rfl rfl (z10 (caps:=["_law_lines"]) (ix:=[2]) rfl rfl) (by decide +kernel) rfl (z4d (qv 3)) (.one fun _ _ _=>(z1w zq3 z80 (qL T.len (QE.wk (z0z zx1 G__law_edges hr rfl (z00 (qv 0) (z00 (qv 1) z04))))) z05 (z0a _))) (fun _ _ _=>(QE.wk (z0z zx1 G__law_edges hr rfl (z00 (qv 0) (z00 (qv 1) z04))))))
   (z06 (sA 6 sc_law.nd (qI hr (qv 5) (z0e z4p z25 (z0z z4b G__law_pick hr rfl (z00 (qv 0) (z00 z05 z04))) (qL T.len (qv 5)))))
   (z06 (sA 7 sc_law.nd (z0z z4b G__law_pick hr rfl (z00 (qv 0) (z00 z05 z04))))
   (z06 (sA 8 sc_law.nd (qI hr (qv 6) (z0e z4p z25 (qv 7) (qL T.len (qv 6)))))
   (z06 (sA 9 sc_law.nd (qI hr (qv 6) (z0e z4p z25 (z0e z2r z0p (z0e z2r z0p (qv 7) z05) (z0e z4p z25 (z0e zcx zd7 (qv 7) z05) (z0e ze6 z7z (qL T.len (qv 6)) z05))) (qL T.len (qv 6)))))
   (z06 (zby (zg3 (zg2 (z0z z4b G__law_five_back hr rfl (z00 (qv 4) (z00 (qv 8) (z00 (qv 9) (z00 (qv 3) z04)))))))
    (z0c (z12 zs4))
    z4w)
   (z06 (sA 10 sc_law.nd (z0z z4b G__law_far hr rfl (z00 (qv 2) (z00 (qv 3) (z00 (z0e z4p z25 (z0z z4b G__law_pick hr rfl (z00 (qv 0) (z00 z05 z04))) z05) z04)))))
   (z0c (z12 (zxb (z32 zl2 zlo (qv 10) zg1 (z0a _)) (z8x (z0z z4b G__law_either hr rfl (z00 (qv 4) (z00 (qI hr (qv 10) z05) (z00 (qI hr (qv 10) z05) z04)))))))))))))))))
end
theorem all_mk {l:PySem.W.OpenLaw} {w:World} {K:Frag} {h:Heap} {mg:Str->Option Value} {fa:Addr} (X:K.In h) (G:h.Ns mainGlobals mg) (hfa:mg "law"=some (.ref fa))
  {f0 f1 f2 f3 f4 f5 f6 f7 f8 f9 f10 f11 f12 f13 f14 f15 f16 f17 f18 f19 f20 f21 f22 f23:Addr}
  (A0:FnAt K "is_whole" z5n f0)
  (A1:FnAt K "is_side" z7b f1)
  (A2:FnAt K "corner_behind" z23 f2)
  (A3:FnAt K "_law_pick" z4j f3)
  (A4:FnAt K "_law_stream" z2w f4)
  (A5:FnAt K "_law_grown" z3j f5)
  (A6:FnAt K "_law_edges" z3k f6)
  (A7:FnAt K "_law_corners" z2h f7)
  (A8:FnAt K "_law_five_lines" z1c f8)
  (A9:FnAt K "is_two" z99 f9)
  (A10:FnAt K "room_under" z3i f10)
  (A11:FnAt K "_law_many" z4k f11)
  (A12:FnAt K "_law_far" z5p f12)
  (A13:FnAt K "has_pair" z5o f13)
  (A14:FnAt K "check_line" z3g f14)
  (A15:FnAt K "rooms" zce f15)
  (A16:FnAt K "check_pair" z3h f16)
  (A17:FnAt K "triangles" z4i f17)
  (A18:FnAt K "thirds" z9a f18)
  (A19:FnAt K "turned" z9b f19)
  (A20:FnAt K "_law_step" z4l f20)
  (A21:FnAt K "_law_either" z2x f21)
  (A22:FnAt K "_law_five_back" z1q f22)
  (A23:FnAt K "law" zpn f23)
  (T:Txt mg) :
  ∃fd:FuncData,(∀(s:Shared) (v:Value),BindsTo s fd ⟨[v],[]⟩ [("_law_script",v)])/\∀base:Heap,K.In base->base.Ns mainGlobals mg->FnOk l.prog w K mg base (CX1 l.prog w) 9 fa fd ["_law_script"] (spL K false zep 1):=by
 refine zu8 X G hfa A23 (fun _ _ _ _ _ _ _ _=>.of_eq rfl) fun base kb nb fd F=>?_
 have G_is_whole:z8e l.prog w K mg base:=got X G A0 fun F=>zch F T 
 have G_is_side:zb3 l.prog w K mg base:=got X G A1 fun F=>zeq F T 
 have G_corner_behind:z3l l.prog w K mg base:=got X G A2 fun F=>z66 F T 
 have G__law_pick:z4m l.prog w K mg base:=got X G A3 fun F=>zb4 F T 
 have G__law_stream:z56 l.prog w K mg base:=got X G A4 fun F=>z7p F T 
 have G__law_grown:z5z l.prog w K mg base:=got X G A5 fun F=>z9h F T 
 have G__law_edges:z3m l.prog w K mg base:=got X G A6 fun F=>z9i F T 
 have G__law_corners:z47 l.prog w K mg base:=got X G A7 fun F=>z7f F T 
 have G__law_five_lines:z2q l.prog w K mg base:=got X G A8 fun F=>z58 F T 
 have G_is_two:z9f l.prog w K mg base:=got X G A9 fun F=>zi4 F T G_is_whole
 have G_room_under:z60 l.prog w K mg base:=got X G A10 fun F=>z9j F T G_corner_behind
 have G__law_many:z7c l.prog w K mg base:=got X G A11 fun F=>zb5 F T G__law_pick
 have G__law_far:z8f l.prog w K mg base:=got X G A12 fun F=>zci F T G__law_edges
 have G_has_pair:z8g l.prog w K mg base:=got X G A13 fun F=>zcj F T G_is_side G_is_two
 have G_check_line:z61 l.prog w K mg base:=got X G A14 fun F=>z9k F T G_is_two
 have G_rooms:zi3 l.prog w K mg base:=got X G A15 fun F=>zkm F T G_room_under
 have G_check_pair:z62 l.prog w K mg base:=got X G A16 fun F=>z9l F T G_has_pair
 have G_triangles:z7d l.prog w K mg base:=got X G A17 fun F=>zb6 F T G_rooms
 have G_thirds:zdw l.prog w K mg base:=got X G A18 fun F=>zi5 F T G_check_pair G_triangles
 have G_turned:z9g l.prog w K mg base:=got X G A19 fun F=>zi6 F T G_check_line G_thirds
 have G__law_step:z7e l.prog w K mg base:=got X G A20 fun F=>zb7 F T G_turned
 have G__law_either:z57 l.prog w K mg base:=got X G A21 fun F=>z7q F T G_turned
 have G__law_five_back:z2z l.prog w K mg base:=got X G A22 fun F=>z5q F T G__law_corners G__law_five_lines G__law_step
 exact (zux F T G__law_edges G__law_either G__law_far G__law_five_back G__law_grown G__law_many G__law_pick G__law_stream).imp fun _ _ _ _ z=>z.spD
abbrev kO (n:String) (t1:Nat) (q:String) (t2 t3:Nat) (a b c d e:Int) (r1:Nat) (g:Int) (r2 r3 r4 r5:Nat) (k l:Int) (t4:Nat):Obj:=⟨.type "code",none,.fields [vs n t1,vs q t2,vs "/claim/cut.py" t3,.int a 0,.int b 0,.int c 0,.int d 0,.int e 0,.ref r1,.bool true,.int g 0,.ref r2,.none,.ref r3,.ref r4,.ref r5,.int k 0,.int l 0,vs "/claim/cut.py" t4].toArray,#[]⟩
abbrev kCo (n:String) (t1:Nat) (q:String) (t2 t3:Nat) (a b c d e:Int) (r1:Nat) (g:Int) (r2 r5:Nat) (k l:Int) (t4:Nat):Obj:=⟨.type "code",none,.fields [vs n t1,vs q t2,vs "/claim/cut.py" t3,.int a 0,.int b 0,.int c 0,.int d 0,.int e 0,.ref r1,.bool true,.int g 0,.ref r2,.none,.none,.none,.ref r5,.int k 0,.int l 0,vs "/claim/cut.py" t4].toArray,#[]⟩
abbrev fO (i:Nat) (n m:String) (t r:Nat):Obj:=oF (top i) n n .none .none .none (vs m t) none (.ref r) .none
abbrev cO (n:String) (b a ns r t1 t2:Nat):Obj:=⟨.type "type",none,.cls { name:=Str.ofString n,bases:=[.ref b],mro:=[.ref a,.ref b,.type "ValueError",.type "Exception",.type "BaseException",.type "object"],ns:=ns,qualname:=Str.ofString n,hasDict:=true,slotNames:=[],subclasses:=[],abstract:=false,collection:=none,hasDel:=false },#[some (.ref r),none,some (vs n t1),some (vs n t2),some (.builtin "ValueError.__new__"),some (.bool true)]⟩
noncomputable def K:Params->Frag:=fun P=>
 (nat_lit 2,⟨.none,none,(.dict [].toArray 0),#[]⟩) ::
 (nat_lit 3,oD [en P "__name__" 165 (vs "law_friezeyard_k52_five_turnings" 319),en P "__doc__" 166 .none,en P "__package__" 167 .none,en P "__loader__" 168 (.builtin "__main__.__loader__#opaque"),en P "__spec__" 169 .none,en P "__annotations__" 170 (.ref 6),en P "__builtins__" 171 (.ref 4),en P "__file__" 173 (vs "/claim/cut.py" 172),en P "__cached__" 174 .none,en P "FloorError" 206 (.ref 24),en P "NoLine" 222 (.ref 37),en P "is_whole" 231 (.ref 46),en P "is_side" 241 (.ref 53),en P "is_two" 250 (.ref 60),en P "has_pair" 258 (.ref 67),en P "check_line" 266 (.ref 74),en P "check_pair" 274 (.ref 81),en P "rooms" 282 (.ref 86),en P "room_under" 291 (.ref 93),en P "corner_behind" 297 (.ref 98),en P "triangles" 304 (.ref 105),en P "thirds" 310 (.ref 110),en P "turned" 318 (.ref 115),en P "_law_pick" 328 (.ref 122),en P "_law_many" 336 (.ref 129),en P "_law_stream" 347 (.ref 136),en P "_law_grown" 353 (.ref 141),en P "_law_edges" 359 (.ref 146),en P "_law_corners" 370 (.ref 153),en P "_law_five_lines" 382 (.ref 160),en P "_law_step" 392 (.ref 167),en P "_law_five_back" 408 (.ref 174),en P "_law_far" 414 (.ref 179),en P "_law_either" 427 (.ref 186),en P "law" 433 (.ref 191)] 35) ::
 (nat_lit 15,oT [(.type "ValueError")]) ::
 (nat_lit 22,oT []) ::
 (nat_lit 23,oD [en P "__module__" 196 (vs "friezeyard.errors" 187),en P "__firstlineno__" 200 (.int 2 199),en P "__static_attributes__" 201 (.ref 22),en P "__weakref__" 203 (.ref 25),en P "__doc__" 204 .none] 3) ::
 (nat_lit 24,⟨(.type "type"),none,(.cls { name:=Str.ofString "FloorError",bases:=[(.type "ValueError")],mro:=[(.ref 24),(.type "ValueError"),(.type "Exception"),(.type "BaseException"),(.type "object")],ns:=23,qualname:=Str.ofString "FloorError",hasDict:=true,slotNames:=[],subclasses:=[(.ref 37)],abstract:=false,collection:=none,hasDel:=false }),#[some (.ref 15),none,some (vs "FloorError" 189),some (vs "FloorError" 197),some (.builtin "ValueError.__new__"),some (.bool true)]⟩) ::
 (nat_lit 25,⟨(.type "getset_descriptor"),none,(.fields [(vs "__weakref__" 202),(.ref 24),(.builtin "ExceptionGroup.__weakref__"),.none].toArray),#[]⟩) ::
 (nat_lit 28,oT [(.ref 24)]) ::
 (nat_lit 35,oT []) ::
 (nat_lit 36,oD [en P "__module__" 214 (vs "friezeyard.errors" 187),en P "__firstlineno__" 218 (.int 4 217),en P "__static_attributes__" 219 (.ref 35),en P "__doc__" 220 .none] 2) ::
 (nat_lit 37,(cO "NoLine" 24 37 36 28 207 215)) ::
 (nat_lit 40,oT []) ::
 (nat_lit 42,oT [(vs "thing" 228)]) ::
 (nat_lit 43,oT []) ::
 (nat_lit 45,(kO "is_whole" 225 "is_whole" 226 227 7 1 0 0 3 40 181 41 42 43 44 229 7 230)) ::
 (nat_lit 46,(fO 4 "is_whole" "friezeyard.pairs" 223 45)) ::
 (nat_lit 47,oT []) ::
 (nat_lit 49,oT [(vs "n" 235),(vs "p" 236),(vs "a" 237),(vs "b" 238)]) ::
 (nat_lit 50,oT []) ::
 (nat_lit 52,(kO "is_side" 232 "is_side" 233 234 9 2 0 0 3 47 181 48 49 50 51 239 9 240)) ::
 (nat_lit 53,(fO 5 "is_side" "friezeyard.pairs" 223 52)) ::
 (nat_lit 54,oT []) ::
 (nat_lit 56,oT [(vs "thing" 247)]) ::
 (nat_lit 57,oT []) ::
 (nat_lit 59,(kO "is_two" 244 "is_two" 245 246 16 1 0 0 3 54 181 55 56 57 58 248 16 249)) ::
 (nat_lit 60,(fO 7 "is_two" "friezeyard.common" 242 59)) ::
 (nat_lit 61,oT []) ::
 (nat_lit 63,oT [(vs "cut" 254),(vs "p" 255)]) ::
 (nat_lit 64,oT []) ::
 (nat_lit 66,(kO "has_pair" 251 "has_pair" 252 253 18 2 0 0 3 61 181 62 63 64 65 256 18 257)) ::
 (nat_lit 67,(fO 8 "has_pair" "friezeyard.common" 242 66)) ::
 (nat_lit 68,oT []) ::
 (nat_lit 70,oT [(vs "cut" 262),(vs "p" 263)]) ::
 (nat_lit 71,oT []) ::
 (nat_lit 73,(kO "check_line" 259 "check_line" 260 261 20 2 0 0 3 68 181 69 70 71 72 264 20 265)) ::
 (nat_lit 74,(fO 9 "check_line" "friezeyard.common" 242 73)) ::
 (nat_lit 75,oT []) ::
 (nat_lit 77,oT [(vs "cut" 270),(vs "p" 271)]) ::
 (nat_lit 78,oT []) ::
 (nat_lit 80,(kO "check_pair" 267 "check_pair" 268 269 23 2 0 0 3 75 181 76 77 78 79 272 23 273)) ::
 (nat_lit 81,(fO 10 "check_pair" "friezeyard.common" 242 80)) ::
 (nat_lit 82,oT []) ::
 (nat_lit 85,(kCo "rooms" 277 "rooms" 278 279 27 2 0 0 3 82 181 83 84 280 27 281)) ::
 (nat_lit 86,(fO 12 "rooms" "friezeyard.rooms" 275 85)) ::
 (nat_lit 87,oT []) ::
 (nat_lit 89,oT [(vs "top" 286),(vs "lines" 287),(vs "room" 288)]) ::
 (nat_lit 90,oT []) ::
 (nat_lit 92,(kO "room_under" 283 "room_under" 284 285 30 2 0 0 3 87 181 88 89 90 91 289 30 290)) ::
 (nat_lit 93,(fO 13 "room_under" "friezeyard.rooms" 275 92)) ::
 (nat_lit 94,oT []) ::
 (nat_lit 97,(kCo "corner_behind" 292 "corner_behind" 293 294 35 3 0 0 3 94 181 95 96 295 35 296)) ::
 (nat_lit 98,(fO 14 "corner_behind" "friezeyard.rooms" 275 97)) ::
 (nat_lit 99,oT []) ::
 (nat_lit 101,oT [(vs "cut" 301)]) ::
 (nat_lit 102,oT []) ::
 (nat_lit 104,(kO "triangles" 298 "triangles" 299 300 38 1 0 0 3 99 181 100 101 102 103 302 38 303)) ::
 (nat_lit 105,(fO 15 "triangles" "friezeyard.rooms" 275 104)) ::
 (nat_lit 106,oT []) ::
 (nat_lit 109,(kCo "thirds" 305 "thirds" 306 307 40 2 0 0 3 106 181 107 108 308 40 309)) ::
 (nat_lit 110,(fO 16 "thirds" "friezeyard.rooms" 275 109)) ::
 (nat_lit 111,oT []) ::
 (nat_lit 114,(kCo "turned" 313 "turned" 314 315 45 2 0 0 3 111 181 112 113 316 45 317)) ::
 (nat_lit 115,(fO 18 "turned" "friezeyard.turns" 311 114)) ::
 (nat_lit 116,oT []) ::
 (nat_lit 118,oT [(vs "_law_script" 324),(vs "_law_k" 325)]) ::
 (nat_lit 119,oT []) ::
 (nat_lit 121,(kO "_law_pick" 321 "_law_pick" 322 323 51 2 0 0 3 116 181 117 118 119 120 326 51 327)) ::
 (nat_lit 122,(fO 20 "_law_pick" "law_friezeyard_k52_five_turnings" 319 121)) ::
 (nat_lit 123,oT []) ::
 (nat_lit 125,oT [(vs "_law_script" 332),(vs "_law_cell" 333)]) ::
 (nat_lit 126,oT []) ::
 (nat_lit 128,(kO "_law_many" 329 "_law_many" 330 331 55 1 0 0 3 123 181 124 125 126 127 334 55 335)) ::
 (nat_lit 129,(fO 21 "_law_many" "law_friezeyard_k52_five_turnings" 319 128)) ::
 (nat_lit 130,oT []) ::
 (nat_lit 132,oT [(vs "_law_cells" 340),(vs "_law_many_here" 341),(vs "_law_found" 342),(vs "_law_number" 343),(vs "_law_k" 344)]) ::
 (nat_lit 133,oT []) ::
 (nat_lit 135,(kO "_law_stream" 337 "_law_stream" 338 339 62 2 0 0 3 130 181 131 132 133 134 345 62 346)) ::
 (nat_lit 136,(fO 22 "_law_stream" "law_friezeyard_k52_five_turnings" 319 135)) ::
 (nat_lit 137,oT []) ::
 (nat_lit 140,(kCo "_law_grown" 348 "_law_grown" 349 350 71 1 0 0 3 137 181 138 139 351 71 352)) ::
 (nat_lit 141,(fO 23 "_law_grown" "law_friezeyard_k52_five_turnings" 319 140)) ::
 (nat_lit 142,oT []) ::
 (nat_lit 145,(kCo "_law_edges" 354 "_law_edges" 355 356 87 2 0 0 3 142 181 143 144 357 87 358)) ::
 (nat_lit 146,(fO 24 "_law_edges" "law_friezeyard_k52_five_turnings" 319 145)) ::
 (nat_lit 147,oT []) ::
 (nat_lit 149,oT [(vs "_law_rows" 363),(vs "_law_one" 364),(vs "_law_other" 365),(vs "_law_corners_here" 366),(vs "_law_row" 367)]) ::
 (nat_lit 150,oT []) ::
 (nat_lit 152,(kO "_law_corners" 360 "_law_corners" 361 362 89 3 0 0 3 147 181 148 149 150 151 368 89 369)) ::
 (nat_lit 153,(fO 25 "_law_corners" "law_friezeyard_k52_five_turnings" 319 152)) ::
 (nat_lit 154,oT []) ::
 (nat_lit 156,oT [(vs "_law_corners_here" 374),(vs "_law_a" 375),(vs "_law_b" 376),(vs "_law_c" 377),(vs "_law_d" 378),(vs "_law_e" 379)]) ::
 (nat_lit 157,oT []) ::
 (nat_lit 159,(kO "_law_five_lines" 371 "_law_five_lines" 372 373 95 1 0 0 3 154 181 155 156 157 158 380 95 381)) ::
 (nat_lit 160,(fO 26 "_law_five_lines" "law_friezeyard_k52_five_turnings" 319 159)) ::
 (nat_lit 161,oT []) ::
 (nat_lit 163,oT [(vs "_law_cut" 386),(vs "_law_line" 387),(vs "_law_five" 388),(vs "_law_found" 389)]) ::
 (nat_lit 164,oT []) ::
 (nat_lit 166,(kO "_law_step" 383 "_law_step" 384 385 98 3 0 0 3 161 181 162 163 164 165 390 98 391)) ::
 (nat_lit 167,(fO 27 "_law_step" "law_friezeyard_k52_five_turnings" 319 166)) ::
 (nat_lit 168,oT []) ::
 (nat_lit 170,oT [(vs "_law_cut" 396),(vs "_law_one" 397),(vs "_law_other" 398),(vs "_law_rows" 399),(vs "_law_five" 400),(vs "_law_seen" 401),(vs "_law_came" 402),(vs "_law_now" 403),(vs "_law_k" 404),(vs "_law_found" 405)]) ::
 (nat_lit 171,oT []) ::
 (nat_lit 173,(kO "_law_five_back" 393 "_law_five_back" 394 395 105 4 0 0 3 168 181 169 170 171 172 406 105 407)) ::
 (nat_lit 174,(fO 28 "_law_five_back" "law_friezeyard_k52_five_turnings" 319 173)) ::
 (nat_lit 175,oT []) ::
 (nat_lit 178,(kCo "_law_far" 409 "_law_far" 410 411 120 3 0 0 3 175 181 176 177 412 120 413)) ::
 (nat_lit 179,(fO 29 "_law_far" "law_friezeyard_k52_five_turnings" 319 178)) ::
 (nat_lit 180,oT []) ::
 (nat_lit 182,oT [(vs "_law_cut" 418),(vs "_law_one" 419),(vs "_law_other" 420),(vs "_law_first" 421),(vs "_law_second" 422),(vs "_law_behind" 423),(vs "_law_beyond" 424)]) ::
 (nat_lit 183,oT []) ::
 (nat_lit 185,(kO "_law_either" 415 "_law_either" 416 417 133 3 0 0 3 180 181 181 182 183 184 425 133 426)) ::
 (nat_lit 186,(fO 30 "_law_either" "law_friezeyard_k52_five_turnings" 319 185)) ::
 (nat_lit 187,oT []) ::
 (nat_lit 190,(kCo "law" 428 "law" 429 430 139 1 0 0 3 187 181 188 189 431 139 432)) ::
 (nat_lit 191,(fO 31 "law" "law_friezeyard_k52_five_turnings" 319 190))::[]
noncomputable def places:List Addr:=[2,3,15,22,23,24,25,28,35,36,37,40,42,43,45,46,47,49,50,52,53,54,56,57,59,60,61,63,64,66,67,68,70,71,73,74,75,77,78,80,81,82,85,86,87,89,90,92,93,94,97,98,99,101,102,104,105,106,109,110,111,114,115,116,118,119,121,122,123,125,126,128,129,130,132,133,135,136,137,140,141,142,145,146,147,149,150,152,153,154,156,157,159,160,161,163,164,166,167,168,170,171,173,174,175,178,179,180,182,183,185,186,187,190,191]
theorem zkn:∀P,places=(K P).map (·.1):=fun _=>by kernel_rfl
noncomputable def hook:PySem.W.Hook:=PySem.W.kHook K places zkn
noncomputable def q:Program:=PySem.W.view PySem.Challenge.pw_friezeyard_k52_five_turnings [1,2,4,5,7,8,9,10,12,13,14,15,16,18,20,21,22,23,24,25,26,27,28,29,30,31]
noncomputable def xtH (s:Shared):Bool:=PySem.W.xlAt q [] s&&PySem.W.recOk (PySem.W.RowW.records PySem.Challenge.rw_friezeyard_k52_five_turnings.row.toRowW) s
noncomputable def out (w:World) (os:OsState):=outAt PySem.Challenge.pw_friezeyard_k52_five_turnings q [] xtH (fun s=>places.map s.heap.get?) 2458 w os
noncomputable def good:=PySem.W.openGood q []
example:((fun (_:Params->Obj) (_:Str)=>true) PySem.W.boot_o_0 (Str.ofString "dull"))=true:=by k_qdec
lay_quick out good
theorem zuy:∀w os,out w os=some (true,good,(K w.params).map fun p=>some p.2):=fun w os=>(congrFun (congrFun PySem.W.Fast.te904096728965211861 w) os).trans (by rw [PySem.W.Fast.te7158080801388996325];kernel_rfl)
theorem left:PySem.W.LeftO PySem.Challenge.pw_friezeyard_k52_five_turnings q [] xtH (PySem.W.Hook.obs hook) (PySem.W.Hook.val hook) 2458:=zpl (by kernel_rfl) (by kernel_rfl) (fun _=>by kernel_rfl) zuy
end K52
namespace K52
open L2 Bd Cu
local macro_rules | `(tactic| walk_at "dz")=>do
 let a:=("zxl,zsf,zxm,zsr,zsq,zws,zfu,sNx,zq5,zeb,zwx,zrr,zes,zea,z82,zss,zst,zo8,zsg,zsh,zsi,zsl,zsj,zsk,zo6,zsm,zsn,zso,zsp,zo7,zo9,zdc,zxn,zxo,zxp,zjw,zjx,zsu,zdd,z8z,zoa,zsv,ztn,zy1,zy2,zy3,zto,ztp,zon,zoo,zjy,zob,zjz,zk0,zk1,z90,ztk,zam,zou,zsw,zsx,zgj,zsy,zoc,zod,zoe,zof,zl8,zd4,Option.bind_some,Bool.and_true,Bool.true_and,zxq,zxr,zxs,zxt,y0n,y0o,eC,eOp,eUn,z08,z01,z0r,eCB,z59,zac,eIf,eSl,oSo,oNo,ztr,zin,bOr,zje,z24,zbn,eOr,y0a,y0b,zwn,zwo,zrm,zrn,z31,iL,zos,zot,zol,zoj,zok,L2.R.bind_ok,L2.R.of_some,z2g,zl9,znn,dLe,zlb,dGe,zxu,zrx,zxv,zlq,zsz,zt0,zt1,zt2,zt3,zt4,zt5,zlr,zls,zt6,zt7,zt8,zt9,zlt,zta,zxx,ztl,zxy,zy0,zy5,ztt,ztu,zow,zox,zk4,zk5,y0q,ztm,zxz,y0r,y0s,zjq,zjp,zy6,zy7,ztv,ztw,ztx,zty,ztz,zy8,zy9,zk6,zdg,zlw,zxw,ztb,ztc,zoh,ztd,zte,ztf,zgm,zlu,ztg,zgn,zth,zti,ztj,zoi,List.map_cons,List.map_nil,List.length_cons,List.length_nil,List.cons_append,List.nil_append,List.replicate_succ,List.replicate_zero,List.getElem?_cons_zero,List.getElem?_cons_succ,List.set_cons_zero,List.set_cons_succ,Option.map_some,Option.getD_some,if_true,if_false,Bool.false_eq_true,Bool.not_true,Bool.not_false,Bool.and_false,Bool.false_and,Bool.or_true,Bool.true_or,Bool.or_false,Bool.false_or,Nat.reduceAdd,Nat.reduceLeDiff,Nat.reduceEqDiff,reduceCtorEq,decide_true,decide_false,Int.reduceEq".splitOn ",").toArray.map fun s=>Lean.mkIdent s.toName
 `(tactic| try simp (implicitDefEqProofs:=false) only [$[$a:term],*])
theorem z9m {α:Type} (ls:List α) (f:α->D) (n:Nat) (hn:n<=20) (h1:∀x,(f x).oi=true) (h2:∀x,(f x).dep<=n) (h3:∀x y,(z1i (f x) (f y)).isSome=true) (h4:((ls.map f).all isI||(ls.map f).all zc0||(ls.map f).all zgg)=true):z2a [.lst (ls.map f)]=some (.lst (z2j (ls.map f))):=by
 have ok:z2u (ls.map f)=true:=by
  unfold z2u
  rw [z27 _ _ h1,decide_eq_true (Nat.le_trans (z1o ls f n h2) hn),z26 ls f (fun d=>(ls.map f).all fun e=>(z1i d e).isSome) (fun x=>z26 _ _ _ fun y=>h3 x y),h4]
  rfl
 simp only [z2a,ok,if_true]
theorem sorted_T2 (ls:List P2) (_:ls.length<64):z2a [.lst (ls.map T2)]=some (.lst ((so2 ls).map T2)):=by
 rw [z9m ls T2 1 (by decide) zc3 z38 zlx (by rw [z26 ls T2 zc0 fun _=>rfl,Bool.or_true,Bool.true_or]),z5i]
theorem sorted_T3 (ls:List P3) (_:ls.length<64):z2a [.lst (ls.map T3)]=some (.lst ((so3 ls).map T3)):=by
 rw [z9m ls T3 1 (by decide) zov zlv zly (by rw [z26 ls T3 zc0 fun _=>rfl,Bool.or_true,Bool.true_or]),z91]
theorem sorted_I (ls:List Int) (_:ls.length<64):z2a [L ls]=some (L (soI ls)):=by
 unfold L
 rw [z9m ls D.int 0 (by decide) zq8 (fun _=>by simp [D.dep]) (fun _ _=>rfl) (by rw [z26 ls D.int isI fun _=>rfl];rfl),z37]
theorem zuz (d:Int) (ns:List Int):zei [L ns,.int d]=some (.int (mxD d ns)):=by simp only [L,zei,z5g,Option.map_some]
theorem zko (c:Int) (p:P2) (ls:List P2) (hl:ls.length<=1000):z0v [.int c,T2 p,.tup (ls.map T2)]=.ok (.int (mxD (c+1) (ends c p ls))):=by
 unfold z0v z3d
 walk_at "dz"
 rw [if_pos (by rw [List.length_map];omega),z2k (en:=T2) (bs:=fun l=>[T2 l]) (p:=pk c p) (g:=fun l=>D.int l.2) ls (fun x _=>rfl) (fun l _=>by
  unfold z2m
  simp only [T2]
  walk_at "dz"
  rfl) (fun l _ _=>by
  unfold z2n
  simp only [T2]
  walk_at "dz")]
 simp only [R.bind_ok]
 rw [show D.lst ((ls.filter (pk c p)).map fun l=>D.int l.2)=L (ends c p ls) by unfold L ends;rw [List.map_map];rfl]
 walk_at "dz"
 rw [zuz]
 walk_at "dz"
theorem z9n (t:DE->R Bool) (g:DS->SR) (n:Nat) (ρ:DS):z4r t g (n+1) ρ=(t (see ρ)).toS fun b=>if b=true then (g ρ).itr (z4r t g n) else .nx ρ:=by
 rw [z4r];congr 1
theorem zmb (xs:List Int) (v:Int):dIx (L (xs++[v])) (.int (-1))=some (.int v):=by
 have:(xs++[v]).map D.int=xs.map D.int++[D.int v]:=by simp
 simp only [L,dIx,dOr,zbw,this,zj0]
theorem zck (ls:List P2) (p:P2) (xs:List Int) (v:Int):z1g [some (T2 p),some (.tup (ls.map T2)),some (L (xs++[v]))]=.ok (decide (v<p.2)):=by
 unfold z1g
 simp only [T2]
 walk_at "dz"
 rw [zmb]
 walk_at "dz"
theorem zi7 (ls:List P2) (hl:ls.length<=1000) (p:P2) (xs:List Int) (v:Int) (hx:xs.length<1000):z1h [.im (T2 p),.im (.tup (ls.map T2)),.ow (L (xs++[v]))]=.nx [.im (T2 p),.im (.tup (ls.map T2)),.ow (L (xs++[v]++[mxD (v+1) (ends v p ls)]))]:=by
 unfold z1h
 walk_at "dz"
 rw [zmb]
 walk_at "dz"
 rw [zko _ _ _ hl]
 walk_at "dz"
 rw [zom (by simp;omega)]
 walk_at "dz"
theorem zpo {n:Int} {ls ls':List P2} {T:List P3} (I:CInv n ls T) (p:ls'.Perm ls) (hl:ls'.length<=1000) (a c b:Int) (h:(a,c,b)∈T) :
  z1k [T2 (a,b),.tup (ls'.map T2)]=.ok (T3 (a,c,b)):=by
 obtain ⟨g1,g2,g3,g4,_⟩:=I.tri a c b h
 unfold z1k z5w
 walk_at "dz"
 have w:zad 1000 z1g z1h [.im (T2 (a,b)),.im (.tup (ls'.map T2)),.ow (L [a])]=.nx [.im (T2 (a,b)),.im (.tup (ls'.map T2)),.ow (L [a,c,b])]:=by
  have t1:=zck ls' (a,b) [] a
  have t2:=zck ls' (a,b) [a] c
  have t3:=zck ls' (a,b) [a,c] b
  have b1:=zi7 ls' hl (a,b) [] a (by simp)
  have b2:=zi7 ls' hl (a,b) [a] c (by simp)
  rw [I.beh1 p h] at b1
  rw [I.beh2 p h] at b2
  simp only [List.nil_append,List.cons_append] at t1 t2 t3 b1 b2
  unfold zad
  rw [show (1000:Nat)=997+1+1+1 from rfl,z9n]
  simp only [zjx,zdd,z8z,zjw]
  rw [t1,z82,decide_eq_true (show a<b by omega),if_pos rfl,b1,zgn,z9n]
  simp only [zjx,zdd,z8z,zjw]
  rw [t2,z82,decide_eq_true (show c<b by omega),if_pos rfl,b2,zgn,z9n]
  simp only [zjx,zdd,z8z,zjw]
  rw [t3,z82,decide_eq_false (show ¬b<b by omega),if_neg Bool.false_ne_true]
 rw [show D.lst [D.int a]=L [a] from rfl,w]
 walk_at "dz"
 rfl
theorem zpp {n:Int} {ls ls':List P2} {T:List P3} (I:CInv n ls T) (p:ls'.Perm ls) (hl:ls.length<=60) :
  z78 [.int n,.tup (ls'.map T2)]=.ok (.lst ((so3 T).map T3)):=by
 have hl':ls'.length<=60:=by rw [p.length_eq];exact hl
 unfold z78 zi1
 walk_at "dz"
 rw [show zjl (D.lst [D.tup [D.int 0,D.int (n - 1)]]) (D.lst (ls'.map T2))=some (.lst (((0,n - 1)::ls').map T2)) by
  simp only [zjl];rw [if_pos (by simp;omega)];rfl]
 obtain ⟨tops,ht⟩:∃tops:List P2,tops=(0,n - 1)::ls':=⟨_,rfl⟩
 have hlt:tops.length<=61:=by rw [ht,List.length_cons];omega
 rw [<-ht]
 have kp:keeps true (D.lst (tops.map T2))=true:=by rw [z90];exact z6b _ _ fun x _=>zdg x
 simp only [R.of_some,z82,kp]
 walk_at "dz"
 rw [if_pos (by rw [List.length_map];omega),z4y (en:=T2) (bs:=fun q=>[T2 q]) (g:=fun q=>T3 (thr T q)) tops (fun x _=>rfl) (fun q hq=>by
  obtain ⟨m1,m2⟩:=I.top_in p (by rw [<-ht];exact hq)
  unfold zb0
  walk_at "dz"
  generalize thr T q=u at m1 m2
  obtain ⟨a,c,b⟩:=u
  rw [<-m2]
  exact zpo I p (by omega) a c b m1)]
 walk_at "dz"
 have e1:tops.map (fun q=>T3 (thr T q))=(tops.map (thr T)).map T3:=by rw [List.map_map];rfl
 have pm:(tops.map (thr T)).Perm T:=by rw [ht];exact I.tops p
 rw [e1,sorted_T3 _ (by rw [List.length_map];omega),zdi pm]
 walk_at "dz"
theorem zcl {n:Int} {ls ls':List P2} {T:List P3} (I:CInv n ls T) (p:ls'.Perm ls) (hl:ls.length<=60) :
  z21 [.tup [.int n,.tup (ls'.map T2)]]=.ok (.lst ((so3 T).map T3)):=by
 unfold z21 z79
 walk_at "dz"
 rw [zpp I p hl]
 walk_at "dz"
theorem zi8 (i:Int):z1s [.int i]=.ok (.bl true):=by
 unfold z1s z86
 walk_at "dz"
theorem zdx (ns:List Int) (k:Int) (hk:0<=k):z0w [.scr ns,.int k]=.ok (.int (ns.getD k.toNat 0)):=by
 unfold z0w z76
 walk_at "dz"
 by_cases h:k<ns.length
 . rw [if_pos (by simpa using h),zog hk h]
   rfl
 . rw [if_neg (by simpa using h)]
   rw [List.getD_eq_getElem?_getD,List.getElem?_eq_none (by omega)]
   rfl
theorem zv0 (ns:List Int):∃m:Nat,2<=m/\m<=57/\z20 [.scr ns]=.ok (.int (m:Int)):=by
 unfold z20 z77
 walk_at "dz"
 rw [zdx _ _ (by omega)]
 walk_at "dz"
 generalize ns.getD (Int.toNat 0) 0=x
 rw [z50 (by omega)]
 walk_at "dz"
 rw [zop (by omega)]
 walk_at "dz"
 rw [z50 (by omega),z50 (by omega)]
 walk_at "dz"
 have a0:0<=x / 4 % 56:=Int.emod_nonneg _ (by decide)
 have a1:x / 4 % 56<56:=Int.emod_lt_of_pos _ (by decide)
 have b0:0<=x / 4 % 8:=Int.emod_nonneg _ (by decide)
 have b1:x / 4 % 8<8:=Int.emod_lt_of_pos _ (by decide)
 by_cases h1:x % 4=3
 . rw [decide_eq_true h1]
   exact ⟨2+(x / 4 % 56).toNat,by omega,by omega,by walk_at "dz";rw [show ((2+(x / 4 % 56).toNat:Nat):Int)=2+x / 4 % 56 by omega]⟩
 . rw [decide_eq_false h1]
   by_cases h2:x % 4=2
   . rw [decide_eq_true h2]
     exact ⟨2+(x / 4 % 8).toNat,by omega,by omega,by walk_at "dz";rw [z50 (by omega)];walk_at "dz";rw [show ((2+(x / 4 % 8).toNat:Nat):Int)=2+x / 4 % 8 by omega]⟩
   . rw [decide_eq_false h2]
     walk_at "dz"
     generalize hy:(if (ns.length:Int) - 4 > 2 then (ns.length:Int) - 4 else 2)=y
     generalize hz:(if y<57 then y else 57)=z
     have z0:2<=z/\z<=57:=by subst hz;subst hy;split<;>split<;>omega
     exact ⟨z.toNat,by omega,by omega,by rw [show ((z.toNat:Nat):Int)=z by omega]⟩
theorem zkp (cells:List Int) (m:Int) (cs:List Int) (x i:Int) (hx:0<=x/\x<2147483647) (hi:0<=i/\i<1000) (hc:cs.length<1000) :
  ∃y:Int,(0<=y/\y<2147483647)/\z16 [.im (L cells),.im (.int m),.ow (L cs),.im (.int x),.im (.int i)]=.nx [.im (L cells),.im (.int m),.ow (L (cs++[y])),.im (.int y),.im (.int i)]:=by
 unfold z16
 walk_at "dz"
 rw [ztq (by omega),ztq (by omega)]
 walk_at "dz"
 rw [z50 (by omega)]
 walk_at "dz"
 by_cases h:i<cells.length
 . rw [decide_eq_true h]
   walk_at "dz"
   rw [y0p hi.1 (by omega)]
   walk_at "dz"
   rw [z50 (by omega)]
   walk_at "dz"
   rw [zom (by omega)]
   walk_at "dz"
   exact ⟨_,⟨Int.emod_nonneg _ (by decide),Int.emod_lt_of_pos _ (by decide)⟩,rfl⟩
 . rw [decide_eq_false h]
   walk_at "dz"
   rw [zom (by omega)]
   walk_at "dz"
   exact ⟨_,⟨Int.emod_nonneg _ (by decide),Int.emod_lt_of_pos _ (by decide)⟩,rfl⟩
theorem zkq (cells:List Int) (m:Nat) (hm:m<=57):∃st:List Int,st.length=m/\z17 [L cells,.int (m:Int)]=.ok (L st):=by
 unfold z17 z54
 walk_at "dz"
 rw [zor (m:Int) (by omega) (by walk_at "dz")]
 walk_at "dz"
 simp only [zD]
 obtain ⟨ρ',e,cs,x,s4,⟨hl,hx⟩,hr⟩:=zde (tg:=.n 4) (g:=z16) m (fun (i:Nat)=>D.int (0+(i:Int)))
  (fun k ρ=>∃(cs:List Int) (x:Int) (s4:Sl),(cs.length=k/\0<=x/\x<2147483647)/\ρ=[.im (L cells),.im (.int (m:Int)),.ow (L cs),.im (.int x),s4])
  [.im (L cells),.im (.int (m:Int)),.ow (L []),.im (.int 7),.em] ⟨[],7,.em,⟨rfl,by omega,by omega⟩,rfl⟩ (by
   rintro i hi ρ ⟨cs,x,s4,⟨hl,hx⟩,rfl⟩
   obtain ⟨y,hy,e⟩:=zkp cells (m:Int) cs x (0+(i:Int)) hx (by omega) (by omega)
   exact ⟨_,_,rfl,Or.inl e,⟨_,_,_,⟨by simp [hl],hy⟩,rfl⟩⟩)
 rw [show (D.lst []:D)=L [] from rfl,Int.toNat_natCast,e,hr]
 walk_at "dz"
 exact ⟨cs,hl,rfl⟩
theorem zv1 (c x:Int):x+(if decide (c<x)=true then 1 else 0)=sh c x:=by
 unfold sh;by_cases h:c<x
 . rw [decide_eq_true h,if_pos rfl,if_pos h]
 . rw [decide_eq_false h,if_neg Bool.false_ne_true,if_neg h];omega
theorem zpq (st:List Int) (n:Int) (ls:List P2) (T:List P3) (num:Int) (s5:Sl) (hn:3<=n) (hl:ls.length<1000) (ht:T.length<1000) :
  ∃c:Int,(0<=c/\c<n)/\z1f [.im (L st),.im (.int n),.ow (.lst (ls.map T2)),.ow (.lst (T.map T3)),.im (.int num),s5] =
   .nx [.im (L st),.im (.int (n+1)),.ow (.lst ((ls.map (sh2 c)++[z1p n c]).map T2)),.ow (.lst ((T.map (sh3 c)++[z98 n c]).map T3)),.im (.int num),.im (.int c)]:=by
 refine ⟨num % n,⟨Int.emod_nonneg _ (by omega),Int.emod_lt_of_pos _ (by omega)⟩,?_⟩
 unfold z1f
 walk_at "dz"
 rw [z50 (by omega)]
 walk_at "dz"
 generalize num % n=c
 rw [if_pos (by rw [List.length_map];omega),z4y (en:=T2) (bs:=fun q=>[D.int q.1,D.int q.2]) (g:=fun q=>T2 (sh2 c q)) ls (fun x _=>rfl) (fun q _=>by
  unfold z42
  walk_at "dz"
  rw [zv1,zv1];rfl)]
 simp only [R.bind_ok]
 rw [show ls.map (fun q=>T2 (sh2 c q))=(ls.map (sh2 c)).map T2 by rw [List.map_map];rfl]
 generalize hls:ls.map (sh2 c)=ls'
 have hl':ls'.length<1000:=by rw [<-hls,List.length_map];exact hl
 walk_at "dz"
 rw [if_pos (by rw [List.length_map];omega),z4y (en:=T3) (bs:=fun q=>[D.int q.1,D.int q.2.1,D.int q.2.2]) (g:=fun q=>T3 (sh3 c q)) T (fun x _=>rfl) (fun q _=>by
  unfold z43
  walk_at "dz"
  rw [zv1,zv1,zv1];rfl)]
 simp only [R.bind_ok]
 rw [show T.map (fun q=>T3 (sh3 c q))=(T.map (sh3 c)).map T3 by rw [List.map_map];rfl]
 generalize hT:T.map (sh3 c)=T'
 have ht':T'.length<1000:=by rw [<-hT,List.length_map];exact ht
 walk_at "dz"
 by_cases q:c=n - 1
 . rw [decide_eq_true q]
   walk_at "dz"
   rw [zlz (by omega)]
   walk_at "dz"
   rw [zm0 (by omega)]
   walk_at "dz"
   unfold z1p z98
   rw [if_pos q,if_pos q]
 . rw [decide_eq_false q]
   walk_at "dz"
   rw [zlz (by omega)]
   walk_at "dz"
   rw [zm0 (by omega)]
   walk_at "dz"
   unfold z1p z98
   rw [if_neg q,if_neg q]
theorem zpr (st:List Int) (hs:st.length<=57):∃(n:Int) (ls:List P2) (T:List P3),CInv n ls T/\Cnt n ls T/\n=st.length+3/\ls.length=st.length /\
  z1j [L st]=.ok (.tup [.int n,.lst ((so2 ls).map T2),.lst ((so3 T).map T3)]):=by
 unfold z1j z5u
 walk_at "dz"
 obtain ⟨ρ',e,n,ls,T,s4,s5,I,C,hn,hl,hr⟩:=z4z (tg:=.n 4) (g:=z1f) (en:=D.int)
  (fun r ρ=>∃(n:Int) (ls:List P2) (T:List P3) (s4 s5:Sl),CInv n ls T/\Cnt n ls T/\n+r.length=st.length+3/\(ls.length:Int)=n - 3/\ρ=[.im (L st),.im (.int n),.ow (.lst (ls.map T2)),.ow (.lst (T.map T3)),s4,s5])
  st [.im (L st),.im (.int 3),.ow (.lst []),.ow (.lst [D.tup [D.int 0,D.int 1,D.int 2]]),.em,.em] ⟨3,[],[(0,1,2)],.em,.em,y0w,y0x,by omega,rfl,rfl⟩ (by
   rintro x r ρ ⟨n,ls,T,s4,s5,I,C,hn,hl,rfl⟩
   have h3:=I.n3
   have hT:=I.len
   simp only [List.length_cons] at hn
   obtain ⟨c,hc,e⟩:=zpq st n ls T x s5 h3 (by omega) (by omega)
   refine ⟨_,_,rfl,Or.inl e,⟨_,_,_,_,_,I.grow c hc.1 hc.2,C.grow I c hc.1 hc.2,by omega,?_,rfl⟩⟩
   rw [List.length_append,List.length_map,List.length_singleton];omega)
 rw [e,hr]
 have hT:=I.len
 simp only [List.length_nil] at hn
 walk_at "dz"
 rw [sorted_T2 _ (by omega),sorted_T3 _ (by omega)]
 walk_at "dz"
 exact ⟨n,ls,T,I,C,by omega,by omega,rfl⟩
def zi9 (n a b:Int):Bool:=!(decide (a<0)||decide (n<=b))&&(decide (b=a+1)||(decide (a=0)&&decide (b=n - 1)))
theorem zv2 (n:Int) (p:P2):z3c [.int n,T2 p]=.ok (.bl (zi9 n p.1 p.2)):=by
 unfold z3c zaz zi9
 walk_at "dz"
 generalize (decide (p.1<0)||decide (n<=p.2))=c
 cases c<;>rfl
theorem zv3 (p:P2):z3x [T2 p]=.ok (.bl true):=by
 unfold z3x zdt
 walk_at "dz"
 rw [zi8]
 walk_at "dz"
 rw [zi8]
 walk_at "dz"
theorem zym (n:Int) (ls:List P2) (p:P2):z2p [.tup [.int n,.tup (ls.map T2)],T2 p]=.ok (.bl (zi9 n p.1 p.2||decide (p∈ls))):=by
 unfold z2p z88
 walk_at "dz"
 rw [zv3]
 walk_at "dz"
 rw [zv2]
 walk_at "dz"
 rw [zgs]
 walk_at "dz"
theorem zkr (n:Int) (ls:List P2) (p:P2) (h:(zi9 n p.1 p.2||decide (p∈ls))=true):z1m [.tup [.int n,.tup (ls.map T2)],T2 p]=.ok .non:=by
 unfold z1m z5y
 walk_at "dz"
 rw [zym,h]
 walk_at "dz"
theorem zcm (T:List P3):(so3 T).length=T.length:=(z1r T).length_eq
theorem zia {n:Int} {ls ls':List P2} {T:List P3} (I:CInv n ls T) (pm:ls'.Perm ls) (hl:ls.length<=60) (p:P2) (h:(zi9 n p.1 p.2||decide (p∈ls'))=true) :
  z3y [.tup [.int n,.tup (ls'.map T2)],T2 p]=.ok (L (zm9 T p)):=by
 have hT:(so3 T).length<=61:=by rw [zcm,I.len];omega
 unfold z3y zdu
 walk_at "dz"
 rw [zkr n ls' p h]
 walk_at "dz"
 rw [zcl I pm hl]
 walk_at "dz"
 rw [if_pos (by rw [List.length_map];omega),z2k (en:=T3) (bs:=fun t=>[T3 t]) (p:=bth p.1 p.2) (g:=fun t=>T3 t) (so3 T) (fun x _=>rfl) (fun t _=>by
  unfold z89
  walk_at "dz"
  rw [zek]
  walk_at "dz"
  rw [zek]
  walk_at "dz"
  rfl) (fun t _ _=>by
  unfold z8a
  walk_at "dz")]
 simp only [R.bind_ok]
 obtain ⟨F,hF⟩:∃F,F=(so3 T).filter (bth p.1 p.2):=⟨_,rfl⟩
 have hFl:F.length<=61:=by rw [hF];exact Nat.le_trans (List.length_filter_le _ _) hT
 rw [<-hF]
 walk_at "dz"
 rw [if_pos (by rw [List.length_map];omega),z4y (en:=T3) (bs:=fun t=>[T3 t]) (g:=fun t=>D.int (t.1+(t.2.1+(t.2.2+0)) - (p.1+(p.2+0)))) F (fun x _=>rfl) (fun t _=>by
  unfold z8b
  walk_at "dz")]
 simp only [R.bind_ok]
 rw [show D.lst (F.map fun t=>D.int (t.1+(t.2.1+(t.2.2+0)) - (p.1+(p.2+0))))=L (F.map fun t=>t.1+(t.2.1+(t.2.2+0)) - (p.1+(p.2+0))) by unfold L;rw [List.map_map];rfl]
 walk_at "dz"
 rw [sorted_I _ (by rw [List.length_map];omega)]
 walk_at "dz"
 rw [hF];rfl
theorem zps (p:P2) (ls:List P2):dIn true (T2 p) (.tup (ls.map T2))=some (.bl (!decide (p∈ls))):=by
 have h:=zgs p ls
 have h1:=z1o ls T2 1 z38
 unfold dIn dOr zjm at h ⊢
 simp only [z4f,z5t ls T2 z4f,true_and,if_pos (show z2s (ls.map T2)<=20 by omega),Bool.false_eq_true,if_false,if_true,Option.some.injEq,D.bl.injEq] at h ⊢
 rw [h]
theorem zmc (p:P2) (ls:List P2):dIn false (T2 p) (.lst (ls.map T2))=some (.bl (decide (p∈ls))):=by
 have h:=zgs p ls
 have h1:=z1o ls T2 1 z38
 unfold dIn dOr zjm at h ⊢
 simp only [z4f,z5t ls T2 z4f,true_and,if_pos (show z2s (ls.map T2)<=20 by omega),Bool.false_eq_true,if_false,Option.some.injEq,D.bl.injEq] at h ⊢
 rw [h]
theorem zyn (p q:P2):dNe (T2 p) (T2 q)=some (.bl (!decide (p=q))):=by
 unfold dNe
 rw [if_pos ⟨z4f p,z4f q,by have:=z38 p;omega⟩,zao]
theorem zpt (n:Int) (ls:List P2) (p:P2) (h:p∈ls):z1l [.tup [.int n,.tup (ls.map T2)],T2 p]=.ok .non:=by
 unfold z1l z5x
 walk_at "dz"
 rw [zv3]
 walk_at "dz"
 rw [zps,decide_eq_true h]
 walk_at "dz"
theorem zpu (ls' ls0:List P2) (l:P2) (p:ls'.Perm (l::ls0)) (h:l∉ls0):(ls'.filter fun o=>!decide (o=l)).Perm ls0:=by
 refine (p.filter _).trans ?_
 rw [List.filter_cons_of_neg (by simp)]
 rw [List.filter_eq_self.mpr fun o ho=>by simp;exact fun e=>h (by rw [<-e];exact ho)]
section
variable {n:Int} {ls ls' ls0:List P2} {T:List P3} {l w:P2}
theorem zv4 (K:Cut n ls T) (pm:ls'.Perm ls) (hl:ls.length<=60) (h:l∈ls):z3y [.tup [.int n,.tup (ls'.map T2)],T2 l]=.ok (L (zm9 T l)):=
 zia K.inv pm hl l (by rw [decide_eq_true (pm.mem_iff.mpr h),Bool.or_true])
theorem z3z (K:Cut n ls T) (pm:ls'.Perm ls) (hl:ls.length<=60) (h:l∈ls) (p0:ls.Perm (l::ls0)) (hw:zm9 T l=[w.1,w.2]) :
  z07 [.tup [.int n,.tup (ls'.map T2)],T2 l]=.ok (.tup [.tup [.int n,.tup ((so2 (ls0++[w])).map T2)],T2 w]):=by
 have nd0:l∉ls0:=by have:=p0.nodup_iff.mp K.inv.nd;rw [List.nodup_cons] at this;exact this.1
 have hl':ls'.length<=60:=by rw [pm.length_eq];exact hl
 unfold z07 zdv
 walk_at "dz"
 rw [zpt n ls' l (pm.mem_iff.mpr h)]
 walk_at "dz"
 rw [zv4 K pm hl h,hw]
 walk_at "dz"
 rw [show z4v [L [w.1,w.2]]=some (T2 w) from rfl]
 simp only [R.of_some,z82]
 rw [show keeps false (T2 w)=true from zdg w]
 walk_at "dz"
 rw [if_pos (by rw [List.length_map];omega),z2k (en:=T2) (bs:=fun o=>[T2 o]) (p:=fun o=>!decide (o=l)) (g:=fun o=>T2 o) ls' (fun x _=>rfl) (fun o _=>by
  unfold z8c
  walk_at "dz"
  rw [zyn]
  walk_at "dz") (fun o _ _=>by
  unfold z8d
  walk_at "dz")]
 simp only [R.bind_ok]
 have kn:=zpu ls' ls0 l (pm.trans p0) nd0
 obtain ⟨kp,hkp⟩:∃kp,kp=ls'.filter fun o=>!decide (o=l):=⟨_,rfl⟩
 rw [<-hkp] at kn ⊢
 have hkl:kp.length<=60:=by rw [hkp];exact Nat.le_trans (List.length_filter_le _ _) hl'
 walk_at "dz"
 rw [show D.lst [T2 w]=D.lst ([w].map T2) from rfl,zu0 _ _ (by simp;omega)]
 obtain ⟨xs,hxs⟩:∃xs,xs=kp++[w]:=⟨_,rfl⟩
 have hx:xs.length<=61:=by rw [hxs];simp;omega
 rw [<-hxs]
 walk_at "dz"
 rw [sorted_T2 _ (by omega),z6c (show xs.Perm (ls0++[w]) by rw [hxs];exact kn.append_right _)]
 walk_at "dz"
end
def Cv (n:Int) (ls:List P2):D:=.tup [.int n,.tup ((so2 ls).map T2)]
theorem z7g (n:Int) {a b:List P2} (p:a.Perm b):Cv n a=Cv n b:=by unfold Cv;rw [z6c p]
section
variable {n:Int} {ls ls0:List P2} {T T0:List P3} {t1 t2:P3} {l:P2} {p m q r:Int}
theorem zvx (K:Cut n ls T) (h:l∈ls) (pT:T.Perm (t1::t2::T0)) (b1:bth l.1 l.2 t1=true) (b2:bth l.1 l.2 t2=true):(T.filter (bth l.1 l.2)).Perm [t1,t2]/\∀t∈T0,bth l.1 l.2 t=false:=by
 have two:=K.two h
 have e:=pT.filter (bth l.1 l.2)
 rw [List.filter_cons_of_pos b1,List.filter_cons_of_pos b2] at e
 have l0:(T0.filter (bth l.1 l.2)).length=0:=by
  have:=e.length_eq
  rw [two] at this
  simp only [List.length_cons] at this
  omega
 have z:=List.length_eq_zero_iff.mp l0
 rw [z] at e
 refine ⟨e,fun t ht=>?_⟩
 cases hb:bth l.1 l.2 t with
 | false=>rfl
 | true=>
  have:t∈T0.filter (bth l.1 l.2):=List.mem_filter.mpr ⟨ht,hb⟩
  rw [z] at this;cases this
theorem zb8 (K:Cut n ls T) (hl:ls.length<=60) (pl:ls.Perm ((p,q)::ls0)) (pT:T.Perm ((p,m,q)::(p,q,r)::T0)):z07 [Cv n ls,T2 (p,q)]=.ok (.tup [Cv n (ls0++[(m,r)]),T2 (m,r)])/\Cut n (ls0++[(m,r)]) ((p,m,r)::(m,q,r)::T0):=by
 have h:(p,q)∈ls:=pl.mem_iff.mpr (by simp)
 have g1:=K.inv.tri p m q (pT.mem_iff.mpr (by simp))
 have g2:=K.inv.tri p q r (pT.mem_iff.mpr (by simp))
 refine ⟨z3z K (z0b ls) hl h pl ?_,K.turnA pT pl⟩
 rw [z3b (zvx K h pT (bth_iff.mpr (by simp)) (bth_iff.mpr (by simp))).1]
 simp only [List.map_cons,List.map_nil]
 rw [show p+(m+(q+0)) - (p+(q+0))=m by omega,show p+(q+(r+0)) - (p+(q+0))=r by omega]
 exact zeo (by omega)
theorem zb9 (K:Cut n ls T) (hl:ls.length<=60) (pl:ls.Perm ((p,q)::ls0)) (pT:T.Perm ((p,m,q)::(r,p,q)::T0)):z07 [Cv n ls,T2 (p,q)]=.ok (.tup [Cv n (ls0++[(r,m)]),T2 (r,m)])/\Cut n (ls0++[(r,m)]) ((r,p,m)::(r,m,q)::T0):=by
 have h:(p,q)∈ls:=pl.mem_iff.mpr (by simp)
 have g1:=K.inv.tri p m q (pT.mem_iff.mpr (by simp))
 have g2:=K.inv.tri r p q (pT.mem_iff.mpr (by simp))
 refine ⟨z3z K (z0b ls) hl h pl ?_,K.turnB pT pl⟩
 rw [z3b (zvx K h pT (bth_iff.mpr (by simp)) (bth_iff.mpr (by simp))).1]
 simp only [List.map_cons,List.map_nil]
 rw [show p+(m+(q+0)) - (p+(q+0))=m by omega,show r+(p+(q+0)) - (p+(q+0))=r by omega,z6f (List.Perm.swap r m [])]
 exact zeo (by omega)
end
structure Q5 where
 a:Int
 b:Int
 c:Int
 d:Int
 e:Int
def Q5.fv (q:Q5):Nat->P2
 | 0=>(q.a,q.c)
 | 1=>(q.a,q.d)
 | 2=>(q.b,q.d)
 | 3=>(q.b,q.e)
 | _=>(q.c,q.e)
def Q5.ft (q:Q5):Nat->List P3
 | 0=>[(q.a,q.b,q.c),(q.a,q.c,q.d),(q.a,q.d,q.e)]
 | 1=>[(q.a,q.d,q.e),(q.a,q.b,q.d),(q.b,q.c,q.d)]
 | 2=>[(q.b,q.c,q.d),(q.b,q.d,q.e),(q.a,q.b,q.e)]
 | 3=>[(q.a,q.b,q.e),(q.b,q.c,q.e),(q.c,q.d,q.e)]
 | _=>[(q.c,q.d,q.e),(q.a,q.c,q.e),(q.a,q.b,q.c)]
def Q5.S (q:Q5) (L0:List P2) (i:Nat):List P2:=q.fv i::q.fv ((i+1) % 5)::L0
def Q5.St (q:Q5) (n:Int) (L0:List P2) (T0:List P3) (i:Nat):Prop:=∃ls T,Cut n ls T/\ls.Perm (q.S L0 i)/\T.Perm (q.ft i++T0)/\ls.length<=60
section
variable {α:Type} (x y z:α) (r:List α)
theorem zvy:(x::y::z::r).Perm (y::x::z::r):=.swap _ _ _
theorem zyo:(x::y::z::r).Perm (y::z::x::r):=(List.Perm.swap y x (z::r)).trans ((List.Perm.swap z x r).cons y)
theorem zvz:(x::y::z::r).Perm (z::x::y::r):=((List.Perm.swap z y r).cons x).trans (.swap _ _ _)
theorem zv5:(x::y::z::r).Perm (z::y::x::r):=(zvz x y z r).trans ((List.Perm.swap y x r).cons z)
theorem p1e (w:α):(x::r++[w]).Perm (x::w::r):=(List.perm_append_singleton w r).cons x
theorem pe1 (w:α):(x::r++[w]).Perm (w::x::r):=List.perm_append_singleton w (x::r)
end
section
variable {q:Q5} {n:Int} {L0:List P2} {T0:List P3}
theorem St.up {i:Nat} (h:q.St n L0 T0 i) (hi:i<5):z07 [Cv n (q.S L0 i),T2 (q.fv i)]=.ok (.tup [Cv n (q.S L0 ((i+1) % 5)),T2 (q.fv ((i+2) % 5))])/\q.St n L0 T0 ((i+1) % 5):=by
 obtain ⟨ls,T,K,pl,pT,hl⟩:=h
 have hl2:=pl.length_eq
 have fin:∀{w:P2} {y:P2} {u1 u2 u3:P3} {j:Nat},q.S L0 j=y::w::L0->(z07 [Cv n ls,T2 (q.fv i)]=.ok (.tup [Cv n (y::L0++[w]),T2 w])/\Cut n (y::L0++[w]) (u1::u2::u3::T0))->(u1::u2::u3::T0).Perm (q.ft j++T0) ->
   z07 [Cv n (q.S L0 i),T2 (q.fv i)]=.ok (.tup [Cv n (q.S L0 j),T2 w])/\q.St n L0 T0 j:=fun {w y u1 u2 u3 j} e hm hp=>by
  rw [z7g n pl.symm,hm.1,e,z7g n (p1e y L0 w)]
  refine ⟨rfl,_,_,hm.2,by rw [e];exact p1e y L0 w,hp,?_⟩
  rw [List.length_append,List.length_cons,List.length_singleton]
  unfold Q5.S at hl2
  simp only [List.length_cons] at hl2
  omega
 rcases (by omega:i=0\/i=1\/i=2\/i=3\/i=4) with rfl | rfl | rfl | rfl | rfl
 . exact fin (j:=1) rfl (zb8 K hl pl pT) (zvz _ _ _ _)
 . exact fin (j:=2) rfl (zb8 K hl pl (pT.trans (zvy _ _ _ _))) (zv5 _ _ _ _)
 . exact fin (j:=3) rfl (zb8 K hl pl pT) (zvz _ _ _ _)
 . exact fin (j:=4) rfl (zb9 K hl pl (pT.trans (zvy _ _ _ _))) (zv5 _ _ _ _)
 . exact fin (j:=0) rfl (zb9 K hl pl pT) (zvz _ _ _ _)
theorem St.dn {i:Nat} (h:q.St n L0 T0 i) (hi:i<5):z07 [Cv n (q.S L0 i),T2 (q.fv ((i+1) % 5))]=.ok (.tup [Cv n (q.S L0 ((i+4) % 5)),T2 (q.fv ((i+4) % 5))])/\q.St n L0 T0 ((i+4) % 5):=by
 obtain ⟨ls,T,K,pl,pT,hl⟩:=h
 have hl2:=pl.length_eq
 have pl:ls.Perm (q.fv ((i+1) % 5)::q.fv i::L0):=pl.trans (.swap _ _ _)
 have fin:∀{w:P2} {y:P2} {u1 u2 u3:P3} {j:Nat},q.S L0 j=w::y::L0->(z07 [Cv n ls,T2 (q.fv ((i+1) % 5))]=.ok (.tup [Cv n (y::L0++[w]),T2 w])/\Cut n (y::L0++[w]) (u1::u2::u3::T0))->(u1::u2::u3::T0).Perm (q.ft j++T0) ->
   z07 [Cv n (q.S L0 i),T2 (q.fv ((i+1) % 5))]=.ok (.tup [Cv n (q.S L0 j),T2 w])/\q.St n L0 T0 j:=fun {w y u1 u2 u3 j} e hm hp=>by
  have pl':(q.S L0 i).Perm ls:=(List.Perm.swap _ _ _).trans pl.symm
  rw [z7g n pl',hm.1,e,z7g n (pe1 y L0 w)]
  refine ⟨rfl,_,_,hm.2,by rw [e];exact pe1 y L0 w,hp,?_⟩
  rw [List.length_append,List.length_cons,List.length_singleton]
  unfold Q5.S at hl2
  simp only [List.length_cons] at hl2
  omega
 rcases (by omega:i=0\/i=1\/i=2\/i=3\/i=4) with rfl | rfl | rfl | rfl | rfl
 . exact fin (j:=4) rfl (zb8 K hl pl (pT.trans (zyo _ _ _ _))) (zvy _ _ _ _)
 . exact fin (j:=0) rfl (zb9 K hl pl (pT.trans (zv5 _ _ _ _))) (.refl _)
 . exact fin (j:=1) rfl (zb9 K hl pl (pT.trans (zyo _ _ _ _))) (zvy _ _ _ _)
 . exact fin (j:=2) rfl (zb9 K hl pl (pT.trans (zv5 _ _ _ _))) (.refl _)
 . exact fin (j:=3) rfl (zb8 K hl pl (pT.trans (zv5 _ _ _ _))) (.refl _)
end
theorem zks {α:Type} [DecidableEq α] {l:List α} {x y:α} (hx:x∈l) (hy:y∈l) (hne:x≠y):∃r,l.Perm (x::y::r):=by
 have hy':y∈l.erase x:=(List.mem_erase_of_ne (Ne.symm hne)).mpr hy
 exact ⟨(l.erase x).erase y,(List.perm_cons_erase hx).trans ((List.perm_cons_erase hy').cons x)⟩
theorem zpv {α:Type} [DecidableEq α] {l:List α} {x y z:α} (hx:x∈l) (hy:y∈l) (hz:z∈l) (h1:x≠y) (h2:x≠z) (h3:y≠z):∃r,l.Perm (x::y::z::r):=by
 obtain ⟨r,p⟩:=zks hx hy h1
 have hz':z∈r:=by
  rcases List.mem_cons.mp (p.mem_iff.mp hz) with e | e
  . exact absurd e.symm h2
  . rcases List.mem_cons.mp e with e | e
    . exact absurd e.symm h3
    . exact e
 exact ⟨r.erase z,p.trans (((List.perm_cons_erase hz').cons y).cons x)⟩
theorem z8h {n:Int} {ls:List P2} {T:List P3} (K:Cut n ls T) {p q:Int} (h:(p,q)∈ls):∃m,(p,m,q)∈T:=by
 obtain ⟨t1,t2⟩:=K.inv.top_in (ls':=ls) (.refl _) (q:=(p,q)) (List.mem_cons_of_mem _ h)
 generalize thr T (p,q)=t at t1 t2
 obtain ⟨a,m,b⟩:=t
 simp only [outer,Prod.mk.injEq] at t2
 obtain ⟨rfl,rfl⟩:=t2
 exact ⟨m,t1⟩
theorem zib {n:Int} {ls:List P2} {T:List P3} (K:Cut n ls T) {p q:Int} (h:(p,q)∈ls):∃r,(p,q,r)∈T\/(r,p,q)∈T:=by
 obtain ⟨w,ls0,T0,t1,t2,R⟩:=K.turnX h
 rcases R.q4 with ⟨p',m,q',r,e,_,_,z⟩ | ⟨p',m,q',r,e,_,_,z⟩
 . cases e;exact ⟨r,.inl z⟩
 . cases e;exact ⟨r,.inr z⟩
def Q5.ok (q:Q5):Prop:=q.a<q.b/\q.b<q.c/\q.c<q.d/\q.d<q.e
def edg (t:P3):List P2:=[(t.1,t.2.1),(t.2.1,t.2.2),(t.1,t.2.2)]
def zqc (n:Int) (ls:List P2) (T:List P3) (u v:P2):Prop:=∃(q:Q5) (i:Nat) (L0:List P2) (T0:List P3),q.ok/\i<5/\q.St n L0 T0 i/\ls.Perm (q.S L0 i)/\T.Perm (q.ft i++T0)/\((u=q.fv i/\v=q.fv ((i+1) % 5))\/(v=q.fv i/\u=q.fv ((i+1) % 5)))
section
variable {n:Int} {ls:List P2} {T:List P3}
theorem St.of (K:Cut n ls T) (hl:ls.length<=60) (q:Q5) (ok:q.ok) (i:Nat) (h1:q.fv i∈ls) (h2:q.fv ((i+1) % 5)∈ls) (hne:q.fv i≠q.fv ((i+1) % 5)) {x y z:P3} (e:q.ft i=[x,y,z]) (hx:x∈T) (hy:y∈T) (hz:z∈T) (n1:x≠y) (n2:x≠z) (n3:y≠z) :
  ∃L0 T0,q.St n L0 T0 i/\ls.Perm (q.S L0 i)/\T.Perm (q.ft i++T0):=by
 obtain ⟨L0,pl⟩:=zks h1 h2 hne
 obtain ⟨T0,pT⟩:=zpv hx hy hz n1 n2 n3
 exact ⟨L0,T0,⟨ls,T,K,pl,by rw [e];exact pT,hl⟩,pl,by rw [e];exact pT⟩
theorem zpw (K:Cut n ls T) (hl:ls.length<=60) {t:P3} (ht:t∈T) {u v:P2} (hu:u∈ls) (hv:v∈ls) (eu:u∈edg t) (ev:v∈edg t) (hne:u≠v) :
  zqc n ls T u v:=by
 obtain ⟨x,y,z⟩:=t
 have g:=K.inv.tri x y z ht
 have key:∀(q:Q5) (i:Nat) (s1 s2 s3:P3),q.ok->i<5->q.ft i=[s1,s2,s3]->s1∈T->s2∈T->s3∈T->s1≠s2->s1≠s3->s2≠s3->((u=q.fv i/\v=q.fv ((i+1) % 5))\/(v=q.fv i/\u=q.fv ((i+1) % 5))) ->
   zqc n ls T u v:=fun q i s1 s2 s3 ok hi e m1 m2 m3 n1 n2 n3 hs=>by
  have hh:q.fv i∈ls/\q.fv ((i+1) % 5)∈ls/\q.fv i≠q.fv ((i+1) % 5):=by
   rcases hs with ⟨e1,e2⟩ | ⟨e1,e2⟩
   . rw [<-e1,<-e2];exact ⟨hu,hv,hne⟩
   . rw [<-e1,<-e2];exact ⟨hv,hu,Ne.symm hne⟩
  obtain ⟨L0,T0,h1,h2,h3⟩:=St.of K hl q ok i hh.1 hh.2.1 hh.2.2 e m1 m2 m3 n1 n2 n3
  exact ⟨q,i,L0,T0,ok,hi,h1,h2,h3,hs⟩
 have c12:(x,y)∈ls->(y,z)∈ls->((u=(y,z)/\v=(x,y))\/(v=(y,z)/\u=(x,y)))->zqc n ls T u v:=fun h1 h2 hs=>by
  obtain ⟨m1,k1⟩:=z8h K h1
  obtain ⟨m2,k2⟩:=z8h K h2
  have g1:=K.inv.tri _ _ _ k1
  have g2:=K.inv.tri _ _ _ k2
  exact key ⟨x,m1,y,m2,z⟩ 4 (y,m2,z) (x,y,z) (x,m1,y) ⟨by simp only;omega,by simp only;omega,by simp only;omega,by simp only;omega⟩ (by decide) rfl k2 ht k1 (by simp only [ne_eq,Prod.mk.injEq];omega) (by simp only [ne_eq,Prod.mk.injEq];omega) (by simp only [ne_eq,Prod.mk.injEq];omega) hs
 have c23:(y,z)∈ls->(x,z)∈ls->((u=(y,z)/\v=(x,z))\/(v=(y,z)/\u=(x,z)))->zqc n ls T u v:=fun h1 h2 hs=>by
  obtain ⟨m1,k1⟩:=z8h K h1
  have g1:=K.inv.tri _ _ _ k1
  obtain ⟨r,k2 | k2⟩:=zib K h2
  . have g2:=K.inv.tri _ _ _ k2
    exact key ⟨x,y,m1,z,r⟩ 1 (x,z,r) (x,y,z) (y,m1,z) ⟨by simp only;omega,by simp only;omega,by simp only;omega,by simp only;omega⟩ (by decide) rfl k2 ht k1 (by simp only [ne_eq,Prod.mk.injEq];omega) (by simp only [ne_eq,Prod.mk.injEq];omega) (by simp only [ne_eq,Prod.mk.injEq];omega) (hs.symm.imp And.symm And.symm)
  . have g2:=K.inv.tri _ _ _ k2
    exact key ⟨r,x,y,m1,z⟩ 3 (r,x,z) (x,y,z) (y,m1,z) ⟨by simp only;omega,by simp only;omega,by simp only;omega,by simp only;omega⟩ (by decide) rfl k2 ht k1 (by simp only [ne_eq,Prod.mk.injEq];omega) (by simp only [ne_eq,Prod.mk.injEq];omega) (by simp only [ne_eq,Prod.mk.injEq];omega) (hs.symm.imp And.symm And.symm)
 have c13:(x,y)∈ls->(x,z)∈ls->((u=(x,y)/\v=(x,z))\/(v=(x,y)/\u=(x,z)))->zqc n ls T u v:=fun h1 h2 hs=>by
  obtain ⟨m1,k1⟩:=z8h K h1
  have g1:=K.inv.tri _ _ _ k1
  obtain ⟨r,k2 | k2⟩:=zib K h2
  . have g2:=K.inv.tri _ _ _ k2
    exact key ⟨x,m1,y,z,r⟩ 0 (x,m1,y) (x,y,z) (x,z,r) ⟨by simp only;omega,by simp only;omega,by simp only;omega,by simp only;omega⟩ (by decide) rfl k1 ht k2 (by simp only [ne_eq,Prod.mk.injEq];omega) (by simp only [ne_eq,Prod.mk.injEq];omega) (by simp only [ne_eq,Prod.mk.injEq];omega) hs
  . have g2:=K.inv.tri _ _ _ k2
    exact key ⟨r,x,m1,y,z⟩ 2 (x,m1,y) (x,y,z) (r,x,z) ⟨by simp only;omega,by simp only;omega,by simp only;omega,by simp only;omega⟩ (by decide) rfl k1 ht k2 (by simp only [ne_eq,Prod.mk.injEq];omega) (by simp only [ne_eq,Prod.mk.injEq];omega) (by simp only [ne_eq,Prod.mk.injEq];omega) hs
 simp only [edg,List.mem_cons,List.not_mem_nil,or_false] at eu ev
 rcases eu with rfl | rfl | rfl<;>rcases ev with rfl | rfl | rfl
 . exact absurd rfl hne
 . exact c12 hu hv (.inr ⟨rfl,rfl⟩)
 . exact c13 hu hv (.inl ⟨rfl,rfl⟩)
 . exact c12 hv hu (.inl ⟨rfl,rfl⟩)
 . exact absurd rfl hne
 . exact c23 hu hv (.inl ⟨rfl,rfl⟩)
 . exact c13 hv hu (.inr ⟨rfl,rfl⟩)
 . exact c23 hv hu (.inr ⟨rfl,rfl⟩)
 . exact absurd rfl hne
theorem zv6 (K:Cut n ls T) (h5:5<=n) {l:P2} (h:l∈ls):∃t∈T,∃u v,u∈ls/\v∈ls/\u≠v/\u∈edg t/\v∈edg t:=by
 obtain ⟨p,q⟩:=l
 obtain ⟨m,k1⟩:=z8h K h
 have g1:=K.inv.tri _ _ _ k1
 have hp:=K.inv.lin p q h
 by_cases c1:(p,m)∈ls
 . exact ⟨_,k1,(p,q),(p,m),h,c1,by simp only [ne_eq,Prod.mk.injEq];omega,by simp [edg],by simp [edg]⟩
 by_cases c2:(m,q)∈ls
 . exact ⟨_,k1,(p,q),(m,q),h,c2,by simp only [ne_eq,Prod.mk.injEq];omega,by simp [edg],by simp [edg]⟩
 have s1:=g1.2.2.2.2.1.resolve_left c1
 have s2:=g1.2.2.2.2.2.resolve_left c2
 obtain ⟨r,k2 | k2⟩:=zib K h
 . have g2:=K.inv.tri _ _ _ k2
   by_cases c3:(q,r)∈ls
   . exact ⟨_,k2,(p,q),(q,r),h,c3,by simp only [ne_eq,Prod.mk.injEq];omega,by simp [edg],by simp [edg]⟩
   have s3:=g2.2.2.2.2.2.resolve_left c3
   rcases K.inv.top_or k2 with c4 | c4
   . exact ⟨_,k2,(p,q),(p,r),h,c4,by simp only [ne_eq,Prod.mk.injEq];omega,by simp [edg],by simp [edg]⟩
   . omega
 . have g2:=K.inv.tri _ _ _ k2
   by_cases c3:(r,p)∈ls
   . exact ⟨_,k2,(p,q),(r,p),h,c3,by simp only [ne_eq,Prod.mk.injEq];omega,by simp [edg],by simp [edg]⟩
   have s3:=g2.2.2.2.2.1.resolve_left c3
   rcases K.inv.top_or k2 with c4 | c4
   . exact ⟨_,k2,(p,q),(r,q),h,c4,by simp only [ne_eq,Prod.mk.injEq];omega,by simp [edg],by simp [edg]⟩
   . omega
end
def cn3 (t:P3):List Int:=[t.1,t.2.1,t.2.2]
theorem zkt (ns:List Int):∀(acc:List Int) (x:Int),x∈ns.foldl z7n acc↔x∈acc\/x∈ns:=by
 induction ns with
 | nil=>intro acc x;simp
 | cons n ns ih=>
  intro acc x
  rw [List.foldl_cons,ih,List.mem_cons]
  unfold z7n
  by_cases h:n∈acc
  . rw [if_pos h]
    constructor
    . exact fun z=>z.imp id .inr
    . rintro (z | rfl | z)
      . exact .inl z
      . exact .inl h
      . exact .inr z
  . rw [if_neg h,List.mem_append,List.mem_singleton,or_assoc]
theorem zpx (ns:List Int):∀acc:List Int,acc.Nodup->(ns.foldl z7n acc).Nodup:=by
 induction ns with
 | nil=>intro acc h;exact h
 | cons n ns ih=>
  intro acc h
  rw [List.foldl_cons]
  refine ih _ ?_
  unfold z7n
  by_cases z:n∈acc
  . rw [if_pos z];exact h
  . rw [if_neg z,List.nodup_append]
    refine ⟨h,by simp,fun a ha b hb e=>z ?_⟩
    rw [List.mem_singleton] at hb
    rw [<-hb,<-e];exact ha
def z9s (u v:P2) (t:P3):Bool:=bth u.1 u.2 t||bth v.1 v.2 t
theorem zv7 (acc:List Int) (t:P3) (h:acc.length<=900):zhy (L acc) [T3 t]=some (L (acc++cn3 t)):=by
 unfold L T3 zhy
 simp only [List.length_map,List.length_cons,List.length_nil]
 rw [if_pos (by omega),List.map_append];rfl
theorem zic (rows:D) (u v:P2) (acc:List Int) (t:P3) (h:acc.length<=900):z11 [.im rows,.im (T2 u),.im (T2 v),.ow (L acc),.im (T3 t)]=.nx [.im rows,.im (T2 u),.im (T2 v),.ow (L (if z9s u v t=true then acc++cn3 t else acc)),.im (T3 t)]:=by
 unfold z11
 walk_at "dz"
 rw [zek]
 walk_at "dz"
 rw [zek]
 walk_at "dz"
 rw [zek]
 walk_at "dz"
 rw [zek]
 walk_at "dz"
 rw [zv7 acc t h]
 unfold z9s bth
 generalize (decide (u.1=t.1)||(decide (u.1=t.2.1)||decide (u.1=t.2.2)))=b1
 generalize (decide (u.2=t.1)||(decide (u.2=t.2.1)||decide (u.2=t.2.2)))=b2
 generalize (decide (v.1=t.1)||(decide (v.1=t.2.1)||decide (v.1=t.2.2)))=b3
 generalize (decide (v.2=t.1)||(decide (v.2=t.2.1)||decide (v.2=t.2.2)))=b4
 cases b1<;>cases b2<;>cases b3<;>cases b4<;>rfl
def tot (u v:P2) (R:List P3):List Int:=(R.filter (z9s u v)).flatMap cn3
theorem zpy (u v:P2) (R:List P3):(tot u v R).length=3 * (R.filter (z9s u v)).length:=by
 unfold tot
 induction R.filter (z9s u v) with
 | nil=>rfl
 | cons t r ih=>rw [List.flatMap_cons,List.length_append,ih,List.length_cons];show 3+_=_;omega
theorem zid (R:List P3) (u v:P2) (hR:R.length<=61) (ht:(tot u v R).length<=64):z0k [.lst (R.map T3),T2 u,T2 v]=.ok (L (soI ((tot u v R).foldl z7n []))):=by
 unfold z0k z46
 walk_at "dz"
 obtain ⟨ρ',e,acc,s4,h1,h2⟩:=z4z (tg:=.n 4) (g:=z11) (en:=T3)
  (fun r ρ=>∃(acc:List Int) (s4:Sl),acc++tot u v r=tot u v R/\ρ=[.im (.lst (R.map T3)),.im (T2 u),.im (T2 v),.ow (L acc),s4])
  R [.im (.lst (R.map T3)),.im (T2 u),.im (T2 v),.ow (.lst []),.em] ⟨[],.em,rfl,rfl⟩ (by
   rintro t r ρ ⟨acc,s4,h1,rfl⟩
   have hl:acc.length<=64:=by
    have:=congrArg List.length h1
    rw [List.length_append] at this
    omega
   refine ⟨_,_,rfl,Or.inl (zic _ u v acc t (by omega)),_,_,?_,rfl⟩
   rw [<-h1]
   unfold tot
   by_cases c:z9s u v t=true
   . rw [if_pos c,List.filter_cons_of_pos c,List.flatMap_cons,List.append_assoc]
   . rw [if_neg c,List.filter_cons_of_neg c])
 rw [e,h2]
 walk_at "dz"
 have ha:acc=tot u v R:=by rw [<-h1];simp [tot]
 subst ha
 have:dSS [L (tot u v R)]=some (L (soI ((tot u v R).foldl z7n []))):=by
  unfold L dSS
  simp only [zhv]
  rw [if_pos ht]
 unfold eSS
 walk_at "dz"
 rw [this]
 walk_at "dz"
theorem zyp {a b c d e:Int} (h1:a<b) (h2:b<c) (h3:c<d) (h4:d<e):soI [a,b,c,d,e]=[a,b,c,d,e]:=by
 have f:∀{x y:Int},x<y->ltT (L2.D.int y) (L2.D.int x)=false:=fun {x y} h=>by simp only [L2.ltT];exact decide_eq_false (by omega)
 simp only [soI,L2.sortB,L2.insB,f h4,f h3,f h2,f h1,Bool.false_eq_true,if_false]
section
variable {q:Q5} {n:Int} {ls L0:List P2} {T T0:List P3} {u v:P2} {i:Nat}
theorem zdy (K:Cut n ls T) (ok:q.ok) (hi:i<5) (pl:ls.Perm (q.S L0 i)) (pT:T.Perm (q.ft i++T0)):(T.filter (z9s (q.fv i) (q.fv ((i+1) % 5)))).Perm (q.ft i):=by
 obtain ⟨o1,o2,o3,o4⟩:=ok
 have m1:q.fv i∈ls:=pl.mem_iff.mpr (by simp [Q5.S])
 have m2:q.fv ((i+1) % 5)∈ls:=pl.mem_iff.mpr (by simp [Q5.S])
 obtain ⟨x,y,z,e,b1,b2,b3,b4⟩:∃x y z,q.ft i=[x,y,z]/\bth (q.fv i).1 (q.fv i).2 x=true/\bth (q.fv i).1 (q.fv i).2 y=true/\bth (q.fv ((i+1) % 5)).1 (q.fv ((i+1) % 5)).2 y=true/\bth (q.fv ((i+1) % 5)).1 (q.fv ((i+1) % 5)).2 z=true:=by
  rcases (by omega:i=0\/i=1\/i=2\/i=3\/i=4) with rfl | rfl | rfl | rfl | rfl <;>
   exact ⟨_,_,_,rfl,bth_iff.mpr (by simp [Q5.fv]),bth_iff.mpr (by simp [Q5.fv]),bth_iff.mpr (by simp [Q5.fv]),bth_iff.mpr (by simp [Q5.fv])⟩
 rw [e] at pT ⊢
 have z1:=(zvx K m1 pT b1 b2).2
 have z2:=(zvx K m2 (pT.trans (zyo x y z T0)) b3 b4).2
 refine (pT.filter _).trans ?_
 have hx:z9s (q.fv i) (q.fv ((i+1) % 5)) x=true:=by unfold z9s;rw [b1];rfl
 have hy:z9s (q.fv i) (q.fv ((i+1) % 5)) y=true:=by unfold z9s;rw [b2];rfl
 have hz:z9s (q.fv i) (q.fv ((i+1) % 5)) z=true:=by unfold z9s;rw [b4,Bool.or_true]
 show ((x::y::z::T0).filter _).Perm _
 rw [List.filter_cons_of_pos hx,List.filter_cons_of_pos hy,List.filter_cons_of_pos hz,List.filter_eq_nil_iff.mpr fun t ht=>by
  unfold z9s
  rw [z1 t (List.mem_cons_of_mem _ ht),z2 t (List.mem_cons_of_mem _ ht)];exact Bool.false_ne_true]
theorem zku (u v:P2):z9s u v=z9s v u:=funext fun t=>Bool.or_comm _ _
theorem zie (K:Cut n ls T) (hl:ls.length<=60) (ok:q.ok) (hi:i<5) (pl:ls.Perm (q.S L0 i)) (pT:T.Perm (q.ft i++T0)) (hs:(u=q.fv i/\v=q.fv ((i+1) % 5))\/(v=q.fv i/\u=q.fv ((i+1) % 5))) :
  z0k [.lst ((so3 T).map T3),T2 u,T2 v]=.ok (L [q.a,q.b,q.c,q.d,q.e]):=by
 have hp:((so3 T).filter (z9s u v)).Perm (q.ft i):=by
  refine ((z1r T).filter _).trans ?_
  rcases hs with ⟨rfl,rfl⟩ | ⟨rfl,rfl⟩
  . exact zdy K ok hi pl pT
  . rw [zku];exact zdy K ok hi pl pT
 have h3:(q.ft i).length=3:=by
  rcases (by omega:i=0\/i=1\/i=2\/i=3\/i=4) with rfl | rfl | rfl | rfl | rfl<;>rfl
 have hT:(so3 T).length<=61:=by rw [zcm,K.inv.len];omega
 rw [zid (so3 T) u v hT (by rw [zpy,hp.length_eq,h3];omega)]
 obtain ⟨o1,o2,o3,o4⟩:=ok
 have pm:((tot u v (so3 T)).foldl z7n []).Perm [q.a,q.b,q.c,q.d,q.e]:=by
  refine (List.perm_ext_iff_of_nodup (zpx _ _ List.nodup_nil) ?_).mpr fun k=>?_
  . simp only [List.nodup_cons,List.mem_cons,List.not_mem_nil,or_false,List.nodup_nil,and_true,not_false_eq_true]
    omega
  . rw [zkt]
    unfold tot
    rw [List.mem_flatMap]
    have:(∃t,t∈(so3 T).filter (z9s u v)/\k∈cn3 t)↔∃t,t∈q.ft i/\k∈cn3 t:=⟨fun ⟨t,a,b⟩=>⟨t,hp.mem_iff.mp a,b⟩,fun ⟨t,a,b⟩=>⟨t,hp.mem_iff.mpr a,b⟩⟩
    rw [this]
    rcases (by omega:i=0\/i=1\/i=2\/i=3\/i=4) with rfl | rfl | rfl | rfl | rfl <;>
     simp only [Q5.ft,cn3,List.mem_cons,List.not_mem_nil,or_false,false_or,exists_eq_or_imp,exists_eq_left]<;>omega
 rw [z6f pm,zyp o1 o2 o3 o4]
end
theorem zpz (n:Int) (ls:List P2):(Cv n ls).oi=true:=by simp only [Cv,D.oi,ois,z27 _ T2 zc3,Bool.and_self]
theorem zif (n:Int) (ls:List P2):(Cv n ls).dep<=3:=by
 have:=z1o (so2 ls) T2 1 z38
 simp only [Cv,D.dep,z2s];omega
theorem zer (n:Int) (ls:List P2):(Cv n ls).pl=true:=by simp only [Cv,D.pl,pls,z5t _ T2 z4f,Bool.and_self]
theorem zmd:∀ls:List P2,z4a (ls.map T2)=true
 | []=>rfl
 | p::r=>by rw [List.map_cons];simp only [z4a,T2,D.noL,zmd r,Bool.and_self]
theorem z48 (n:Int) (ls:List P2):(Cv n ls).noL=true:=by unfold Cv;simp only [D.noL,z4a,zmd,Bool.and_self]
theorem zv8 {n:Int} {a b:List P2} (h:Cv n a=Cv n b):so2 a=so2 b:=by
 unfold Cv at h
 simp only [D.tup.injEq,List.cons.injEq,and_true,true_and] at h
 exact z1d (fun _ _=>zdh) h
theorem zig (n:Int) (a b:List P2):eqD (Cv n a) (Cv n b)=decide (so2 a=so2 b):=by
 by_cases h:so2 a=so2 b
 . have e:Cv n a=Cv n b:=by unfold Cv;rw [h]
   rw [e,z6w (zpz n b),decide_eq_true h]
 . rw [decide_eq_false h]
   cases z:eqD (Cv n a) (Cv n b) with
   | false=>rfl
   | true=>exact absurd (zv8 (zbz (zpz n a) z (zpz n b))) h
theorem zv9 (n:Int) (a b:List P2):dEq (Cv n a) (Cv n b)=some (.bl (decide (so2 a=so2 b))):=by
 unfold dEq
 rw [if_pos ⟨zer n a,zer n b,by have:=zif n a;omega⟩,zig]
theorem zyq (n:Int) (a b:List P2):dNe (Cv n a) (Cv n b)=some (.bl (!decide (so2 a=so2 b))):=by
 unfold dNe
 rw [if_pos ⟨zer n a,zer n b,by have:=zif n a;omega⟩,zig]
theorem zyr (n:Int) (c:List P2) (seen:List (List P2)) (h:∀x∈seen,so2 x≠so2 c):dIn false (Cv n c) (.lst (seen.map (Cv n)))=some (.bl false):=by
 have h1:=z1o seen (Cv n) 3 (zif n)
 unfold dIn dOr zjm
 simp only [zer,z5t seen (Cv n) (zer n),true_and,if_pos (show z2s (seen.map (Cv n))<=20 by omega),Bool.false_eq_true,if_false,Option.some.injEq,D.bl.injEq]
 rw [List.any_eq_false]
 intro d hd
 obtain ⟨x,hx,rfl⟩:=List.mem_map.mp hd
 rw [zig,decide_eq_false (h x hx)];exact Bool.false_ne_true
theorem zme {p:P2} {ls:List P2} (h:p∈ls):dIn true (T2 p) (.lst (ls.map T2))=some (.bl false):=by
 have e:=zmc p ls
 have h1:=z1o ls T2 1 z38
 unfold dIn dOr zjm at e ⊢
 simp only [z4f,z5t ls T2 z4f,true_and,if_pos (show z2s (ls.map T2)<=20 by omega),Bool.false_eq_true,if_false,if_true,Option.some.injEq,D.bl.injEq] at e ⊢
 rw [e,decide_eq_true h];rfl
theorem zba (q:Q5):z0m [L [q.a,q.b,q.c,q.d,q.e]]=.ok (.lst ([q.fv 0,q.fv 1,q.fv 2,q.fv 3,q.fv 4].map T2)):=by
 unfold z0m z2o
 walk_at "dz"
 rfl
theorem zva {n:Int} {cu cu':List P2} {l w:P2} {five:List P2} (hm:z07 [Cv n cu,T2 l]=.ok (.tup [Cv n cu',T2 w])) (h1:l∈five) (h2:w∈five):z22 [Cv n cu,T2 l,.lst (five.map T2)]=.ok (.tup [Cv n cu',T2 w]):=by
 unfold z22 z7a
 walk_at "dz"
 rw [hm]
 walk_at "dz"
 rw [z48]
 walk_at "dz"
 have t1:z7h "tuple" (Cv n cu')=some (.bl true):=rfl
 rw [t1]
 walk_at "dz"
 rw [zme h1]
 walk_at "dz"
 rw [zme h2]
 walk_at "dz"
 rw [if_neg (by decide)]
theorem zq0 {ls:List P2} {k:Nat} {p:P2} (h:ls[k]?=some p):dIx (.lst (ls.map T2)) (.int (k:Int))=some (T2 p):=by
 exact zgl (by rw [List.getElem?_map,h];rfl)
theorem zih (n:Int) (ls:List P2):keeps false (Cv n ls)=true:=by unfold keeps;rw [if_neg Bool.false_ne_true];exact z48 n ls
theorem zvb {n:Int} {seen:List (List P2)} {c:List P2} (h:seen.length<=100):z9r (.lst (seen.map (Cv n))) [Cv n c]=some (.lst ((seen++[c]).map (Cv n))):=by
 show (if (seen.map (Cv n)).length<100000 then some (D.lst (seen.map (Cv n)++[Cv n c])) else none)=_
 rw [List.length_map,if_pos (by omega),List.map_append];rfl
theorem zys {ls:List P2} {p:P2} (h:ls.length<=100):z9r (.lst (ls.map T2)) [T2 p]=some (.lst ((ls++[p]).map T2)):=by
 show (if (ls.map T2).length<100000 then some (D.lst (ls.map T2++[T2 p])) else none)=_
 rw [List.length_map,if_pos (by omega),List.map_append];rfl
theorem zvc {n:Int} {c0 one other rows:D} {five came cu cu':List P2} {seen:List (List P2)} {k:Nat} {l w:P2} {s9:Sl} (hk:k<5) (hl:came[k]?=some l) (hm:z07 [Cv n cu,T2 l]=.ok (.tup [Cv n cu',T2 w])) (h1:l∈five) (h2:w∈five) (hs:k<4->∀x∈seen,so2 x≠so2 cu') (b1:came.length<=100) (b2:seen.length<=100) :
  z0s [.im c0,.im one,.im other,.im rows,.ow (.lst (five.map T2)),.ow (.lst (seen.map (Cv n))),.ow (.lst (came.map T2)),.im (Cv n cu),.im (.int (k:Int)),s9] =
   .nx [.im c0,.im one,.im other,.im rows,.ow (.lst (five.map T2)),.ow (.lst ((seen++[cu']).map (Cv n))),.ow (.lst ((came++[w]).map T2)),.im (Cv n cu'),.im (.int (k:Int)),.im (.tup [Cv n cu',T2 w])]:=by
 unfold z0s
 walk_at "dz"
 rw [zq0 hl]
 walk_at "dz"
 rw [zva hm h1 h2]
 walk_at "dz"
 rw [z48]
 walk_at "dz"
 have t2:zny (D.tup [Cv n cu',T2 w]) D.non=some (.bl false):=rfl
 rw [t2]
 walk_at "dz"
 rw [zih]
 walk_at "dz"
 rw [zys b1]
 walk_at "dz"
 by_cases h4:(k:Int)<4
 . rw [decide_eq_true h4,if_pos rfl,zyr n cu' seen (hs (by omega))]
   walk_at "dz"
   rw [z48]
   walk_at "dz"
   rw [zvb b2]
   walk_at "dz"
 . rw [decide_eq_false h4,if_neg Bool.false_ne_true]
   rw [z48]
   walk_at "dz"
   rw [zvb b2]
   walk_at "dz"
theorem zmf:∀a:List P2,z4n (a.map T2) (a.map T2)=true
 | []=>by simp [z4n]
 | p::a=>by simp only [List.map_cons,z4n,zao,decide_true,zmf a,Bool.and_self]
theorem zyt (a:List P2):dEq (.lst (a.map T2)) (.lst (a.map T2))=some (.bl true):=by
 have h1:=z1o a T2 1 z38
 have hp:(D.lst (a.map T2)).pl=true:=by simp only [D.pl];exact z5t a T2 z4f
 have hd:(D.lst (a.map T2)).dep<=20:=by simp only [D.dep];omega
 unfold dEq
 rw [if_pos ⟨hp,hp,hd⟩]
 simp only [eqD,zmf]
theorem zmg {n:Int} {q:Q5} {rows:D} {cl:Nat->P2} {cs:Nat->List P2} (hc:z0k [rows,T2 (cl 0),T2 (cl 1)]=.ok (L [q.a,q.b,q.c,q.d,q.e]))
  (hm:∀k,k<5->z07 [Cv n (cs k),T2 (cl k)]=.ok (.tup [Cv n (cs (k+1)),T2 (cl (k+2))])) (hin:∀k,k<7->cl k∈[q.fv 0,q.fv 1,q.fv 2,q.fv 3,q.fv 4])
  (hne:∀i j,i<j->j<5->so2 (cs i)≠so2 (cs j)) (h5:so2 (cs 5)=so2 (cs 0)) (f1:so2 [cl 0,cl 1,cl 2,cl 3,cl 4]=[q.fv 0,q.fv 1,q.fv 2,q.fv 3,q.fv 4]) (f2:so2 [cl 2,cl 3,cl 4,cl 5,cl 6]=[q.fv 0,q.fv 1,q.fv 2,q.fv 3,q.fv 4]) :
  z0i [Cv n (cs 0),T2 (cl 0),T2 (cl 1),rows]=.ok (.bl true):=by
 obtain ⟨five,hf⟩:∃five,five=[q.fv 0,q.fv 1,q.fv 2,q.fv 3,q.fv 4]:=⟨_,rfl⟩
 have h7:(List.range 7).map cl=[cl 0,cl 1,cl 2,cl 3,cl 4,cl 5,cl 6]:=rfl
 have e5:D.lst [T2 (q.fv 0),T2 (q.fv 1),T2 (q.fv 2),T2 (q.fv 3),T2 (q.fv 4)]=.lst (five.map T2):=by rw [hf];rfl
 unfold z0i z2y
 walk_at "dz"
 rw [hc]
 walk_at "dz"
 rw [zba,<-hf]
 walk_at "dz"
 rw [z48]
 walk_at "dz"
 rw [zih]
 walk_at "dz"
 rw [zor 5 (by omega) (by walk_at "dz")]
 walk_at "dz"
 simp only [zD]
 obtain ⟨ρ',e,s8,s9,hr⟩:=zde (tg:=.n 8) (g:=z0s) 5 (fun (i:Nat)=>D.int (0+(i:Int)))
  (fun k ρ=>∃(s8 s9:Sl),ρ=[.im (Cv n (cs 0)),.im (T2 (cl 0)),.im (T2 (cl 1)),.im rows,.ow (.lst (five.map T2)),.ow (.lst (((List.range (k+1)).map cs).map (Cv n))),.ow (.lst (((List.range (k+2)).map cl).map T2)),.im (Cv n (cs k)),s8,s9])
  [.im (Cv n (cs 0)),.im (T2 (cl 0)),.im (T2 (cl 1)),.im rows,.ow (.lst (five.map T2)),.ow (.lst [Cv n (cs 0)]),.ow (.lst [T2 (cl 0),T2 (cl 1)]),.im (Cv n (cs 0)),.em,.em] ⟨.em,.em,rfl⟩ (by
   rintro k hk ρ ⟨s8,s9,rfl⟩
   have hb:=zvc (n:=n) (c0:=Cv n (cs 0)) (one:=T2 (cl 0)) (other:=T2 (cl 1)) (rows:=rows) (five:=five) (came:=(List.range (k+2)).map cl) (seen:=(List.range (k+1)).map cs) (k:=k) (l:=cl k) (s9:=s9) hk (by rw [List.getElem?_map,List.getElem?_range (by omega)];rfl) (hm k hk) (by rw [hf];exact hin k (by omega)) (by rw [hf];exact hin (k+2) (by omega)) (fun h4 x hx=>by
    obtain ⟨j,hj,rfl⟩:=List.mem_map.mp hx
    exact hne j (k+1) (by have:=List.mem_range.mp hj;omega) (by omega)) (by rw [List.length_map,List.length_range];omega) (by rw [List.length_map,List.length_range];omega)
   refine ⟨_,_,rfl,Or.inl (by rw [Int.zero_add];exact hb),.im (.int (k:Int)),.im (.tup [Cv n (cs (k+1)),T2 (cl (k+2))]),?_⟩
   have r1:(List.range (k+1+1)).map cs=(List.range (k+1)).map cs++[cs (k+1)]:=by rw [List.range_succ,List.map_append];rfl
   have r2:(List.range (k+1+2)).map cl=(List.range (k+2)).map cl++[cl (k+2)]:=by rw [show k+1+2=k+2+1 from rfl,List.range_succ,List.map_append];rfl
   rw [r1,r2])
 rw [show (5:Int).toNat=5 from rfl,e,hr,h7]
 walk_at "dz"
 rw [zv9,decide_eq_true h5]
 walk_at "dz"
 have d1:dSl (D.lst [T2 (cl 0),T2 (cl 1),T2 (cl 2),T2 (cl 3),T2 (cl 4),T2 (cl 5),T2 (cl 6)]) none (some 5)=some (.lst ([cl 0,cl 1,cl 2,cl 3,cl 4].map T2)):=rfl
 have d2:dSl (D.lst [T2 (cl 0),T2 (cl 1),T2 (cl 2),T2 (cl 3),T2 (cl 4),T2 (cl 5),T2 (cl 6)]) (some 2) none=some (.lst ([cl 2,cl 3,cl 4,cl 5,cl 6].map T2)):=rfl
 rw [d1,d2]
 simp only [R.of_some,R.bind_ok]
 rw [sorted_T2 _ (by simp),sorted_T2 _ (by simp),f1,f2,<-hf]
 simp only [R.of_some,R.bind_ok]
 rw [zyt]
 walk_at "dz"
theorem zdz {q:Q5} (ok:q.ok) {a b:Nat} (ha:a<5) (hb:b<5) (h:q.fv a=q.fv b):a=b:=by
 obtain ⟨o1,o2,o3,o4⟩:=ok
 rcases (by omega:a=0\/a=1\/a=2\/a=3\/a=4) with rfl | rfl | rfl | rfl | rfl <;>
  rcases (by omega:b=0\/b=1\/b=2\/b=3\/b=4) with rfl | rfl | rfl | rfl | rfl <;>
  simp only [Q5.fv,Prod.mk.injEq] at h<;>omega
theorem zvd (q:Q5) {k:Nat} (hk:k<5):q.fv k∈[q.fv 0,q.fv 1,q.fv 2,q.fv 3,q.fv 4]:=by
 rcases (by omega:k=0\/k=1\/k=2\/k=3\/k=4) with rfl | rfl | rfl | rfl | rfl<;>simp
theorem z9o {q:Q5} (ok:q.ok) {is:List Nat} (h:is.Perm [0,1,2,3,4]):so2 (is.map q.fv)=[q.fv 0,q.fv 1,q.fv 2,q.fv 3,q.fv 4]:=by
 obtain ⟨o1,o2,o3,o4⟩:=ok
 refine (zuv (?_:List.Pairwise le2 [q.fv 0,q.fv 1,q.fv 2,q.fv 3,q.fv 4]) (h.map q.fv).symm).symm
 simp only [List.pairwise_cons,List.mem_cons,List.not_mem_nil,or_false,forall_eq_or_imp,forall_eq,Q5.fv,le2,List.Pairwise.nil,and_true,true_and,false_implies,implies_true]
 omega
section
variable {q:Q5} {n:Int} {ls L0:List P2} {T T0:List P3} {u v:P2} {i:Nat}
theorem zzv (ok:q.ok) (h:∀j,j<5->(q.S L0 j).Nodup) {a b:Nat} (ha:a<5) (hb:b<5) (hab:a≠b):so2 (q.S L0 a)≠so2 (q.S L0 b):=fun e=>by
 have pm:(q.S L0 a).Perm (q.S L0 b):=(z0b _).symm.trans (e ▸ z0b _)
 have na:=h a ha
 unfold Q5.S at na pm
 rw [List.nodup_cons,List.nodup_cons] at na
 have m1:q.fv a∈q.fv b::q.fv ((b+1) % 5)::L0:=pm.mem_iff.mp (by simp)
 have m2:q.fv ((a+1) % 5)∈q.fv b::q.fv ((b+1) % 5)::L0:=pm.mem_iff.mp (by simp)
 have k1:a=b\/a=(b+1) % 5:=by
  rcases List.mem_cons.mp m1 with z | z
  . exact .inl (zdz ok ha hb z)
  . rcases List.mem_cons.mp z with z | z
    . exact .inr (zdz ok ha (by omega) z)
    . exact absurd (List.mem_cons_of_mem _ z) na.1
 have k2:(a+1) % 5=b\/(a+1) % 5=(b+1) % 5:=by
  rcases List.mem_cons.mp m2 with z | z
  . exact .inl (zdz ok (by omega) hb z)
  . rcases List.mem_cons.mp z with z | z
    . exact .inr (zdz ok (by omega) (by omega) z)
    . exact absurd z na.2.1
 omega
theorem St.all (h:q.St n L0 T0 i) (hi:i<5):∀k,q.St n L0 T0 ((i+k) % 5)
 | 0=>by rw [Nat.add_zero,Nat.mod_eq_of_lt hi];exact h
 | k+1=>by
  have:=(St.up (St.all h hi k) (Nat.mod_lt _ (by omega))).2
  rwa [show ((i+k) % 5+1) % 5=(i+(k+1)) % 5 by omega] at this
theorem St.nd (h:q.St n L0 T0 i) (hi:i<5) (j:Nat) (hj:j<5):(q.S L0 j).Nodup:=by
 obtain ⟨ls,T,K,pl,_⟩:=St.all h hi (j+5 - i)
 rw [show (i+(j+5 - i)) % 5=j by omega] at pl
 exact pl.nodup_iff.mp K.inv.nd
theorem zcn (K:Cut n ls T) (hl:ls.length<=60) (F:zqc n ls T u v):z0i [Cv n ls,T2 u,T2 v,.lst ((so3 T).map T3)]=.ok (.bl true):=by
 obtain ⟨q,i,L0,T0,ok,hi,h,pl,pT,hs⟩:=F
 have hc:=zie K hl ok hi pl pT hs
 have nd:=St.nd h hi
 have e0:Cv n ls=Cv n (q.S L0 i):=z7g n pl
 rcases hs with ⟨rfl,rfl⟩ | ⟨rfl,rfl⟩
 . have:=zmg (n:=n) (q:=q) (rows:=.lst ((so3 T).map T3)) (cl:=fun k=>q.fv ((i+k) % 5)) (cs:=fun k=>q.S L0 ((i+k) % 5)) (by
    simp only [Nat.add_zero];rw [Nat.mod_eq_of_lt hi];exact hc) (fun k hk=>by
     have:=(St.up (St.all h hi k) (Nat.mod_lt _ (by omega))).1
     rw [show ((i+k) % 5+1) % 5=(i+(k+1)) % 5 by omega,show ((i+k) % 5+2) % 5=(i+(k+2)) % 5 by omega] at this
     exact this) (fun k _=>zvd q (Nat.mod_lt _ (by omega))) (fun a b hab hb=>zzv ok nd (Nat.mod_lt _ (by omega)) (Nat.mod_lt _ (by omega)) (by omega)) (by show so2 (q.S L0 ((i+5) % 5))=so2 (q.S L0 ((i+0) % 5));rw [show (i+5) % 5=(i+0) % 5 by omega]) (by
     refine z9o ok (is:=[(i+0) % 5,(i+1) % 5,(i+2) % 5,(i+3) % 5,(i+4) % 5]) ?_
     rcases (by omega:i=0\/i=1\/i=2\/i=3\/i=4) with rfl | rfl | rfl | rfl | rfl<;>decide) (by
     refine z9o ok (is:=[(i+2) % 5,(i+3) % 5,(i+4) % 5,(i+5) % 5,(i+6) % 5]) ?_
     rcases (by omega:i=0\/i=1\/i=2\/i=3\/i=4) with rfl | rfl | rfl | rfl | rfl<;>decide)
   simp only [Nat.add_zero] at this
   rw [Nat.mod_eq_of_lt hi] at this
   rw [e0];exact this
 . have:=zmg (n:=n) (q:=q) (rows:=.lst ((so3 T).map T3)) (cl:=fun k=>q.fv ((i+1+4 * k) % 5)) (cs:=fun k=>q.S L0 ((i+4 * k) % 5)) (by
    simp only [Nat.mul_zero,Nat.add_zero];rw [show (i+1+4 * 1) % 5=i by omega];exact hc) (fun k hk=>by
     have:=(St.dn (St.all h hi (4 * k)) (Nat.mod_lt _ (by omega))).1
     rw [show ((i+4 * k) % 5+1) % 5=(i+1+4 * k) % 5 by omega,show ((i+4 * k) % 5+4) % 5=(i+4 * (k+1)) % 5 by omega] at this
     show z07 [Cv n (q.S L0 ((i+4 * k) % 5)),T2 (q.fv ((i+1+4 * k) % 5))]=.ok (.tup [Cv n (q.S L0 ((i+4 * (k+1)) % 5)),T2 (q.fv ((i+1+4 * (k+2)) % 5))])
     rw [this,show (i+1+4 * (k+2)) % 5=(i+4 * (k+1)) % 5 by omega]) (fun k _=>zvd q (Nat.mod_lt _ (by omega))) (fun a b hab hb=>zzv ok nd (Nat.mod_lt _ (by omega)) (Nat.mod_lt _ (by omega)) (by omega)) (by show so2 (q.S L0 ((i+4 * 5) % 5))=so2 (q.S L0 ((i+4 * 0) % 5));rw [show (i+4 * 5) % 5=(i+4 * 0) % 5 by omega]) (by
     refine z9o ok (is:=[(i+1+4 * 0) % 5,(i+1+4 * 1) % 5,(i+1+4 * 2) % 5,(i+1+4 * 3) % 5,(i+1+4 * 4) % 5]) ?_
     rcases (by omega:i=0\/i=1\/i=2\/i=3\/i=4) with rfl | rfl | rfl | rfl | rfl<;>decide) (by
     refine z9o ok (is:=[(i+1+4 * 2) % 5,(i+1+4 * 3) % 5,(i+1+4 * 4) % 5,(i+1+4 * 5) % 5,(i+1+4 * 6) % 5]) ?_
     rcases (by omega:i=0\/i=1\/i=2\/i=3\/i=4) with rfl | rfl | rfl | rfl | rfl<;>decide)
   simp only [Nat.mul_zero,Nat.add_zero] at this
   rw [show (i+1+4 * 1) % 5=i by omega,Nat.mod_eq_of_lt hi] at this
   rw [e0];exact this
end
def KY (a b:P2):NK:=.t [.t [.i a.1,.i a.2],.t [.i b.1,.i b.2]]
theorem zzw (a b:P2):nkD (.tup [T2 a,T2 b])=some (KY a b):=by simp [nkD,zq9,T2,KY]
theorem zmh (a b:P2):(KY a b).dep<=8:=by simp [KY,NK.dep,z41]
theorem zve (ks:List NK) (ds:List D) (a b:P2) (h:ks.length<=1000):∃ds',dSetN (.dn ks ds) (.tup [T2 a,T2 b]) (.bl true)=some (.dn (zag ks (KY a b)) ds'):=by
 refine ⟨zet ks ds (KY a b) (.bl true),?_⟩
 simp only [dSetN,zzw]
 rw [if_pos ⟨by omega,zmh a b⟩]
theorem zco (t:P3) (X:List P2):z0x [T3 t,.lst (X.map T2)]=.ok (.lst (((edg t).filter fun p=>decide (p∈X)).map T2)):=by
 unfold z0x z5v
 walk_at "dz"
 have i0:dIx (T3 t) (.int 0)=some (.int t.1):=rfl
 have i1:dIx (T3 t) (.int 1)=some (.int t.2.1):=rfl
 have i2:dIx (T3 t) (.int 2)=some (.int t.2.2):=rfl
 rw [i0,i1,i2]
 walk_at "dz"
 have e:([D.tup [D.int t.1,D.int t.2.1],D.tup [D.int t.2.1,D.int t.2.2],D.tup [D.int t.1,D.int t.2.2]]:List D)=(edg t).map T2:=rfl
 rw [e,z2k (en:=T2) (bs:=fun p=>[T2 p]) (p:=fun p=>decide (p∈X)) (g:=T2) (edg t) (fun x _=>rfl) (fun p _=>by
  unfold z44
  walk_at "dz"
  rw [zmc]
  walk_at "dz") (fun p _ _=>by
  unfold z45
  walk_at "dz")]
 walk_at "dz"
theorem zyu {lines rows cell row:D} {ks:List NK} {ds:List D} {a b:P2} {s5 s8 s9:Sl} (h:ks.length<=1000):∃ds',z2b [.im lines,.im rows,.im cell,.ow (.dn ks ds),.im row,s5,.im (T2 a),.im (T2 b),s8,s9]=.nx [.im lines,.im rows,.im cell,.ow (.dn (zag ks (KY a b)) ds'),.im row,s5,.im (T2 a),.im (T2 b),s8,s9]:=by
 obtain ⟨ds',e⟩:=zve ks ds a b h
 refine ⟨ds',?_⟩
 unfold z2b
 walk_at "dz"
 rw [e]
 walk_at "dz"
theorem zvf (ks:List NK) (k:NK):k∈zag ks k/\(∀x∈ks,x∈zag ks k)/\(zag ks k).length<=ks.length+1:=by
 unfold zag
 split
 . exact ⟨by assumption,fun x h=>h,by omega⟩
 . exact ⟨by simp,fun x h=>by simp [h],by simp⟩
theorem zyv {lines rows cell row:D} {E:List P2} {ks:List NK} {ds:List D} {a:P2} {s7 s8 s9:Sl} (hE:E.length<=3) (h:ks.length<=900) :
  ∃ks' ds' s7',z2c [.im lines,.im rows,.im cell,.ow (.dn ks ds),.im row,.im (.lst (E.map T2)),.im (T2 a),s7,s8,s9]=.nx [.im lines,.im rows,.im cell,.ow (.dn ks' ds'),.im row,.im (.lst (E.map T2)),.im (T2 a),s7',s8,s9]/\(∀x∈ks,x∈ks')/\(∀b∈E,KY a b∈ks')/\ks'.length<=ks.length+3:=by
 unfold z2c
 walk_at "dz"
 obtain ⟨ρ',e,ks',ds',s7',rfl,h1,h2,h3⟩:=z4z (tg:=.n 7) (g:=z2b) (en:=T2)
  (fun r ρ=>∃ks' ds' s7',ρ=[.im lines,.im rows,.im cell,.ow (.dn ks' ds'),.im row,.im (.lst (E.map T2)),.im (T2 a),s7',s8,s9]/\(∀x∈ks,x∈ks')/\(∀b∈E,b∈r\/KY a b∈ks')/\ks'.length+r.length<=ks.length+E.length)
  E [.im lines,.im rows,.im cell,.ow (.dn ks ds),.im row,.im (.lst (E.map T2)),.im (T2 a),s7,s8,s9] ⟨ks,ds,s7,rfl,fun _ z=>z,fun _ z=>.inl z,Nat.le_refl _⟩ (by
   rintro b r ρ ⟨k1,d1,s7',rfl,q1,q2,q3⟩
   rw [List.length_cons] at q3
   obtain ⟨d2,e⟩:=zyu (lines:=lines) (rows:=rows) (cell:=cell) (row:=row) (ks:=k1) (ds:=d1) (a:=a) (b:=b) (s5:=.im (.lst (E.map T2))) (s8:=s8) (s9:=s9) (by omega)
   obtain ⟨p1,p2,p3⟩:=zvf k1 (KY a b)
   refine ⟨_,_,rfl,Or.inl e,_,_,_,rfl,fun x z=>p2 x (q1 x z),fun c hc=>?_,by omega⟩
   rcases q2 c hc with z | z
   . rcases List.mem_cons.mp z with rfl | z
     . exact .inr p1
     . exact .inl z
   . exact .inr (p2 _ z))
 refine ⟨ks',ds',s7',e,h1,fun b hb=>(h2 b hb).resolve_left (fun z=>nomatch z),?_⟩
 rw [List.length_nil] at h3
 omega
theorem zyw {X:List P2} {rows cell:D} {t:P3} {ks:List NK} {ds:List D} {s5 s6 s7 s8 s9:Sl} (h:ks.length<=800) :
  ∃ks' ds' s5' s6' s7',z2d [.im (.lst (X.map T2)),.im rows,.im cell,.ow (.dn ks ds),.im (T3 t),s5,s6,s7,s8,s9]=.nx [.im (.lst (X.map T2)),.im rows,.im cell,.ow (.dn ks' ds'),.im (T3 t),s5',s6',s7',s8,s9]/\(∀x∈ks,x∈ks')/\(∀a b,a∈edg t->b∈edg t->a∈X->b∈X->KY a b∈ks')/\ks'.length<=ks.length+9:=by
 obtain ⟨E,hE⟩:∃E,E=(edg t).filter fun p=>decide (p∈X):=⟨_,rfl⟩
 have hl:E.length<=3:=by rw [hE];exact List.length_filter_le _ _
 have hm:∀a,a∈edg t->a∈X->a∈E:=fun a h1 h2=>by rw [hE];exact List.mem_filter.mpr ⟨h1,decide_eq_true h2⟩
 unfold z2d
 walk_at "dz"
 rw [zco,<-hE]
 walk_at "dz"
 obtain ⟨ρ',e,ks',ds',s6',s7',rfl,h1,h2,h3⟩:=z4z (tg:=.n 6) (g:=z2c) (en:=T2)
  (fun r ρ=>∃ks' ds' s6' s7',ρ=[.im (.lst (X.map T2)),.im rows,.im cell,.ow (.dn ks' ds'),.im (T3 t),.im (.lst (E.map T2)),s6',s7',s8,s9]/\(∀x∈ks,x∈ks')/\(∀a∈E,a∈r\/∀b∈E,KY a b∈ks')/\ks'.length+3 * r.length<=ks.length+3 * E.length)
  E [.im (.lst (X.map T2)),.im rows,.im cell,.ow (.dn ks ds),.im (T3 t),.im (.lst (E.map T2)),s6,s7,s8,s9] ⟨ks,ds,s6,s7,rfl,fun _ z=>z,fun _ z=>.inl z,Nat.le_refl _⟩ (by
   rintro a r ρ ⟨k1,d1,s6',s7',rfl,q1,q2,q3⟩
   rw [List.length_cons] at q3
   obtain ⟨k2,d2,s7'',e,p1,p2,p3⟩:=zyv (lines:=.lst (X.map T2)) (rows:=rows) (cell:=cell) (row:=T3 t) (E:=E) (ks:=k1) (ds:=d1) (a:=a) (s7:=s7') (s8:=s8) (s9:=s9) hl (by omega)
   refine ⟨_,_,rfl,Or.inl e,_,_,_,_,rfl,fun x z=>p1 x (q1 x z),fun c hc=>?_,by omega⟩
   rcases q2 c hc with z | z
   . rcases List.mem_cons.mp z with rfl | z
     . exact .inr p2
     . exact .inl z
   . exact .inr fun b hb=>p1 _ (z b hb))
 refine ⟨ks',ds',_,s6',s7',e,h1,fun a b ha hb xa xb=>(h2 a (hm a ha xa)).resolve_left (fun z=>nomatch z) b (hm b hb xb),?_⟩
 rw [List.length_nil] at h3
 omega
theorem zvg (ks:List NK) (ds:List D) (a b:P2):dInN true (.tup [T2 a,T2 b]) (.dn ks ds)=some (.bl (!decide (KY a b∈ks))):=by
 simp only [dInN,zzw]
 rw [if_pos (zmh a b),if_pos trivial]
theorem zii (u:P2):keeps false (T2 u)=true:=by unfold keeps T2;rw [if_neg Bool.false_ne_true];rfl
theorem zkv (S:List P2):z4n (S.map T2) []=S.isEmpty:=by cases S<;>simp [z4n]
theorem zvh (S:List P2):dNe (.lst (S.map T2)) (.lst [])=some (.bl (!S.isEmpty)):=by
 have h1:=z1o S T2 1 z38
 have hp:(D.lst (S.map T2)).pl=true:=by simp only [D.pl];exact z5t S T2 z4f
 have hd:(D.lst (S.map T2)).dep<=20:=by simp only [D.dep];omega
 unfold dNe
 rw [if_pos ⟨hp,rfl,hd⟩]
 simp only [eqD,zkv]
theorem zyx {X:List P2} {rows:D} {cell k:Int} {ks:List NK} {ds:List D} {s4 s5 s6 s7 s9:Sl} (hX:X≠[]) (hl:X.length<=60) :
  (∃s6' s9',z09 [.im (.lst (X.map T2)),.im rows,.im (.int cell),.ow (.dn ks ds),s4,s5,s6,s7,.im (.int k),s9]=.nx [.im (.lst (X.map T2)),.im rows,.im (.int cell),.ow (.dn ks ds),s4,s5,s6',s7,.im (.int k),s9']) \/
  ∃u v,u∈X/\v∈X/\KY u v∉ks/\z09 [.im (.lst (X.map T2)),.im rows,.im (.int cell),.ow (.dn ks ds),s4,s5,s6,s7,.im (.int k),s9]=.rt (.tup [T2 u,T2 v]):=by
 have hp:0<X.length:=List.length_pos_iff.mpr hX
 have m0:0<=(cell+k) % (X.length:Int):=Int.emod_nonneg _ (by omega)
 have m1:(cell+k) % (X.length:Int)<X.length:=Int.emod_lt_of_pos _ (by omega)
 obtain ⟨u,hu⟩:∃u,X[((cell+k) % (X.length:Int)).toNat]?=some u:=⟨_,List.getElem?_eq_getElem (by omega)⟩
 have hux:=List.mem_of_getElem? hu
 have iu:=zq0 hu
 rw [Int.toNat_of_nonneg m0] at iu
 obtain ⟨S,hS⟩:∃S,S=X.filter fun v=>!decide (KY u v∈ks):=⟨_,rfl⟩
 have hSl:S.length<=60:=by rw [hS];exact Nat.le_trans (List.length_filter_le _ _) hl
 have hSm:∀v∈S,v∈X/\KY u v∉ks:=fun v hv=>by
  rw [hS] at hv
  obtain ⟨a,b⟩:=List.mem_filter.mp hv
  exact ⟨a,by simpa using b⟩
 have cm:z4s b1 z3e z3f [some (.dn ks ds),some (T2 u)] (X.map T2)=.ok (S.map T2):=by
  rw [hS,z2k (en:=T2) (bs:=fun p=>[T2 p]) (p:=fun v=>!decide (KY u v∈ks)) (g:=T2) X (fun x _=>rfl) (fun p _=>by
   unfold z3e
   walk_at "dz"
   rw [zvg]
   walk_at "dz") (fun p _ _=>by
   unfold z3f
   walk_at "dz")]
 have go:z09 [.im (.lst (X.map T2)),.im rows,.im (.int cell),.ow (.dn ks ds),s4,s5,s6,s7,.im (.int k),s9] =
   (sIf (z24 asB (eOp dNe (z02 9) (zac z08)))
    (z30 [false,false,true,false,false,false,true,false,false,true] (z59 (z01 (z02 6) (z01 (eOp dIx (z02 9) (eOp z9q (eOp zla (z02 2) (eC (.int 64))) (eCB z7i (z01 (z02 9) z08)))) z08)))) sNx)
   [.im (.lst (X.map T2)),.im rows,.im (.int cell),.ow (.dn ks ds),s4,s5,.im (T2 u),s7,.im (.int k),.ow (.lst (S.map T2))]:=by
  unfold z09
  walk_at "dz"
  rw [z50 (by rw [List.length_map];omega),List.length_map]
  walk_at "dz"
  rw [iu]
  walk_at "dz"
  rw [zii]
  walk_at "dz"
  rw [if_pos (by rw [List.length_map];omega),cm]
  walk_at "dz"
 rw [go]
 have hn:=zvh S
 by_cases hS0:S=[]
 . refine .inl ⟨.im (T2 u),.ow (.lst (S.map T2)),?_⟩
   subst hS0
   walk_at "dz"
   rw [show dNe (D.lst []) (D.lst [])=some (.bl false) from hn]
   walk_at "dz"
 . have hpS:0<S.length:=List.length_pos_iff.mpr hS0
   have q0:0<=cell / 64 % (S.length:Int):=Int.emod_nonneg _ (by omega)
   have q1:cell / 64 % (S.length:Int)<S.length:=Int.emod_lt_of_pos _ (by omega)
   obtain ⟨v,hv⟩:∃v,S[(cell / 64 % (S.length:Int)).toNat]?=some v:=⟨_,List.getElem?_eq_getElem (by omega)⟩
   have iv:=zq0 hv
   rw [Int.toNat_of_nonneg q0] at iv
   obtain ⟨v1,v2⟩:=hSm v (List.mem_of_getElem? hv)
   refine .inr ⟨u,v,hux,v1,v2,?_⟩
   have hne:S.isEmpty=false:=by cases S with
    | nil=>exact absurd rfl hS0
    | cons a r=>rfl
   rw [hne] at hn
   walk_at "dz"
   rw [hn]
   walk_at "dz"
   rw [zop (by omega)]
   walk_at "dz"
   rw [z50 (by rw [List.length_map];omega),List.length_map]
   walk_at "dz"
   rw [iv]
   walk_at "dz"
theorem zvi {X:List P2} {rows:D} {cell:Int} {ks:List NK} {ds:List D} {s4 s5 s7:Sl} (hX:X≠[]) (hl:X.length<=60):∀(ns:List Nat) (s6 s8 s9:Sl),
  (∃ρ,z9p (.n 8) z09 (ns.map fun (i:Nat)=>D.int (0+(i:Int))) [.im (.lst (X.map T2)),.im rows,.im (.int cell),.ow (.dn ks ds),s4,s5,s6,s7,s8,s9]=.nx ρ) \/
  ∃u v,u∈X/\v∈X/\KY u v∉ks/\z9p (.n 8) z09 (ns.map fun (i:Nat)=>D.int (0+(i:Int))) [.im (.lst (X.map T2)),.im rows,.im (.int cell),.ow (.dn ks ds),s4,s5,s6,s7,s8,s9]=.rt (.tup [T2 u,T2 v])
 | [],s6,s8,s9=>.inl ⟨_,rfl⟩
 | n::ns,s6,s8,s9=>by
  have st:z9p (.n 8) z09 ((n::ns).map fun (i:Nat)=>D.int (0+(i:Int))) [.im (.lst (X.map T2)),.im rows,.im (.int cell),.ow (.dn ks ds),s4,s5,s6,s7,s8,s9] =
   (z09 [.im (.lst (X.map T2)),.im rows,.im (.int cell),.ow (.dn ks ds),s4,s5,s6,s7,.im (.int (0+(n:Int))),s9]).itr (z9p (.n 8) z09 (ns.map fun (i:Nat)=>D.int (0+(i:Int)))):=rfl
  rw [st]
  rcases zyx (X:=X) (rows:=rows) (cell:=cell) (k:=0+(n:Int)) (ks:=ks) (ds:=ds) (s4:=s4) (s5:=s5) (s6:=s6) (s7:=s7) (s9:=s9) hX hl with ⟨s6',s9',e⟩ | ⟨u,v,h1,h2,h3,e⟩
  . rw [e]
    exact zvi hX hl ns s6' (.im (.int (0+(n:Int)))) s9'
  . rw [e]
    exact .inr ⟨u,v,h1,h2,h3,rfl⟩
theorem zyy (X:List P2) (Ts:List P3) (cell:Int) (hX:X≠[]) (hl:X.length<=60) (hT:Ts.length<=61) :
  z1b [.lst (X.map T2),.lst (Ts.map T3),.int cell]=.ok .non\/∃u v,u∈X/\v∈X/\(∀t∈Ts,¬(u∈edg t/\v∈edg t))/\z1b [.lst (X.map T2),.lst (Ts.map T3),.int cell]=.ok (.tup [T2 u,T2 v]):=by
 obtain ⟨ρ',e,ks,ds,s4,s5,s6,s7,s8,s9,hr,h1,h2⟩:=z4z (tg:=.n 4) (g:=z2d) (en:=T3)
  (fun r ρ=>∃ks ds s4 s5 s6 s7 s8 s9,ρ=[.im (.lst (X.map T2)),.im (.lst (Ts.map T3)),.im (.int cell),.ow (.dn ks ds),s4,s5,s6,s7,s8,s9]/\(∀t∈Ts,t∈r\/∀a b,a∈edg t->b∈edg t->a∈X->b∈X->KY a b∈ks)/\ks.length+9 * r.length<=9 * Ts.length)
  Ts [.im (.lst (X.map T2)),.im (.lst (Ts.map T3)),.im (.int cell),.ow (.dn [] []),.em,.em,.em,.em,.em,.em] ⟨[],[],.em,.em,.em,.em,.em,.em,rfl,fun t ht=>.inl ht,by simp⟩ (by
   rintro t r ρ ⟨k1,d1,s4,s5,s6,s7,s8,s9,rfl,q1,q2⟩
   rw [List.length_cons] at q2
   obtain ⟨k2,d2,s5',s6',s7',e,p1,p2,p3⟩:=zyw (X:=X) (rows:=.lst (Ts.map T3)) (cell:=.int cell) (t:=t) (ks:=k1) (ds:=d1) (s5:=s5) (s6:=s6) (s7:=s7) (s8:=s8) (s9:=s9) (by omega)
   refine ⟨_,_,rfl,Or.inl e,_,_,_,_,_,_,_,_,rfl,fun c hc=>?_,by omega⟩
   rcases q1 c hc with z | z
   . rcases List.mem_cons.mp z with rfl | z
     . exact .inr p2
     . exact .inl z
   . exact .inr fun a b x1 x2 x3 x4=>p1 _ (z a b x1 x2 x3 x4))
 have hk:∀u v,u∈X->v∈X->KY u v∉ks->∀t∈Ts,¬(u∈edg t/\v∈edg t):=fun u v hu hv hn t ht ⟨e1,e2⟩=>hn ((h1 t ht).resolve_left (fun z=>nomatch z) u v e1 e2 hu hv)
 have go:z1b [.lst (X.map T2),.lst (Ts.map T3),.int cell]=SR.out false ((z9p (.n 8) z09 ((List.range X.length).map fun (i:Nat)=>D.int (0+(i:Int))) [.im (.lst (X.map T2)),.im (.lst (Ts.map T3)),.im (.int cell),.ow (.dn ks ds),s4,s5,s6,s7,s8,s9]).thn (z30 [] (eC .non))):=by
  unfold z1b z87
  walk_at "dz"
  have en:∀ρ,zoz ρ=.ok (.dn [] []):=fun _=>rfl
  rw [en]
  walk_at "dz"
  rw [show keeps true (.dn [] [])=true from rfl]
  walk_at "dz"
  rw [e,hr]
  walk_at "dz"
  rw [zor ((X.length:Nat):Int) (by omega) (by walk_at "dz";rw [List.length_map])]
  walk_at "dz"
  simp only [zD,Int.toNat_natCast]
 rw [go]
 rcases zvi (rows:=.lst (Ts.map T3)) (cell:=cell) (ks:=ks) (ds:=ds) (s4:=s4) (s5:=s5) (s7:=s7) hX hl (List.range X.length) s6 s8 s9 with ⟨ρ,e2⟩ | ⟨u,v,z1,z2,z3,e2⟩
 . rw [e2]
   exact .inl rfl
 . rw [e2]
   exact .inr ⟨u,v,z1,z2,hk u v z1 z2 z3,rfl⟩
section
variable {n:Int} {ls:List P2} {T:List P3} {u v:P2}
theorem zbb {w:P2} {ls0:List P2} {T0:List P3} {t1 t2:P3} (K:Cut n ls T) (R:Trn n ls T u w ls0 T0 t1 t2) (hv:v∈ls) (hv0:v∈ls0) (hn:∀t∈T,¬(bth u.1 u.2 t=true/\bth v.1 v.2 t=true)):zm9 (s3 u.1 w::s3 u.2 w::T0) v=zm9 T v:=by
 have f1:bth v.1 v.2 t1=false:=by
  cases z:bth v.1 v.2 t1 with
  | false=>rfl
  | true=>exact absurd ⟨R.b1,z⟩ (hn t1 (R.pT.mem_iff.mpr (by simp)))
 have f2:bth v.1 v.2 t2=false:=by
  cases z:bth v.1 v.2 t2 with
  | false=>rfl
  | true=>exact absurd ⟨R.b2,z⟩ (hn t2 (R.pT.mem_iff.mpr (by simp)))
 have p1:(T.filter (bth v.1 v.2)).Perm (T0.filter (bth v.1 v.2)):=by
  refine (R.pT.filter _).trans ?_
  rw [List.filter_cons_of_neg (by rw [f1];exact Bool.false_ne_true),List.filter_cons_of_neg (by rw [f2];exact Bool.false_ne_true)]
 have l1:=K.two hv
 have l2:=R.cut.two (l:=v) (List.mem_append_left _ hv0)
 rw [p1.length_eq] at l1
 rw [z1z,l1] at l2
 have b0:bth v.1 v.2 (s3 u.1 w)=false/\bth v.1 v.2 (s3 u.2 w)=false:=by
  unfold b1n at l2
  cases z1:bth v.1 v.2 (s3 u.1 w)<;>cases z2:bth v.1 v.2 (s3 u.2 w)<;>rw [z1,z2] at l2<;>simp at l2
  exact ⟨rfl,rfl⟩
 rw [z3b p1]
 refine z3b ?_
 rw [List.filter_cons_of_neg (by rw [b0.1];exact Bool.false_ne_true),List.filter_cons_of_neg (by rw [b0.2];exact Bool.false_ne_true)]
theorem zkw (K:Cut n ls T) (hl:ls.length<=60) (hu:u∈ls) (hv:v∈ls) (hne:u≠v) (hn:∀t∈T,¬(bth u.1 u.2 t=true/\bth v.1 v.2 t=true)):z18 [Cv n ls,T2 u,T2 v]=.ok (.bl true):=by
 obtain ⟨L0,pl⟩:=zks hu hv hne
 obtain ⟨w1,a0,A0,x1,x2,R1⟩:=K.turnX hu
 obtain ⟨w2,b0,B0,y1,y2,R2⟩:=K.turnX hv
 have pa:a0.Perm (v::L0):=(List.perm_cons u).mp (R1.pl.symm.trans pl)
 have pb:b0.Perm (u::L0):=(List.perm_cons v).mp (R2.pl.symm.trans (pl.trans (.swap _ _ _)))
 have hlen:=pl.length_eq
 simp only [List.length_cons] at hlen
 have e1:=z3z K (z0b ls) hl hu R1.pl R1.d1
 have e2:=z3z K (z0b ls) hl hv R2.pl R2.d1
 have pa1:(a0++[w1]).Perm (v::(L0++[w1])):=pa.append_right _
 have pb1:(b0++[w2]).Perm (u::(L0++[w2])):=pb.append_right _
 have la:(a0++[w1]).length<=60:=by rw [pa1.length_eq];simp only [List.length_cons,List.length_append,List.length_nil];omega
 have lb:(b0++[w2]).length<=60:=by rw [pb1.length_eq];simp only [List.length_cons,List.length_append,List.length_nil];omega
 have e3:=z3z R1.cut (z0b (a0++[w1])) la (pa1.mem_iff.mpr (by simp)) pa1 ((zbb K R1 hv (pa.mem_iff.mpr (by simp)) hn).trans R2.d1)
 have e4:=z3z R2.cut (z0b (b0++[w2])) lb (pb1.mem_iff.mpr (by simp)) pb1 ((zbb K R2 hu (pb.mem_iff.mpr (by simp)) fun t ht z=>hn t ht z.symm).trans R1.d1)
 have e1:z07 [Cv n ls,T2 u]=.ok (.tup [Cv n (a0++[w1]),T2 w1]):=e1
 have e2:z07 [Cv n ls,T2 v]=.ok (.tup [Cv n (b0++[w2]),T2 w2]):=e2
 have e3:z07 [Cv n (a0++[w1]),T2 v]=.ok (.tup [Cv n (L0++[w1]++[w2]),T2 w2]):=e3
 have e4:z07 [Cv n (b0++[w2]),T2 u]=.ok (.tup [Cv n (L0++[w2]++[w1]),T2 w1]):=e4
 have q1:so2 (L0++[w1]++[w2])=so2 (L0++[w2]++[w1]):=z6c (by
  rw [List.append_assoc,List.append_assoc]
  exact List.Perm.append_left _ (.swap _ _ _))
 have q2:so2 (L0++[w1]++[w2])≠so2 ls:=fun z=>R1.nw (by
  have:w1∈so2 (L0++[w1]++[w2]):=(z0b _).mem_iff.mpr (by simp)
  rw [z] at this
  exact (z0b ls).mem_iff.mp this)
 have eqT:∀p:P2,dEq (T2 p) (T2 p)=some (.bl true):=fun p=>by
  unfold dEq
  rw [if_pos ⟨z4f p,z4f p,by have:=z38 p;omega⟩,zao,decide_eq_true rfl]
 unfold z18 z55
 walk_at "dz"
 rw [e1]
 walk_at "dz"
 rw [z48]
 walk_at "dz"
 rw [e2]
 walk_at "dz"
 rw [z48]
 walk_at "dz"
 rw [e3]
 walk_at "dz"
 rw [z48]
 walk_at "dz"
 rw [e4]
 walk_at "dz"
 rw [z48]
 walk_at "dz"
 rw [zv9,decide_eq_true q1]
 walk_at "dz"
 rw [eqT,eqT,zyq,decide_eq_false q2]
 walk_at "dz"
end
theorem zij {n:Int} {ls:List P2} {T:List P3} (K:Cut n ls T) {u:P2} {t:P3} (ht:t∈T) (hu:u∈ls) (hb:bth u.1 u.2 t=true):u∈edg t:=by
 obtain ⟨x,y,z⟩:=t
 obtain ⟨a,b⟩:=u
 have g:=K.inv.tri x y z ht
 have l:=K.inv.lin a b hu
 have h:=bth_iff.mp hb
 simp only at h
 simp only [edg,List.mem_cons,List.not_mem_nil,or_false,Prod.mk.injEq]
 omega
theorem zvj {n:Int} {ls:List P2} {T:List P3} (K:Cut n ls T) {t:P3} (ht:t∈T):(edg t).Nodup:=by
 obtain ⟨x,y,z⟩:=t
 have g:=K.inv.tri x y z ht
 simp only [edg,List.nodup_cons,List.mem_cons,List.not_mem_nil,or_false,Prod.mk.injEq,List.nodup_nil,and_true,not_false_eq_true]
 omega
def EE (ls:List P2) (t:P3):List P2:=(edg t).filter fun p=>decide (p∈so2 ls)
theorem zik {α:Type} {f:α->D} {xs:List α} {x:Int} (h0:0<=x) (h1:x<xs.length):∃a,xs[x.toNat]?=some a/\dIx (.lst (xs.map f)) (.int x)=some (f a):=by
 have hk:x.toNat<xs.length:=by omega
 refine ⟨xs[x.toNat],List.getElem?_eq_getElem hk,?_⟩
 have:=zgl (ds:=xs.map f) (j:=x.toNat) (d:=f xs[x.toNat]) (by rw [List.getElem?_map,List.getElem?_eq_getElem hk];rfl)
 rwa [Int.toNat_of_nonneg h0] at this
theorem zkx (ns:List Int) (hn:ns.length<=63):zep [.scr ns]=.ok (.bl true):=by
 obtain ⟨m,m2,m57,em⟩:=zv0 ns
 obtain ⟨st,hs,es⟩:=zkq (zg7 ns (some 4) none) m m57
 obtain ⟨n,ls,T,I,C,hn3,hl,eg⟩:=zpr st (by omega)
 have K:Cut n ls T:=⟨I,C⟩
 have hl60:ls.length<=60:=by omega
 have hTl:(so3 T).length<=61:=by rw [zcm,I.len];omega
 obtain ⟨Rw,hR⟩:∃Rw,Rw=(so3 T).filter fun t=>decide (1<((EE ls t).length:Int)):=⟨_,rfl⟩
 have hRl:Rw.length<=61:=by rw [hR];exact Nat.le_trans (List.length_filter_le _ _) hTl
 have hRm:∀t∈Rw,t∈T/\1<(EE ls t).length:=fun t ht=>by
  rw [hR] at ht
  obtain ⟨a,b⟩:=List.mem_filter.mp ht
  exact ⟨(z1r T).mem_iff.mp a,by have:=of_decide_eq_true b;omega⟩
 have hR0:0<Rw.length:=by
  obtain ⟨l,hll⟩:∃l,l∈ls:=by
   cases ls with
   | nil=>simp only [List.length_nil] at hl;omega
   | cons a r=>exact ⟨a,by simp⟩
  obtain ⟨t,ht,u,v,hu,hv,huv,eu,ev⟩:=zv6 K (by omega) hll
  have mu:u∈EE ls t:=List.mem_filter.mpr ⟨eu,decide_eq_true ((z0b ls).mem_iff.mpr hu)⟩
  have mv:v∈EE ls t:=List.mem_filter.mpr ⟨ev,decide_eq_true ((z0b ls).mem_iff.mpr hv)⟩
  obtain ⟨r,pr⟩:=zks mu mv huv
  refine List.length_pos_of_mem (a:=t) ?_
  rw [hR]
  refine List.mem_filter.mpr ⟨(z1r T).mem_iff.mpr ht,decide_eq_true ?_⟩
  rw [pr.length_eq];simp only [List.length_cons];omega
 have cm:z4s b1 zcc zcd [some (.lst ((so2 ls).map T2))] ((so3 T).map T3)=.ok (Rw.map fun t=>.lst ((EE ls t).map T2)):=by
  rw [hR,z2k (en:=T3) (bs:=fun t=>[T3 t]) (p:=fun t=>decide (1<((EE ls t).length:Int))) (g:=fun t=>.lst ((EE ls t).map T2)) (so3 T) (fun x _=>rfl) (fun t _=>by
   unfold zcc
   walk_at "dz"
   rw [zco]
   walk_at "dz"
   rw [List.length_map];rfl) (fun t _ _=>by
   unfold zcd
   walk_at "dz"
   rw [zco]
   walk_at "dz"
   rfl)]
 unfold zep zuw
 walk_at "dz"
 rw [em]
 walk_at "dz"
 rw [es]
 walk_at "dz"
 rw [eg]
 walk_at "dz"
 rw [if_pos (by rw [List.length_map];omega),cm]
 walk_at "dz"
 have hk:∀(b:Bool) (a0 a1 a2 a3 a4:D),z68 b [false,false,true,true] [.im a0,.im a1,.im a2,.im a3,.im a4,.em,.em,.em,.em,.em,.em]=[.im a0,.im a1,.im a2,.im a3,.im a4,.em,.em,.em,.em,.em,.em]:=fun b _ _ _ _ _=>by cases b<;>rfl
 rw [hk]
 walk_at "dz"
 rw [zdx _ _ (by omega)]
 walk_at "dz"
 generalize ns.getD (Int.toNat 1) 0=c1
 rw [z50 (by rw [List.length_map];omega),List.length_map]
 walk_at "dz"
 obtain ⟨t,ht,et⟩:=zik (f:=fun t=>D.lst ((EE ls t).map T2)) (xs:=Rw) (x:=c1 % (Rw.length:Int)) (Int.emod_nonneg _ (by omega)) (Int.emod_lt_of_pos _ (by omega))
 obtain ⟨htT,hE1⟩:=hRm t (List.mem_of_getElem? ht)
 rw [et]
 obtain ⟨E,hE⟩:∃E,E=EE ls t:=⟨_,rfl⟩
 rw [<-hE] at hE1 ⊢
 walk_at "dz"
 rw [zdx _ _ (by omega)]
 walk_at "dz"
 generalize ns.getD (Int.toNat 2) 0=c2
 rw [z50 (by rw [List.length_map];omega),List.length_map]
 walk_at "dz"
 have a0:0<=c2 % (E.length:Int):=Int.emod_nonneg _ (by omega)
 have a1:c2 % (E.length:Int)<E.length:=Int.emod_lt_of_pos _ (by omega)
 obtain ⟨u,hu,eu⟩:=zik (f:=T2) (xs:=E) a0 a1
 rw [eu]
 walk_at "dz"
 rw [zii]
 walk_at "dz"
 rw [zop (by omega)]
 walk_at "dz"
 rw [z50 (by rw [List.length_map];omega)]
 walk_at "dz"
 rw [z50 (by rw [List.length_map];omega),List.length_map]
 walk_at "dz"
 have s0:0<=c2 / 6 % ((E.length:Int) - 1):=Int.emod_nonneg _ (by omega)
 have s1:c2 / 6 % ((E.length:Int) - 1)<(E.length:Int) - 1:=Int.emod_lt_of_pos _ (by omega)
 generalize c2 / 6 % ((E.length:Int) - 1)=s at s0 s1
 have b0:0<=(c2+1+s) % (E.length:Int):=Int.emod_nonneg _ (by omega)
 have b1:(c2+1+s) % (E.length:Int)<E.length:=Int.emod_lt_of_pos _ (by omega)
 have hij:(c2+1+s) % (E.length:Int)≠c2 % (E.length:Int):=fun z=>by
  have z2:=Int.emod_eq_emod_iff_emod_sub_eq_zero.mp z
  rw [show c2+1+s - c2=1+s by omega,Int.emod_eq_of_lt (by omega) (by omega)] at z2
  omega
 obtain ⟨v,hv,ev⟩:=zik (f:=T2) (xs:=E) b0 b1
 have Em:∀p∈E,p∈edg t/\p∈ls:=fun p hp=>by
  rw [hE] at hp
  obtain ⟨x1,x2⟩:=List.mem_filter.mp hp
  exact ⟨x1,(z0b ls).mem_iff.mp (of_decide_eq_true x2)⟩
 have End:E.Nodup:=by rw [hE];exact (zvj K htT).filter _
 have huv:u≠v:=fun z=>by
  subst z
  have h1:(c2 % (E.length:Int)).toNat<E.length:=by omega
  have:=(List.getElem?_inj h1 End).mp (hu.trans hv.symm)
  omega
 have mu:=Em u (List.mem_of_getElem? hu)
 have mv:=Em v (List.mem_of_getElem? hv)
 have fb:=zcn K hl60 (zpw K hl60 htT mu.2 mv.2 mu.1 mv.1 huv)
 unfold Cv at fb
 rw [ev]
 walk_at "dz"
 rw [zii]
 walk_at "dz"
 rw [fb]
 walk_at "dz"
 rw [zdx _ _ (by omega)]
 walk_at "dz"
 rw [z50 (by omega)]
 walk_at "dz"
 generalize ns.getD (Int.toNat 3) 0 % 2147483647=c3
 have hX:so2 ls≠[]:=fun z=>by
  have:=(z0b ls).length_eq
  rw [z] at this
  simp only [List.length_nil] at this
  omega
 rcases zyy (so2 ls) (so3 T) c3 hX (by rw [(z0b ls).length_eq];exact hl60) hTl with ef | ⟨x,y,hx,hy,hxy,ef⟩
 . rw [ef]
   walk_at "dz"
   rw [show zny D.non D.non=some (.bl true) from rfl]
   walk_at "dz"
 . have hx':x∈ls:=(z0b ls).mem_iff.mp hx
   have hy':y∈ls:=(z0b ls).mem_iff.mp hy
   have hne:x≠y:=fun z=>by
    subst z
    obtain ⟨p,q⟩:=x
    obtain ⟨r,hr⟩:=z8h K hx'
    exact hxy _ ((z1r T).mem_iff.mpr hr) ⟨by simp [edg],by simp [edg]⟩
   have ee:=zkw K hl60 hx' hy' hne fun t ht z=>hxy t ((z1r T).mem_iff.mpr ht) ⟨zij K ht hx' z.1,zij K ht hy' z.2⟩
   unfold Cv at ee
   rw [ef]
   walk_at "dz"
   rw [show zny (D.tup [T2 x,T2 y]) D.non=some (.bl false) from rfl]
   walk_at "dz"
   rw [ee]
   walk_at "dz"
end K52
namespace K52
open PySem PySem.Spec PyProof.Rows L2
theorem walk {l:PySem.W.OpenLaw} {q:Program} {loose:List Str} {XP:(Str->Option Value)->Heap->Prop} {YP:World->Heap->Prop} {d:DefRec} {K:Params->Frag} (hn:l.most=some 63) (hdf:d.params.defaults=[])
  (hY:∀(w:World) (h:Heap),YP w h->(K w.params).In h)
  (F:∀(w:World) (mg:Str->Option Value) (fa:Addr) (h:Heap),(K w.params).In h->h.Ns mainGlobals mg->mg d.name=some (.ref fa) ->
   ∃fd:FuncData,(∀(s:Shared) (u:Value),BindsTo s fd ⟨[u],[]⟩ [("_law_script",u)])/\∀base:Heap,(K w.params).In base->base.Ns mainGlobals mg->FnOk l.prog w (K w.params) mg base (CX1 l.prog w) 9 fa fd ["_law_script"] (spL (K w.params) false zep 1)) :
  PySem.W.WalkO q loose XP YP l.row.toRowW d [] (fun f vs=>PySem.call f vs):=
 L2.walk_of (n:=63) (k:=9) (x:="_law_script") (CX:=fun w=>CX1 l.prog w) (sp:=fun w=>(spL (K w.params) false zep 1)) hn (by decide) hdf ⟨rfl,by decide,by decide⟩ hY F (fun _ _ a ns hl hO hS=>zsc hO hS (zkx ns hl)) fun _ _ _ _ _ ⟨_,_,_,_,_,_,z⟩=>z
end K52
open PySem PySem.W PyProof.Rows
set_option maxRecDepth 100000 in
set_option maxHeartbeats 0 in
theorem PySem.Challenge.cw_friezeyard_k52_five_turnings_holds : PySem.Challenge.rw_friezeyard_k52_five_turnings.Holds := by
 w_on;o_law
 refine holds_open (q:=K52.q) (loose:=[]) (Xt:=K52.xtH) (XP:=XL K52.q []) (Yf:=K52.hook.obs) (Ya:=K52.hook.val)
  (YP:=K52.hook.says) (N:=2458) K52.left K52.hook.of K52.hook.keeps
  (fun s e=>xl_of s (Bool.and_eq_true_iff.mp e).1) XL.keeps (by rfl) (by rfl) (by rfl)
  (fun s e=>recFacts_of (Bool.and_eq_true_iff.mp e).2) (by rfl) (by assumption) (by decide +kernel)
  ⟨rfl,rfl,rfl,rfl,rfl,by decide +kernel⟩ ?hw ?hc
 (case hw=>w_witness2)
 refine K52.walk (l:=PySem.Challenge.rw_friezeyard_k52_five_turnings) (K:=K52.K) rfl rfl (fun w h Y=>Y) ?F
 case F=>
  intro w mg fa h KX G hmg
  k_fill
  refine' K52.all_mk KX G hmg ?A0 ?A1 ?A2 ?A3 ?A4 ?A5 ?A6 ?A7 ?A8 ?A9 ?A10 ?A11 ?A12 ?A13 ?A14 ?A15 ?A16 ?A17 ?A18 ?A19 ?A20 ?A21 ?A22 ?A23 ?T
  (case A0=>apply L2.fat;k_is;k_is;k_is;k_is)
  (case A1=>apply L2.fat;k_is;k_is;k_is;k_is)
  (case A2=>apply L2.fat;k_is;k_is;k_is;k_is)
  (case A3=>apply L2.fat;k_is;k_is;k_is;k_is)
  (case A4=>apply L2.fat;k_is;k_is;k_is;k_is)
  (case A5=>apply L2.fat;k_is;k_is;k_is;k_is)
  (case A6=>apply L2.fat;k_is;k_is;k_is;k_is)
  (case A7=>apply L2.fat;k_is;k_is;k_is;k_is)
  (case A8=>apply L2.fat;k_is;k_is;k_is;k_is)
  (case A9=>apply L2.fat;k_is;k_is;k_is;k_is)
  (case A10=>apply L2.fat;k_is;k_is;k_is;k_is)
  (case A11=>apply L2.fat;k_is;k_is;k_is;k_is)
  (case A12=>apply L2.fat;k_is;k_is;k_is;k_is)
  (case A13=>apply L2.fat;k_is;k_is;k_is;k_is)
  (case A14=>apply L2.fat;k_is;k_is;k_is;k_is)
  (case A15=>apply L2.fat;k_is;k_is;k_is;k_is)
  (case A16=>apply L2.fat;k_is;k_is;k_is;k_is)
  (case A17=>apply L2.fat;k_is;k_is;k_is;k_is)
  (case A18=>apply L2.fat;k_is;k_is;k_is;k_is)
  (case A19=>apply L2.fat;k_is;k_is;k_is;k_is)
  (case A20=>apply L2.fat;k_is;k_is;k_is;k_is)
  (case A21=>apply L2.fat;k_is;k_is;k_is;k_is)
  (case A22=>apply L2.fat;k_is;k_is;k_is;k_is)
  (case A23=>apply L2.fat;k_is;k_is;k_is;k_is)
  (case T=>constructor<;>exact mg_none_of KX G (by k_is))
