import PyProof.Rows.All
import Wide.All
import OpenK.AllK
import Wide.FinOn
import Lean
import PyProof.EqAt
import PyProof.EqKinds
import PyProof.TupleCall
import KE.KIsAll
import KE.RegKIsAll
import PyProof.ExcArgsOwn
import PyProof.InstStoreFacts
import PyProof.Rows.MinMaxN
import PyProof.Rows.CallKwBuiltin
import KE.KMinKey
import KE.KDictOf
import PyProof.AttrMissSeq
import PyProof.Rows.TupDisplay
import KE.KEqDict
import PySem.Challenge.RW_friezeyard_k67_four_corners
set_option compiler.extract_closed false
noncomputable section
open PySem.W (Frag codeIn hideAll hideAll_get hideAll_none keepIn kia_one)
set_option Elab.async false
set_option linter.all false
set_option maxRecDepth 100000
namespace L2
open PySem PySem.Spec PyProof.Rows
abbrev Key:=Sum Int Str
noncomputable def zeo:Key->Value->Bool
 | .inl k,v=>Value.isInt k v
 | .inr x,v=>Value.isStrOf x v
noncomputable def y38 (w:World):Key->Int
 | .inl k=>hashInt k
 | .inr x=>hashStr w x
theorem z0p:∀{k:Key} {v:Value},zeo k v=true->(∃i t,k=Sum.inl i/\v=Value.int i t)\/(∃x t,k=Sum.inr x/\v=Value.str x t)
 | .inl i,v,h=>by
  obtain ⟨t,e⟩:=Value.isInt_shape (k:=i) (v:=v) h
  exact .inl ⟨i,t,rfl,e⟩
 | .inr x,v,h=>by
  obtain ⟨t,e⟩:=Value.isStrOf_shape (x:=x) (v:=v) h
  exact .inr ⟨x,t,rfl,e⟩
theorem zfo (i:Int) (t:Tok):zeo (.inl i) (.int i t)=true:=by simp [zeo,Value.isInt]
theorem zfp (x:Str) (t:Tok):zeo (.inr x) (.str x t)=true:=by simp [zeo,Value.isStrOf]
theorem zsk (a b:Int):decide ((Sum.inl a:Key)=Sum.inl b)=(a==b):=by
 by_cases e:a=b
 . subst e;simp
 . have h:¬(Sum.inl a:Key)=Sum.inl b:=fun q=>e (Sum.inl.inj q)
   rw [decide_eq_false h]
   exact (beq_eq_false_iff_ne.mpr e).symm
theorem zsl (a b:Str):decide ((Sum.inr a:Key)=Sum.inr b)=decide (a=b):=by
 by_cases e:a=b
 . subst e;simp
 . have h:¬(Sum.inr a:Key)=Sum.inr b:=fun q=>e (Sum.inr.inj q)
   rw [decide_eq_false h,decide_eq_false e]
theorem zsm (a:Int) (b:Str):decide ((Sum.inl a:Key)=Sum.inr b)=false:=decide_eq_false (fun q=>nomatch q)
theorem zsn (a:Str) (b:Int):decide ((Sum.inr a:Key)=Sum.inl b)=false:=decide_eq_false (fun q=>nomatch q)
noncomputable def z18 (prog:Program) (w:World):PySem.KeyKind prog w Key where
 is:=zeo
 hash:=y38 w
 inj:=fun v a b ha hb=>by
  rcases z0p ha with ⟨i,t,rfl,rfl⟩ | ⟨x,t,rfl,rfl⟩
  . rcases z0p hb with ⟨j,u,rfl,e⟩ | ⟨y,u,rfl,e⟩
    . injection e with e1 _;rw [e1]
    . exact nomatch e
  . rcases z0p hb with ⟨j,u,rfl,e⟩ | ⟨y,u,rfl,e⟩
    . exact nomatch e
    . injection e with e1 _;rw [e1]
 byValue:=fun k v h=>by
  rcases z0p h with ⟨i,t,rfl,rfl⟩ | ⟨x,t,rfl,rfl⟩<;>rfl
 pyHash:=fun hv h=>by
  rcases z0p hv with ⟨i,t,rfl,rfl⟩ | ⟨x,t,rfl,rfl⟩
  . exact wpAny_pyHash_int h
  . exact wpAny_pyHash_str h
 eqBool:=fun hu hv h=>by
  rcases z0p hu with ⟨i,t,rfl,rfl⟩ | ⟨x,t,rfl,rfl⟩
  . rcases z0p hv with ⟨j,u,rfl,rfl⟩ | ⟨y,u,rfl,rfl⟩
    . rw [zsk] at h;exact wpAny_eqBool_int h
    . rw [zsm] at h;exact SeqAt.EqAt.int_str i t y u _ _ _ _ h
  . rcases z0p hv with ⟨j,u,rfl,rfl⟩ | ⟨y,u,rfl,rfl⟩
    . rw [zsn] at h;exact SeqAt.EqAt.str_int x t j u _ _ _ _ h
    . rw [zsl] at h;exact wpAny_eqBool_str h
 «strs»:=fun k x t v h=>by
  rcases z0p h with ⟨i,u,rfl,e⟩ | ⟨y,u,rfl,e⟩
  . exact nomatch e
  . injection e with e1 _
    subst e1
    cases v<;>rfl
theorem zbl (prog:Program) (w:World) (i:Int) (t:Tok):(z18 prog w).is (.inl i) (.int i t)=true:=zfo i t
theorem zbm (prog:Program) (w:World) (x:Str) (t:Tok):(z18 prog w).is (.inr x) (.str x t)=true:=zfp x t
inductive V where
 | non | bl (b:Bool) | int (i:Int) | str (x:Str) | byt (b:Array UInt8) | flt (b:UInt64) | ref (a:Addr) | ty (n:String)
 deriving DecidableEq
def RelV:V->Value->Prop
 | .non,u=>u=Value.none
 | .bl b,u=>u=Value.bool b
 | .int i,u=>∃t,u=Value.int i t
 | .str x,u=>∃t,u=Value.str x t
 | .byt b,u=>∃t,u=Value.bytes b t
 | .flt b,u=>∃t,u=Value.float b t
 | .ref a,u=>u=Value.ref a
 | .ty n,u=>u=Value.type n
abbrev Vals:List V->List Value->Prop:=Paired RelV
theorem Vals.length {xs:List V} {us:List Value} (r:Vals xs us):xs.length=us.length:=Paired.length r
theorem Vals.get:∀{xs:List V} {us:List Value} {i:Nat} {x:V},Vals xs us->xs[i]?=some x->∃u,us[i]?=some u/\RelV x u
 | _,_,_,_,.nil,e=>by simp at e
 | _,_,0,_,.cons r _,e=>by simp at e;subst e;exact ⟨_,rfl,r⟩
 | _,_,i+1,x,.cons _ t,e=>by
  obtain ⟨u,h1,h2⟩:=Vals.get (i:=i) (x:=x) t (by simpa using e)
  exact ⟨u,by simpa using h1,h2⟩
theorem Vals.set {x:V} {u:Value} (r:RelV x u):∀{xs:List V} {us:List Value} (i:Nat),Vals xs us->Vals (xs.set i x) (us.set i u)
 | _,_,_,.nil=>.nil
 | _,_,0,.cons _ t=>.cons r t
 | _,_,i+1,.cons q t=>.cons q (Vals.set r i t)
theorem Vals.append:∀{xs ys:List V} {us ws:List Value},Vals xs us->Vals ys ws->Vals (xs++ys) (us++ws)
 | _,_,_,_,.nil,s=>s
 | _,_,_,_,.cons r t,s=>.cons r (Vals.append t s)
theorem Vals.take:∀{xs:List V} {us:List Value} (n:Nat),Vals xs us->Vals (xs.take n) (us.take n)
 | _,_,0,_=>.nil
 | _,_,_+1,.nil=>.nil
 | _,_,n+1,.cons r t=>.cons r (Vals.take n t)
theorem Vals.drop:∀{xs:List V} {us:List Value} (n:Nat),Vals xs us->Vals (xs.drop n) (us.drop n)
 | _,_,0,r=>r
 | _,_,_+1,.nil=>.nil
 | _,_,n+1,.cons _ t=>Vals.drop n t
def RelO:Option V->Option Value->Prop
 | some v,some u=>RelV v u
 | none,none=>True
 | _,_=>False
def KV {κ:Type}:List (κ×V)->List (κ×Value)->Prop:=Paired fun (p:κ×V) (q:κ×Value)=>p.1=q.1/\RelV p.2 q.2
noncomputable def kV:Key->V
 | .inl i=>.int i
 | .inr x=>.str x
def IsTp (h:Heap) (a:Addr) (its:Array Value):Prop:=∃o,h.get? a=some o/\o.cls=.type "tuple"/\(∃n,o.data=.seq its n)/\o.dict=none
theorem IsTp.tup {h:Heap} {a:Addr} {its:Array Value} (p:IsTp h a its):IsTup h a its:=by obtain ⟨o,e,c,d,_⟩:=p;exact ⟨o,e,c,d⟩
theorem IsTp.lt {h:Heap} {a:Addr} {its:Array Value} (p:IsTp h a its):a<h.objs.size:=by obtain ⟨o,e,_⟩:=p;exact Heap.lt_size e
theorem IsTp.mk' {h:Heap} {a:Addr} {its:Array Value} {n:Nat} {sl:Array (Option Value)} (e:h.get? a=some { cls:=.type "tuple",data:=.seq its n,slots:=sl }):IsTp h a its:=⟨_,e,rfl,⟨n,rfl⟩,rfl⟩
inductive HO where
 /-- a list -/
 | lst (xs:List V)
 /-- a tuple (never changes) -/
 | tup (xs:List V)
 /-- a dict whose keys are ints and texts;one whose keys are tuples of ints and texts (the empty one is both) -/
 | dK (kvs:List (Key×V)) | dT (kvs:List (List Key×V))
 /-- a set of ints: its members,its size -/
 | set (S:Int->Bool) (n:Nat)
 /-- an instance of the class at C,its dict at dx,its attributes -/
 | ins (C dx:Addr) (fs:List (Str×V))
 /-- the dict of the instance at x -/
 | own (x:Addr)
 /-- the dict of an exception -/
 | xd (fs:List (Str×V))
 /-- a bound method,f of x -/
 | met (f x:Addr)
 /-- a range object lo,lo+1,.. below hi -/
 | rng (lo hi:Int)
 /-- a thing that is known to the object (the script;a dict while a loop walks it): read,never written while it is so -/
 | frz (o:Obj) (u:HO)
 /-- a code object's table -/
 | tbl (ps:Array Value)
 /-- the table of a def that makes lambdas,all of the qualname q -/
 | ctb (q:Str)
 /-- any other thing,by what is true of its one object (a def of one's own: SetO a S n:=HO.ext fun h=>..) -/
 | ext (φ:Heap->Prop)
abbrev Hp:=Addr->Option HO
noncomputable def upd (H:Hp) (a:Addr) (o:HO):Hp:=fun b=>if b=a then some o else H b
theorem z0c {H:Hp} {a:Addr} {o:HO}:upd H a o a=some o:=by unfold upd;rw [if_pos rfl]
theorem z0a {H:Hp} {a b:Addr} {o:HO} (h:b≠a):upd H a o b=H b:=by unfold upd;rw [if_neg h]
theorem zyt {H:Hp} {a b:Addr} {o u:HO} (h:H a=some o) (h':H b=some u) (d:o≠u):a≠b:=by
 intro e;subst e;rw [h] at h';exact d (Option.some.inj h')
theorem z0b {H:Hp} {a b:Addr} {o:HO} (h:H a=some o) (h':H b=none):a≠b:=by
 intro e;subst e;rw [h] at h';cases h'
section
variable (P:Program) (w:World)
def ObjOk (H:Hp) (h:Heap) (a:Addr):HO->Prop
 | .lst xs=>xs.length<=sizeLine/\∃(its:List Value) (n:Nat),Vals xs its/\h.get? a=some { cls:=.type "list",data:=.seq its.toArray n }
 | .tup xs=>xs.length<=sizeLine/\∃its:List Value,Vals xs its/\IsTp h a its.toArray
 | .dK kvs=>kvs.length<=sizeLine/\(a==sysModules)=false/\∃vs,KV kvs vs/\h.DictOf (z18 P w) a vs
 | .dT kvs=>kvs.length<=sizeLine/\(a==sysModules)=false/\∃xs:List (List Key×Addr×Value),
  Paired (fun (p:List Key×V) (q:List Key×Addr×Value)=>p.1=q.1/\H q.2.1=some (.tup (p.1.map kV))/\RelV p.2 q.2.2) kvs xs /\
  ∃o es ep,h.get? a=some o/\o.ExactDict/\o.data=.dict es ep/\es.toList=xs.map (entryOfKey (tupleKind (z18 P w)))/\(xs.map (·.1)).Nodup
 | .set S n=>h.SetOf (intKind P w) a S n
 | .ins C dx fs=>H dx=some (.own a)/\fs.length<=1000/\dx≠a/\h.get? a=some (PySem.W.instObj C dx) /\
  ∃mA,h.Ns1 dx mA/\(∀f,RelO (fs.lookup f) (mA f))/\PySem.Within mA (fs.map (·.1))
 | .own _=>∃o,h.get? a=some o
 | .xd fs=>∃mA,h.Ns1 a mA/\∀f,RelO (fs.lookup f) (mA f)
 | .rng lo hi=>∃t u v,h.get? a=some { cls:=.type "range",data:=.fields #[.int lo t,.int hi u,.int 1 v] }
 | .frz o u=>h.get? a=some o/\ObjOk H h a u
 | .tbl ps=>h.get? a=some { cls:=.none,data:=.fields ps }
 | .ctb q=>∃ps:Array Value,h.get? a=some { cls:=.none,data:=.fields ps }/\TriplesOk ps.toList/\∀(pos:Pos) (v:Value),codeAmong pos ps.toList=some v->∃c,v=.ref c/\H c=some (.own a)/\h.CodeRec (.ref c) q
 | .met f x=>h.get? a=some (PySem.W.methodObj (.ref f) (.ref x))
 | .ext φ=>φ h/\(∃o,h.get? a=some o)/\∀h1 h2:Heap,φ h1->(∀o,h1.get? a=some o->h2.get? a=some o)->φ h2
def HOk (H:Hp) (h:Heap):Prop:=∀a o,H a=some o->ObjOk P w H h a o
end
section
variable {P:Program} {w:World} {H H':Hp} {h h':Heap} {a:Addr} {o:HO}
theorem ObjOk.lt (x:ObjOk P w H h a o):a<h.objs.size:=by
 cases o with
 | lst xs=>obtain ⟨_,_,_,_,e⟩:=x;exact Heap.lt_size e
 | tup xs=>obtain ⟨_,_,_,p⟩:=x;exact p.lt
 | dK kvs=>obtain ⟨_,_,_,_,o,_,_,e,_⟩:=x;exact Heap.lt_size e
 | dT kvs=>obtain ⟨_,_,_,_,o,_,_,e,_⟩:=x;exact Heap.lt_size e
 | set S n=>obtain ⟨o,_,_,_,e,_⟩:=x;exact Heap.lt_size e
 | ins C dx fs=>obtain ⟨_,_,_,e,_⟩:=x;exact Heap.lt_size e
 | own y=>obtain ⟨_,e⟩:=x;exact Heap.lt_size e
 | xd fs=>obtain ⟨_,⟨_,_,_,e,_⟩,_⟩:=x;exact Heap.lt_size e
 | rng lo hi=>obtain ⟨_,_,_,e⟩:=x;exact Heap.lt_size e
 | frz ob u=>obtain ⟨e,_⟩:=x;exact Heap.lt_size e
 | tbl ps=>exact Heap.lt_size (show h.get? a=some _ from x)
 | ctb q=>obtain ⟨_,e,_⟩:=x;exact Heap.lt_size e
 | met f y=>exact Heap.lt_size (show h.get? a=some _ from x)
 | ext φ=>obtain ⟨_,⟨_,e⟩,_⟩:=x;exact Heap.lt_size e
theorem Paired.mapP {α β:Type} {F G:α->β->Prop}:∀{l₁:List α} {l₂:List β},Paired F l₁ l₂->(∀a b,F a b->G a b)->Paired G l₁ l₂
 | _,_,.nil,_=>.nil
 | _,_,.cons r t,f=>.cons (f _ _ r) (Paired.mapP t f)
theorem ObjOk.stay (x:ObjOk P w H h a o) (k:∀b u,(b=a\/H b=some (.own a))->h.get? b=some u->h'.get? b=some u)
  (ho:∀b,H b=some (.own a)->H' b=some (.own a)) (ht:∀b xs,H b=some (.tup xs)->H' b=some (.tup xs)):ObjOk P w H' h' a o:=by
 induction o with
 | lst xs=>obtain ⟨z,its,n,r,e⟩:=x;exact ⟨z,its,n,r,k _ _ (.inl rfl) e⟩
 | tup xs=>obtain ⟨z,its,r,ob,e,c⟩:=x;exact ⟨z,its,r,ob,k _ _ (.inl rfl) e,c⟩
 | dK kvs=>obtain ⟨z,y,vs,r,ob,es,ep,e,c⟩:=x;exact ⟨z,y,vs,r,ob,es,ep,k _ _ (.inl rfl) e,c⟩
 | dT kvs=>
  obtain ⟨z,y,xs,r,ob,es,ep,e,c⟩:=x
  exact ⟨z,y,xs,Paired.mapP r fun p q z=>⟨z.1,ht _ _ z.2.1,z.2.2⟩,ob,es,ep,k _ _ (.inl rfl) e,c⟩
 | set S n=>obtain ⟨ob,es,ep,t,e,c⟩:=x;exact ⟨ob,es,ep,t,k _ _ (.inl rfl) e,c⟩
 | ins C dx fs=>
  obtain ⟨d,z,ne,e,mA,⟨od,es,ep,e2,c⟩,r⟩:=x
  exact ⟨ho _ d,z,ne,k _ _ (.inl rfl) e,mA,⟨od,es,ep,k _ _ (.inr d) e2,c⟩,r⟩
 | own y=>obtain ⟨ob,e⟩:=x;exact ⟨ob,k _ _ (.inl rfl) e⟩
 | xd fs=>obtain ⟨mA,⟨od,es,ep,e,c⟩,r⟩:=x;exact ⟨mA,⟨od,es,ep,k _ _ (.inl rfl) e,c⟩,r⟩
 | rng lo hi=>obtain ⟨t,u,v,e⟩:=x;exact ⟨t,u,v,k _ _ (.inl rfl) e⟩
 | frz ob u ih=>obtain ⟨e,q⟩:=x;exact ⟨k _ _ (.inl rfl) e,ih q⟩
 | tbl ps=>
  have e:h.get? a=some { cls:=.none,data:=.fields ps }:=x
  show h'.get? a=some { cls:=.none,data:=.fields ps }
  exact k a _ (.inl rfl) e
 | ctb q=>
  obtain ⟨ps,e,t,c⟩:=x
  refine ⟨ps,k _ _ (.inl rfl) e,t,fun pos v hb=>?_⟩
  obtain ⟨b,rfl,z,c2,oc,vs,tq,e1,e2,e3⟩:=c pos v hb
  cases e1
  exact ⟨b,rfl,ho _ z,b,oc,vs,tq,rfl,k _ _ (.inr z) e2,e3⟩
 | met f y=>
  have e:h.get? a=some (PySem.W.methodObj (.ref f) (.ref y)):=x
  show h'.get? a=some (PySem.W.methodObj (.ref f) (.ref y))
  exact k a _ (.inl rfl) e
 | ext φ=>obtain ⟨p,⟨o,e⟩,st⟩:=x;exact ⟨st _ _ p fun o q=>k _ _ (.inl rfl) q,⟨o,k _ _ (.inl rfl) e⟩,st⟩
theorem HOk.lt (x:HOk P w H h) (e:H a=some o):a<h.objs.size:=(x a o e).lt
theorem HOk.fresh (x:HOk P w H h) (e:h.objs.size<=a):H a=none:=by
 cases q:H a with
 | none=>rfl
 | some u=>exact absurd (Nat.lt_of_lt_of_le (x.lt q) e) (Nat.lt_irrefl _)
theorem HOk.kept (x:HOk P w H h) (k:∀b u,h.get? b=some u->h'.get? b=some u):HOk P w H h':=fun a o e=>
 (x a o e).stay (fun b u _ q=>k b u q) (fun _ q=>q) fun _ _ q=>q
theorem HOk.laid (x:HOk P w H h) (k:∀b u,h.get? b=some u->h'.get? b=some u) (hp:h.objs.size<=a) (new:ObjOk P w (upd H a o) h' a o):HOk P w (upd H a o) h':=fun b u e=>by
 have hn:=x.fresh hp
 by_cases hb:b=a
 . subst hb;rw [z0c] at e;cases e;exact new
 . rw [z0a hb] at e
   exact (x b u e).stay (fun c v _ q=>k c v q) (fun c q=>by rw [z0a (z0b q hn)];exact q) fun c xs q=>by rw [z0a (z0b q hn)];exact q
end
def Rd (H:Hp) (a:Addr) (u:HO):Prop:=H a=some u\/∃o,H a=some (.frz o u)
theorem Rd.of {H:Hp} {a:Addr} {u:HO} (h:H a=some u):Rd H a u:=.inl h
theorem Rd.ok {P:Program} {w:World} {H:Hp} {h:Heap} {a:Addr} {u:HO} (r:Rd H a u) (x:HOk P w H h):ObjOk P w H h a u:=by
 rcases r with r | ⟨o,r⟩
 . exact x a u r
 . obtain ⟨_,q⟩:=x a _ r
   exact q
def Mut:Option HO->Prop
 | some (.lst _)=>True
 | some (.dK _)=>True
 | some (.dT _)=>True
 | some (.set _ _)=>True
 | some (.ins _ _ _)=>True
 | some (.ext _)=>True
 | _=>False
section
variable {P:Program} {w:World} {H:Hp} {h h':Heap} {x e:Addr} {o':HO}
theorem HOk.write (ok:HOk P w H h) (mu:Mut (H x)) (he:e=x\/H e=some (.own x)) (k:∀b u,b≠e->h.get? b=some u->h'.get? b=some u) (heo:∃u,h'.get? e=some u)
  (new:ObjOk P w (upd H x o') h' x o'):HOk P w (upd H x o') h':=fun b u q=>by
 have nown:∀c y,H c=some (.own y)->c≠x:=fun c y r z=>by subst z;rw [r] at mu;exact mu
 have ntup:∀c xs,H c=some (.tup xs)->c≠x:=fun c xs r z=>by subst z;rw [r] at mu;exact mu
 by_cases hb:b=x
 . subst hb;rw [z0c] at q;cases q;exact new
 . rw [z0a hb] at q
   by_cases hbe:b=e
   . have q':H b=some (.own x):=by
      rcases he with z | z
      . exact absurd (hbe.trans z) hb
      . rw [hbe];exact z
     rw [q] at q';cases q'
     obtain ⟨v,hv⟩:=heo
     exact ⟨v,by rw [hbe];exact hv⟩
   . refine (ok b u q).stay (fun c v hc r=>k c v ?_ r) (fun c r=>by rw [z0a (nown c b r)];exact r) fun c xs r=>by rw [z0a (ntup c xs r)];exact r
     rcases hc with rfl | hc
     . exact hbe
     . rintro rfl
       rcases he with z | z
       . exact nown c b hc z
       . rw [hc] at z;cases z;exact hb rfl
end
structure Un (fs ex:List Addr) (H H':Hp) (h h':Heap):Prop where
 keep:∀b o,h.get? b=some o->H b=none->b∉fs->b∉ex->h'.get? b=some o
 slot:∀b o,h.get? b=some o->H b=none->b∈fs->b∉ex->∃sl,h'.get? b=some { o with slots:=sl }
 free:∀b o,h.get? b=some o->H b=none->b∉ex->H' b=none
 there:∀b o,h.get? b=some o->b∉ex->∃o',h'.get? b=some o'
 tups:∀b xs,H b=some (.tup xs)->H' b=some (.tup xs)
 frzs:∀b o u,H b=some (.frz o u)->H' b=some (.frz o u)
 tbls:∀b ps,H b=some (.tbl ps)->∃more,H' b=some (.tbl (ps++more))
section
variable {fs ex:List Addr} {H H1 H2:Hp} {h h1 h2 h':Heap} {a x e:Addr} {o:HO}
theorem Un.any (u:Un fs ex H H1 h h1) {b:Addr} {ob:Obj} (q:h.get? b=some ob) (n:H b=none) (hx:b∉ex):∃sl,h1.get? b=some { ob with slots:=sl }:=by
 by_cases hb:b∈fs
 . exact u.slot b ob q n hb hx
 . exact ⟨ob.slots,u.keep b ob q n hb hx⟩
theorem Un.trans (a:Un fs ex H H1 h h1) (b:Un fs ex H1 H2 h1 h2):Un fs ex H H2 h h2 where
 keep:=fun c ob q n hc hx=>b.keep c ob (a.keep c ob q n hc hx) (a.free c ob q n hx) hc hx
 slot:=fun c ob q n hc hx=>by
  obtain ⟨sl,e1⟩:=a.slot c ob q n hc hx
  obtain ⟨sl',e2⟩:=b.slot c _ e1 (a.free c ob q n hx) hc hx
  exact ⟨sl',e2⟩
 free:=fun c ob q n hx=>by
  obtain ⟨o',e1⟩:=a.there c ob q hx
  exact b.free c o' e1 (a.free c ob q n hx) hx
 there:=fun c ob q hx=>by
  obtain ⟨o',e1⟩:=a.there c ob q hx
  exact b.there c o' e1 hx
 tups:=fun c xs q=>b.tups c xs (a.tups c xs q)
 frzs:=fun c ob xs q=>b.frzs c ob xs (a.frzs c ob xs q)
 tbls:=fun c ps q=>by
  obtain ⟨m1,e1⟩:=a.tbls c ps q
  obtain ⟨m2,e2⟩:=b.tbls c _ e1
  exact ⟨m1++m2,by rw [e2,Array.append_assoc]⟩
theorem Un.kept (k:∀b u,h.get? b=some u->h'.get? b=some u):Un fs ex H H h h':=
 ⟨fun b ob q _ _ _=>k b ob q,fun b ob q _ _ _=>⟨ob.slots,k b ob q⟩,fun _ _ _ n _=>n,fun b ob q _=>⟨ob,k b ob q⟩,fun _ _ q=>q,fun _ _ _ q=>q,fun _ ps q=>⟨#[],by rw [q];simp⟩⟩
theorem Un.refl:Un fs ex H H h h:=Un.kept fun _ _ q=>q
theorem Un.laid (k:∀b u,h.get? b=some u->h'.get? b=some u) (hp:h.objs.size<=a) (hn:H a=none):Un fs ex H (upd H a o) h h' where
 keep:=fun b u q _ _ _=>k b u q
 slot:=fun b u q _ _ _=>⟨u.slots,k b u q⟩
 free:=fun b u q n _=>by rw [z0a (Nat.ne_of_lt (Nat.lt_of_lt_of_le (Heap.lt_size q) hp))];exact n
 there:=fun b u q _=>⟨u,k b u q⟩
 tups:=fun b xs q=>by rw [z0a (z0b q hn)];exact q
 frzs:=fun b u xs q=>by rw [z0a (z0b q hn)];exact q
 tbls:=fun b ps q=>⟨#[],by rw [z0a (z0b q hn),q];simp⟩
theorem Un.write (mu:Mut (H x)) (he:e=x\/H e=some (.own x)) (k:∀b u,b≠e->h.get? b=some u->h'.get? b=some u) (heo:∃u,h'.get? e=some u):Un fs ex H (upd H x o) h h':=by
 have hx:∀b,H b=none->b≠x:=fun b n z=>by subst z;rw [n] at mu;exact mu
 have hb:∀b,H b=none->b≠e:=fun b n z=>by
  subst z
  rcases he with r | r
  . exact hx b n r
  . rw [n] at r;cases r
 have hm:∀b u,H b=some u->¬Mut (some u)->b≠x:=fun b u q nm z=>by subst z;rw [q] at mu;exact nm mu
 refine ⟨fun b u q n _ _=>k b u (hb b n) q,fun b u q n _ _=>⟨u.slots,k b u (hb b n) q⟩,fun b u q n _=>by rw [z0a (hx b n)];exact n,fun b u q _=>?_,
  fun b xs q=>by rw [z0a (hm b _ q fun z=>z)];exact q,fun b u xs q=>by rw [z0a (hm b _ q fun z=>z)];exact q,fun b ps q=>⟨#[],by rw [z0a (hm b _ q fun z=>z),q];simp⟩⟩
 by_cases hbe:b=e
 . subst hbe;exact heo
 . exact ⟨u,k b u hbe q⟩
end
noncomputable def trk (h:Heap) (H:Hp):List Addr:=(List.range h.objs.size).filter fun a=>(H a).isSome
noncomputable def zk9 (h:Heap) (H:Hp):Heap:=hideAll h (trk h H)
theorem zfq (h:Heap) (H:Hp):(zk9 h H).objs.size=h.objs.size:=PySem.W.hideAll_size _ _
theorem zka {h:Heap} {H:Hp} {b:Addr} {o:Obj} (e:h.get? b=some o) (n:H b=none):(zk9 h H).get? b=some o:=
 hideAll_get _ e fun hm=>by
  have q:(H b).isSome=true:=(List.mem_filter.mp hm).2
  rw [n] at q;simp at q
theorem zos {h:Heap} {H:Hp} {b:Addr} {o:Obj} (e:(zk9 h H).get? b=some o):h.get? b=some o/\H b=none:=by
 have e':h.get? b=some o:=PySem.W.of_hideAll (trk h H) e
 refine ⟨e',?_⟩
 cases q:H b with
 | none=>rfl
 | some x=>
  have hm:b∈trk h H:=List.mem_filter.mpr ⟨List.mem_range.mpr (Heap.lt_size e'),by simp [q]⟩
  have z:(zk9 h H).get? b=none:=hideAll_none (trk h H) hm
  rw [z] at e;cases e
noncomputable def z6l (g h:Heap) (L:Addr):List (Addr×Obj):=(List.range h.objs.size).filterMap fun a=>if a=L\/(g.get? a).isSome=true then none else (h.get? a).map fun o=>(a,o)
theorem z6m {g h:Heap} {L a:Addr} {o:Obj} (h1:a≠L) (h2:g.get? a=none) (h3:h.get? a=some o):(a,o)∈z6l g h L:=
 List.mem_filterMap.mpr ⟨a,List.mem_range.mpr (Heap.lt_size h3),by simp [h1,h2,h3]⟩
theorem z7i {g h:Heap} {L:Addr} {p:Addr×Obj} (hp:p∈z6l g h L):p.1≠L/\g.get? p.1=none/\h.get? p.1=some p.2:=by
 obtain ⟨b,_,e⟩:=List.mem_filterMap.mp hp
 split at e
 . cases e
 . rename_i hn
   cases q:h.get? b with
   | none=>rw [q] at e;simp at e
   | some u=>
    rw [q] at e
    simp only [Option.map_some,Option.some.injEq] at e
    subst e
    refine ⟨fun z=>hn (.inl z),?_,q⟩
    show g.get? b=none
    cases r:g.get? b with
    | none=>rfl
    | some v=>exact (hn (.inr (by simp [r]))).elim
noncomputable def rest (g h:Heap) (L d:Addr):List (Addr×Obj):=(z6l g h L).filter fun p=>decide (p.1≠d)
theorem zd3 {g h:Heap} {L:Addr}:News g L h (z6l g h L):=fun p hp=>let ⟨a,b,c⟩:=z7i hp;⟨c,a,b⟩
structure Mod (K:Frag) (mg:Str->Option Value) (base:Heap):Prop where
 kin:K.In base
 glob:base.Ns mainGlobals mg
 blt:∃mb,base.Ns builtinsNs mb/\∀x:Str,x≠"__name__"->mb x=bootBuiltins x
 nolimit:base.NoLimit
structure Cx where
 prog:Program
 w:World
 K:Frag
 mg:Str->Option Value
 base:Heap
 A:Around
 N:List Str
 s₀:Shared
 H₀:Hp
 env:Env
 outer:List Env
 stack:List Env
 ex:List Addr
 fn:Str->Bool
 calm:Bool
 pn:List (Addr×Obj)
 xe:Value->Shared->Prop
noncomputable def frs (l:List Env):List Addr:=l.filterMap (·.frame)
abbrev Cx.fs (X:Cx):List Addr:=frs X.outer
def Vis (sc:Scope) (x:Str):Prop:=sc.names.lookup x=some .local\/sc.names.lookup x=some .cell\/sc.names.lookup x=some .free
def Loc (sc:Scope) (x:Str):Prop:=sc.names.lookup x=some .local\/sc.names.lookup x=some .cell
def y39 (env:Env) (h:Heap) (m:Str->Option Value) (x:Str) (u:Value):Prop:=
 (env.kindOf x=some .local/\m x=some u)\/((env.kindOf x=some .cell\/env.kindOf x=some .free)/\∃c,env.cells.lookup x=some c/\h.IsCell c (some u))
structure Cx.Ok (X:Cx):Prop where
 mod:Mod X.K X.mg X.base
 kind:X.env.scope.kind=.function
 glob:X.env.globals=mainGlobals
 blt:X.env.builtins=builtinsNs
 above:X.s₀.heap.objs.size<=X.env.locals
 inj:∀x y c,X.env.cells.lookup x=some c->X.env.cells.lookup y=some c->x=y
 has:∀x,(X.env.kindOf x=some .cell\/X.env.kindOf x=some .free)->∃c,X.env.cells.lookup x=some c
 cab:∀x c,X.fn x=true->X.env.cells.lookup x=some c->X.s₀.heap.objs.size<=c
 hd:X.calm=true->X.A.handled=none
 frames:X.A.frames=some X.stack
 stk:X.stack=X.outer\/(X.stack=X.env::X.outer/\X.env.frame=some X.env.locals)
 exf:∀b∈X.ex,b≠X.env.locals/\∀x c,X.env.cells.lookup x=some c->c≠b
 bs:∀b o,X.base.get? b=some o->X.s₀.heap.get? b=some o/\X.H₀ b=none
 bsz:X.base.objs.size<=X.s₀.heap.objs.size
 noex:∀b o,X.base.get? b=some o->b∉X.ex
 exfs:∀b∈X.ex,b∉X.fs
 funs:X.s₀.heap.FunFrames X.base X.outer
 frf:∀b∈X.fs,X.H₀ b=none
structure Inv (X:Cx) (pins:List (Addr×Obj)) (U:List (Option V)) (H:Hp) (s:Shared):Prop where
 ok:X.Ok
 os:s.os=X.s₀.os
 bare:AllBare s.gens
 base:Un X.fs X.ex X.H₀ H X.s₀.heap s.heap
 loc:∃m,s.heap.Ns X.env.locals m/\∀(i:Nat) (x:Str) (v:V),X.N[i]?=some x->U[i]?=some (some v)->Vis X.env.scope x->∃u,RelV v u/\y39 X.env s.heap m x u
 cell:∀x c,X.env.cells.lookup x=some c->∃v,s.heap.IsCell c v
 free:H X.env.locals=none
 freeC:∀x c,X.env.cells.lookup x=some c->H c=none
 pin:∀p∈X.pn++pins,s.heap.get? p.1=some p.2/\H p.1=none/\p.1≠X.env.locals/\p.1∉X.fs/\∀v,p.2.data≠.cell v
 hok:HOk X.prog X.w H s.heap
 len:U.length=X.N.length
section
variable {X:Cx} {pins:List (Addr×Obj)} {U:List (Option V)} {H H':Hp} {s:Shared} {h':Heap}
theorem Cx.Ok.nofr (ok:X.Ok) {b:Addr} {o:Obj} (e:X.base.get? b=some o):b∉X.fs:=fun hb=>by
 have:=(ok.funs.mem hb).1
 rw [e] at this;cases this
theorem Inv.bs (I:Inv X pins U H s):∀b o,X.base.get? b=some o->s.heap.get? b=some o/\H b=none:=fun b o e=>
 ⟨I.base.keep b o (I.ok.bs b o e).1 (I.ok.bs b o e).2 (I.ok.nofr e) (I.ok.noex b o e),I.base.free b o (I.ok.bs b o e).1 (I.ok.bs b o e).2 (I.ok.noex b o e)⟩
theorem Inv.bk (I:Inv X pins U H s):∀b o,X.base.get? b=some o->s.heap.get? b=some o:=fun b o e=>(I.bs b o e).1
theorem Inv.mod (I:Inv X pins U H s):Mod X.K X.mg X.base:=I.ok.mod
theorem Inv.kIn (I:Inv X pins U H s):X.K.In s.heap:=I.ok.mod.kin.keeps I.bk
theorem Inv.lt (I:Inv X pins U H s):X.env.locals<s.heap.objs.size:=let ⟨_,hn,_⟩:=I.loc;hn.lt
theorem Inv.sz (I:Inv X pins U H s):X.s₀.heap.objs.size<=s.heap.objs.size:=Nat.le_trans I.ok.above (Nat.le_of_lt I.lt)
theorem Inv.nofs (I:Inv X pins U H s) {a:Addr} (h:s.heap.objs.size<=a):a∉X.fs:=fun hb=>by
 obtain ⟨_,o,ho,_⟩:=I.ok.funs.mem hb
 exact absurd (Nat.lt_of_lt_of_le (Heap.lt_size ho) (Nat.le_trans I.sz h)) (Nat.lt_irrefl _)
theorem Inv.cne (I:Inv X pins U H s):∀x c,X.env.cells.lookup x=some c->c≠X.env.locals:=fun x c e z=>by
 obtain ⟨v,o,ho,hd⟩:=I.cell x c e
 obtain ⟨m,⟨o',es,ep,ho',hd',_⟩,_⟩:=I.loc
 rw [z,ho'] at ho;cases ho;rw [hd'] at hd;cases hd
theorem Inv.funs (I:Inv X pins U H s):s.heap.FunFrames X.base X.outer:=by
 have all:∀(l:List Env),(∀b∈frs l,b∈X.fs)->X.s₀.heap.FunFrames X.base l->s.heap.FunFrames X.base l:=by
  intro l
  induction l with
  | nil=>intro _ _;trivial
  | cons env r ih=>
   intro hs hl
   obtain ⟨hk,⟨L,o,hf,hn,ho,hd⟩,hr⟩:=hl
   have hL:L∈X.fs:=hs L (by unfold frs;rw [List.filterMap_cons,hf];exact List.mem_cons_self)
   obtain ⟨sl,e⟩:=I.base.slot L o ho (I.ok.frf L hL) hL fun z=>I.ok.exfs L z hL
   exact ⟨hk,⟨L,_,hf,hn,e,hd⟩,ih (fun b hb=>hs b (by unfold frs;rw [List.filterMap_cons,hf];exact List.mem_cons_of_mem _ hb)) hr⟩
 exact all X.outer (fun _ hb=>hb) I.ok.funs
theorem Inv.stack (I:Inv X pins U H s):s.heap.FunFrames X.base X.stack:=by
 rcases I.ok.stk with e | ⟨e,hf⟩
 . rw [e];exact I.funs
 . rw [e]
   obtain ⟨m,hn,_⟩:=I.loc
   refine .cons (by rw [I.ok.kind];decide) hf hn ?_ I.funs
   exact Heap.get?_none_of_le (Nat.le_trans I.ok.bsz I.ok.above)
theorem Inv.stkSub (I:Inv X pins U H s):∀b∈frs X.stack,b∈X.env.locals::X.fs:=fun b hb=>by
 rcases I.ok.stk with e | ⟨e,hf⟩
 . rw [e] at hb;exact List.mem_cons_of_mem _ hb
 . rw [e] at hb
   unfold frs at hb
   rw [List.filterMap_cons,hf] at hb
   exact hb
theorem Inv.stkFree (I:Inv X pins U H s):∀b∈frs X.stack,H b=none:=fun b hb=>by
 rcases List.mem_cons.mp (I.stkSub b hb) with e | hb
 . rw [e];exact I.free
 . obtain ⟨_,o,ho,_⟩:=I.ok.funs.mem hb
   exact I.base.free b o ho (I.ok.frf b hb) fun z=>I.ok.exfs b z hb
theorem Inv.step {g':Array GenState} {t':Nat} {d':Drawn} {ch:List Addr} (I:Inv X pins U H s)
  (hch:∀b∈ch,(b∈X.ex\/X.s₀.heap.objs.size<=b)/\b≠X.env.locals/\(∀x c,X.env.cells.lookup x=some c->c≠b)/\∀p∈X.pn++pins,p.1≠b)
  (keep:∀b o,b≠X.env.locals->b∉X.fs->b∉ch->s.heap.get? b=some o->H b=none->h'.get? b=some o)
  (slot:∀b o,b≠X.env.locals->b∈X.fs->b∉ch->s.heap.get? b=some o->H b=none->∃sl,h'.get? b=some { o with slots:=sl }) (free:∀b o,b∉ch->s.heap.get? b=some o->H b=none->H' b=none)
  (there:∀b o,b∉ch->s.heap.get? b=some o->∃o',h'.get? b=some o')
  (tups:∀b xs,H b=some (.tup xs)->H' b=some (.tup xs)) (frzs:∀b o u,H b=some (.frz o u)->H' b=some (.frz o u)) (tbls:∀b ps,H b=some (.tbl ps)->∃more,H' b=some (.tbl (ps++more)))
  (ns:∀m,s.heap.Ns X.env.locals m->h'.Ns X.env.locals m) (hok:HOk X.prog X.w H' h') (hg:AllBare g') :
  Inv X pins U H' { s with heap:=h',gens:=g',drawn:=d',toks:=t' }:=by
 have neL:∀b o,X.s₀.heap.get? b=some o->b≠X.env.locals:=fun b o e=>Nat.ne_of_lt (Nat.lt_of_lt_of_le (Heap.lt_size e) I.ok.above)
 have neC:∀b o,X.s₀.heap.get? b=some o->b∉X.ex->b∉ch:=fun b o e hx hb=>by
  rcases (hch b hb).1 with z | z
  . exact hx z
  . exact absurd (Nat.lt_of_lt_of_le (Heap.lt_size e) z) (Nat.lt_irrefl _)
 have cellK:∀x c,X.env.cells.lookup x=some c->∀v,s.heap.IsCell c v->h'.IsCell c v:=fun x c e v ⟨o,ho,hd⟩=>by
  have nch:c∉ch:=fun z=>(hch c z).2.2.1 x c e rfl
  by_cases hc:c∈X.fs
  . obtain ⟨sl,q⟩:=slot c o (I.cne x c e) hc nch ho (I.freeC x c e)
    exact ⟨_,q,hd⟩
  . exact ⟨o,keep c o (I.cne x c e) hc nch ho (I.freeC x c e),hd⟩
 refine ⟨I.ok,I.os,hg,⟨fun b o e n hb hx=>?_,fun b o e n hb hx=>?_,fun b o e n hx=>?_,fun b o e hx=>?_,fun b xs e=>tups b xs (I.base.tups b xs e),fun b o xs e=>frzs b o xs (I.base.frzs b o xs e),fun b ps e=>?_⟩,?_,fun x c e=>?_,?_,fun x c e=>?_,fun p hp=>?_,hok,I.len⟩
 . exact keep b o (neL b o e) hb (neC b o e hx) (I.base.keep b o e n hb hx) (I.base.free b o e n hx)
 . obtain ⟨sl,e1⟩:=I.base.slot b o e n hb hx
   obtain ⟨sl',e2⟩:=slot b _ (neL b o e) hb (neC b o e hx) e1 (I.base.free b o e n hx)
   exact ⟨sl',e2⟩
 . obtain ⟨o',e1⟩:=I.base.there b o e hx
   exact free b o' (neC b o e hx) e1 (I.base.free b o e n hx)
 . obtain ⟨o',e1⟩:=I.base.there b o e hx
   exact there b o' (neC b o e hx) e1
 . obtain ⟨m1,e1⟩:=I.base.tbls b ps e
   obtain ⟨m2,e2⟩:=tbls b _ e1
   exact ⟨m1++m2,by rw [e2,Array.append_assoc]⟩
 . obtain ⟨m,hn,hl⟩:=I.loc
   refine ⟨m,ns m hn,fun i x v e1 e2 e3=>?_⟩
   obtain ⟨u,r,l⟩:=hl i x v e1 e2 e3
   refine ⟨u,r,?_⟩
   rcases l with l | ⟨k,c,e,z⟩
   . exact .inl l
   . exact .inr ⟨k,c,e,cellK x c e _ z⟩
 . obtain ⟨v,z⟩:=I.cell x c e
   exact ⟨v,cellK x c e v z⟩
 . obtain ⟨m,⟨o,_,_,ho,_⟩,_⟩:=I.loc
   exact free _ o (fun z=>(hch _ z).2.1 rfl) ho I.free
 . obtain ⟨v,o,ho,hd⟩:=I.cell x c e
   exact free c o (fun z=>(hch c z).2.2.1 x c e rfl) ho (I.freeC x c e)
 . obtain ⟨e,n,ne,nf,d⟩:=I.pin p hp
   have nch:p.1∉ch:=fun z=>(hch p.1 z).2.2.2 p hp rfl
   exact ⟨keep p.1 p.2 ne nf nch e n,free p.1 p.2 nch e n,ne,nf,d⟩
theorem Inv.un {t':Nat} (I:Inv X pins U H s) (u:Un X.fs [] H H' s.heap h') (hok:HOk X.prog X.w H' h'):Inv X pins U H' { s with heap:=h',toks:=t' }:=by
 obtain ⟨m,⟨o,es,ep,ho,r⟩,_⟩:=id I.loc
 obtain ⟨sl,hL⟩:=u.any ho I.free (by simp)
 exact I.step (g':=s.gens) (d':=s.drawn) (ch:=[]) (fun _ z=>nomatch z) (fun b o _ hb _ e n=>u.keep b o e n hb (by simp)) (fun b o _ hb _ e n=>u.slot b o e n hb (by simp)) (fun b o _ e n=>u.free b o e n (by simp)) (fun b o _ e=>u.there b o e (by simp)) u.tups u.frzs u.tbls (fun m' hm=>by
  obtain ⟨o',es',ep',ho',r'⟩:=hm
  rw [ho] at ho';cases ho'
  exact ⟨_,es',ep',hL,r'⟩) hok I.bare
theorem Inv.call {g':Array GenState} {t':Nat} {d':Drawn} {ch:List Addr} (I:Inv X pins U H s) (u:Un (frs X.stack) ch H H' s.heap h') (hok:HOk X.prog X.w H' h') (hg:AllBare g')
  (hch:∀b∈ch,(b∈X.ex\/X.s₀.heap.objs.size<=b)/\b≠X.env.locals/\(∀x c,X.env.cells.lookup x=some c->c≠b)/\∀p∈X.pn++pins,p.1≠b) :
  Inv X pins U H' { s with heap:=h',gens:=g',drawn:=d',toks:=t' }:=by
 obtain ⟨m,⟨o,es,ep,ho,r⟩,_⟩:=id I.loc
 obtain ⟨sl,hL⟩:=u.any ho I.free fun z=>(hch _ z).2.1 rfl
 exact I.step (ch:=ch) hch (fun b o hL hb hc e n=>u.keep b o e n (fun z=>(List.mem_cons.mp (I.stkSub b z)).elim hL hb) hc) (fun b o _ _ hc e n=>u.any e n hc) (fun b o hc e n=>u.free b o e n hc) (fun b o hc e=>u.there b o e hc) u.tups u.frzs u.tbls (fun m' hm=>by
  obtain ⟨o',es',ep',ho',r'⟩:=hm
  rw [ho] at ho';cases ho'
  exact ⟨_,es',ep',hL,r'⟩) hok hg
theorem Inv.turned {t':Nat} {it:Addr} (I:Inv X pins U H s) (k:∀b o,b≠it->s.heap.get? b=some o->h'.get? b=some o) (hn:H it=none) (hL:it≠X.env.locals)
  (h1:it∈X.ex\/X.s₀.heap.objs.size<=it) (h2:∀x c,X.env.cells.lookup x=some c->c≠it) (h3:∀p∈X.pn++pins,p.1≠it):Inv X pins U H { s with heap:=h',toks:=t' }:=by
 have nit:∀b u,H b=some u->b≠it:=fun b u e z=>by rw [z,hn] at e;cases e
 refine I.step (g':=s.gens) (d':=s.drawn) (ch:=[it]) (fun b hb=>?_) (fun b o _ _ hc e _=>k b o (fun z=>hc (by simp [z])) e) (fun b o _ _ hc e _=>⟨o.slots,k b o (fun z=>hc (by simp [z])) e⟩) (fun _ _ _ _ n=>n)
  (fun b o hc e=>⟨o,k b o (fun z=>hc (by simp [z])) e⟩) (fun _ _ e=>e) (fun _ _ _ e=>e) (fun b ps e=>⟨#[],by rw [e];simp⟩) (fun m hm=>?_) (fun b u e=>?_) I.bare
 . have e:b=it:=by simpa using hb
   subst e
   exact ⟨h1,hL,h2,h3⟩
 . obtain ⟨o,es,ep,ho,r⟩:=hm
   exact ⟨o,es,ep,k _ o (Ne.symm hL) ho,r⟩
 . refine (I.hok b u e).stay (fun c v hc q=>k c v ?_ q) (fun _ q=>q) fun _ _ q=>q
   rcases hc with z | z
   . rw [z];exact nit b u e
   . exact nit c _ z
theorem Inv.tok (I:Inv X pins U H s) (t:Nat):Inv X pins U H { s with toks:=t }:=I.un (h':=s.heap) (t':=t) Un.refl I.hok
theorem Inv.kept {t':Nat} (I:Inv X pins U H s) (k:∀b u,s.heap.get? b=some u->h'.get? b=some u):Inv X pins U H { s with heap:=h',toks:=t' }:=I.un (Un.kept k) (I.hok.kept k)
theorem Inv.laid {a:Addr} {o:HO} {t':Nat} (I:Inv X pins U H s) (k:∀b u,s.heap.get? b=some u->h'.get? b=some u) (hp:s.heap.objs.size<=a) (new:ObjOk X.prog X.w (upd H a o) h' a o) :
 Inv X pins U (upd H a o) { s with heap:=h',toks:=t' }:=I.un (Un.laid k hp (I.hok.fresh hp)) (I.hok.laid k hp new)
theorem Inv.write {x e:Addr} {o:HO} {t':Nat} (I:Inv X pins U H s) (mu:Mut (H x)) (he:e=x\/H e=some (.own x)) (k:∀b u,b≠e->s.heap.get? b=some u->h'.get? b=some u) (heo:∃u,h'.get? e=some u)
 (new:ObjOk X.prog X.w (upd H x o) h' x o):Inv X pins U (upd H x o) { s with heap:=h',toks:=t' }:=I.un (Un.write mu he k heo) (I.hok.write mu he k heo new)
theorem Inv.pins_of {pins':List (Addr×Obj)} (I:Inv X pins U H s) (h:∀p∈pins',s.heap.get? p.1=some p.2/\H p.1=none/\p.1≠X.env.locals/\p.1∉X.fs/\∀v,p.2.data≠.cell v):Inv X pins' U H s:=
 ⟨I.ok,I.os,I.bare,I.base,I.loc,I.cell,I.free,I.freeC,fun p hp=>(List.mem_append.mp hp).elim (fun z=>I.pin p (List.mem_append_left _ z)) (h p),I.hok,I.len⟩
theorem zd4 {N:List Str} (hN:N.Nodup) {i j:Nat} {x:Str} (a:N[i]?=some x) (b:N[j]?=some x):i=j:=by
 obtain ⟨h1,e1⟩:=List.getElem?_eq_some_iff.mp a
 obtain ⟨h2,e2⟩:=List.getElem?_eq_some_iff.mp b
 exact (List.getElem_inj hN).mp (e1.trans e2.symm)
theorem za1 {M:Model} {A:Around} {E:Value->Shared->Prop} {i:Nat} {x:Str} {v:V} {u:Value} {Q:Unit->Shared->Prop} (I:Inv X pins U H s) (hN:X.N.Nodup) (hi:X.N[i]?=some x) (hx:Loc X.env.scope x) (r:RelV v u)
  (h:∀s',Inv X pins (U.set i (some v)) H s'->(∃a,Heap.SameBut a s.heap s'.heap/\(a=X.env.locals\/X.env.cells.lookup x=some a))->Q () s') (hf:X.fn x=true\/X.env.scope.names.lookup x=some .local:=by first | exact .inl rfl | exact .inr rfl | assumption):wpAny M A (storeName X.env x u) Q E s:=by
 obtain ⟨m,hn,hl⟩:=id I.loc
 have hcls:(X.env.scope.kind==.class||(X.env.scope.kind==.module&&X.env.locals != X.env.globals))=false:=by rw [I.ok.kind];rfl
 have hiσ:i<U.length:=by rw [I.len];exact (List.getElem?_eq_some_iff.mp hi).1
 have cne:=I.cne
 have tracked:∀{a:Addr} {h':Heap},(∃o,s.heap.get? a=some o/\H a=none)->Heap.SameBut a s.heap h'->HOk X.prog X.w H h':=fun {a h'} ha hs b ob e=>by
  obtain ⟨_,_,hfree⟩:=ha
  refine (I.hok b ob e).stay (fun c w' hc q=>(hs.2 c ?_).trans q) (fun _ q=>q) fun _ _ q=>q
  rintro rfl
  rcases hc with rfl | hc
  . rw [hfree] at e;cases e
  . rw [hfree] at hc;cases hc
 rcases hx with hk | hk
 . refine wpAny_storeName_local hk hn (fun h' hn' hs=>?_) hcls
   obtain ⟨oL,_,_,hoL,_⟩:=id hn
   refine h _ ⟨I.ok,I.os,I.bare,⟨fun b o e n hb hx=>?_,fun b o e n hb hx=>?_,I.base.free,fun b o e hx=>?_,I.base.tups,I.base.frzs,I.base.tbls⟩,⟨_,hn',fun j y v' e1 e2 e3=>?_⟩,fun y c e=>?_,I.free,I.freeC,fun p hp=>?_,tracked ⟨oL,hoL,I.free⟩ hs,by simpa using I.len⟩ ⟨_,hs,.inl rfl⟩
   . exact (hs.2 b (Nat.ne_of_lt (Nat.lt_of_lt_of_le (Heap.lt_size e) I.ok.above))).trans (I.base.keep b o e n hb hx)
   . obtain ⟨sl,e1⟩:=I.base.slot b o e n hb hx
     exact ⟨sl,(hs.2 b (Nat.ne_of_lt (Nat.lt_of_lt_of_le (Heap.lt_size e) I.ok.above))).trans e1⟩
   . obtain ⟨o',e1⟩:=I.base.there b o e hx
     exact ⟨o',(hs.2 b (Nat.ne_of_lt (Nat.lt_of_lt_of_le (Heap.lt_size e) I.ok.above))).trans e1⟩
   . by_cases hj:j=i
     . subst hj
       rw [hi] at e1;cases e1
       rw [List.getElem?_set_self hiσ] at e2
       cases e2
       exact ⟨u,r,.inl ⟨hk,by simp⟩⟩
     . rw [List.getElem?_set_ne (Ne.symm hj)] at e2
       obtain ⟨u',r',q⟩:=hl j y v' e1 e2 e3
       refine ⟨u',r',?_⟩
       rcases q with ⟨k,e⟩ | ⟨k,c,e,z⟩
       . refine .inl ⟨k,?_⟩
         have:y≠x:=fun e=>hj (zd4 hN e1 (e ▸ hi))
         simp [this,e]
       . exact .inr ⟨k,c,e,z.sameBut hs (cne y c e)⟩
   . obtain ⟨w',z⟩:=I.cell y c e
     exact ⟨w',z.sameBut hs (cne y c e)⟩
   . obtain ⟨e,n,ne,nf,d⟩:=I.pin p hp
     exact ⟨(hs.2 p.1 ne).trans e,n,ne,nf,d⟩
 . have hfn:X.fn x=true:=by
    rcases hf with z | z
    . exact z
    . rw [z] at hk;cases hk
   obtain ⟨c,hc⟩:=I.ok.has x (.inl hk)
   obtain ⟨w',z⟩:=I.cell x c hc
   refine wpAny_storeName_cell I.ok.kind hk hc z (fun h' hc' hs=>?_)
   obtain ⟨oc,hoc,hocd⟩:=id z
   refine h { s with heap:=h' } ⟨I.ok,I.os,I.bare,⟨fun b o e n hb hx=>?_,fun b o e n hb hx=>?_,I.base.free,fun b o e hx=>?_,I.base.tups,I.base.frzs,I.base.tbls⟩,⟨m,hn.sameBut hs (Ne.symm (cne x c hc)),fun j y v' e1 e2 e3=>?_⟩,fun y c' e=>?_,I.free,I.freeC,fun p hp=>?_,tracked ⟨oc,hoc,I.freeC x c hc⟩ hs,by simpa using I.len⟩ ⟨c,hs,.inr hc⟩
   . exact (hs.2 b (Nat.ne_of_lt (Nat.lt_of_lt_of_le (Heap.lt_size e) (I.ok.cab x c hfn hc)))).trans (I.base.keep b o e n hb hx)
   . obtain ⟨sl,e1⟩:=I.base.slot b o e n hb hx
     exact ⟨sl,(hs.2 b (Nat.ne_of_lt (Nat.lt_of_lt_of_le (Heap.lt_size e) (I.ok.cab x c hfn hc)))).trans e1⟩
   . obtain ⟨o',e1⟩:=I.base.there b o e hx
     exact ⟨o',(hs.2 b (Nat.ne_of_lt (Nat.lt_of_lt_of_le (Heap.lt_size e) (I.ok.cab x c hfn hc)))).trans e1⟩
   . by_cases hj:j=i
     . subst hj
       rw [hi] at e1;cases e1
       rw [List.getElem?_set_self hiσ] at e2
       cases e2
       exact ⟨u,r,.inr ⟨.inl hk,c,hc,hc'⟩⟩
     . rw [List.getElem?_set_ne (Ne.symm hj)] at e2
       obtain ⟨u',r',q⟩:=hl j y v' e1 e2 e3
       refine ⟨u',r',?_⟩
       rcases q with q | ⟨k,c',e,z'⟩
       . exact .inl q
       . refine .inr ⟨k,c',e,z'.sameBut hs ?_⟩
         rintro rfl
         exact hj (zd4 hN e1 (I.ok.inj _ _ _ e hc ▸ hi))
   . by_cases hcc:c'=c
     . subst hcc;exact ⟨_,hc'⟩
     . obtain ⟨w2,z2⟩:=I.cell y c' e
       exact ⟨w2,z2.sameBut hs hcc⟩
   . obtain ⟨e,n,ne,nf,d⟩:=I.pin p hp
     refine ⟨(hs.2 p.1 ?_).trans e,n,ne,nf,d⟩
     intro q
     rw [q,hoc] at e
     have q':oc=p.2:=Option.some.inj e
     exact d w' (by rw [<-q'];exact hocd)
theorem zd5 {M:Model} {A:Around} {E:Value->Shared->Prop} {i:Nat} {x:Str} {v:V} {u:Value} {Q:Unit->Shared->Prop} (I:Inv X pins U H s) (hN:X.N.Nodup) (hi:X.N[i]?=some x) (hx:Loc X.env.scope x) (r:RelV v u)
  (h:∀s',Inv X pins (U.set i (some v)) H s'->Q () s') (hf:X.fn x=true\/X.env.scope.names.lookup x=some .local:=by first | exact .inl rfl | exact .inr rfl | assumption):wpAny M A (storeName X.env x u) Q E s:=
 za1 I hN hi hx r (fun s' I' _=>h s' I') hf
theorem Inv.call' {s':Shared} {ch:List Addr} (I:Inv X pins U H s) (ho:s'.os=s.os) (u:Un (frs X.stack) ch H H' s.heap s'.heap) (hok:HOk X.prog X.w H' s'.heap) (hg:AllBare s'.gens)
  (hch:∀b∈ch,(b∈X.ex\/X.s₀.heap.objs.size<=b)/\b≠X.env.locals/\(∀x c,X.env.cells.lookup x=some c->c≠b)/\∀p∈X.pn++pins,p.1≠b):Inv X pins U H' s':=by
 obtain ⟨h',g',d',t',o'⟩:=s'
 have e:o'=s.os:=ho
 subst e
 exact I.call (g':=g') (t':=t') (d':=d') u hok hg hch
end
abbrev XK:=Value->Option Addr->Hp->Prop
abbrev St:=List (Option V)
abbrev VK:=V->Hp->Prop
abbrev TE:=St->Hp->VK->Prop
abbrev TT:=St->Hp->(Bool->Hp->Prop)->Prop
abbrev TA:=St->Hp->(List V->Hp->Prop)->Prop
structure Ends where
 nx:St->Hp->Prop
 rt:VK
 bk:St->Hp->Prop:=fun _ _=>False
 ct:St->Hp->Prop:=fun _ _=>False
abbrev TS:=Ends->St->Hp->Prop
def EP (X:Cx) (pins:List (Addr×Obj)) (U:St) (Q:VK) (u:Value) (s':Shared):Prop:=∃v H',Inv X pins U H' s'/\RelV v u/\Q v H'
def TP (X:Cx) (pins:List (Addr×Obj)) (U:St) (Q:Bool->Hp->Prop) (b:Bool) (s':Shared):Prop:=∃H',Inv X pins U H' s'/\Q b H'
def AP (X:Cx) (pins:List (Addr×Obj)) (U:St) (Q:List V->Hp->Prop) (us:List Value) (s':Shared):Prop:=∃vs H',Inv X pins U H' s'/\Vals vs us/\Q vs H'
def SP (X:Cx) (pins:List (Addr×Obj)) (D:Ends) (f:Flow) (s':Shared):Prop:=
 match f with
 | .next=>∃σ' H',Inv X pins σ' H' s'/\D.nx σ' H'
 | .brk=>∃σ' H',Inv X pins σ' H' s'/\D.bk σ' H'
 | .cont=>∃σ' H',Inv X pins σ' H' s'/\D.ct σ' H'
 | .ret u=>∃v σ' H',Inv X pins σ' H' s'/\RelV v u/\D.rt v H'
def PE (X:Cx) (e:Expr) (t:TE):Prop:=
 ∀(pins:List (Addr×Obj)) (s:Shared) (U:St) (H:Hp) (Q:VK),Inv X pins U H s->t U H Q->wpAny (model X.prog X.w) X.A (eval e X.env) (EP X pins U Q) X.xe s
def PT (X:Cx) (e:Expr) (t:TT):Prop:=
 ∀(pins:List (Addr×Obj)) (s:Shared) (U:St) (H:Hp) (Q:Bool->Hp->Prop),Inv X pins U H s->t U H Q->wpAny (model X.prog X.w) X.A (isTrue e X.env (eval e X.env)) (TP X pins U Q) X.xe s
def PW (X:Cx) (e:Expr) (t:TT):Prop:=
 ∀(whole:Sem Value) (pins:List (Addr×Obj)) (s:Shared) (U:St) (H:Hp) (Q:Bool->Hp->Prop),Inv X pins U H s->t U H Q->wpAny (model X.prog X.w) X.A (isTrue e X.env whole) (TP X pins U Q) X.xe s
theorem PW.pt {X:Cx} {e:Expr} {t:TT} (h:PW X e t):PT X e t:=h _
def PA (X:Cx) (es:List Expr) (t:TA):Prop:=
 ∀(pos:Pos) (pins:List (Addr×Obj)) (s:Shared) (U:St) (H:Hp) (Q:List V->Hp->Prop),Inv X pins U H s->t U H Q->wpAny (model X.prog X.w) X.A (spliced (backTo pos (starEach es X.env))) (AP X pins U Q) X.xe s
def PS (X:Cx) (st:Stmt) (t:TS):Prop:=
 ∀(pins:List (Addr×Obj)) (s:Shared) (U:St) (H:Hp) (D:Ends),Inv X pins U H s->t D U H->wpAny (model X.prog X.w) X.A (exec st X.env) (SP X pins D) X.xe s
def PSs (X:Cx) (st:List Stmt) (t:TS):Prop:=
 ∀(pins:List (Addr×Obj)) (s:Shared) (U:St) (H:Hp) (D:Ends),Inv X pins U H s->t D U H->wpAny (model X.prog X.w) X.A (execs st X.env) (SP X pins D) X.xe s
theorem thn {α:Type} {t:Sem α} {Q Q':α->Shared->Prop} {M:Model} {A:Around} {E:Value->Shared->Prop} {s:Shared} (h:wpAny M A t Q E s) (hQ:∀a s,Q a s->Q' a s):wpAny M A t Q' E s:=wpAny_mono h hQ fun _ _ x=>x
section
variable {X:Cx}
noncomputable def zyu (i:Nat):TE:=fun U H Q=>∃v,U[i]?=some (some v)/\Q v H
noncomputable def tC (v:V):TE:=fun _ H Q=>Q v H
theorem zfr {i:Nat} {x:Str} {pos:Pos} (hN:X.N[i]?=some x) (hv:Vis X.env.scope x) (hd:(x==("__debug__":Str))=false:=by decide) (hcd:(x==("__classdict__":Str))=false:=by decide):PE X (.Name x pos) (zyu i):=by
 intro pins s U H Q I h
 obtain ⟨v,e,h⟩:=h
 obtain ⟨m,hn,hl⟩:=I.loc
 obtain ⟨u,r,l⟩:=hl i x v hN e hv
 have fin:EP X pins U Q u s:=⟨v,H,I,r,h⟩
 rcases l with ⟨hk,hm⟩ | ⟨hk,c,hc,hcell⟩
 . exact wpAny_Name (wpAny_loadName_local I.ok.kind hk hn hm fin) hd
 . rcases hk with hk | hk
   . exact wpAny_Name (wpAny_loadName_cell I.ok.kind hk hc hcell fin) hd
   . exact wpAny_Name (wpAny_loadName_free I.ok.kind hk hc hcell fin hcd) hd
theorem pe_int {i j pos}:PE X (.Constant (.int i) j pos) (tC (.int i)):=fun _ _ _ H _ I h=>wpAny_Constant_int ⟨.int i,H,I.tok _,⟨_,rfl⟩,h⟩
theorem pe_bl {b j pos}:PE X (.Constant (.bool b) j pos) (tC (.bl b)):=fun _ _ _ H _ I h=>Constant_bool ⟨.bl b,H,I,rfl,h⟩
def Gl (X:Cx) (x:Str):Prop:=X.env.kindOf x=some .globalImplicit
theorem zot {E:Value->Shared->Prop} {pins:List (Addr×Obj)} {s:Shared} {U:St} {H:Hp} {x:Str} {u:Value} {pos:Pos} {Q:Value->Shared->Prop} (I:Inv X pins U H s) (hg:Gl X x) (hm:X.mg x=some u) (h:Q u s)
  (hd:(x==("__debug__":Str))=false:=by decide):wpAny (model X.prog X.w) X.A (eval (.Name x pos) X.env) Q E s:=
 Calls.Name_function_global I.ok.kind hg (Calls.loadGlobal_global (by rw [I.ok.glob];exact I.mod.glob.keeps I.bk) hm h) hd
theorem z3y {E:Value->Shared->Prop} {pins:List (Addr×Obj)} {s:Shared} {U:St} {H:Hp} {x:Str} {u:Value} {pos:Pos} {Q:Value->Shared->Prop} (I:Inv X pins U H s) (hg:Gl X x) (hm:X.mg x=none) (hv:bootBuiltins x=some u) (h:Q u s)
  (hn:x≠"__name__":=by decide) (hd:(x==("__debug__":Str))=false:=by decide):wpAny (model X.prog X.w) X.A (eval (.Name x pos) X.env) Q E s:=by
 obtain ⟨mb,h1,h2⟩:=I.mod.blt
 exact Calls.Name_function_global I.ok.kind hg (Calls.loadGlobal_builtin (by rw [I.ok.glob];exact I.mod.glob.keeps I.bk) hm (by rw [I.ok.blt];exact h1.keeps I.bk) ((h2 x hn).trans hv) h) hd
theorem zbn {x:Str} {v:V} {u:Value} {pos:Pos} (hg:Gl X x) (hm:X.mg x=none) (hv:bootBuiltins x=some u) (r:RelV v u) (hn:x≠"__name__":=by decide) (hd:(x==("__debug__":Str))=false:=by decide):PE X (.Name x pos) (tC v):=
 fun _ _ _ H _ I h=>z3y I hg hm hv ⟨v,H,I,r,h⟩ hn hd
variable {a b:Expr} {ta tb:TE} {pos:Pos}
variable {tA tB':TT} {rest:List Expr}
noncomputable def y27 (t u:TT):TT:=fun U H Q=>t U H fun c H1=>if c=true then u U H1 Q else Q false H1
noncomputable def tOr (t u:TT):TT:=fun U H Q=>t U H fun c H1=>if c=true then Q true H1 else u U H1 Q
noncomputable def y28 (t:TT):TT:=fun U H Q=>t U H fun c H1=>Q (!c) H1
theorem zou (ha:PT X a tA):PW X (.BoolOp .And [a] pos) tA:=by
 intro wh pins s U H Q I h
 refine isTrue_and (thn (ha pins s U H Q I h) fun c s1 e=>?_)
 cases c with
 | true=>exact isTrue_and_nil e
 | false=>exact e
theorem zso (ha:PT X a tA):PW X (.BoolOp .Or [a] pos) tA:=by
 intro wh pins s U H Q I h
 refine isTrue_or (thn (ha pins s U H Q I h) fun c s1 e=>?_)
 cases c with
 | false=>exact isTrue_or_nil e
 | true=>exact e
theorem zsp (ha:PT X a tA) (hb:PW X (.BoolOp .And (b::rest) pos) tB'):PW X (.BoolOp .And (a::b::rest) pos) (y27 tA tB'):=by
 intro wh pins s U H Q I h
 refine isTrue_and (thn (ha pins s U H _ I h) fun c s1 ⟨H1,I1,q1⟩=>?_)
 cases c with
 | true=>exact hb wh pins s1 U H1 Q I1 q1
 | false=>exact ⟨H1,I1,q1⟩
theorem zyv (ha:PT X a tA) (hb:PW X (.BoolOp .Or (b::rest) pos) tB'):PW X (.BoolOp .Or (a::b::rest) pos) (tOr tA tB'):=by
 intro wh pins s U H Q I h
 refine isTrue_or (thn (ha pins s U H _ I h) fun c s1 ⟨H1,I1,q1⟩=>?_)
 cases c with
 | true=>exact ⟨H1,I1,q1⟩
 | false=>exact hb wh pins s1 U H1 Q I1 q1
theorem zsq (ha:PT X a tA):PT X (.UnaryOp .Not a pos) (y28 tA):=by
 intro pins s U H Q I h
 exact isTrue_not (ha pins s U H (fun c H1=>Q (!c) H1) I h)
theorem zsr {op} {t:TE} (h:PE X a t):PE X (.BoolOp op [a] pos) t:=fun pins s U H Q I hw=>BoolOp_one (h pins s U H Q I hw)
noncomputable def tIf (t:TT) (ta tb:TE):TE:=fun U H Q=>t U H fun c H1=>if c=true then ta U H1 Q else tb U H1 Q
theorem zkb {c:Expr} (hc:PT X c tA) (ha:PE X a ta) (hb:PE X b tb):PE X (.IfExp c a b pos) (tIf tA ta tb):=by
 intro pins s U H Q I h
 refine wpAny_IfExp (thn (hc pins s U H _ I h) fun d s1 ⟨H1,I1,q1⟩=>?_)
 cases d with
 | true=>exact ha pins s1 U H1 Q I1 q1
 | false=>exact hb pins s1 U H1 Q I1 q1
end
def SqL (K:Frag) (H:Hp) (a:Addr) (xs:List V):Prop:=
 Rd H a (.lst xs) \/
  ∃(o:Obj) (its:Array Value) (n:Nat),K.lookup a=some o/\o.cls=.type "list"/\o.dict=none/\o.data=.seq its n/\its.size<=sizeLine/\Vals xs its.toList
def SqT (K:Frag) (H:Hp) (a:Addr) (xs:List V):Prop:=
 Rd H a (.tup xs) \/
  ∃(o:Obj) (its:Array Value) (n:Nat),K.lookup a=some o/\o.cls=.type "tuple"/\o.data=.seq its n/\its.size<=sizeLine/\Vals xs its.toList
noncomputable def y29:Value->Option V
 | .none=>some .non
 | .bool b=>some (.bl b)
 | .int i _=>some (.int i)
 | .str x _=>some (.str x)
 | .bytes b _=>some (.byt b)
 | .float b _=>some (.flt b)
 | .ref a=>some (.ref a)
 | .type n=>some (.ty n)
 | _=>none
theorem RelV.abs {x:V} {u:Value} (r:RelV x u):y29 u=some x:=by
 cases x with
 | non=>cases r;rfl
 | bl _=>cases r;rfl
 | int _=>obtain ⟨t,rfl⟩:=r;rfl
 | str _=>obtain ⟨t,rfl⟩:=r;rfl
 | byt _=>obtain ⟨t,rfl⟩:=r;rfl
 | flt _=>obtain ⟨t,rfl⟩:=r;rfl
 | ref _=>cases r;rfl
 | ty _=>cases r;rfl
theorem RelV.inj {x y:V} {u:Value} (r:RelV x u) (q:RelV y u):x=y:=Option.some.inj (r.abs.symm.trans q.abs)
theorem Vals.inj:∀{xs ys:List V} {us:List Value},Vals xs us->Vals ys us->xs=ys
 | _,_,_,.nil,.nil=>rfl
 | _,_,_,.cons r t,.cons r' t'=>by rw [r.inj r',Vals.inj t t']
section
variable {X:Cx} {pins:List (Addr×Obj)} {U:St} {H:Hp} {s:Shared} {a:Addr} {xs ys:List V}
theorem SqL.of {K:Frag} (h:H a=some (.lst xs)):SqL K H a xs:=.inl (.inl h)
theorem SqT.of {K:Frag} (h:H a=some (.tup xs)):SqT K H a xs:=.inl (.inl h)
theorem Inv.list (I:Inv X pins U H s) (h:SqL X.K H a xs):∃its:List Value,Vals xs its/\PlainL s.heap a its.toArray/\xs.length<=sizeLine:=by
 rcases h with h | ⟨o,its,n,hk,hc,hd,hs,hz,r⟩
 . obtain ⟨z,its,n,r,e⟩:=h.ok I.hok
   exact ⟨its,r,⟨_,n,e,rfl,rfl,rfl⟩,z⟩
 . refine ⟨its.toList,r,⟨o,n,I.kIn a o hk,hc,hd,by simpa using hs⟩,?_⟩
   have e:=r.length
   simp only [Array.length_toList] at e
   lia
theorem Inv.tuple (I:Inv X pins U H s) (h:SqT X.K H a xs):∃its:List Value,Vals xs its/\IsTup s.heap a its.toArray/\xs.length<=sizeLine:=by
 rcases h with h | ⟨o,its,n,hk,hc,hs,hz,r⟩
 . obtain ⟨z,its,r,p⟩:=h.ok I.hok
   exact ⟨its,r,p.tup,z⟩
 . refine ⟨its.toList,r,⟨o,I.kIn a o hk,hc,n,by simpa using hs⟩,?_⟩
   have e:=r.length
   simp only [Array.length_toList] at e
   lia
theorem Inv.list_inj (I:Inv X pins U H s) (h:SqL X.K H a xs) (h':SqL X.K H a ys):xs=ys:=by
 obtain ⟨its,r,⟨o,n,e,_,_,d⟩,_⟩:=I.list h
 obtain ⟨its',r',⟨o',n',e',_,_,d'⟩,_⟩:=I.list h'
 rw [e] at e';cases e'
 rw [d] at d'
 injection d' with d1 _
 have:its=its':=by simpa using congrArg Array.toList d1
 subst this
 exact r.inj r'
theorem Inv.tuple_inj (I:Inv X pins U H s) (h:SqT X.K H a xs) (h':SqT X.K H a ys):xs=ys:=by
 obtain ⟨its,r,⟨o,e,_,n,d⟩,_⟩:=I.tuple h
 obtain ⟨its',r',⟨o',e',_,n',d'⟩,_⟩:=I.tuple h'
 rw [e] at e';cases e'
 rw [d] at d'
 injection d' with d1 _
 have:its=its':=by simpa using congrArg Array.toList d1
 subst this
 exact r.inj r'
end
abbrev Cx.wish (X:Cx) (E:Value->Shared->Prop):Cx:={ X with xe:=E }
abbrev Cx.nox (X:Cx):Cx:=X.wish fun _ _=>False
theorem Cx.Ok.wish {X:Cx} (ok:X.Ok) (E:Value->Shared->Prop):(X.wish E).Ok:=
 ⟨ok.mod,ok.kind,ok.glob,ok.blt,ok.above,ok.inj,ok.has,ok.cab,ok.hd,ok.frames,ok.stk,ok.exf,ok.bs,ok.bsz,ok.noex,ok.exfs,ok.funs,ok.frf⟩
theorem Cx.Ok.unwish {X:Cx} {E:Value->Shared->Prop} (ok:(X.wish E).Ok):X.Ok:=
 ⟨ok.mod,ok.kind,ok.glob,ok.blt,ok.above,ok.inj,ok.has,ok.cab,ok.hd,ok.frames,ok.stk,ok.exf,ok.bs,ok.bsz,ok.noex,ok.exfs,ok.funs,ok.frf⟩
section
variable {X:Cx} {pins:List (Addr×Obj)} {U:St} {H:Hp} {s:Shared} {E:Value->Shared->Prop}
theorem Inv.wish (I:Inv X pins U H s) (E:Value->Shared->Prop):Inv (X.wish E) pins U H s:=⟨I.ok.wish E,I.os,I.bare,I.base,I.loc,I.cell,I.free,I.freeC,I.pin,I.hok,I.len⟩
theorem Inv.unwish (I:Inv (X.wish E) pins U H s):Inv X pins U H s:=⟨I.ok.unwish,I.os,I.bare,I.base,I.loc,I.cell,I.free,I.freeC,I.pin,I.hok,I.len⟩
theorem SP.unwish {D:Ends} {f:Flow} {s':Shared} (h:SP (X.wish E) pins D f s'):SP X pins D f s':=by
 cases f with
 | next=>obtain ⟨σ',H',I,q⟩:=h;exact ⟨σ',H',I.unwish,q⟩
 | brk=>obtain ⟨σ',H',I,q⟩:=h;exact ⟨σ',H',I.unwish,q⟩
 | cont=>obtain ⟨σ',H',I,q⟩:=h;exact ⟨σ',H',I.unwish,q⟩
 | ret u=>obtain ⟨v,σ',H',I,r,q⟩:=h;exact ⟨v,σ',H',I.unwish,r,q⟩
theorem PE.nox {e:Expr} {t:TE} (h:PE X.nox e t):PE X e t:=fun pins s U H Q I hw=>
 wpAny_mono (h pins s U H Q (I.wish _) hw) (fun _ _ ⟨v,H',I',r,q⟩=>⟨v,H',I'.unwish,r,q⟩) fun _ _ z=>False.elim z
theorem PT.nox {e:Expr} {t:TT} (h:PT X.nox e t):PT X e t:=fun pins s U H Q I hw=>
 wpAny_mono (h pins s U H Q (I.wish _) hw) (fun _ _ ⟨H',I',q⟩=>⟨H',I'.unwish,q⟩) fun _ _ z=>False.elim z
theorem PSs.nox {st:List Stmt} {t:TS} (h:PSs X.nox st t):PSs X st t:=fun pins s U H D I hw=>
 wpAny_mono (h pins s U H D (I.wish _) hw) (fun _ _ q=>q.unwish) fun _ _ z=>False.elim z
end
section
variable {X:Cx} {st:Stmt} {rest:List Stmt} {t u:TS} {e:Expr} {te:TE} {pos:Pos}
noncomputable def zss:TS:=fun D U H=>D.nx U H
noncomputable def zyw (t u:TS):TS:=fun D U H=>t { D with nx:=u D } U H
theorem pss_nil:PSs X [] zss:=fun _ _ U H _ I h=>wpAny_execs_nil ⟨U,H,I,h⟩
theorem zd6 (h1:PS X st t) (h2:PSs X rest u):PSs X (st::rest) (zyw t u):=by
 intro pins s U H D I h
 refine wpAny_execs_cons (thn (h1 pins s U H { D with nx:=u D } I h) fun f s1 q=>?_)
 cases f with
 | next=>
  obtain ⟨σ',H',I',q⟩:=q
  exact h2 pins s1 σ' H' D I' q
 | ret v=>exact q
 | brk=>exact q
 | cont=>exact q
theorem zfs (h1:PS X st t):PSs X [st] t:=by
 intro pins s U H D I h
 refine wpAny_execs_cons (thn (h1 pins s U H D I h) fun f s1 q=>?_)
 cases f with
 | next=>exact wpAny_execs_nil q
 | ret v=>exact q
 | brk=>exact q
 | cont=>exact q
theorem Inv.quiet {pins:List (Addr×Obj)} {U:St} {H:Hp} {s:Shared} (I:Inv X pins U H s):interactive X.env=false:=by simp [interactive,I.ok.kind]
noncomputable def za2 (te:TE):TS:=fun D U H=>te U H fun _ H1=>D.nx U H1
theorem z89 (he:PE X e te) (hs:swapsWith e none pos.line X.env=pure false:=by rfl):PS X (.Expr e pos) (za2 te):=by
 intro pins s U H D I h
 exact wpAny_Expr_any (thn (he pins s U H _ I h) fun v s1 ⟨x,H1,I1,r1,q1⟩=>⟨U,H1,I1,q1⟩) I.quiet hs
noncomputable def zyx (te:TE):TS:=fun D U H=>te U H D.rt
theorem zmk (he:PE X e te):PS X (.Return (some e) pos) (zyx te):=by
 intro pins s U H D I h
 exact wpAny_Return_some (thn (he pins s U H _ I h) fun v s1 ⟨x,H1,I1,r1,q1⟩=>⟨x,U,H1,I1,r1,q1⟩)
noncomputable def y2a (c:TT) (t u:TS):TS:=fun D U H=>c U H fun b H1=>if b=true then t D U H1 else u D U H1
theorem zyy {c:Expr} {a b:List Stmt} {tc:TT} (hc:PT X c tc) (ha:PSs X a t) (hb:PSs X b u):PS X (.If c a b pos) (y2a tc t u):=by
 intro pins s U H D I h
 refine wpAny_If (thn (hc pins s U H _ I h) fun d s1 ⟨H1,I1,q1⟩=>?_)
 cases d with
 | true=>exact ha pins s1 U H1 D I1 q1
 | false=>exact hb pins s1 U H1 D I1 q1
noncomputable def zml:TS:=fun _ _ _=>False
theorem ps_never:PS X st zml:=fun _ _ _ _ _ _ h=>h.elim
end
abbrev TG:=V->St->Hp->(St->Hp->Prop)->Prop
abbrev TGs:=List V->St->Hp->(St->Hp->Prop)->Prop
def PG (X:Cx) (target:Expr) (t:TG):Prop:=
 ∀(pins:List (Addr×Obj)) (s:Shared) (U:St) (H:Hp) (v:V) (u:Value) (Q:St->Hp->Prop),Inv X pins U H s->RelV v u->t v U H Q ->
  wpAny (model X.prog X.w) X.A (assign target X.env u) (fun _ s'=>∃σ' H',Inv X pins σ' H' s'/\Q σ' H') X.xe s
def PGs (X:Cx) (ts:List Expr) (t:TGs):Prop:=
 ∀(pins:List (Addr×Obj)) (s:Shared) (U:St) (H:Hp) (vs:List V) (us:List Value) (Q:St->Hp->Prop),Inv X pins U H s->Vals vs us->t vs U H Q ->
  wpAny (model X.prog X.w) X.A (assignInOrder ((assignEach ts X.env).map (·.2)) us) (fun _ s'=>∃σ' H',Inv X pins σ' H' s'/\Q σ' H') X.xe s
abbrev zov:=V->V->V->Hp->(Hp->Prop)->Prop
def zyi (X:Cx) (t:zov):Prop:=
 ∀(pins:List (Addr×Obj)) (s:Shared) (U:St) (H:Hp) (o i v:V) (ov iv u:Value) (Q:Hp->Prop),Inv X pins U H s->RelV o ov->RelV i iv->RelV v u->t o i v H Q ->
  wpAny (model X.prog X.w) X.A (setItem ov iv u) (fun _ s'=>∃H',Inv X pins U H' s'/\Q H') X.xe s
section
variable {X:Cx} {pos:Pos}
noncomputable def z48 (i:Nat):TG:=fun v U H Q=>Q (U.set i (some v)) H
theorem zbo {i:Nat} {x:Str} (hN:X.N.Nodup) (hi:X.N[i]?=some x) (hx:Loc X.env.scope x) (hf:X.fn x=true\/X.env.scope.names.lookup x=some .local:=by first | exact .inl rfl | exact .inr rfl | assumption):PG X (.Name x pos) (z48 i):=by
 intro pins s U H v u Q I r h
 exact wpAny_assign_Name (zd5 I hN hi hx r (fun s' I'=>⟨_,H,I',h⟩) hf)
noncomputable def zyz:TGs:=fun vs U H Q=>vs=[]/\Q U H
noncomputable def zft (t:TG) (u:TGs):TGs:=fun vs U H Q=>∃v r,vs=v::r/\t v U H fun σ' H'=>u r σ' H' Q
theorem pgs_nil:PGs X [] zyz:=by
 intro pins s U H vs us Q I r h
 obtain ⟨e,h⟩:=h
 subst e
 cases r
 exact assignInOrder_nil ⟨U,H,I,h⟩
theorem z8a {e:Expr} {es:List Expr} {t:TG} {u:TGs} (h1:PG X e t) (h2:PGs X es u)
  (hs:(assignEach (e::es) X.env).map (·.2)=assign e X.env::(assignEach es X.env).map (·.2):=by rfl):PGs X (e::es) (zft t u):=by
 intro pins s U H vs us Q I r h
 obtain ⟨v,vr,e1,h⟩:=h
 subst e1
 cases r with
 | cons r rr=>
  rw [hs]
  refine assignInOrder_cons (thn (h1 pins s U H _ _ _ I r h) fun _ s1 ⟨σ1,H1,I1,q1⟩=>?_)
  exact h2 pins s1 σ1 H1 _ _ Q I1 rr q1
noncomputable def zz0 (K:Frag) (n:Nat) (t:TGs):TG:=fun v U H Q=>∃a xs,v=.ref a/\SqT K H a xs/\xs.length=n/\t xs U H Q
theorem zmm {es:List Expr} {k:Nat} {t:TGs} {n:Nat} (hc:X.calm=true) (h:PGs X es t)
  (hn:(assignEach es X.env).length=n:=by rfl) (hst:(assignEach es X.env).findIdx? (·.1)=none:=by rfl):PG X (.Tuple es k pos) (zz0 X.K n t):=by
 intro pins s U H v u Q I r hw
 obtain ⟨a,xs,e1,hq,hl,hw⟩:=hw
 subst e1
 cases r
 obtain ⟨its,rv,ht,hz⟩:=I.tuple hq
 refine assign_Tuple_tuple (I.ok.hd hc) ht (by simp [hn,<-hl,rv.length]) hst fun h' hx=>?_
 have I1:Inv X pins U H { s with heap:=h' }:=I.kept (t':=s.toks) fun b o e=>hx b o (Nat.ne_of_lt (Heap.lt_size e)) e
 exact h pins _ U H xs _ Q I1 (by simpa using rv) hw
noncomputable def zyj (to ti:TE) (t:zov):TG:=fun v U H Q=>to U H fun o H1=>ti U H1 fun i H2=>t o i v H2 fun H3=>Q U H3
theorem zfu {o i:Expr} {to ti:TE} {t:zov} (ho:PE X o to) (hi:PE X i ti) (hs:zyi X t)
  (ha:∀v,assign (.Subscript o i pos) X.env v=(do
   let ov <-holding [v] (eval o X.env)
   let iv <-holding [v,ov] (eval i X.env)
   standAt pos
   holding [v,ov,iv] (setItem ov iv v)
   release [v,ov,iv] []):=by intro _;rfl):PG X (.Subscript o i pos) (zyj to ti t):=by
 intro pins s U H v u Q I r h
 rw [ha]
 refine wpAny_bind (wpAny_holding (thn (ho pins s U H _ I h) fun ov s1 ⟨x,H1,I1,r1,q1⟩=>?_))
 refine wpAny_bind (wpAny_holding (thn (hi pins s1 U H1 _ I1 q1) fun iv s2 ⟨y,H2,I2,r2,q2⟩=>?_))
 refine wpAny_bind (wpAny_standAt (wpAny_bind (wpAny_holding (thn (hs pins s2 U H2 x y v ov iv u _ I2 r1 r2 r q2) fun _ s3 ⟨H3,I3,q3⟩=>?_))))
 exact wpAny_release ⟨U,H3,I3,q3⟩
noncomputable def zfm (te:TE) (g:TG):TS:=fun D U H=>te U H fun x H1=>g x U H1 D.nx
theorem zd7 {tg e:Expr} {te:TE} {g:TG} (he:PE X e te) (hg:PG X tg g) (hs:swapsWithSole [tg] e pos.line X.env=pure false:=by rfl) (hw:swappedStores [tg] e X.env=pure none:=by rfl)
  (h1:(assignEach [tg] X.env).map (·.2)=[assign tg X.env]:=by rfl):PS X (.Assign [tg] e pos) (zfm te g):=by
 intro pins s U H D I h
 refine wpAny_Assign_stores (thn (he pins s U H _ I h) fun v s1 ⟨x,H1,I1,r1,q1⟩=>?_) hs hw
 rw [h1]
 exact thn (hg pins s1 U H1 x v _ I1 r1 q1) fun _ s2 q=>q
theorem zmn {i:Nat} {x:Str} {e:Expr} {te:TE} {pos':Pos} (hN:X.N.Nodup) (hi:X.N[i]?=some x) (hx:Loc X.env.scope x) (he:PE X e te) (hs:swapsWith e (some (.Name x pos')) pos.line X.env=pure false:=by rfl) (hf:X.fn x=true\/X.env.scope.names.lookup x=some .local:=by first | exact .inl rfl | exact .inr rfl | assumption) :
  PS X (.Assign [.Name x pos'] e pos) (zfm te (z48 i)):=by
 intro pins s U H D I h
 refine wpAny_Assign_Name (thn (he pins s U H _ I h) fun v s1 ⟨y,H1,I1,r1,q1⟩=>?_) hs
 exact zd5 I1 hN hi hx r1 (fun s2 I2=>⟨_,H1,I2,q1⟩) hf
end
section
variable {X:Cx} {pos:Pos}
noncomputable def zmo (c:TT) (tb:TS):TS:=fun D U H=>∃W:Nat->St->Hp->Prop,(∃m,W m U H)/\∀m U H,W m U H ->
 c U H fun b H1=>if b=true then ∃N:St->Hp->Prop,(∀σ' H',N σ' H'->∃m',m'<m/\W m' σ' H')/\tb { D with nx:=N,ct:=N,bk:=D.nx } U H1 else D.nx U H1
theorem zkc {c:Expr} {body:List Stmt} {tc:TT} {tb:TS} (hp:PassesOwn (model X.prog X.w) X.A X.env X.xe) (hc:PT X c tc) (hb:PSs X body tb):PS X (.While c body [] pos) (zmo tc tb):=by
 intro pins s U H D I h
 obtain ⟨W,⟨m0,w0⟩,turn⟩:=h
 refine wpAny_While (codeAny_whileLoop (fun n s'=>∃σ' H',Inv X pins σ' H' s'/\W n σ' H') ?_ m0 ⟨U,H,I,w0⟩)
 rintro n s1 ⟨σ1,H1,I1,w1⟩
 refine wpAny_passesOwn hp (thn (hc pins s1 σ1 H1 _ I1 (turn n σ1 H1 w1)) fun b s2 ⟨H2,I2,q2⟩=>?_)
 cases b with
 | true=>
  obtain ⟨N,hN,q2⟩:=q2
  rw [if_pos rfl]
  refine wpAny_passesOwn hp (thn (hb pins s2 σ1 H2 _ I2 q2) fun f s3 q3=>?_)
  cases f with
  | next=>
   obtain ⟨σ3,H3,I3,n3⟩:=q3
   obtain ⟨m',hm,w3⟩:=hN σ3 H3 n3
   exact ⟨m',hm,σ3,H3,I3,w3⟩
  | cont=>
   obtain ⟨σ3,H3,I3,n3⟩:=q3
   obtain ⟨m',hm,w3⟩:=hN σ3 H3 n3
   exact ⟨m',hm,σ3,H3,I3,w3⟩
  | brk=>exact q3
  | ret v=>exact q3
 | false=>
  rw [if_neg Bool.false_ne_true]
  exact wpAny_execs_nil ⟨σ1,H2,I2,q2⟩
end
structure It where
 go:Nat->Hp->Prop
 yld:Nat->Hp->V->Hp->Prop
 stop:Nat->Hp->Prop
def z8b (X:Cx) (pins:List (Addr×Obj)) (H:Hp) (b:Addr):Prop:=
 H b=none/\b≠X.env.locals/\b∉X.fs/\(b∈X.ex\/X.s₀.heap.objs.size<=b)/\(∀x c,X.env.cells.lookup x=some c->c≠b)/\∀p∈X.pn++pins,p.1≠b
theorem Inv.fpOk {X:Cx} {pins:List (Addr×Obj)} {U:St} {H H':Hp} {s:Shared} {b:Addr} (I:Inv X pins U H s) (hb:s.heap.objs.size<=b) (hn:H' b=none):z8b X pins H' b:=by
 refine ⟨hn,Nat.ne_of_gt (Nat.lt_of_lt_of_le I.lt hb),I.nofs hb,.inr (Nat.le_trans I.sz hb),fun x c e z=>?_,fun p hp z=>?_⟩
 . obtain ⟨v,q⟩:=I.cell x c e
   exact absurd (Nat.lt_of_lt_of_le q.lt (by rw [z];exact hb)) (Nat.lt_irrefl _)
 . exact absurd (Nat.lt_of_lt_of_le (Heap.lt_size (I.pin p hp).1) (by rw [z];exact hb)) (Nat.lt_irrefl _)
structure Turn (P:Program) (w:World) (K:Frag) (tg:Expr) (J:It) (fp:List Addr) (it:Addr) (tn:Nat->Heap->Prop):Prop where
 mem:it∈fp
 obj:∀i h,tn i h->∀b∈fp,∃o,h.get? b=some o/\∀v,o.data≠.cell v
 keep:∀i h h',tn i h->(∀b∈fp,∀o,h.get? b=some o->h'.get? b=some o)->tn i h'
 item:∀(X:Cx),X.prog=P->X.w=w->X.K=K->X.calm=true->∀(i:Nat) (pins:List (Addr×Obj)) (s:Shared) (U:St) (H:Hp) (E:Value->Shared->Prop),Inv X pins U H s->(∀b∈fp,z8b X pins H b)->tn i s.heap->J.go i H ->
  wpAny (model P w) X.A (pyNext (.ref it)) (fun r s1=>∃u,r=some u /\
   wpAny (model P w) X.A (letOwnedTupleGo tg (.ref it) u) (fun _ s2=>∃x H',Inv X pins U H' s2/\RelV x u/\J.yld i H x H'/\tn (i+1) s2.heap/\∀b∈fp,H' b=none) E s1) E s
 done:∀(X:Cx),X.prog=P->X.w=w->X.K=K->X.calm=true->∀(i:Nat) (pins:List (Addr×Obj)) (s:Shared) (U:St) (H:Hp) (E:Value->Shared->Prop),Inv X pins U H s->(∀b∈fp,z8b X pins H b)->tn i s.heap->J.stop i H ->
  wpAny (model P w) X.A (pyNext (.ref it)) (fun r s1=>r=none/\Inv X pins U H s1) E s
 self:∀(A:Around) (i:Nat) (s:Shared) (Q:Value->Shared->Prop) (E:Value->Shared->Prop),tn i s.heap->Q (.ref it) s->wpAny (model P w) A (pyIter (.ref it)) Q E s
abbrev TI:=St->Hp->(It->Hp->Prop)->Prop
def PIE (X:Cx) (pins:List (Addr×Obj)) (U:St) (tg:Expr) (R:It->Hp->Prop) (itv:Value) (s2:Shared):Prop:=
 ∃(it:Addr) (fp:List Addr) (tn:Nat->Heap->Prop) (J:It) (H':Hp),itv=.ref it/\Inv X pins U H' s2/\Turn X.prog X.w X.K tg J fp it tn/\tn 0 s2.heap/\(∀b∈fp,z8b X pins H' b)/\R J H'
def PI (X:Cx) (tg iter:Expr) (wi:TI):Prop:=
 ∀(pins:List (Addr×Obj)) (s:Shared) (U:St) (H:Hp) (R:It->Hp->Prop),Inv X pins U H s->wi U H R ->
  wpAny (model X.prog X.w) X.A (eval iter X.env) (fun v s1=>wpAny (model X.prog X.w) X.A (pyIter v) (PIE X pins U tg R) X.xe s1) X.xe s
theorem zow {M:Model} {A:Around} {E:Value->Shared->Prop} {s:Shared} {tg:Expr} {it:Addr} {u:Value} {o:Obj} {n:String} {vs:Array Value} {Q:Unit->Shared->Prop} (ho:s.heap.get? it=some o) (hc:o.cls=.type n) (hd:o.data=.fields vs)
  (hn:["enumerate","zip","dict_itemiterator","dict_reverseitemiterator","odict_iterator","itertools.zip_longest","itertools.pairwise"].contains n=false) (hQ:Q () s):wpAny M A (letOwnedTupleGo tg (.ref it) u) Q E s:=by
 unfold letOwnedTupleGo
 cases tg<;>first
  | exact wpAny_pure hQ
  | (cases u<;>first
   | exact wpAny_pure hQ
   | (refine wpAny_bind (wpAny_load ho ?_)
      rw [hc,hd]
      show wpAny M A (if (["enumerate","zip","dict_itemiterator","dict_reverseitemiterator","odict_iterator","itertools.zip_longest","itertools.pairwise"].contains n&&vs[0]?==some (rawInt _))=true then _ else _) Q E s
      rw [if_neg (by intro h;rw [hn,Bool.false_and] at h;cases h)]
      exact wpAny_pure hQ))
noncomputable def Itl (K:Frag) (a:Addr):It:=
 ⟨fun i H=>∃xs x,SqL K H a xs/\xs[i]?=some x,fun i H x H'=>H'=H/\∀xs,SqL K H a xs->xs[i]?=some x,fun i H=>∃xs,SqL K H a xs/\xs.length<=i⟩
noncomputable def Itt (K:Frag) (a:Addr):It:=
 ⟨fun i H=>∃xs x,SqT K H a xs/\xs[i]?=some x,fun i H x H'=>H'=H/\∀xs,SqT K H a xs->xs[i]?=some x,fun i H=>∃xs,SqT K H a xs/\xs.length<=i⟩
noncomputable def Itr (lo:Int) (n:Nat):It:=⟨fun i _=>i<n,fun i H x H'=>H'=H/\x=.int (lo+i),fun i _=>n<=i⟩
theorem zfv {P:Program} {w:World} {K:Frag} {tg:Expr} (a it:Addr):Turn P w K tg (Itl K a) [it] it (fun i h=>h.IsListIter it a i) where
 mem:=by simp
 obj:=fun i h st b hb=>by
  have e:b=it:=by simpa using hb
  subst e
  obtain ⟨o,e,c,d⟩:=st
  exact ⟨o,e,fun v z=>by rw [d] at z;cases z⟩
 keep:=fun i h h' st k=>st.at fun o e=>k it (by simp) o e
 item:=by
  intro X hP hw hK hc i pins s U H E I hf st hg
  subst hP hw hK
  obtain ⟨xs,x,hq,hx⟩:=hg
  obtain ⟨its,rv,p,hz⟩:=I.list hq
  obtain ⟨u,hu,ru⟩:=rv.get hx
  obtain ⟨f0,f1,f2,f3,f4,f5⟩:=hf it (by simp)
  refine wpAny_pyNext_list_item st p.isList (x:=u) (by simpa using hu) fun h' st' sb=>?_
  have I1:Inv X pins U H { s with heap:=h' }:=I.turned (t':=s.toks) (fun b o hb e=>(sb.2 b hb).trans e) f0 f1 f3 f4 f5
  obtain ⟨o,e,c,d⟩:=id st'
  exact ⟨u,rfl,zow (s:={ s with heap:=h' }) e c d (by decide) ⟨x,H,I1,ru,⟨rfl,fun ys hy=>by rw [I.list_inj hy hq];exact hx⟩,st',fun b hb=>(hf b hb).1⟩⟩
 done:=by
  intro X hP hw hK hc i pins s U H E I hf st hg
  subst hP hw hK
  obtain ⟨xs,hq,hx⟩:=hg
  obtain ⟨its,rv,p,hz⟩:=I.list hq
  obtain ⟨f0,f1,f2,f3,f4,f5⟩:=hf it (by simp)
  have hl:=rv.length
  exact wpAny_pyNext_list_end (I.ok.hd hc) st p.isList (by simp;lia) fun h' eb=>⟨rfl,I.turned (t':=s.toks) (fun b o hb e=>eb b o hb e) f0 f1 f3 f4 f5⟩
 self:=fun _ _ _ _ _ st h=>wpAny_pyIter_listiter st h
theorem zep {P:Program} {w:World} {K:Frag} {tg:Expr} (a it:Addr):Turn P w K tg (Itt K a) [it] it (fun i h=>h.IsTupleIter it a i) where
 mem:=by simp
 obj:=fun i h st b hb=>by
  have e:b=it:=by simpa using hb
  subst e
  obtain ⟨o,e,c,d⟩:=st
  exact ⟨o,e,fun v z=>by rw [d] at z;cases z⟩
 keep:=fun i h h' st k=>st.at fun o e=>k it (by simp) o e
 item:=by
  intro X hP hw hK hc i pins s U H E I hf st hg
  subst hP hw hK
  obtain ⟨xs,x,hq,hx⟩:=hg
  obtain ⟨its,rv,p,hz⟩:=I.tuple hq
  obtain ⟨u,hu,ru⟩:=rv.get hx
  obtain ⟨f0,f1,f2,f3,f4,f5⟩:=hf it (by simp)
  refine wpAny_pyNext_tuple_item st (show s.heap.IsTuple a its.toArray from p) (x:=u) (by simpa using hu) fun h' st' sb=>?_
  have I1:Inv X pins U H { s with heap:=h' }:=I.turned (t':=s.toks) (fun b o hb e=>(sb.2 b hb).trans e) f0 f1 f3 f4 f5
  obtain ⟨o,e,c,d⟩:=id st'
  exact ⟨u,rfl,zow (s:={ s with heap:=h' }) e c d (by decide) ⟨x,H,I1,ru,⟨rfl,fun ys hy=>by rw [I.tuple_inj hy hq];exact hx⟩,st',fun b hb=>(hf b hb).1⟩⟩
 done:=by
  intro X hP hw hK hc i pins s U H E I hf st hg
  subst hP hw hK
  obtain ⟨xs,hq,hx⟩:=hg
  obtain ⟨its,rv,p,hz⟩:=I.tuple hq
  obtain ⟨f0,f1,f2,f3,f4,f5⟩:=hf it (by simp)
  have hl:=rv.length
  exact wpAny_pyNext_tuple_end (I.ok.hd hc) st (show s.heap.IsTuple a its.toArray from p) (by simp;lia) fun h' eb=>⟨rfl,I.turned (t':=s.toks) (fun b o hb e=>eb b o hb e) f0 f1 f3 f4 f5⟩
 self:=fun _ _ _ _ _ st h=>wpAny_pyIter_tupleiter st h
theorem zeq {P:Program} {w:World} {K:Frag} {tg:Expr} (it:Addr) (lo:Int) (n:Nat):Turn P w K tg (Itr lo n) [it] it (fun i h=>IsRangeIter h it (lo+(i:Nat) * 1) ((n:Int) - (i:Nat)) 1) where
 mem:=by simp
 obj:=fun i h st b hb=>by
  have e:b=it:=by simpa using hb
  subst e
  exact ⟨_,st,fun v z=>by
   have z':Data.fields _=Data.cell v:=z
   cases z'⟩
 keep:=fun i h h' st k=>k it (by simp) _ st
 item:=by
  intro X hP hw hK hc i pins s U H E I hf st hg
  subst hP hw hK
  obtain ⟨f0,f1,f2,f3,f4,f5⟩:=hf it (by simp)
  have W:=Walks.range (prog:=X.prog) (w:=X.w) (I.ok.hd hc) it lo 1 n
  refine W.item i s _ _ hg st fun v h' tk hv st' kk=>?_
  obtain ⟨t,rfl⟩:=hv
  have I1:Inv X pins U H { s with heap:=h',toks:=tk }:=I.turned (fun b o hb e=>kk b o (by simpa using hb) e) f0 f1 f3 f4 f5
  refine ⟨_,rfl,zow (s:={ s with heap:=h',toks:=tk }) (n:="range_iterator") st' rfl rfl (by decide) ⟨.int (lo+i),H,I1,⟨t,?_⟩,⟨rfl,rfl⟩,st',fun b hb=>(hf b hb).1⟩⟩
  rw [Int.mul_one]
 done:=by
  intro X hP hw hK hc i pins s U H E I hf st hg
  subst hP hw hK
  obtain ⟨f0,f1,f2,f3,f4,f5⟩:=hf it (by simp)
  exact wpAny_pyNext_range_end (I.ok.hd hc) st (by have:n<=i:=hg;lia) fun h' eb=>⟨rfl,I.turned (t':=s.toks) (fun b o hb e=>eb b o hb e) f0 f1 f3 f4 f5⟩
 self:=fun _ _ _ _ _ st h=>wpAny_pyIter_rangeiter st h
section
variable {X:Cx} {tg:Expr}
theorem zkd {pins:List (Addr×Obj)} {U:St} {H:Hp} {s:Shared} {R:It->Hp->Prop} {E:Value->Shared->Prop} {lo hi:Int} {t u v:Tok} {tk:Nat} (I:Inv X pins U H s) (h1:-(2 ^ 62)<=lo) (h2:lo<2 ^ 62) (h3:-(2 ^ 62)<=hi) (h4:hi<2 ^ 62)
  (q:R (Itr lo (hi - lo).toNat) H):wpAny (model X.prog X.w) X.A (pyIter (.ref s.heap.objs.size)) (PIE X pins U tg R) E { s with heap:=s.heap.push { cls:=.type "range",data:=.fields #[.int lo t,.int hi u,.int 1 v] },toks:=tk }:=by
 refine wpAny_pyIter_range (IsRange.new ..) (small_one h1 h2 h3 h4) ?_
 have I1:Inv X pins U H { s with heap:=s.heap.push { cls:=.type "range",data:=.fields #[.int lo t,.int hi u,.int 1 v] },toks:=tk }:=I.kept fun b o e=>Heap.get?_push_of_some _ e
 refine ⟨(s.heap.push { cls:=.type "range",data:=.fields #[.int lo t,.int hi u,.int 1 v] }).objs.size,[(s.heap.push { cls:=.type "range",data:=.fields #[.int lo t,.int hi u,.int 1 v] }).objs.size],_,_,H,rfl,
  I1.kept (t':=tk) fun b o e=>Heap.get?_push_of_some _ e,zeq _ lo (hi - lo).toNat,?_,fun b hb=>?_,q⟩
 . have e1:lo+((0:Nat):Int) * 1=lo:=by simp
   have e2:(((hi - lo).toNat:Nat):Int) - ((0:Nat):Int)=Builtin.Range.rangeSize lo hi 1:=by rw [rangeSize_one];split<;>lia
   show IsRangeIter _ _ (lo+((0:Nat):Int) * 1) ((((hi - lo).toNat:Nat):Int) - ((0:Nat):Int)) 1
   rw [e1,e2]
   exact Heap.get?_push_size _ rfl
 . have e:b=(s.heap.push { cls:=.type "range",data:=.fields #[.int lo t,.int hi u,.int 1 v] }).objs.size:=by simpa using hb
   subst e
   exact I1.fpOk (Nat.le_refl _) (I1.hok.fresh (Nat.le_refl _))
noncomputable def y3a (wi:TI) (g:TG) (tb:TS):TS:=fun D U H=>wi U H fun J H1=>∃W:Nat->Nat->St->Hp->Prop,(∃m,W 0 m U H1)/\∀i m U H,W i m U H ->
 (J.stop i H/\D.nx U H)\/(J.go i H/\∃N:St->Hp->Prop,(∀σ' H',N σ' H'->∃m',m'<m/\W (i+1) m' σ' H')/\∀x H',J.yld i H x H'->g x U H' fun σ2 H2=>tb { D with nx:=N,ct:=N,bk:=D.nx } σ2 H2)
noncomputable def za3 (fp:List Addr) (h:Heap):List (Addr×Obj):=fp.filterMap fun b=>(h.get? b).map fun o=>(b,o)
theorem z3t {fp:List Addr} {h:Heap} {b:Addr} {o:Obj} (hb:b∈fp) (e:h.get? b=some o):(b,o)∈za3 fp h:=List.mem_filterMap.mpr ⟨b,hb,by rw [e];rfl⟩
theorem zfw {fp:List Addr} {h:Heap} {p:Addr×Obj} (hp:p∈za3 fp h):p.1∈fp/\h.get? p.1=some p.2:=by
 obtain ⟨b,hb,e⟩:=List.mem_filterMap.mp hp
 cases q:h.get? b with
 | none=>rw [q] at e;cases e
 | some o=>
  rw [q] at e
  have e':(b,o)=p:=Option.some.inj e
  subst e'
  exact ⟨hb,q⟩
theorem Inv.pinned {pins:List (Addr×Obj)} {U:St} {H:Hp} {s:Shared} {fp:List Addr} (I:Inv X pins U H s) (hf:∀b∈fp,z8b X pins H b) (ho:∀b∈fp,∃o,s.heap.get? b=some o/\∀v,o.data≠.cell v):Inv X (pins++za3 fp s.heap) U H s:=
 I.pins_of fun p hp=>(List.mem_append.mp hp).elim (fun z=>I.pin p (List.mem_append_right _ z)) fun z=>by
  obtain ⟨hb,e⟩:=zfw z
  obtain ⟨f0,f1,f2,_⟩:=hf p.1 hb
  obtain ⟨o,e',d⟩:=ho p.1 hb
  rw [e] at e';cases e'
  exact ⟨e,f0,f1,f2,d⟩
theorem Inv.unpinned {pins pl:List (Addr×Obj)} {U:St} {H:Hp} {s:Shared} (I:Inv X (pins++pl) U H s):Inv X pins U H s:=I.pins_of fun p hp=>I.pin p (List.mem_append_right _ (List.mem_append_left _ hp))
theorem zst {iter:Expr} {body:List Stmt} {wi:TI} {g:TG} {tb:TS} {pos:Pos} (hp:PassesOwn (model X.prog X.w) X.A X.env X.xe) (hc:X.calm=true) (hi:PI X tg iter wi) (hg:PG X tg g) (hb:PSs X body tb)
  (hs:∀x,foldedSetIterable iter X.env x=pure x:=by intro _;rfl):PS X (.For tg iter body [] pos) (y3a wi g tb):=by
 intro pins s U H D I h
 refine wpAny_For (thn (hi pins s U H _ I h) fun v s1 h1=>thn h1 fun itv s2 h2=>?_) hs
 obtain ⟨it,fp,tn,J,H2,e,I2,T,st2,f2,W,⟨m0,w0⟩,turn⟩:=h2
 subst e
 have stat:∀{H':Hp},(∀b∈fp,H' b=none)->∀b∈fp,z8b X pins H' b:=fun hn b hb=>⟨hn b hb,(f2 b hb).2⟩
 refine codeAny_forLoop_any (fun n s'=>∃i σ' H',Inv X pins σ' H' s'/\tn i s'.heap/\(∀b∈fp,H' b=none)/\W i n σ' H') ?_ m0 ⟨0,U,H2,I2,st2,fun b hb=>(f2 b hb).1,w0⟩
 rintro n s3 ⟨i,σ3,H3,I3,st3,fr3,w3⟩
 rcases turn i n σ3 H3 w3 with ⟨stop,qn⟩ | ⟨go,N,hN,step⟩
 . refine wpAny_passesOwn hp (thn (T.done X rfl rfl rfl hc i pins s3 σ3 H3 X.xe I3 (stat fr3) st3 stop) fun r s4 ⟨hr,I4⟩=>?_)
   subst hr
   exact wpAny_execs_nil ⟨σ3,H3,I4,qn⟩
 . refine wpAny_passesOwn hp (thn (T.item X rfl rfl rfl hc i pins s3 σ3 H3 X.xe I3 (stat fr3) st3 go) fun r s4 ⟨u,hr,h4⟩=>?_)
   subst hr
   refine wpAny_passesOwn hp (thn h4 fun _ s5 ⟨x,H5,I5,r5,y5,st5,fr5⟩=>?_)
   have I5':=I5.pinned (stat fr5) (T.obj _ _ st5)
   refine wpAny_passesOwn hp (thn (hg _ s5 σ3 H5 x u _ I5' r5 (step x H5 y5)) fun _ s6 ⟨σ6,H6,I6,q6⟩=>?_)
   refine wpAny_passesOwn hp (thn (hb _ s6 σ6 H6 _ I6 q6) fun f s7 q7=>?_)
   have again:∀{σ7:St} {H7:Hp},Inv X (pins++za3 fp s5.heap) σ7 H7 s7->N σ7 H7->∃m,m<n/\∃i σ' H',Inv X pins σ' H' s7/\tn i s7.heap/\(∀b∈fp,H' b=none)/\W i m σ' H':=fun {σ7 H7} I7 n7=>by
    obtain ⟨m',hm,w7⟩:=hN σ7 H7 n7
    refine ⟨m',hm,i+1,σ7,H7,I7.unpinned,T.keep _ _ _ st5 fun b hb o e=>(I7.pin (b,o) (List.mem_append_right _ (List.mem_append_right _ (z3t hb e)))).1,fun b hb=>?_,w7⟩
    obtain ⟨o,e,d⟩:=T.obj _ _ st5 b hb
    exact (I7.pin (b,o) (List.mem_append_right _ (List.mem_append_right _ (z3t hb e)))).2.1
   cases f with
   | next=>obtain ⟨σ7,H7,I7,n7⟩:=q7;exact again I7 n7
   | cont=>obtain ⟨σ7,H7,I7,n7⟩:=q7;exact again I7 n7
   | brk=>obtain ⟨σ7,H7,I7,q7⟩:=q7;exact ⟨σ7,H7,I7.unpinned,q7⟩
   | ret v=>obtain ⟨x7,σ7,H7,I7,r7,q7⟩:=q7;exact ⟨x7,σ7,H7,I7.unpinned,r7,q7⟩
end
abbrev R2:=V->V->Hp->VK->Prop
def OpR (X:Cx) (f:Value->Value->Sem Value) (r:R2):Prop:=
 ∀(pins:List (Addr×Obj)) (s:Shared) (U:St) (H:Hp) (x y:V) (v u:Value) (Q:VK),Inv X pins U H s->RelV x v->RelV y u->r x y H Q ->
  wpAny (model X.prog X.w) X.A (f v u) (EP X pins U Q) X.xe s
def UnR (X:Cx) (f:Value->Sem Value) (r:V->Hp->VK->Prop):Prop:=
 ∀(pins:List (Addr×Obj)) (s:Shared) (U:St) (H:Hp) (x:V) (v:Value) (Q:VK),Inv X pins U H s->RelV x v->r x H Q ->
  wpAny (model X.prog X.w) X.A (f v) (EP X pins U Q) X.xe s
def CallR (X:Cx) (f:Value) (r:List V->Hp->VK->Prop):Prop:=
 ∀(pins:List (Addr×Obj)) (s:Shared) (U:St) (H:Hp) (xs:List V) (us:List Value) (Q:VK),Inv X pins U H s->Vals xs us->r xs H Q ->
  wpAny (model X.prog X.w) X.A (call f us) (EP X pins U Q) X.xe s
def y3b (X:Cx) (r:V->Hp->(Bool->Hp->Prop)->Prop):Prop:=
 ∀(pins:List (Addr×Obj)) (s:Shared) (U:St) (H:Hp) (x:V) (v:Value) (Q:Bool->Hp->Prop),Inv X pins U H s->RelV x v->r x H Q ->
  wpAny (model X.prog X.w) X.A (truthy v) (TP X pins U Q) X.xe s
noncomputable def tOp (r:R2) (ta tb:TE):TE:=fun U H Q=>ta U H fun x H1=>tb U H1 fun y H2=>r x y H2 Q
noncomputable def tUn (r:V->Hp->VK->Prop) (ta:TE):TE:=fun U H Q=>ta U H fun x H1=>r x H1 Q
noncomputable def rI (C:Int->Int->Prop) (g:Int->Int->V):R2:=fun x y H Q=>∃i j,x=.int i/\y=.int j/\C i j/\Q (g i j) H
noncomputable def rI0 (g:Int->Int->V):R2:=fun x y H Q=>∃i j,x=.int i/\y=.int j/\Q (g i j) H
def rU (g:Int->V):V->Hp->VK->Prop:=fun x H Q=>∃i,x=.int i/\Q (g i) H
section
variable {X:Cx} {a b:Expr} {ta tb:TE} {pos:Pos}
theorem zz1 (ha:PE X a ta) (hb:PE X b tb) {pins:List (Addr×Obj)} {s:Shared} {U:St} {H:Hp} {R:V->V->Hp->Prop} (I:Inv X pins U H s)
  (h:ta U H fun x H1=>tb U H1 fun y H2=>R x y H2) {Q:Value->Shared->Prop} {f:Value->Value->Sem Value}
  (hf:∀v u s2 x y H2,Inv X pins U H2 s2->RelV x v->RelV y u->R x y H2->wpAny (model X.prog X.w) X.A (f v u) Q X.xe s2) :
  wpAny (model X.prog X.w) X.A (eval a X.env) (fun v s₁=>wpAny (model X.prog X.w) X.A (eval b X.env) (fun u s₂=>wpAny (model X.prog X.w) X.A (f v u) Q X.xe s₂) X.xe s₁) X.xe s:=by
 refine thn (ha pins s U H _ I h) fun v s1 ⟨x,H1,I1,r1,q1⟩=>?_
 refine thn (hb pins s1 U H1 _ I1 q1) fun u s2 ⟨y,H2,I2,r2,q2⟩=>?_
 exact hf v u s2 x y H2 I2 r1 r2 q2
theorem zz2 {op:Operator} {r:R2} (ho:OpR X (binaryOp op) r) (ha:PE X a ta) (hb:PE X b tb):PE X (.BinOp a op b pos) (tOp r ta tb):=by
 intro pins s U H Q I h
 exact wpAny_BinOp (zz1 ha hb I h fun v u s2 x y H2 I2 rx ry q=>ho pins s2 U H2 x y v u Q I2 rx ry q)
theorem zz3 {op:UnaryOp} {r:V->Hp->VK->Prop} (ho:UnR X (unaryOp op) r) (ha:PE X a ta):PE X (.UnaryOp op a pos) (tUn r ta):=by
 intro pins s U H Q I h
 exact UnaryOp_ (thn (ha pins s U H _ I h) fun v s1 ⟨x,H1,I1,r1,q1⟩=>ho pins s1 U H1 x v Q I1 r1 q1)
theorem opI {f:Value->Value->Sem Value} {C:Int->Int->Prop} {g:Int->Int->Int}
  (rule:∀(i j:Int) (t u:Tok) (s:Shared) (Q:Value->Shared->Prop) (E:Value->Shared->Prop),C i j->Q (.int (g i j) s.toks) { s with toks:=s.toks+1 }->wpAny (model X.prog X.w) X.A (f (.int i t) (.int j u)) Q E s) :
  OpR X f (rI C fun i j=>.int (g i j)):=by
 intro pins s U H x y v u Q I rx ry h
 obtain ⟨i,j,rfl,rfl,hc,q⟩:=h
 obtain ⟨t,rfl⟩:=rx
 obtain ⟨t',rfl⟩:=ry
 exact rule i j t t' s _ _ hc ⟨.int (g i j),H,I.tok _,⟨_,rfl⟩,q⟩
theorem y2b {f:Value->Value->Sem Value} {g:Int->Int->Int}
  (rule:∀(i j:Int) (t u:Tok) (s:Shared) (Q:Value->Shared->Prop) (E:Value->Shared->Prop),Q (.int (g i j) s.toks) { s with toks:=s.toks+1 }->wpAny (model X.prog X.w) X.A (f (.int i t) (.int j u)) Q E s) :
  OpR X f (rI0 fun i j=>.int (g i j)):=by
 intro pins s U H x y v u Q I rx ry h
 obtain ⟨i,j,rfl,rfl,q⟩:=h
 obtain ⟨t,rfl⟩:=rx
 obtain ⟨t',rfl⟩:=ry
 exact rule i j t t' s _ _ ⟨.int (g i j),H,I.tok _,⟨_,rfl⟩,q⟩
theorem zz4 {f:Value->Value->Sem Value} {g:Int->Int->Bool}
  (rule:∀(i j:Int) (t u:Tok) (s:Shared) (Q:Value->Shared->Prop) (E:Value->Shared->Prop),Q (.bool (g i j)) s->wpAny (model X.prog X.w) X.A (f (.int i t) (.int j u)) Q E s) :
  OpR X f (rI0 fun i j=>.bl (g i j)):=by
 intro pins s U H x y v u Q I rx ry h
 obtain ⟨i,j,rfl,rfl,q⟩:=h
 obtain ⟨t,rfl⟩:=rx
 obtain ⟨t',rfl⟩:=ry
 exact rule i j t t' s _ _ ⟨.bl (g i j),H,I,rfl,q⟩
def zox (i j:Int):Prop:=0<j/\j<1073741824
def y2c (i j:Int):Prop:=0<=j/\j<=1000000/\i.natAbs<2 ^ 64
def CMul (i j:Int):Prop:=(-(2 ^ 64)<i/\i<2 ^ 64)\/(-(2 ^ 64)<j/\j<2 ^ 64)
theorem CMul.ok {i j:Int} (h:CMul i j):IntMulOk i j:=by
 rcases h with ⟨h1,h2⟩ | ⟨h1,h2⟩
 . exact .of_left (intBits_le_64 h1 h2)
 . exact .of_right (intBits_le_64 h1 h2)
theorem op_add:OpR X (binaryOp .Add) (rI0 fun i j=>.int (i+j)):=y2b fun _ _ _ _ _ _ _ q=>add_int q
theorem op_sub:OpR X (binaryOp .Sub) (rI0 fun i j=>.int (i - j)):=y2b fun _ _ _ _ _ _ _ q=>sub_int q
theorem op_mul:OpR X (binaryOp .Mult) (rI CMul fun i j=>.int (i * j)):=opI fun _ _ _ _ _ _ _ hc q=>mul_int q hc.ok
theorem op_fdiv:OpR X (binaryOp .FloorDiv) (rI zox fun i j=>.int (i / j)):=opI fun i j _ _ _ _ _ hc q=>by
 have h1:(0:Int)<j:=hc.1
 have h2:j<1073741824:=hc.2
 exact floordiv_int (by omega) (by rw [Int.fdiv_eq_ediv_of_nonneg i (by omega)];exact q) (.inl (PyProof.noPylong_small (by omega)))
theorem op_mod:OpR X (binaryOp .Mod) (rI (fun _ j=>0<j) fun i j=>.int (i % j)):=opI fun i j _ _ _ _ _ hc q=>by
 have h1:(0:Int)<j:=hc
 exact mod_int' (by lia) (by rw [Int.fmod_eq_emod_of_nonneg i (by lia)];exact q)
theorem unI {f:Value->Sem Value} {g:Int->Int}
  (rule:∀(i:Int) (t:Tok) (s:Shared) (Q:Value->Shared->Prop) (E:Value->Shared->Prop),Q (.int (g i) s.toks) { s with toks:=s.toks+1 }->wpAny (model X.prog X.w) X.A (f (.int i t)) Q E s) :
  UnR X f (rU fun i=>.int (g i)):=by
 intro pins s U H x v Q I rx h
 obtain ⟨i,rfl,q⟩:=h
 obtain ⟨t,rfl⟩:=rx
 exact rule i t s _ _ ⟨.int (g i),H,I.tok _,⟨_,rfl⟩,q⟩
theorem un_neg:UnR X (unaryOp .USub) (rU fun i=>.int (-i)):=unI fun _ _ _ _ _ q=>neg_int q
end
section
variable {X:Cx} {a b:Expr} {ta tb:TE} {pos:Pos}
theorem op_lt:OpR X (compareOp .Lt) (rI0 fun i j=>.bl (decide (i<j))):=zz4 fun _ _ _ _ _ _ _ q=>lt_int q
theorem op_le:OpR X (compareOp .LtE) (rI0 fun i j=>.bl (decide (i<=j))):=zz4 fun _ _ _ _ _ _ _ q=>le_int q
theorem op_gt:OpR X (compareOp .Gt) (rI0 fun i j=>.bl (decide (j<i))):=zz4 fun _ _ _ _ _ _ _ q=>gt_int q
theorem OpR.or {f:Value->Value->Sem Value} {r r':R2} (h:OpR X f r) (h':OpR X f r'):OpR X f (fun x y H Q=>r x y H Q\/r' x y H Q):=by
 intro pins s U H x y v u Q I rx ry q
 rcases q with q | q
 . exact h pins s U H x y v u Q I rx ry q
 . exact h' pins s U H x y v u Q I rx ry q
theorem z1d (b:Expr) {op:CmpOp} (h:op≠.In:=by decide) (h2:op≠.NotIn:=by decide):behindInMarks op b=false:=by
 have e1:(op==CmpOp.In)=false:=by cases op<;>first | rfl | exact absurd rfl h
 have e2:(op==CmpOp.NotIn)=false:=by cases op<;>first | rfl | exact absurd rfl h2
 cases b<;>simp [behindInMarks,e1,e2]
theorem zoy {op:CmpOp} {r:R2} (ho:OpR X (compareOp op) r) (ha:PE X a ta) (hb:PE X b tb) (hm:behindInMarks op b=false):PE X (.Compare a [op] [b] pos) (tOp r ta tb):=by
 intro pins s U H Q I h
 exact wpAny_Compare1 (zz1 ha hb I h fun v u s2 x y H2 I2 rx ry q=>ho pins s2 U H2 x y v u Q I2 rx ry q) hm
def y2d (K:Frag) (x:V) (H:Hp) (k:Bool):Prop:=
 match x with
 | .non=>k=false
 | .bl b=>k=b
 | .int i=>k=(i != 0)
 | .str y=>y.length<=sizeLine/\k=((y.length:Int) != 0)
 | .byt y=>y.size<=sizeLine/\k=((y.size:Int) != 0)
 | .ref p=>(∃xs,SqL K H p xs/\k=!xs.isEmpty)\/(∃xs,SqT K H p xs/\k=!xs.isEmpty)\/∃kvs,H p=some (.dK kvs)/\k=!kvs.isEmpty
 | _=>False
theorem zer {κ:Type} {kvs:List (κ×V)} {vs:List (κ×Value)} (r:KV kvs vs):(!vs.isEmpty)=!kvs.isEmpty:=by
 cases r<;>rfl
theorem z7p {xs:List V} {its:List Value} (r:Vals xs its):(!its.toArray.isEmpty)=!xs.isEmpty:=by
 cases r<;>simp
theorem z6n:(sizeLine:Nat)<2 ^ 63:=by rw [sizeLine_eq];decide
theorem zmp:y3b X (fun x H Q=>∃k,y2d X.K x H k/\Q k H):=by
 intro pins s U H x v Q I rx h
 obtain ⟨k,e,q⟩:=h
 have hl:=z6n
 have hs:sizeLine=16777216:=sizeLine_eq
 cases x with
 | non=>
  cases rx
  have e':k=false:=e
  subst e'
  exact truthy_none ⟨H,I,q⟩
 | bl b=>
  cases rx
  have e':k=b:=e
  subst e'
  exact wpAny_truthy_bool ⟨H,I,q⟩
 | int i=>
  obtain ⟨t,rfl⟩:=rx
  have e':k=(i != 0):=e
  subst e'
  exact PySem.P.truthy_int ⟨H,I,q⟩
 | str y=>
  obtain ⟨t,rfl⟩:=rx
  obtain ⟨hy,e'⟩:y.length<=sizeLine/\k=((y.length:Int) != 0):=e
  subst e'
  exact PySem.P.truthy_str (by lia) ⟨H,I.tok _,q⟩
 | byt y=>
  obtain ⟨t,rfl⟩:=rx
  obtain ⟨hy,e'⟩:y.size<=sizeLine/\k=((y.size:Int) != 0):=e
  subst e'
  exact PySem.W.truthy_bytes (by lia) ⟨H,I.tok _,q⟩
 | ref p=>
  cases rx
  have e':(∃xs,SqL X.K H p xs/\k=!xs.isEmpty)\/(∃xs,SqT X.K H p xs/\k=!xs.isEmpty)\/∃kvs,H p=some (.dK kvs)/\k=!kvs.isEmpty:=e
  rcases e' with ⟨xs,hx,e'⟩ | ⟨xs,hx,e'⟩ | ⟨kvs,hx,e'⟩
  . subst e'
    obtain ⟨its,r,pl,hz⟩:=I.list hx
    have hlen:=r.length
    exact wpAny_truthy_list pl.isList (by simp only [List.size_toArray];lia) ⟨H,I.tok _,by rw [z7p r];exact q⟩
  . subst e'
    obtain ⟨its,r,pl,hz⟩:=I.tuple hx
    have hlen:=r.length
    exact truthy_tuple pl (by simp only [List.size_toArray];lia) ⟨H,I.tok _,by rw [z7p r];exact q⟩
  . subst e'
    obtain ⟨hz,hS,vs,r,m⟩:kvs.length<=sizeLine/\(p==sysModules)=false/\∃vs,KV kvs vs/\s.heap.DictOf (z18 X.prog X.w) p vs:=I.hok p _ hx
    have hlen:kvs.length=vs.length:=Paired.length r
    exact wpAny_truthy_dict hS m (by lia) ⟨H,I.tok _,by rw [zer r];exact q⟩
 | _=>exact (show False from e).elim
theorem z66 {x:V} {us:List Value} (r:Vals [x] us):∃u,us=[u]/\RelV x u:=by
 cases r with
 | cons r1 r2=>cases r2;exact ⟨_,rfl,r1⟩
theorem zoz {x y:V} {us:List Value} (r:Vals [x,y] us):∃u w',us=[u,w']/\RelV x u/\RelV y w':=by
 cases r with
 | cons r1 r2=>
  cases r2 with
  | cons r3 r4=>cases r4;exact ⟨_,_,rfl,r1,r3⟩
theorem call_int1:CallR X (.type "int") (fun xs H Q=>(∃i,xs=[.int i]/\Q (.int i) H)\/∃k,xs=[.bl k]/\Q (.int (if k then 1 else 0)) H):=by
 intro pins s U H xs us Q I r h
 rcases h with ⟨i,rfl,q⟩ | ⟨k,rfl,q⟩
 . obtain ⟨u,rfl,t,rfl⟩:=z66 r
   exact call_int_int ⟨.int i,H,I,⟨_,rfl⟩,q⟩
 . obtain ⟨u,rfl,r1⟩:=z66 r
   cases r1
   exact call_int_bool ⟨.int (if k then 1 else 0),H,I.tok _,⟨_,rfl⟩,q⟩
end
structure ObjM (h:Heap) (x dx C:Addr) (mA:Str->Option Value):Prop where
 obj:h.get? x=some (PySem.W.instObj C dx)
 ns:h.Ns1 dx mA
 ne:dx≠x
theorem zfx {h:Heap} {dx:Addr} {mA:Str->Option Value} (n:h.Ns1 dx mA):∃od,h.get? dx=some od/\∀name,PySem.W.lookIn name od=some (mA name):=by
 obtain ⟨o,es,ep,ho,hd,hk,_,hm⟩:=n
 refine ⟨o,ho,fun name=>?_⟩
 have e:=hm name
 unfold nsFind findBy at e
 rw [<-Array.find?_toList] at e
 unfold PySem.W.lookIn
 rw [hd]
 dsimp only
 split
 . rename_i y q
   rw [q] at e
   exact congrArg some e
 . rename_i q
   rw [q] at e
   have a:es.toList.any (·.refKey)=false:=by
    rw [List.any_eq_false]
    intro y hy
    obtain ⟨z,t,hkey⟩:=hk y (Array.mem_toList_iff.mp hy)
    simp [DictEntry.refKey,hkey]
   have a':¬es.toList.any (·.refKey)=true:=by rw [a];exact Bool.false_ne_true
   rw [if_neg a']
   exact congrArg some e
theorem ObjM.look {h:Heap} {x dx C:Addr} {mA:Str->Option Value} (I:ObjM h x dx C mA):∃od,PySem.W.InstAt h x (PySem.W.instObj C dx) C (some od)/\∀name,PySem.W.lookIn name od=some (mA name):=
 let ⟨od,ho,hl⟩:=zfx I.ns
 ⟨od,⟨I.obj,rfl,rfl,ho⟩,hl⟩
theorem RelO.some_of {v:V} {o:Option Value} (r:RelO (some v) o):∃u,o=some u/\RelV v u:=by
 cases o with
 | none=>exact (show False from r).elim
 | some u=>exact ⟨u,rfl,r⟩
section
variable {P:Program} {w:World} {H:Hp} {h:Heap} {a C dx:Addr} {fs:List (Str×V)}
theorem zp0 (hok:HOk P w H h) (e:H a=some (.ins C dx fs)):∃mA,ObjM h a dx C mA/\(∀f,RelO (fs.lookup f) (mA f))/\PySem.Within mA (fs.map (·.1))/\fs.length<=1000/\H dx=some (.own a):=by
 obtain ⟨d,z,ne,ob,mA,n,r,q⟩:=(show ObjOk P w H h a (.ins C dx fs) from hok a _ e)
 exact ⟨mA,⟨ob,n,ne⟩,r,q,z,d⟩
end
structure Cls (K:Frag) (C:Addr):Prop where
 pg:PySem.W.plainGet K C Str.empty=true
 hd:PySem.W.hasDictIn K C=true
 po:PySem.W.plainOver K C=true
 sa:PySem.W.findIn K (.ref C) "__setattr__"=some (some (.builtin "object.__setattr__"))
theorem Cls.get {K:Frag} {C:Addr} (c:Cls K C) (f:Str):PySem.W.plainGet K C f=true:=c.pg
section
variable {X:Cx} {pins:List (Addr×Obj)} {U:St} {H:Hp} {s:Shared} {A:Around} {E:Value->Shared->Prop} {Q:Value->Shared->Prop} {c:Value} {b:Bool}
inductive TyOf (K:Frag) (H:Hp):V->Value->Prop where
 | non:TyOf K H .non (.type "NoneType")
 | bl (x:Bool):TyOf K H (.bl x) (.type "bool")
 | int (i:Int):TyOf K H (.int i) (.type "int")
 | str (x:Str):TyOf K H (.str x) (.type "str")
 | flt (x:UInt64):TyOf K H (.flt x) (.type "float")
 | lst {a:Addr} {xs:List V} (e:H a=some (.lst xs)):TyOf K H (.ref a) (.type "list")
 | frz {a:Addr} {o:Obj} {xs:List V} (e:H a=some (.frz o (.lst xs))):TyOf K H (.ref a) (.type "list")
 | tup {a:Addr} {xs:List V} (e:H a=some (.tup xs)):TyOf K H (.ref a) (.type "tuple")
 | dK {a:Addr} {kvs:List (Key×V)} (e:H a=some (.dK kvs)):TyOf K H (.ref a) (.type "dict")
 | dT {a:Addr} {kvs:List (List Key×V)} (e:H a=some (.dT kvs)):TyOf K H (.ref a) (.type "dict")
 | ins {a C dx:Addr} {fs:List (Str×V)} (e:H a=some (.ins C dx fs)) (cl:Cls K C) (ha:PySem.W.findIn K (.ref C) "__class__"=some (some (.builtin "object.__class__")))
  (hn:PySem.W.specialIn K (.builtin "object.__class__") "__get__"=some (some (.builtin "getset_descriptor.__get__"))) (htk:PySem.W.takesIn K (.builtin "object.__class__")=some true)
  (hm:PySem.W.mroIn K C (.type "object")=some true):TyOf K H (.ref a) (.ref C)
theorem z19 {x:V} {u t:Value} (I:Inv X pins U H s) (rx:RelV x u) (ty:TyOf X.K H x t) (e:PySem.W.kitOne X.K t c=some b) (h:∀tk,Q (.bool b) { s with toks:=tk }) :
  wpAny (model X.prog X.w) A (call (.builtin "isinstance") [u,c]) Q E s:=by
 cases ty with
 | non=>cases (show u=Value.none from rx);exact kia_one PySem.W.kitx_none I.kIn True.intro e (fun z=>nomatch z) h
 | bl y=>cases (show u=Value.bool y from rx);exact kia_one PySem.W.kitx_bool I.kIn True.intro e (fun z=>nomatch z) h
 | int i=>obtain ⟨t,q⟩:=(show ∃t,u=Value.int i t from rx);cases q;exact kia_one PySem.W.kitx_int I.kIn True.intro e (fun z=>nomatch z) h
 | str y=>obtain ⟨t,q⟩:=(show ∃t,u=Value.str y t from rx);cases q;exact kia_one PySem.W.kitx_str I.kIn True.intro e (fun z=>nomatch z) h
 | flt y=>obtain ⟨t,q⟩:=(show ∃t,u=Value.float y t from rx);cases q;exact kia_one PySem.W.kitx_float I.kIn True.intro e (fun z=>nomatch z) h
 | @lst a xs ea=>
  cases (show u=Value.ref a from rx)
  obtain ⟨_,_,n,_,h1⟩:=(show ObjOk X.prog X.w H s.heap a (.lst xs) from I.hok a _ ea)
  exact kia_one PySem.W.kitx_list I.kIn ⟨_,h1,rfl⟩ e (fun z=>nomatch z) h
 | @frz a ob xs ea=>
  cases (show u=Value.ref a from rx)
  obtain ⟨_,_,_,n,_,h1⟩:=(show ObjOk X.prog X.w H s.heap a (.frz ob (.lst xs)) from I.hok a _ ea)
  exact kia_one PySem.W.kitx_list I.kIn ⟨_,h1,rfl⟩ e (fun z=>nomatch z) h
 | @tup a xs ea=>
  cases (show u=Value.ref a from rx)
  obtain ⟨_,_,_,p⟩:=(show ObjOk X.prog X.w H s.heap a (.tup xs) from I.hok a _ ea)
  obtain ⟨o,h1,h2,_⟩:=p
  exact kia_one PySem.W.kitx_tuple I.kIn ⟨o,h1,h2⟩ e (fun z=>nomatch z) h
 | @dK a kvs ea=>
  cases (show u=Value.ref a from rx)
  obtain ⟨_,_,vs,_,p⟩:=(show ObjOk X.prog X.w H s.heap a (.dK kvs) from I.hok a _ ea)
  obtain ⟨o,es,ep,h1,h2,_⟩:=p
  exact kia_one PySem.W.kitx_dict I.kIn ⟨o,h1,h2.1⟩ e (fun z=>nomatch z) h
 | @dT a kvs ea=>
  cases (show u=Value.ref a from rx)
  obtain ⟨_,_,xs,_,o,es,ep,h1,h2,_⟩:=(show ObjOk X.prog X.w H s.heap a (.dT kvs) from I.hok a _ ea)
  exact kia_one PySem.W.kitx_dict I.kIn ⟨o,h1,h2.1⟩ e (fun z=>nomatch z) h
 | @ins a C dx fs ea cl ha hn htk hm=>
  cases (show u=Value.ref a from rx)
  obtain ⟨mA,O,_⟩:=zp0 I.hok ea
  obtain ⟨od,J,_⟩:=O.look
  exact kia_one (PySem.W.kitx_own (cl.get _) cl.hd ha hn htk hm) I.kIn J e (fun z=>nomatch z) h
end
structure Room (k:Nat) (A:Around):Prop where
 hd:A.handled=none
 dp:A.depth+3 * k+5<recursionLimit
 un:A.units+16 * k+200<cLine
theorem Room.mono {j k:Nat} {A:Around} (r:Room k A) (h:j<=k):Room j A:=⟨r.hd,by have:=r.dp;lia,by have:=r.un;lia⟩
theorem Room.deeper {k:Nat} {A:Around} (r:Room (k+1) A) (env:Env):Room k (A.deeper env):=
 ⟨r.hd,by have:=r.dp;show A.depth+1+3 * k+5<_;lia,by have:=r.un;show A.units+3+16 * k+200<_;lia⟩
theorem Room.depth {k:Nat} {A:Around} (r:Room k A):A.depth<recursionLimit:=by have:=r.dp;omega
theorem Room.units {k:Nat} {A:Around} (r:Room k A):A.units+64<cLine:=by have:=r.un;lia
noncomputable def zp1:TA:=fun _ H Q=>Q [] H
noncomputable def z67 (ta:TE) (tr:TA):TA:=fun U H Q=>ta U H fun x H1=>tr U H1 fun xs H2=>Q (x::xs) H2
section
variable {X:Cx} {e:Expr} {es:List Expr} {te:TE} {t:TA} {pos:Pos}
theorem pa_nil:PA X [] zp1:=fun _ _ _ _ H Q I h=>Calls.spliced_nil ⟨[],H,I,.nil,h⟩
theorem z34 (ha:PE X e te) (hr:PA X es t) (hs:starEach (e::es) X.env=(false,eval e X.env)::starEach es X.env:=by rfl):PA X (e::es) (z67 te t):=by
 intro pos pins s U H Q I h
 rw [hs]
 show wpAny _ _ (spliced ((false,eval e X.env)::backTo pos (starEach es X.env))) _ _ s
 refine Calls.spliced_cons (thn (ha pins s U H _ I h) fun u s1 ⟨x,H1,I1,r1,q1⟩=>?_)
 exact thn (hr pos pins s1 U H1 _ I1 q1) fun us s2 ⟨xs,H2,I2,r2,q2⟩=>⟨x::xs,H2,I2,.cons r1 r2,q2⟩
noncomputable def y2e (t:TA):TE:=fun U H Q=>t U H fun xs H1=>xs.length<=sizeLine/\∀p,H1 p=none->Q (.ref p) (upd H1 p (.tup xs))
noncomputable def y2f (t:TA):TE:=fun U H Q=>t U H fun xs H1=>xs.length<=sizeLine/\∀p,H1 p=none->Q (.ref p) (upd H1 p (.lst xs))
theorem zsu {x1} (h:PA X es t):PE X (.Tuple es x1 pos) (y2e t):=by
 intro pins s U H Q I hq
 refine wpAny_Tuple_spliced (thn (h pos pins s U H _ I hq) fun us s1 ⟨xs,H1,I1,r,z,q⟩=>⟨by rw [<-r.length];exact z,?_⟩)
 have hf:H1 s1.heap.objs.size=none:=I1.hok.fresh (Nat.le_refl _)
 refine ⟨.ref s1.heap.objs.size,upd H1 s1.heap.objs.size (.tup xs),I1.laid (t':=s1.toks) (fun b u e=>Heap.get?_push_of_some _ e) (Nat.le_refl _) ?_,rfl,q _ hf⟩
 exact ⟨z,us,r,.mk' (Heap.get?_push_size _ rfl)⟩
theorem zsv (h:PA X es t):PE X (.List es pos) (y2f t):=by
 intro pins s U H Q I hq
 refine wpAny_List_spliced (thn (h pos pins s U H _ I hq) fun us s1 ⟨xs,H1,I1,r,z,q⟩=>⟨by rw [<-r.length];exact z,?_⟩)
 have hf:H1 s1.heap.objs.size=none:=I1.hok.fresh (Nat.le_refl _)
 refine ⟨.ref s1.heap.objs.size,upd H1 s1.heap.objs.size (.lst xs),I1.laid (t':=s1.toks) (fun b u e=>Heap.get?_push_of_some _ e) (Nat.le_refl _) ?_,rfl,q _ hf⟩
 exact ⟨z,us,0,r,Heap.get?_push_size _ rfl⟩
end
abbrev Sp:=List V->Hp->VK->XK->Prop
abbrev CXT:=List Env->Hp->Shared->XK->Value->Shared->Prop
structure Env0 (P:Program) (w:World) (K:Frag) (mg:Str->Option Value) (base:Heap) (A:Around) (outer:List Env) (s:Shared) (H:Hp):Prop where
 frames:A.frames=some outer
 mod:Mod K mg base
 bs:∀b o,base.get? b=some o->s.heap.get? b=some o/\H b=none
 bsz:base.objs.size<=s.heap.objs.size
 funs:s.heap.FunFrames base outer
 frf:∀b∈frs outer,H b=none
 hok:HOk P w H s.heap
 bare:AllBare s.gens
def CE (outer:List Env) (P:Program) (w:World) (H:Hp) (s:Shared) (Q:VK) (u:Value) (s':Shared):Prop:=
 ∃v H',s'.os=s.os/\AllBare s'.gens/\Un (frs outer) [] H H' s.heap s'.heap/\HOk P w H' s'.heap/\RelV v u/\Q v H'
def CR (CX:CXT) (outer:List Env) (P:Program) (w:World) (H:Hp) (s:Shared) (Q:VK) (E:XK) (r:Result) (s':Shared):Prop:=
 match r with
 | .ok (.ret u)=>CE outer P w H s Q u s'
 | .ok _=>False
 | .error e=>CX outer H s E e s'
structure FnOk (P:Program) (w:World) (K:Frag) (mg:Str->Option Value) (base:Heap) (CX:CXT) (k:Nat) (f:Addr) (fd:FuncData) (ps:List Str) (sp:Sp):Prop where
 len:∀vs H Q E,sp vs H Q E->vs.length=ps.length
 run:∀(A:Around) (outer:List Env) (s:Shared) (H:Hp) (args:Args) (us:List Value) (vs:List V) (Q:VK) (E:XK),Room k A->Env0 P w K mg base A outer s H->BindsTo s fd args (ps.zip us)->Vals vs us->sp vs H Q E ->
  codeAny (model P w) A (.call (.ref f) args) (CR CX outer P w H s Q E) s
theorem FnOk.imp {P:Program} {w:World} {K:Frag} {mg:Str->Option Value} {base:Heap} {CX:CXT} {k:Nat} {f:Addr} {fd:FuncData} {ps:List Str} {sp sp':Sp} (F:FnOk P w K mg base CX k f fd ps sp)
  (h:∀vs H Q E,sp' vs H Q E->sp vs H Q E):FnOk P w K mg base CX k f fd ps sp':=
 ⟨fun vs H Q E q=>F.len vs H Q E (h _ _ _ _ q),fun A outer s H args us vs Q E hr he hb hv hs=>F.run A outer s H args us vs Q E hr he hb hv (h _ _ _ _ hs)⟩
section
variable {X:Cx} {pins:List (Addr×Obj)} {U:St} {H:Hp} {s s':Shared}
theorem Inv.env0 (I:Inv X pins U H s):Env0 X.prog X.w X.K X.mg X.base X.A X.stack s H:=
 ⟨I.ok.frames,I.ok.mod,I.bs,Nat.le_trans I.ok.bsz I.sz,I.stack,I.stkFree,I.hok,I.bare⟩
theorem Inv.after {Q:VK} {u:Value} (I:Inv X pins U H s) (h:CE X.stack X.prog X.w H s Q u s'):EP X pins U Q u s':=by
 obtain ⟨v,H',os,bare,un,hok,r,q⟩:=h
 obtain ⟨hh,g,d,t,os'⟩:=s'
 obtain rfl:os'=s.os:=os
 exact ⟨v,H',I.call (h':=hh) (g':=g) (d':=d) (t':=t) (ch:=[]) un hok bare (fun b z=>absurd z (by simp)),r,q⟩
end
noncomputable def zsw (sp:Sp) (dvs:List V) (E:XK) (t:TA):TE:=fun U H Q=>t U H fun vs H1=>sp (vs++dvs) H1 Q E
def Binds (K:Frag) (fd:FuncData) (ps:List Str) (ds:List Value):Prop:=
 ∀(s:Shared) (us:List Value),K.In s.heap->(us++ds).length=ps.length->BindsTo s fd ⟨us,[]⟩ (ps.zip (us++ds))
theorem Binds.all {K:Frag} {fd:FuncData} {ps:List Str} (h:∀us:List Value,us.length=ps.length->bindArgs fd ⟨us,[]⟩=pure (ps.zip us)):Binds K fd ps []:=fun s us _ hl=>by
 rw [List.append_nil] at hl ⊢
 exact .of_eq (h us hl)
def zd8 (CX:CXT) (X:Cx) (E:XK):Prop:=∀(pins:List (Addr×Obj)) (U:St) (H:Hp) (s:Shared) (e:Value) (s':Shared),Inv X pins U H s->CX X.stack H s E e s'->X.xe e s'
section
variable {X:Cx} {CX:CXT} {k:Nat} {f:Addr} {fd:FuncData} {ps:List Str} {sp:Sp} {dvs:List V} {ds:List Value} {E:XK} {x:Str} {p pos:Pos} {e:Expr} {es:List Expr} {t:TA}
theorem zsx {pins:List (Addr×Obj)} {U:St} {H:Hp} {s:Shared} {Q:VK} {us:List Value} {vs:List V} (F:FnOk X.prog X.w X.K X.mg X.base CX k f fd ps sp) (hr:Room k X.A) (hb:Binds X.K fd ps ds) (hd:Vals dvs ds) (hx:zd8 CX X E)
  (I:Inv X pins U H s) (r:Vals vs us) (h:sp (vs++dvs) H Q E):wpAny (model X.prog X.w) X.A (call (.ref f) us) (EP X pins U Q) X.xe s:=by
 have r2:Vals (vs++dvs) (us++ds):=r.append hd
 have hl:(us++ds).length=ps.length:=by rw [<-r2.length];exact F.len _ _ _ _ h
 refine wpAny_call (codeAny_mono (F.run X.A X.stack s H ⟨us,[]⟩ (us++ds) (vs++dvs) Q E hr I.env0 (hb s us I.kIn hl) r2 h) fun r s' hq=>?_)
 cases r with
 | error e=>exact hx pins U H s e s' I hq
 | ok fl=>
  cases fl with
  | ret u=>exact I.after hq
  | next=>exact False.elim hq
  | brk=>exact False.elim hq
  | cont=>exact False.elim hq
theorem zp2 (F:FnOk X.prog X.w X.K X.mg X.base CX k f fd ps sp) (hr:Room k X.A) (hg:Gl X x) (hm:X.mg x=some (.ref f)) (hk:keepIn X.K (.ref f)=true) (hb:Binds X.K fd ps ds) (hd:Vals dvs ds) (hx:zd8 CX X E)
  (ha:PA X (e::es) t) (hdb:(x==("__debug__":Str))=false:=by decide) (he:starEach (e::es) X.env=(false,eval e X.env)::starEach es X.env:=by rfl) (hpl:(backTo pos (starEach es X.env)).any (·.1)=false:=by rfl) :
  PE X (.Call (.Name x p) (e::es) [] pos) (zsw sp dvs E t):=by
 intro pins s U H Q I h
 refine wpAny_Call_Name_kw (zot I hg hm ?_ hdb)
 refine PySem.W.callWith_K (h₀:=X.base) I.ok.mod.kin hk (thn (ha pos pins s U H _ I h) fun us s1 ⟨vs,H1,I1,r,q⟩=>⟨I1.kIn,?_⟩) he hpl
 exact zsx F hr hb hd hx I1 r q
end
structure FnScope (N P:List Str) (sc:Scope):Prop where
 kind:sc.kind=.function
 co:sc.isCoroutine=false
 gen:sc.isGenerator=false
 nd:N.Nodup
 pre:N.take P.length=P
 par:∀x∈P,sc.names.lookup x=some .local\/sc.names.lookup x=some .cell
 nofree:∀y∈sc.names,y.2≠.free
theorem za4 {kindOf:Str->Option NameKind} {x:Str}:∀{binds:List (Str×Value)} {m:Str->Option Value},(∀v,(x,v)∉binds)->bindL kindOf binds m x=m x
 | [],_,_=>rfl
 | (n,v)::r,m,h=>by
  unfold bindL
  rw [za4 fun w hw=>h w (List.mem_cons_of_mem _ hw)]
  split
  . have:x≠n:=by rintro rfl;exact h v List.mem_cons_self
    simp [this]
  . rfl
theorem za5 {kindOf:Str->Option NameKind} {x:Str}:∀{binds:List (Str×Value)} {m:Str->Option Value},(∀v,(x,v)∉binds)->bindC kindOf binds m x=m x
 | [],_,_=>rfl
 | (n,v)::r,m,h=>by
  unfold bindC
  rw [za5 fun w hw=>h w (List.mem_cons_of_mem _ hw)]
  split
  . rfl
  . have:x≠n:=by rintro rfl;exact h v List.mem_cons_self
    simp [this]
theorem za6 {kindOf:Str->Option NameKind} {x:Str} {v:Value}:∀{P:List Str} {vs:List Value} {i:Nat} {m:Str->Option Value},P.Nodup->P[i]?=some x->vs[i]?=some v->kindOf x=some .local ->
  bindL kindOf (P.zip vs) m x=some v
 | [],_,_,_,_,h,_,_=>by simp at h
 | _::_,[],_,_,_,_,h,_=>by simp at h
 | p::P,w::vs,0,m,nd,h1,h2,hk=>by
  simp at h1 h2;subst h1;subst h2
  show bindL kindOf ((p,w)::P.zip vs) m p=_
  unfold bindL
  rw [za4 fun v hv=>(List.nodup_cons.mp nd).1 (List.of_mem_zip hv).1,if_pos hk]
  simp
 | p::P,w::vs,i+1,m,nd,h1,h2,hk=>by
  show bindL kindOf ((p,w)::P.zip vs) m x=_
  unfold bindL
  exact za6 (i:=i) (List.nodup_cons.mp nd).2 (by simpa using h1) (by simpa using h2) hk
theorem za7 {kindOf:Str->Option NameKind} {x:Str} {v:Value}:∀{P:List Str} {vs:List Value} {i:Nat} {m:Str->Option Value},P.Nodup->P[i]?=some x->vs[i]?=some v->kindOf x≠some .local ->
  bindC kindOf (P.zip vs) m x=some v
 | [],_,_,_,_,h,_,_=>by simp at h
 | _::_,[],_,_,_,_,h,_=>by simp at h
 | p::P,w::vs,0,m,nd,h1,h2,hk=>by
  simp at h1 h2;subst h1;subst h2
  show bindC kindOf ((p,w)::P.zip vs) m p=_
  unfold bindC
  rw [za5 fun v hv=>(List.nodup_cons.mp nd).1 (List.of_mem_zip hv).1,if_neg hk]
  simp
 | p::P,w::vs,i+1,m,nd,h1,h2,hk=>by
  show bindC kindOf ((p,w)::P.zip vs) m x=_
  unfold bindC
  exact za7 (i:=i) (List.nodup_cons.mp nd).2 (by simpa using h1) (by simpa using h2) hk
noncomputable def z57 (N:List Str) (vs:List V):St:=vs.map some++List.replicate (N.length - vs.length) none
noncomputable def zk4 (CX:CXT) (P:Program) (w:World) (K:Frag) (mg:Str->Option Value) (base:Heap) (N:List Str) (qual:Str) (scope:Scope) (f:Addr) (cd:Value) (A:Around) (outer:List Env) (s:Shared) (H:Hp) (E:XK):Cx where
 prog:=P
 w:=w
 K:=K
 mg:=mg
 base:=base
 A:=A.deeper (envOfC qual scope s.heap.objs.size f cd)
 N:=N
 s₀:=s
 H₀:=H
 env:=envOfC qual scope s.heap.objs.size f cd
 outer:=outer
 stack:=envOfC qual scope s.heap.objs.size f cd::outer
 ex:=[]
 calm:=true
 fn:=fun _=>true
 pn:=[]
 xe:=fun e s'=>wpAny (model P w) (A.deeper (envOfC qual scope s.heap.objs.size f cd)) (leaving (envOfC qual scope s.heap.objs.size f cd) e) (fun _ s''=>CX outer H s E e s'') (fun e' s''=>CX outer H s E e' s'') s'
theorem zd9 {sc:Scope} {n:Nat} {x:Str} (h:sc.names.lookup x=some .cell):∃c,(cellsFrom n sc.names []).lookup x=some c:=by
 have q:=PySem.W.cellsFrom_some sc.names n [] (.inl h)
 exact Option.isSome_iff_exists.mp q
theorem zfy {CX:CXT} {P:Program} {w:World} {K:Frag} {mg:Str->Option Value} {base:Heap} {N ps:List Str} {qual:Str} {scope:Scope} {f:Addr} {cd:Value} {A:Around} {outer:List Env} {s s1:Shared} {H:Hp} {E:XK} {us:List Value} {vs:List V}
  (S:FnScope N ps scope) (hd:A.handled=none) (e0:Env0 P w K mg base A outer s H) (hl:vs.length=ps.length) (r:Vals vs us)
  (x:InCallC s s.heap.objs.size (bindL (envOfC qual scope s.heap.objs.size f cd).kindOf (ps.zip us) fun _=>none) (cellsFrom (s.heap.objs.size+1) scope.names []) (bindC (envOfC qual scope s.heap.objs.size f cd).kindOf (ps.zip us) fun _=>none) s1) :
  Inv (zk4 CX P w K mg base N qual scope f cd A outer s H E) [] (z57 N vs) H s1:=by
 have hpl:ps.length<=N.length:=by have:=congrArg List.length S.pre;rw [List.length_take] at this;lia
 obtain ⟨h1,tk,rfl,hk⟩:=x.done
 have noA:∀b:Addr,b∉(zk4 CX P w K mg base N qual scope f cd A outer s H E).ex:=fun b z=>absurd (show b∈([]:List Addr) from z) (by simp)
 refine ⟨⟨e0.mod,S.kind,rfl,rfl,Nat.le_refl _,fun y z c h1 h2=>?_,fun y hy=>?_,fun y c _ h=>?_,fun _=>hd,Around.frames_deeper e0.frames,.inr ⟨rfl,rfl⟩,fun b z=>absurd z (noA b),e0.bs,e0.bsz,fun b _ _=>noA b,fun b z=>absurd z (noA b),e0.funs,e0.frf⟩,
  rfl,e0.bare,Un.kept hk,⟨_,x.toInCall.ns,fun i y v h1 h2 h3=>?_⟩,fun y c h=>⟨_,x.cell y c h⟩,e0.hok.fresh (Nat.le_refl _),fun y c h=>?_,fun p hp=>absurd (show p∈([]:List (Addr×Obj)) from hp) (by simp),e0.hok.kept hk,?_⟩
 . exact name_of_addr x.apart (PySem.mem_of_lookup h1) (PySem.mem_of_lookup h2)
 . have hy:scope.names.lookup y=some .cell\/scope.names.lookup y=some .free:=hy
   rcases hy with hy | hy
   . exact zd9 hy
   . exact absurd rfl (S.nofree _ (PySem.mem_of_lookup hy))
 . exact Nat.le_of_lt (x.above y c (PySem.mem_of_lookup h))
 . have hi:i<vs.length:=by
    unfold z57 at h2
    by_cases hi:i<vs.length
    . exact hi
    . rw [List.getElem?_append_right (by simpa using hi)] at h2
      rw [List.getElem?_replicate] at h2
      split at h2<;>cases h2
   have ha:vs[i]?=some v:=by
    unfold z57 at h2
    rw [List.getElem?_append_left (by simpa using hi),List.getElem?_map] at h2
    cases e:vs[i]? with
    | none=>rw [e] at h2;cases h2
    | some a=>rw [e] at h2;cases h2;rfl
   obtain ⟨u,hu,rv⟩:=r.get ha
   have hp:ps[i]?=some y:=by
    rw [<-S.pre,List.getElem?_take_of_lt (by lia)];exact h1
   have ndP:ps.Nodup:=by rw [<-S.pre];exact S.nd.sublist (List.take_sublist _ _)
   refine ⟨u,rv,?_⟩
   rcases S.par y (List.mem_of_getElem? hp) with k | k
   . exact .inl ⟨k,za6 ndP hp hu k⟩
   . obtain ⟨c,e⟩:=zd9 (n:=s.heap.objs.size+1) k
     refine .inr ⟨.inl k,c,e,?_⟩
     have q:=x.cell y c e
     rw [za7 ndP hp hu (by show scope.names.lookup y≠_;rw [k];decide)] at q
     exact q
 . exact e0.hok.fresh (Nat.le_of_lt (x.above y c (PySem.mem_of_lookup h)))
 . unfold z57
   show _=N.length
   rw [List.length_append,List.length_map,List.length_replicate]
   lia
theorem zsy {CX:CXT} {P:Program} {w:World} {K:Frag} {mg:Str->Option Value} {base:Heap} {k:Nat} {f:Addr} {name qual:Str} {params:Arguments} {body:List Stmt} {scope:Scope} {dV kV doc pm cdv ct oc:Value} {an od:Option Addr}
  {osl:Array (Option Value)} {N ps:List Str} {sp:Sp} (lk:K.lookup f=some ⟨oc,od,.func (PySem.W.fnOf name qual params body scope dV kV doc pm an cdv ct),osl⟩) (hcd:codeIn K cdv qual=true) (S:FnScope N ps scope)
  (len:∀vs H Q E,sp vs H Q E->vs.length=ps.length)
  (hbody:∀(A:Around) (outer:List Env) (s:Shared) (H:Hp) (vs:List V) (Q:VK) (E:XK),Room k (A.deeper (envOfC qual scope s.heap.objs.size f cdv))->sp vs H Q E ->
   ∃t,PSs (zk4 CX P w K mg base N qual scope f cdv A outer s H E) body t/\t { nx:=fun _ H'=>Q .non H',rt:=Q } (z57 N vs) H) :
  FnOk P w K mg base CX (k+1) f (PySem.W.fnOf name qual params body scope dV kV doc pm an cdv ct) ps sp:=by
 refine ⟨len,fun A outer s H args us vs Q E hr e0 hb r hsp=>?_⟩
 have hl:=len _ _ _ _ hsp
 have KX:K.In s.heap:=e0.mod.kin.keeps fun b o e=>(e0.bs b o e).1
 have lim:s.heap.NoLimit:=e0.mod.nolimit.keeps fun b o e=>(e0.bs b o e).1
 have hkind:∀y∈ps.zip us,scope.names.lookup y.1=some .local\/(scope.names.lookup y.1=some .cell/\((cellsFrom (s.heap.objs.size+1) scope.names []).lookup y.1).isSome=true):=fun ⟨n,v⟩ hy=>by
  rcases S.par n (List.of_mem_zip hy).1 with q | q
  . exact .inl q
  . exact .inr ⟨q,PySem.W.cellsFrom_some _ _ _ (.inl q)⟩
 refine codeAny_call_function hr.depth (KX _ _ lk) rfl S.co S.gen rfl (PySem.W.codeRec_of KX hcd) (hb _ _ _ _ ?_)
 refine wpAny_newFunctionEnv_cells S.kind hkind fun env he s1 x=>?_
 subst he
 refine ⟨lim.keeps x.toInCall.keep,codeAny_func ?_⟩
 obtain ⟨t,ht,hq⟩:=hbody A outer s H vs Q E (hr.deeper _) hsp
 have I:Inv (zk4 CX P w K mg base N qual scope f cdv A outer s H E) [] (z57 N vs) H s1:=zfy S hr.hd e0 hl r x
 refine wpAny_mono (ht [] s1 (z57 N vs) H _ I hq) (fun fl s' hs=>?_) fun e s' hs=>hs
 have fin:∀{σ':St} {H':Hp} {v:V} {u:Value},Inv (zk4 CX P w K mg base N qual scope f cdv A outer s H E) [] σ' H' s'->RelV v u->Q v H'->CE outer P w H s Q u s':=
  fun {σ' H' v u} J rv q=>⟨v,H',J.os,J.bare,J.base,J.hok,rv,q⟩
 cases fl with
 | ret u=>
  obtain ⟨v,σ',H',J,rv,q⟩:=hs
  exact fin J rv q
 | next=>
  obtain ⟨σ',H',J,q⟩:=hs
  exact fin (v:=V.non) (u:=Value.none) J rfl q
 | brk=>
  obtain ⟨_,_,_,q⟩:=hs
  exact False.elim q
 | cont=>
  obtain ⟨_,_,_,q⟩:=hs
  exact False.elim q
section
variable {X:Cx} {x:Str} {p pos:Pos} {e:Expr} {es:List Expr} {t:TA} {id T:String} {r:List V->Hp->VK->Prop}
noncomputable def tCB (r:List V->Hp->VK->Prop) (t:TA):TE:=fun U H Q=>t U H fun vs H1=>r vs H1 Q
theorem zda (hc:CallR X (.builtin id) r) (hg:Gl X x) (hm:X.mg x=none) (hv:bootBuiltins x=some (.builtin id)) (ha:PA X (e::es) t) (hn:x≠"__name__":=by decide) (hdb:(x==("__debug__":Str))=false:=by decide)
  (he:starEach (e::es) X.env=(false,eval e X.env)::starEach es X.env:=by rfl) (hpl:(backTo pos (starEach es X.env)).any (·.1)=false:=by rfl):PE X (.Call (.Name x p) (e::es) [] pos) (tCB r t):=by
 intro pins s U H Q I h
 refine wpAny_Call_Name_kw (z3y I hg hm hv ?_ hn hdb)
 exact PyProof.Rows.callWith_builtin1 (thn (ha pos pins s U H _ I h) fun us s1 ⟨vs,H1,I1,r1,q1⟩=>hc pins s1 U H1 vs us Q I1 r1 q1) he hpl
theorem zfz (hc:CallR X (.type T) r) (hg:Gl X x) (hm:X.mg x=none) (hv:bootBuiltins x=some (.type T)) (ha:PA X (e::es) t) (hn:x≠"__name__":=by decide) (hdb:(x==("__debug__":Str))=false:=by decide)
  (he:starEach (e::es) X.env=(false,eval e X.env)::starEach es X.env:=by rfl) (hpl:(backTo pos (starEach es X.env)).any (·.1)=false:=by rfl):PE X (.Call (.Name x p) (e::es) [] pos) (tCB r t):=by
 intro pins s U H Q I h
 refine wpAny_Call_Name_kw (z3y I hg hm hv ?_ hn hdb)
 exact PyProof.Rows.callWith_type1 (thn (ha pos pins s U H _ I h) fun us s1 ⟨vs,H1,I1,r1,q1⟩=>hc pins s1 U H1 vs us Q I1 r1 q1) he hpl
end
end L2
namespace HT
open PySem PyProof.Rows
theorem rcLt_int (A:Around) (s:Shared) (a:Int) (t:Tok) (c:Int) (u:Tok) (prog:Program) (w:World) (E:Value->Shared->Prop) (Q:Value->Shared->Prop) (h:Q (.bool (decide (a<c))) s) :
  wpAny (model prog w) A (richCompare .Lt (.int a t) (.int c u)) Q E s:=
 (PyProof.Rows.lt_int h:wpAny (model prog w) A (compareOp .Lt (.int a t) (.int c u)) Q E s)
section
open PySem.SeqAt
open PySem.AutoSeq1 (wpAny_loadPart')
open PySem.MeetsSeq PySem.MeetsSeq2 PySem.MeetsSeq3
end
section
variable {prog:Program} {w:World} {A:Around} {E:Value->Shared->Prop} {s:Shared}
theorem cat_tup {t b:Addr} {vs ws:List Value} {Q:Value->Shared->Prop} (ht:IsTup s.heap t vs.toArray) (hb:IsTup s.heap b ws.toArray) (hv:vs≠[])
  (h1:ws=[]->Q (.ref t) s) (h2:ws≠[]->Q (.ref s.heap.objs.size) { s with heap:=s.heap.push { cls:=.type "tuple",data:=.seq (vs++ws).toArray } })
  (hsz:vs.length+ws.length<=sizeLine):wpAny (model prog w) A (binaryOp .Add (.ref t) (.ref b)) Q E s:=by
 obtain ⟨⟨cls,dd,data,sl⟩,ho,hc,n,hd⟩:=id ht
 obtain ⟨⟨cls2,dd2,data2,sl2⟩,ho2,hc2,n2,hd2⟩:=id hb
 simp only at hc hd hc2 hd2
 subst hc hd hc2 hd2
 have e:vs.toArray++ws.toArray=(vs++ws).toArray:=by simp
 by_cases hw:ws=[]
 . exact concat_meets ⟨_,ho,rfl⟩ ⟨_,ho2,rfl⟩ noFill_tuple_add seq_tuple_add PySem.F.slot_tuple_add PySem.F.entry_tuple_add (PySem.F.args_tuple_add_2 _ _)
    (tuple_addW1 t b vs.toArray ws.toArray n n2 dd dd2 sl sl2 (by simpa using hv) (by simp [hw])) ⟨ho,ho2,h1 hw⟩
 . refine concat_meets ⟨_,ho,rfl⟩ ⟨_,ho2,rfl⟩ noFill_tuple_add seq_tuple_add PySem.F.slot_tuple_add PySem.F.entry_tuple_add (PySem.F.args_tuple_add_2 _ _)
    (tuple_addW2 t b vs.toArray ws.toArray n n2 dd dd2 sl sl2 (by simpa using hv) (by simpa using hw) (by rw [List.size_toArray,List.size_toArray];exact hsz)) ⟨ho,ho2,?_⟩
   rw [e]
   exact h2 hw
def sIx (n d:Nat):Option Int->Nat
 | none=>d
 | some v=>if v<0 then (v+(n:Int)).toNat else min v.toNat n
end
end HT
namespace L2
open PySem PySem.Spec PyProof.Rows
abbrev TO:=St->Hp->(Option Int->Hp->Prop)->Prop
def PO (X:Cx) (e:Option Expr) (t:TO):Prop:=
 ∀(pins:List (Addr×Obj)) (s:Shared) (U:St) (H:Hp) (Q:Option Int->Hp->Prop),Inv X pins U H s->t U H Q ->
  wpAny (model X.prog X.w) X.A (evalPart e X.env) (fun u s'=>∃o H',Inv X pins U H' s'/\IsPart u o/\Q o H') X.xe s
noncomputable def zz5 (t:TE):TO:=fun U H Q=>t U H fun x H1=>∃i,x=.int i/\Q (some i) H1
theorem z58 {ns:List Int}:∀{us:List Value},Vals (ns.map V.int) us->IntsAre us ns:=by
 induction ns with
 | nil=>intro us r;rw [List.map_nil] at r;cases r;exact .nil
 | cons n ns ih=>
  intro us r
  rw [List.map_cons] at r
  cases r with
  | cons r1 r2=>
   obtain ⟨t,e⟩:=r1
   subst e
   exact .cons n t (ih r2)
section
variable {X:Cx} {e:Expr} {te:TE} {lo hi:Option Expr} {tl th:TO} {pos p2:Pos}
theorem zp3 (h:PE X e te):PO X (some e) (zz5 te):=by
 intro pins s U H Q I hw
 rw [evalPart_some]
 refine thn (h pins s U H _ I hw) fun u s1 ⟨x,H1,I1,r1,q1⟩=>?_
 obtain ⟨i,rfl,q⟩:=q1
 obtain ⟨t,rfl⟩:=r1
 exact ⟨some i,H1,I1,.int i t,q⟩
def SlR (X:Cx) (r:V->Option Int->Option Int->Hp->VK->Prop):Prop:=
 ∀(pins:List (Addr×Obj)) (s:Shared) (U:St) (H:Hp) (x:V) (v vl vu:Value) (lo hi:Option Int) (sl:Addr) (Q:VK),Inv X pins U H s->RelV x v->s.heap.IsSliceOf sl vl vu .none->IsPart vl lo->IsPart vu hi->r x lo hi H Q ->
  ∃T id,typeLookup (.type T) "__getitem__"=pure (some (.builtin id))/\s.TypeIs v T/\wpAny (model X.prog X.w) X.A (getItem v (.ref sl)) (EP X pins U Q) X.xe s
noncomputable def tSl (r:V->Option Int->Option Int->Hp->VK->Prop) (te:TE) (tl th:TO):TE:=fun U H Q=>te U H fun x H1=>tl U H1 fun l H2=>th U H2 fun u H3=>r x l u H3 Q
theorem zke {r:V->Option Int->Option Int->Hp->VK->Prop} (hr:SlR X r) (he:PE X e te) (hl:PO X lo tl) (hu:PO X hi th):PE X (.Subscript e (.Slice lo hi none p2) pos) (tSl r te tl th):=by
 intro pins s U H Q I h
 refine Subscript_ (thn (he pins s U H _ I h) fun v s1 ⟨x,H1,I1,r1,q1⟩=>?_)
 refine wpAny_Slice (thn (hl pins s1 U H1 _ I1 q1) fun vl s2 ⟨l,H2,I2,pl,q2⟩=>thn (hu pins s2 U H2 _ I2 q2) fun vu s3 ⟨u,H3,I3,pu,q3⟩=>?_)
 rw [evalPart_none]
 refine wpAny_pure ?_
 have I4:Inv X pins U H3 { s3 with heap:=s3.heap.push { cls:=.type "slice",data:=.fields #[vl,vu,.none] } }:=I3.kept (t':=s3.toks) fun b ob q=>Heap.get?_push_of_some _ q
 obtain ⟨T,id,hT,ht,hg⟩:=hr pins { s3 with heap:=s3.heap.push { cls:=.type "slice",data:=.fields #[vl,vu,.none] } } U H3 x v vl vu l u s3.heap.objs.size Q I4 r1 (Heap.IsSliceOf.new ..) pl pu q3
 show wpAny (model X.prog X.w) X.A (subscriptTail e (.Slice lo hi none p2) v (.ref s3.heap.objs.size)) (EP X pins U Q) X.xe { s3 with heap:=s3.heap.push { cls:=.type "slice",data:=.fields #[vl,vu,.none] } }
 exact tail_any (ops:=[.ref s3.heap.objs.size,v]) ht hT hg (by with_unfolding_all rfl)
noncomputable def zsb (xs:List V) (lo hi:Option Int):List V:=(xs.drop (HT.sIx xs.length 0 lo)).take (HT.sIx xs.length xs.length hi - HT.sIx xs.length 0 lo)
theorem zbp (xs:List V) (lo hi:Option Int):(zsb xs lo hi).length<=xs.length:=by
 unfold zsb
 rw [List.length_take,List.length_drop]
 omega
noncomputable def zz6 (K:Frag):R2:=fun x y H Q=>∃a b xs ys,x=.ref a/\y=.ref b/\SqT K H a xs/\SqT K H b ys/\xs≠[]/\xs.length+ys.length<=sizeLine /\
 (ys=[]->Q (.ref a) H)/\(ys≠[]->∀p,H p=none->Q (.ref p) (upd H p (.tup (xs++ys))))
theorem Vals.nil_iff {xs:List V} {us:List Value} (r:Vals xs us):us=[]↔xs=[]:=by
 cases r with
 | nil=>simp
 | cons _ _=>simp
theorem zp4:OpR X (binaryOp .Add) (zz6 X.K):=by
 intro pins s U H x y v u Q I rx ry h
 obtain ⟨a,b,xs,ys,rfl,rfl,ha,hb,hx,hz,q1,q2⟩:=h
 cases rx
 cases ry
 obtain ⟨its,r1,p1,_⟩:=I.tuple ha
 obtain ⟨its2,r2,p2,_⟩:=I.tuple hb
 refine HT.cat_tup p1 p2 (fun z=>hx (r1.nil_iff.mp z)) (fun z=>⟨.ref a,H,I,rfl,q1 (r2.nil_iff.mp z)⟩) (fun z=>?_) (by rw [<-r1.length,<-r2.length];exact hz)
 refine ⟨.ref s.heap.objs.size,_,I.laid (t':=s.toks) (o:=.tup (xs++ys)) (fun b ob q=>Heap.get?_push_of_some _ q) (Nat.le_refl _) ?_,rfl,q2 (fun w=>z (r2.nil_iff.mpr w)) _ (I.hok.fresh (Nat.le_refl _))⟩
 exact ⟨by rw [List.length_append];exact hz,_,r1.append r2,.mk' (Heap.get?_push_size _ rfl)⟩
end
noncomputable def ixN (n:Nat) (i:Int):Option Nat:=if 0<=i then (if i<n then some i.toNat else none) else if -(n:Int)<=i then some (i+n).toNat else none
noncomputable def atI {α:Type} (xs:List α) (i:Int):Option α:=(ixN xs.length i).bind fun j=>xs[j]?
theorem zg0 {n:Nat} {i:Int} {j:Nat} (h:ixN n i=some j):seqIndex? i n=some j/\j<n/\-(n:Int)<=i/\i<n:=by
 unfold ixN at h
 by_cases h0:0<=i
 . rw [if_pos h0] at h
   by_cases h1:i<n
   . rw [if_pos h1] at h
     have e:i.toNat=j:=Option.some.inj h
     exact ⟨by rw [seqIndex_of h0 h1,e],by lia,by lia,h1⟩
   . rw [if_neg h1] at h;cases h
 . rw [if_neg h0] at h
   by_cases h1:-(n:Int)<=i
   . rw [if_pos h1] at h
     have e:(i+n).toNat=j:=Option.some.inj h
     exact ⟨by rw [seqIndex_neg (by lia) h1,e],by lia,h1,by lia⟩
   . rw [if_neg h1] at h;cases h
theorem zbq {α:Type} {xs:List α} {i:Int} {v:α} (h:atI xs i=some v):∃j,seqIndex? i xs.length=some j/\xs[j]?=some v/\j<xs.length/\-(xs.length:Int)<=i/\i<xs.length:=by
 unfold atI at h
 cases e:ixN xs.length i with
 | none=>rw [e] at h;cases h
 | some j=>
  rw [e] at h
  obtain ⟨h1,h2,h3,h4⟩:=zg0 e
  exact ⟨j,h1,h,h2,h3,h4⟩
theorem z8c {α:Type} {xs:List α} {j:Nat} {v:α} (h:xs[j]?=some v):atI xs (j:Int)=some v:=by
 have hj:j<xs.length:=(List.getElem?_eq_some_iff.mp h).1
 have e:ixN xs.length (j:Int)=some j:=by
  unfold ixN
  rw [if_pos (by lia),if_pos (by lia)];simp
 unfold atI;rw [e];exact h
theorem zkf {α:Type} (xs:List α) (v:α):atI (xs++[v]) (-1)=some v:=by
 have hl:(xs++[v]).length=xs.length+1:=by simp
 have e:ixN (xs++[v]).length (-1)=some xs.length:=by
  unfold ixN
  rw [hl,if_neg (by decide),if_pos (by lia)]
  congr 1
  lia
 unfold atI
 rw [e]
 show (xs++[v])[xs.length]?=some v
 simp
def zbr (b:Expr):Prop:=∀o i,subscripted b false o i=operate [o,i] (getItem o i)
def IxR (X:Cx) (r:R2):Prop:=
 ∀(value slice:Expr) (pins:List (Addr×Obj)) (s:Shared) (U:St) (H:Hp) (x y:V) (v u:Value) (Q:VK),Inv X pins U H s->RelV x v->RelV y u->r x y H Q ->
  subscripted slice false v u=operate [v,u] (getItem v u)->wpAny (model X.prog X.w) X.A (subscriptTail value slice v u) (EP X pins U Q) X.xe s
def MtR (X:Cx) (id:String) (r:V->List V->Hp->VK->Prop):Prop:=
 ∀(pins:List (Addr×Obj)) (s:Shared) (U:St) (H:Hp) (x:V) (xs:List V) (v:Value) (us:List Value) (Q:VK),Inv X pins U H s->RelV x v->Vals xs us->r x xs H Q ->
  wpAny (model X.prog X.w) X.A (call (.builtin id) (v::us)) (EP X pins U Q) X.xe s
section
variable {X:Cx} {a b:Expr} {ta tb:TE} {pos:Pos}
theorem IxR.or {r r':R2} (h:IxR X r) (h':IxR X r'):IxR X (fun x y H Q=>r x y H Q\/r' x y H Q):=by
 intro value slice pins s U H x y v u Q I rx ry q hs
 rcases q with q | q
 . exact h value slice pins s U H x y v u Q I rx ry q hs
 . exact h' value slice pins s U H x y v u Q I rx ry q hs
theorem zz7 {r:R2} (hr:IxR X r) (ha:PE X a ta) (hb:PE X b tb) (hs:zbr b):PE X (.Subscript a b pos) (tOp r ta tb):=by
 intro pins s U H Q I h
 exact Subscript_ (zz1 ha hb I h fun v u s2 x y H2 I2 rx ry q=>hr a b pins s2 U H2 x y v u Q I2 rx ry q (hs _ _))
noncomputable def y2g (K:Frag):R2:=fun x y H Q=>∃p xs i v,x=.ref p/\y=.int i/\SqL K H p xs/\atI xs i=some v/\Q v H
noncomputable def y2h (K:Frag):R2:=fun x y H Q=>∃p xs i v,x=.ref p/\y=.int i/\SqT K H p xs/\atI xs i=some v/\Q v H
noncomputable def y2i:R2:=fun x y H Q=>∃z i c,x=.str z/\y=.int i/\z.length<=sizeLine/\atI z.cps.toList i=some c/\Q (.str ⟨#[c]⟩) H
theorem ix_list:IxR X (y2g X.K):=by
 intro value slice pins s U H x y v u Q I rx ry h hs
 obtain ⟨p,xs,i,z,rfl,rfl,hq,he,q⟩:=h
 cases rx
 obtain ⟨t,rfl⟩:=ry
 obtain ⟨its,r,pl,hz⟩:=I.list hq
 obtain ⟨j,h1,h2,h3,h4,h5⟩:=zbq he
 obtain ⟨w,ew,rw'⟩:=r.get h2
 have hl:=r.length
 have hn:=z6n
 have fin:EP X pins U Q w s:=⟨z,H,I,rw',q⟩
 by_cases h0:0<=i
 . have hj:i.toNat=j:=by
    rw [seqIndex_of h0 h5] at h1
    exact Option.some.inj h1
   exact item_listR pl.isList h0 (by lia) (by rw [hj];simpa using ew) fin hs
 . have hj:(i+(its.toArray.size:Int)).toNat=j:=by
    rw [seqIndex_neg (by lia) h4] at h1
    rw [List.size_toArray,<-hl]
    exact Option.some.inj h1
   exact subscriptTail_builtinR (x:=w) pl.isList.typeIs slot_list_getitem.lookup
    (wpAny_getItem_list_neg (Q:=fun r s'=>r=w/\EP X pins U Q r s') pl.isList (by lia) (by rw [List.size_toArray]<;>lia) (by lia) (by rw [hj];simpa using ew) ⟨rfl,fin⟩) hs
theorem ix_tup:IxR X (y2h X.K):=by
 intro value slice pins s U H x y v u Q I rx ry h hs
 obtain ⟨p,xs,i,z,rfl,rfl,hq,he,q⟩:=h
 cases rx
 obtain ⟨t,rfl⟩:=ry
 obtain ⟨its,r,pl,hz⟩:=I.tuple hq
 obtain ⟨j,h1,h2,h3,h4,h5⟩:=zbq he
 obtain ⟨w,ew,rw'⟩:=r.get h2
 have hl:=r.length
 have hn:=z6n
 have fin:EP X pins U Q w s:=⟨z,H,I,rw',q⟩
 exact subscriptTail_builtinR (x:=w) pl.typeIs slot_tuple_getitem.lookup
  (getItem_tuple (j:=j) (Q:=fun r s'=>r=w/\EP X pins U Q r s') pl (by lia) (by lia) (by rw [List.size_toArray,<-hl];exact h1) (by simpa using ew) ⟨rfl,fin⟩) hs
theorem zsz:IxR X y2i:=by
 intro value slice pins s U H x y v u Q I rx ry h hs
 obtain ⟨z,i,c,rfl,rfl,hz,he,q⟩:=h
 obtain ⟨t,rfl⟩:=rx
 obtain ⟨t',rfl⟩:=ry
 obtain ⟨j,h1,h2,h3,h4,h5⟩:=zbq he
 have hl:z.cps.toList.length=z.length:=by simp [Str.length]
 rw [hl] at h1 h4 h5
 have hn:=z6n
 exact tail_any (typeIs_str s z t) slot_str_getitem.lookup (getItem_str (c:=c) (by
  have e1:decide (i < -(2 ^ 63:Int))=false:=decide_eq_false (by lia)
  have e2:decide (i ≥ 2 ^ 63)=false:=decide_eq_false (by lia)
  rw [e1,e2,Bool.or_false]) (by rw [h1];simpa using h2) ⟨.str ⟨#[c]⟩,H,I.tok _,⟨_,rfl⟩,q⟩) hs
noncomputable def rIx (K:Frag):R2:=fun x y H Q=>y2g K x y H Q\/y2h K x y H Q\/y2i x y H Q
theorem ix_seq:IxR X (rIx X.K):=ix_list.or (ix_tup.or zsz)
theorem zes (its:List Value) (n j:Nat) (u:Value):Obj.mapSeq (·.setIfInBounds j u) { cls:=.type "list",data:=.seq its.toArray n }={ cls:=.type "list",data:=.seq (its.set j u).toArray n }:=by
 simp [Obj.mapSeq]
theorem Inv.lst {pins:List (Addr×Obj)} {U:St} {H:Hp} {s:Shared} {p:Addr} {xs:List V} (I:Inv X pins U H s) (h:H p=some (.lst xs)) :
  ∃(its:List Value) (n:Nat),Vals xs its/\s.heap.get? p=some { cls:=.type "list",data:=.seq its.toArray n }/\xs.length<=sizeLine:=by
 obtain ⟨z,its,n,r,e⟩:=I.hok p _ h
 exact ⟨its,n,r,e,z⟩
theorem Inv.lstUpd {pins:List (Addr×Obj)} {U:St} {H:Hp} {s:Shared} {p:Addr} {xs ys:List V} {its its':List Value} {n n':Nat} {f:Obj->Obj} (I:Inv X pins U H s) (h:H p=some (.lst xs))
  (ho:s.heap.get? p=some { cls:=.type "list",data:=.seq its.toArray n }) (hf:f { cls:=.type "list",data:=.seq its.toArray n }={ cls:=.type "list",data:=.seq its'.toArray n' }) (r:Vals ys its') (hz:ys.length<=sizeLine) (t:Nat) :
  Inv X pins U (upd H p (.lst ys)) { s with heap:=s.heap.update p f,toks:=t }:=by
 have e:(s.heap.update p f).get? p=some { cls:=.type "list",data:=.seq its'.toArray n' }:=by
  rw [Heap.get?_update_self f ho (by rw [hf]<;>rfl),hf]
 refine I.write (x:=p) (e:=p) (by rw [h];trivial) (.inl rfl) (fun b u hb q=>(Heap.get?_update_other _ _ (Ne.symm hb)).trans q) ⟨_,e⟩ ?_
 exact ⟨hz,its',n',r,e⟩
def zt0:V->V->V->Hp->(Hp->Prop)->Prop:=fun o i v H Q=>∃p xs k j,o=.ref p/\i=.int k/\H p=some (.lst xs)/\ixN xs.length k=some j/\Q (upd H p (.lst (xs.set j v)))
theorem zkg:zyi X zt0:=by
 intro pins s U H o i v ov iv u Q I ro ri rv h
 obtain ⟨p,xs,k,j,rfl,rfl,hp,hj,q⟩:=h
 cases ro
 obtain ⟨t,rfl⟩:=ri
 obtain ⟨its,n,r,ho,hz⟩:=I.lst hp
 obtain ⟨h1,h2,h3,h4⟩:=zg0 hj
 have hl:=r.length
 have hn:=z6n
 have I':Inv X pins U (upd H p (.lst (xs.set j v))) { s with heap:=s.heap.update p (Obj.mapSeq (·.setIfInBounds j u)) }:=
  I.lstUpd hp ho (zes its n j u) (r.set rv j) (by rw [List.length_set];exact hz) s.toks
 by_cases h0:0<=k
 . have hk:k.toNat=j:=by
    rw [seqIndex_of h0 h4] at h1
    exact Option.some.inj h1
   exact PySem.W.ki_setAt ho h0 (by lia) (by rw [List.size_toArray,<-hl];exact h4) (by rw [hk];exact ⟨_,I',q⟩)
 . have hk:(k+(its.toArray.size:Int)).toNat=j:=by
    rw [seqIndex_neg (by lia) h3] at h1
    rw [List.size_toArray,<-hl]
    exact Option.some.inj h1
   exact PySem.W.ki_setBack ho (by lia) (by rw [List.size_toArray,<-hl];exact h3) (by lia) (by rw [hk];exact ⟨_,I',q⟩)
theorem za8 (lo hi:Option Int) (n:Nat):(sliceBounds lo hi none n).1=((HT.sIx n 0 lo:Nat):Int)/\(sliceBounds lo hi none n).2.1=((HT.sIx n n hi:Nat):Int)/\(sliceBounds lo hi none n).2.2=1:=by
 refine ⟨?_,?_,rfl⟩
 . cases lo with
   | none=>simp [sliceBounds,HT.sIx]
   | some i=>
    simp only [sliceBounds,HT.sIx,Option.getD_none,show (1:Int) > 0 by decide,if_true]
    by_cases h:i<0
    . simp only [h,if_true]<;>lia
    . simp only [h,if_false]<;>lia
 . cases hi with
   | none=>simp [sliceBounds,HT.sIx]
   | some i=>
    simp only [sliceBounds,HT.sIx,Option.getD_none,show (1:Int) > 0 by decide,if_true]
    by_cases h:i<0
    . simp only [h,if_true]<;>lia
    . simp only [h,if_false]<;>lia
theorem z8d (its:List Value) (lo hi:Option Int):slicePick its.toArray lo hi none=((its.drop (HT.sIx its.length 0 lo)).take (HT.sIx its.length its.length hi - HT.sIx its.length 0 lo)).toArray:=by
 obtain ⟨h1,h2,h3⟩:=za8 lo hi its.toArray.size
 unfold slicePick
 rw [h1,h2,h3]
 simp only [sliceRange_one,pick_run,List.size_toArray]<;>rfl
def y2j (K:Frag):V->Option Int->Option Int->Hp->VK->Prop:=fun x lo hi H Q=>∃a xs,x=.ref a/\SqL K H a xs/\∀p,H p=none->Q (.ref p) (upd H p (.lst (zsb xs lo hi)))
theorem zbs:SlR X (y2j X.K):=by
 intro pins s U H x v vl vu lo hi sl Q I rx hs pl pu h
 obtain ⟨a,xs,rfl,hx,q⟩:=h
 cases rx
 obtain ⟨its,r,ht,hz⟩:=I.list hx
 have hlen:=r.length
 refine ⟨"list",_,slot_list_getitem.lookup,ht.isList.typeIs,?_⟩
 refine wpAny_getItem_list_slice ht.isList hs pl pu .none (by simp) ?_ (by rw [List.size_toArray]<;>lia)
 rw [z8d,<-hlen]
 refine ⟨.ref s.heap.objs.size,_,I.laid (t':=s.toks) (o:=.lst (zsb xs lo hi)) (fun b ob q=>Heap.get?_push_of_some _ q) (Nat.le_refl _) ?_,rfl,q _ (I.hok.fresh (Nat.le_refl _))⟩
 exact ⟨Nat.le_trans (zbp xs lo hi) hz,_,0,(r.drop (HT.sIx xs.length 0 lo)).take (HT.sIx xs.length xs.length hi - HT.sIx xs.length 0 lo),Heap.get?_push_size _ rfl⟩
theorem call_len_seq:CallR X (.builtin "len") (fun xs H Q=>∃p ys,xs=[.ref p]/\(SqL X.K H p ys\/SqT X.K H p ys)/\Q (.int ys.length) H):=by
 intro pins s U H xs us Q I r h
 obtain ⟨p,ys,rfl,hq,q⟩:=h
 obtain ⟨u,rfl,rx⟩:=z66 r
 cases rx
 have hn:=z6n
 rcases hq with hq | hq
 . obtain ⟨its,r',pl,hz⟩:=I.list hq
   have hlen:=r'.length
   exact Calls.call_len_list pl.isList (by simp only [List.size_toArray]<;>lia) ⟨.int ys.length,H,I.tok _,⟨s.toks+1,by rw [List.size_toArray,hlen]⟩,q⟩
 . obtain ⟨its,r',pl,hz⟩:=I.tuple hq
   have hlen:=r'.length
   exact len_tuple pl (by simp only [List.size_toArray]<;>lia) ⟨.int ys.length,H,I.tok _,⟨s.toks+1,by rw [List.size_toArray,hlen]⟩,q⟩
theorem za9:CallR X (.builtin "len") (fun xs H Q=>∃z,xs=[.str z]/\z.length<=sizeLine/\Q (.int z.length) H):=by
 intro pins s U H xs us Q I r h
 obtain ⟨z,rfl,hz,q⟩:=h
 obtain ⟨u,rfl,t,rfl⟩:=z66 r
 have hn:=z6n
 exact len_str (by lia) ⟨.int z.length,H,I.tok _,⟨_,rfl⟩,q⟩
theorem CallR.or {f:Value} {r r':List V->Hp->VK->Prop} (h:CallR X f r) (h':CallR X f r'):CallR X f (fun xs H Q=>r xs H Q\/r' xs H Q):=by
 intro pins s U H xs us Q I rs q
 rcases q with q | q
 . exact h pins s U H xs us Q I rs q
 . exact h' pins s U H xs us Q I rs q
theorem zaa:CallR X (.type "list") (fun xs H Q=>∃p ys,xs=[.ref p]/\(SqL X.K H p ys\/SqT X.K H p ys)/\∀l,H l=none->Q (.ref l) (upd H l (.lst ys))):=by
 intro pins s U H xs us Q I r h
 obtain ⟨p,ys,rfl,hq,q⟩:=h
 obtain ⟨u,rfl,rx⟩:=z66 r
 cases rx
 have fin:∀(its:List Value),Vals ys its->ys.length<=sizeLine->∀(h':Heap) (c':Nat),(∀b o',s.heap.get? b=some o'->h'.get? b=some o') ->
   h'.get? s.heap.objs.size=some { cls:=.type "list",dict:=none,data:=.seq its.toArray c',slots:=#[] }->EP X pins U Q (.ref s.heap.objs.size) { s with heap:=h' }:=fun its r' hz h' c' kp e=>
  ⟨.ref s.heap.objs.size,_,I.laid (t':=s.toks) kp (Nat.le_refl _) (show ObjOk X.prog X.w _ h' _ (.lst ys) from ⟨hz,its,c',r',e⟩),rfl,q _ (I.hok.fresh (Nat.le_refl _))⟩
 rcases hq with hq | hq
 . obtain ⟨its,r',pl,hz⟩:=I.list hq
   have hlen:=r'.length
   obtain ⟨o,ho,hc,n,hd⟩:=pl.isList
   exact call_list_seq p (.inl rfl) ho hc hd (fun h' c' kp e=>fin its r' hz h' c' kp e) (by simp only [List.size_toArray]<;>lia)
 . obtain ⟨its,r',pl,hz⟩:=I.tuple hq
   have hlen:=r'.length
   obtain ⟨o,ho,hc,n,hd⟩:=pl
   exact call_list_seq p (.inr rfl) ho hc hd (fun h' c' kp e=>fin its r' hz h' c' kp e) (by simp only [List.size_toArray]<;>lia)
theorem z8e:CallR X (.type "tuple") (fun xs H Q=>∃p ys,xs=[.ref p]/\((SqL X.K H p ys/\∀l,H l=none->Q (.ref l) (upd H l (.tup ys)))\/(SqT X.K H p ys/\Q (.ref p) H))):=by
 intro pins s U H xs us Q I r h
 obtain ⟨p,ys,rfl,h⟩:=h
 obtain ⟨u,rfl,rx⟩:=z66 r
 cases rx
 rcases h with ⟨hq,q⟩ | ⟨hq,q⟩
 . obtain ⟨its,r',pl,hz⟩:=I.list hq
   have hlen:=r'.length
   refine call_tuple_list pl.isList (fun h' kp=>?_) (by simp only [List.size_toArray]<;>lia)
   have I1:Inv X pins U H { s with heap:=h' }:=I.kept (t':=s.toks) kp
   have I2:Inv X pins U (upd H h'.objs.size (.tup ys)) { s with heap:=h'.push { cls:=.type "tuple",data:=.seq its.toArray } }:=
    I1.laid (t':=s.toks) (fun b o e=>Heap.get?_push_of_some _ e) (Nat.le_refl _) (show ObjOk X.prog X.w _ _ _ (.tup ys) from ⟨hz,its,r',.mk' (Heap.get?_push_size _ rfl)⟩)
   exact ⟨.ref h'.objs.size,_,I2,rfl,q _ (I1.hok.fresh (Nat.le_refl _))⟩
 . obtain ⟨its,r',pl,hz⟩:=I.tuple hq
   exact call_tuple_same pl ⟨.ref p,H,I,rfl,q⟩
def tyV (K:Frag) (T:String) (x:V) (H:Hp):Prop:=match x with
 | .str _=>T="str"
 | .int _=>T="int"
 | .ref p=>(T="list"/\∃xs,SqL K H p xs)\/(T="tuple"/\∃o,K.lookup p=some o/\o.cls=.type "tuple"/\o.dict=none) \/
  (T="dict"/\((∃kvs,H p=some (.dK kvs))\/∃kvs,H p=some (.dT kvs)))\/(T="set"/\∃S n,H p=some (.set S n))
 | _=>False
theorem zt1 {pins:List (Addr×Obj)} {U:St} {H:Hp} {s:Shared} {T:String} {x:V} {v:Value} (I:Inv X pins U H s) (r:RelV x v) (ty:tyV X.K T x H) :
  s.TypeIs v T/\∀a,v=.ref a->∃ob,s.heap.get? a=some ob/\ob.dict=none:=by
 cases x with
 | str z=>
  obtain ⟨t,rfl⟩:=r
  cases (show T="str" from ty)
  exact ⟨typeIs_str s z t,fun _ e=>nomatch e⟩
 | int i=>
  obtain ⟨t,rfl⟩:=r
  cases (show T="int" from ty)
  exact ⟨typeIs_int s i t,fun _ e=>nomatch e⟩
 | ref p=>
  cases r
  rcases ty with ⟨rfl,xs,hq⟩ | ⟨rfl,o,hk,hc,hd⟩ | ⟨rfl,hk⟩ | ⟨rfl,S,n,hk⟩
  . obtain ⟨its,_,pl,_⟩:=I.list hq
    refine ⟨pl.isList.typeIs,fun a e=>?_⟩
    cases e
    obtain ⟨o,n,e,c,hd,_⟩:=pl
    exact ⟨o,e,hd⟩
  . refine ⟨⟨o,I.kIn p o hk,hc⟩,fun a e=>?_⟩
    cases e
    exact ⟨o,I.kIn _ o hk,hd⟩
  . have z:∃o,s.heap.get? p=some o/\o.ExactDict:=by
     rcases hk with ⟨kvs,hk⟩ | ⟨kvs,hk⟩
     . obtain ⟨_,_,_,_,o,_,_,e,ex,_⟩:=I.hok p _ hk
       exact ⟨o,e,ex⟩
     . obtain ⟨_,_,_,_,o,_,_,e,ex,_⟩:=I.hok p _ hk
       exact ⟨o,e,ex⟩
    obtain ⟨o,e,ex⟩:=z
    refine ⟨⟨o,e,ex.1⟩,fun a e2=>?_⟩
    cases e2
    exact ⟨o,e,ex.2.1⟩
  . obtain ⟨o,_,_,_,e,ex,_⟩:=I.hok p _ hk
    refine ⟨⟨o,e,ex.1⟩,fun a e2=>?_⟩
    cases e2
    exact ⟨o,e,ex.2.1⟩
 | _=>exact False.elim ty
noncomputable def tBM (K:Frag) (T:String) (r:V->List V->Hp->VK->Prop) (to:TE) (t:TA):TE:=fun U H Q=>to U H fun x H1=>tyV K T x H1/\t U H1 fun xs H2=>r x xs H2 Q
variable {o e:Expr} {es:List Expr} {to:TE} {t:TA} {name:Str} {apos cpos:Pos} {T id:String} {r:V->List V->Hp->VK->Prop}
theorem zkh (pa:PlainAttrs T) (slot:Slot T name id) (hty:typeOf (.builtin id)=pure (.type "method_descriptor")) (hm:MtR X id r) (ho:PE X o to) (ha:PA X (e::es) t)
  (hbase:attributeBase o name X.env (eval o X.env)=eval o X.env:=by rfl)
  (hfew:((backTo cpos (starEach (e::es) X.env)).all (fun x=>!x.1)&&(backToKw cpos (keywordEach [] X.env)).all (fun x=>x.1.isSome)
   && decide ((e::es).length+([]:List Keyword).length+(if ([]:List Keyword).isEmpty then 0 else 1)<30))=true:=by rfl)
  (hline:(apos.endLine==cpos.line)=true:=by rfl) (hs:starEach (e::es) X.env=(false,eval e X.env)::starEach es X.env:=by rfl) (hplain:(backTo cpos (starEach es X.env)).any (·.1)=false:=by rfl) :
  PE X (.Call (.Attribute o name apos) (e::es) [] cpos) (tBM X.K T r to t):=by
 intro pins s U H Q I h
 refine wpAny_Call_method_late hbase hfew hline rfl (thn (ho pins s U H _ I h) fun v s1 ⟨x,H1,I1,r1,ty,q1⟩=>?_)
 obtain ⟨h1,h2⟩:=zt1 I1 r1 ty
 refine ⟨T,id,pa,slot,hty,h1,h2,?_⟩
 have hA:=ha cpos pins s1 U H1 _ I1 q1
 rw [hs] at hA ⊢
 refine Calls.callWith_builtin (by show (false||(backTo cpos (starEach es X.env)).any (·.1))=false;rw [hplain]<;>rfl) (Calls.evalArgs_plain ?_)
 exact thn hA fun us s2 ⟨vs,H2,I2,r2,q2⟩=>hm pins s2 U H2 x vs v us Q I2 r1 r2 q2
end
def MtM (X:Cx) (id:String) (r:V->List V->Hp->VK->Prop):Prop:=
 ∀(pins:List (Addr×Obj)) (s:Shared) (U:St) (H:Hp) (x:V) (xs:List V) (v:Value) (us:List Value) (Q:VK),Inv X pins U H s->RelV x v->Vals xs us->r x xs H Q ->
  wpAny (model X.prog X.w) X.A (call (.builtin id) (v::us)) (EP X pins U Q) X.xe s
theorem Vals.one:∀{x:V} {us:List Value},Vals [x] us->∃u,us=[u]/\RelV x u
 | _,_,.cons r .nil=>⟨_,rfl,r⟩
theorem Vals.two:∀{x y:V} {us:List Value},Vals [x,y] us->∃u v,us=[u,v]/\RelV x u/\RelV y v
 | _,_,_,.cons r (.cons q .nil)=>⟨_,_,rfl,r,q⟩
theorem Vals.eraseIdx:∀{xs:List V} {us:List Value} (i:Nat),Vals xs us->Vals (xs.eraseIdx i) (us.eraseIdx i)
 | _,_,_,.nil=>.nil
 | _,_,0,.cons _ t=>t
 | _,_,i+1,.cons r t=>.cons r (Vals.eraseIdx i t)
theorem zab {α:Type}:∀(l:List α) (i:Nat),(l.eraseIdx i).length<=l.length
 | [],_=>Nat.le_refl _
 | _::_,0=>Nat.le_succ _
 | _::r,i+1=>Nat.succ_le_succ (zab r i)
section
variable {X:Cx} {pins:List (Addr×Obj)} {U:St} {H:Hp} {s:Shared} {l:Addr} {xs ys:List V}
theorem Inv.lset {its its':List Value} {n:Nat} {f:Array Value->Array Value} {t':Nat} (I:Inv X pins U H s) (hH:H l=some (.lst xs))
  (e:s.heap.get? l=some { cls:=.type "list",data:=.seq its.toArray n }) (hf:f its.toArray=its'.toArray) (hv:Vals ys its') (hz:ys.length<=sizeLine) :
  Inv X pins U (upd H l (.lst ys)) { s with heap:=s.heap.update l (Obj.mapSeq f),toks:=t' }:=by
 have q:=PySem.IsL.update e f
 rw [hf] at q
 refine I.write (x:=l) (e:=l) (by rw [hH];exact trivial) (.inl rfl) (fun b' u hb hu=>(Heap.get?_update_other s.heap (Obj.mapSeq f) (Ne.symm hb)).trans hu) ⟨_,q⟩ ?_
 exact ⟨hz,its',_,hv,q⟩
theorem Inv.lnew {its:List Value} {t':Nat} (I:Inv X pins U H s) (hv:Vals ys its) (hz:ys.length<=sizeLine) :
  Inv X pins U (upd H s.heap.objs.size (.lst ys)) { s with heap:=s.heap.push { cls:=.type "list",data:=.seq its.toArray },toks:=t' }:=
 I.laid (fun _ _ q=>Heap.get?_push_of_some _ q) (Nat.le_refl _) ⟨hz,its,0,hv,Heap.get?_push_size _ rfl⟩
theorem Inv.fresh (I:Inv X pins U H s):H s.heap.objs.size=none:=I.hok.fresh (Nat.le_refl _)
theorem Inv.lstM (I:Inv X pins U H s) (hH:H l=some (.lst xs)):xs.length<=sizeLine/\∃(its:List Value) (n:Nat),Vals xs its/\xs.length=its.length/\s.heap.get? l=some { cls:=.type "list",data:=.seq its.toArray n }:=by
 obtain ⟨z,its,n,r,e⟩:=I.hok l _ hH
 exact ⟨z,its,n,r,r.length,e⟩
theorem zki {n:Nat} (h:n<=sizeLine):Builtin.List.listTooLong n=false:=by
 unfold Builtin.List.listTooLong
 exact decide_eq_false (by lia)
end
section
variable {X:Cx}
def zbt:V->List V->Hp->VK->Prop:=fun x vs H Q=>∃l xs y,x=.ref l/\vs=[y]/\H l=some (.lst xs)/\xs.length<sizeLine/\Q .non (upd H l (.lst (xs++[y])))
theorem z35:MtM X "list.append" zbt:=by
 intro pins s U H x vs v us Q I rx rv h
 obtain ⟨l,xs,y,rfl,rfl,hH,hz,q⟩:=h
 cases rx
 obtain ⟨u,rfl,ru⟩:=rv.one
 obtain ⟨z,its,n,r,hl,e⟩:=I.lstM hH
 refine call_meets F.slot_list_append ⟨_,e,rfl⟩ F.entry_list_append (F.args_list_append_2 _ _) (PySem.list_append l its.toArray n u (by rw [List.size_toArray];lia)) ⟨e,?_⟩
 refine ⟨.non,_,I.lset (its':=its++[u]) hH e (by simp) (r.append (.cons ru .nil)) ?_,rfl,q⟩
 rw [List.length_append,List.length_singleton]
 lia
def zg1:V->List V->Hp->VK->Prop:=fun x vs H Q=>∃l b xs zs,x=.ref l/\vs=[.ref b]/\H l=some (.lst xs)/\H b=some (.lst zs)/\xs.length+zs.length<=sizeLine/\Q .non (upd H l (.lst (xs++zs)))
theorem zg2:MtM X "list.extend" zg1:=by
 intro pins s U H x vs v us Q I rx rv h
 obtain ⟨l,b,xs,zs,rfl,rfl,hH,hB,hz,q⟩:=h
 cases rx
 obtain ⟨u,rfl,ru⟩:=rv.one
 cases ru
 obtain ⟨z,its,n,r,hl,e⟩:=I.lstM hH
 obtain ⟨z2,its2,n2,r2,hl2,e2⟩:=I.lstM hB
 have hsz:its.toArray.size+its2.toArray.size<=sizeLine:=by rw [List.size_toArray,List.size_toArray];lia
 have hlong:¬(!its.toArray.isEmpty&&Builtin.List.listTooLong (its.toArray.size+its2.toArray.size))=true:=by
  rw [zki hsz,Bool.and_false]
  exact Bool.false_ne_true
 refine call_meets F.slot_list_extend ⟨_,e,rfl⟩ F.entry_list_extend (F.args_list_extend_2 _ _)
  (AutoSeq1.list_extend_list_list_0 l its.toArray n b its2.toArray n2 hlong (by rw [List.size_toArray];lia) (by lia)) ⟨e,e2,?_⟩
 refine ⟨.non,_,I.lset (its':=its++its2) hH e (by simp) (r.append r2) ?_,rfl,q⟩
 rw [List.length_append]
 lia
def zmq:V->List V->Hp->VK->Prop:=fun x vs H Q=>∃l xs i k y,x=.ref l/\vs=[.int i]/\H l=some (.lst xs)/\-(2 ^ 63)<=i/\i<2 ^ 63/\seqIndex? i xs.length=some k/\xs[k]?=some y/\Q y (upd H l (.lst (xs.eraseIdx k)))
theorem zkj:MtM X "list.pop" zmq:=by
 intro pins s U H x vs v us Q I rx rv h
 obtain ⟨l,xs,i,k,y,rfl,rfl,hH,h1,h2,hk,hy,q⟩:=h
 cases rx
 obtain ⟨u,rfl,ru⟩:=rv.one
 obtain ⟨t,rfl⟩:=ru
 obtain ⟨z,its,n,r,hl,e⟩:=I.lstM hH
 obtain ⟨w,hw,rw'⟩:=r.get hy
 refine call_meets F.slot_list_pop ⟨_,e,rfl⟩ F.entry_list_pop (F.args_list_pop_2 _ _)
  (MeetsSeq.list_pop_at l its.toArray n i t k w (fitsIndex_both h1 h2) (by rw [List.size_toArray,<-hl];exact hk) (by rw [<-Array.getElem?_toList];exact hw) (by rw [List.size_toArray];lia)) ⟨e,?_⟩
 refine ⟨y,_,I.lset (its':=its.eraseIdx k) hH e ?_ (r.eraseIdx k) ?_,rw',q⟩
 . show its.toArray.eraseIdxIfInBounds k=(its.eraseIdx k).toArray
   rw [List.eraseIdxIfInBounds_toArray]
 . have:=zab xs k
   lia
noncomputable def y2k:R2:=fun x y H Q=>∃l b xs zs,x=.ref l/\y=.ref b/\H l=some (.lst xs)/\H b=some (.lst zs)/\xs.length+zs.length<=sizeLine/\∀p,H p=none->Q (.ref p) (upd H p (.lst (xs++zs)))
theorem zg3:OpR X (binaryOp .Add) y2k:=by
 intro pins s U H x y v u Q I rx ry h
 obtain ⟨l,b,xs,zs,rfl,rfl,hH,hB,hz,q⟩:=h
 cases rx
 cases ry
 obtain ⟨z,its,n,r,hl,e⟩:=I.lstM hH
 obtain ⟨z2,its2,n2,r2,hl2,e2⟩:=I.lstM hB
 refine PySem.P.add_list e e2 ?_ (by rw [List.size_toArray,List.size_toArray];omega)
 have ea:its.toArray++its2.toArray=(its++its2).toArray:=by simp
 rw [ea]
 exact ⟨.ref _,_,I.lnew (t':=s.toks) (r.append r2) (by rw [List.length_append];omega),rfl,q _ I.fresh⟩
end
section
variable {κ:Type} [DecidableEq κ]
noncomputable def zbu (kvs:List (κ×V)) (k:κ):Option V:=(kvs.find? fun kv=>decide (kv.1=k)).map (·.2)
noncomputable def zdb (kvs:List (κ×V)) (k:κ) (v:V):List (κ×V):=
 if (kvs.any fun kv=>decide (kv.1=k))=true then kvs.map (fun kv=>if kv.1=k then (kv.1,v) else kv) else kvs++[(k,v)]
noncomputable def zt2 (kvs:List (κ×V)) (k:κ):List (κ×V):=kvs.filter fun kv=>decide (kv.1≠k)
theorem z8f {p:κ×V} {r:List (κ×V)} {k:κ} (e:p.1=k):zbu (p::r) k=some p.2:=by simp [zbu,List.find?_cons,e]
theorem z8g {p:κ×V} {r:List (κ×V)} {k:κ} (e:¬p.1=k):zbu (p::r) k=zbu r k:=by simp [zbu,List.find?_cons,e]
theorem zdc (k:κ):∀kvs:List (κ×V),(kvs.any fun kv=>decide (kv.1=k))=(zbu kvs k).isSome
 | []=>rfl
 | p::r=>by
  rw [List.any_cons]
  by_cases e:p.1=k
  . simp only [z8f e,decide_eq_true e,Bool.true_or,Option.isSome_some]
  . rw [z8g e,decide_eq_false e,Bool.false_or];exact zdc k r
theorem z6o (kvs:List (κ×V)) (k:κ) (v:V):(zdb kvs k v).length<=kvs.length+1:=by
 unfold zdb
 split
 . rw [List.length_map];lia
 . rw [List.length_append,List.length_cons,List.length_nil];lia
theorem RelO.isSome_eq {o:Option V} {u:Option Value} (r:RelO o u):o.isSome=u.isSome:=by
 cases o with
 | none=>cases u with
  | none=>rfl
  | some _=>exact (show False from r).elim
 | some _=>cases u with
  | none=>exact (show False from r).elim
  | some _=>rfl
theorem RelO.getD {o:Option V} {u:Option Value} {d:V} {d':Value} (r:RelO o u) (rd:RelV d d'):RelV (o.getD d) (u.getD d'):=by
 cases o with
 | none=>cases u with
  | none=>exact rd
  | some _=>exact (show False from r).elim
 | some _=>cases u with
  | none=>exact (show False from r).elim
  | some _=>exact r
theorem KV.val {kvs:List (κ×V)} {vs:List (κ×Value)} (r:KV kvs vs) (k:κ):RelO (zbu kvs k) (valueAt vs k):=by
 unfold KV at r
 induction r with
 | nil=>exact True.intro
 | @cons p q ps qs h t ih=>
  obtain ⟨h1,h2⟩:=h
  by_cases e:p.1=k
  . have e':q.1=k:=h1.symm.trans e
    have b:valueAt (q::qs) k=some q.2:=by simp [valueAt,List.find?_cons,e']
    rw [z8f e,b];exact h2
  . have e':¬q.1=k:=fun z=>e (h1.trans z)
    have b:valueAt (q::qs) k=valueAt qs k:=by simp [valueAt,List.find?_cons,e']
    rw [z8g e,b];exact ih
theorem KV.any {kvs:List (κ×V)} {vs:List (κ×Value)} (r:KV kvs vs) (k:κ):(kvs.any fun kv=>decide (kv.1=k))=vs.any fun kv=>decide (kv.1=k):=by
 unfold KV at r
 induction r with
 | nil=>rfl
 | cons h t ih=>rw [List.any_cons,List.any_cons,ih,h.1]
theorem KV.repl {kvs:List (κ×V)} {vs:List (κ×Value)} (r:KV kvs vs) (k:κ) {y:V} {u:Value} (ry:RelV y u) :
  KV (kvs.map fun kv=>if kv.1=k then (kv.1,y) else kv) (vs.map fun kv=>if kv.1=k then (kv.1,u) else kv):=by
 unfold KV at r ⊢
 induction r with
 | nil=>exact .nil
 | @cons p q ps qs h t ih=>
  rw [List.map_cons,List.map_cons]
  refine .cons ?_ ih
  obtain ⟨h1,h2⟩:=h
  by_cases e:p.1=k
  . rw [if_pos e,if_pos (h1.symm.trans e)];exact ⟨h1,ry⟩
  . rw [if_neg e,if_neg (fun z=>e (h1.trans z))];exact ⟨h1,h2⟩
theorem KV.put {kvs:List (κ×V)} {vs:List (κ×Value)} (r:KV kvs vs) (k:κ) {y:V} {u:Value} (ry:RelV y u):KV (zdb kvs k y) (stored vs k u):=by
 unfold zdb stored
 rw [r.any k]
 by_cases e:(vs.any fun kv=>decide (kv.1=k))=true
 . rw [if_pos e,if_pos e];exact r.repl k ry
 . rw [if_neg e,if_neg e];exact Paired.snoc r ⟨rfl,ry⟩
theorem KV.drop {kvs:List (κ×V)} {vs:List (κ×Value)} (r:KV kvs vs) (k:κ):KV (zt2 kvs k) (without vs k):=by
 unfold KV at r ⊢
 unfold zt2 without
 induction r with
 | nil=>exact .nil
 | @cons p q ps qs h t ih=>
  obtain ⟨h1,h2⟩:=h
  rw [List.filter_cons,List.filter_cons]
  by_cases e:p.1=k
  . have a:¬decide (p.1≠k)=true:=by simp [e]
    have b:¬decide (q.1≠k)=true:=by simp [h1.symm.trans e]
    rw [if_neg a,if_neg b];exact ih
  . have e':¬q.1=k:=fun z=>e (h1.trans z)
    have a:decide (p.1≠k)=true:=by simp [e]
    have b:decide (q.1≠k)=true:=by simp [e']
    rw [if_pos a,if_pos b];exact .cons ⟨h1,h2⟩ ih
theorem KV.length {kvs:List (κ×V)} {vs:List (κ×Value)} (r:KV kvs vs):kvs.length=vs.length:=Paired.length r
end
theorem zkk {P:Program} {w:World} {k:Key} {u:Value} (r:RelV (kV k) u):(z18 P w).is k u=true:=by
 cases k with
 | inl i=>obtain ⟨t,e⟩:=(show ∃t,u=Value.int i t from r);subst e;exact zbl P w i t
 | inr x=>obtain ⟨t,e⟩:=(show ∃t,u=Value.str x t from r);subst e;exact zbm P w x t
theorem zac {P:Program} {w:World}:∀{ks:List Key} {us:List Value},Vals (ks.map kV) us->ItemsAre (z18 P w) ks us
 | [],_,r=>by rw [List.map_nil] at r;cases r;exact .nil
 | k::ks,_,r=>by
  rw [List.map_cons] at r
  cases r with
  | cons h t=>exact .cons (zkk h) (zac t)
abbrev KT (H:Hp):List (List Key×V)->List (List Key×Addr×Value)->Prop:=Paired fun p q=>p.1=q.1/\H q.2.1=some (.tup (p.1.map kV))/\RelV p.2 q.2.2
theorem KT.val {H:Hp} {kvs:List (List Key×V)} {xs:List (List Key×Addr×Value)} (r:KT H kvs xs) (k:List Key):RelO (zbu kvs k) ((atKey xs k).map (·.2)):=by
 induction r with
 | nil=>exact True.intro
 | @cons p q ps qs h t ih=>
  obtain ⟨h1,_,h2⟩:=h
  by_cases e:p.1=k
  . have e':q.1=k:=h1.symm.trans e
    have b:atKey (q::qs) k=some q.2:=by simp [atKey,List.find?_cons,e']
    rw [z8f e,b];exact h2
  . have e':¬q.1=k:=fun z=>e (h1.trans z)
    have b:atKey (q::qs) k=atKey qs k:=by simp [atKey,List.find?_cons,e']
    rw [z8g e,b];exact ih
theorem KT.repl {H:Hp} {kvs:List (List Key×V)} {xs:List (List Key×Addr×Value)} (r:KT H kvs xs) (k:List Key) {y:V} {u:Value} (ry:RelV y u) :
  KT H (kvs.map fun kv=>if kv.1=k then (kv.1,y) else kv) (xs.map (putAt k u)):=by
 induction r with
 | nil=>exact .nil
 | @cons p q ps qs h t ih=>
  rw [List.map_cons,List.map_cons]
  refine .cons ?_ ih
  obtain ⟨h1,h2,h3⟩:=h
  unfold putAt
  by_cases e:p.1=k
  . rw [if_pos e,if_pos (h1.symm.trans e)];exact ⟨h1,h2,ry⟩
  . rw [if_neg e,if_neg (fun z=>e (h1.trans z))];exact ⟨h1,h2,h3⟩
theorem KT.put {H:Hp} {kvs:List (List Key×V)} {xs:List (List Key×Addr×Value)} (r:KT H kvs xs) (k:List Key) {b:Addr} {y:V} {u:Value} (hb:H b=some (.tup (k.map kV))) (ry:RelV y u) :
  KT H (zdb kvs k y) (storedH xs k b u):=by
 have e:(kvs.any fun kv=>decide (kv.1=k))=(atKey xs k).isSome:=by
  rw [zdc,(r.val k).isSome_eq,Option.isSome_map]
 unfold zdb storedH
 rw [e]
 by_cases q:(atKey xs k).isSome=true
 . rw [if_pos q,if_pos q];exact r.repl k ry
 . rw [if_neg q,if_neg q];exact Paired.snoc r ⟨rfl,hb,ry⟩
theorem KT.keeps {H H':Hp} {kvs:List (List Key×V)} {xs:List (List Key×Addr×Value)} (r:KT H kvs xs) (ht:∀b ys,H b=some (.tup ys)->H' b=some (.tup ys)):KT H' kvs xs:=
 Paired.mapP r fun _ _ z=>⟨z.1,ht _ _ z.2.1,z.2.2⟩
section
variable {P:Program} {w:World} {H:Hp} {h:Heap} {a:Addr}
theorem zt3 {u:HO} (ok:HOk P w H h) (e:Rd H a u):ObjOk P w H h a u:=e.ok ok
theorem zg4 {kvs:List (Key×V)} (ok:HOk P w H h) (e:Rd H a (.dK kvs)):kvs.length<=sizeLine/\(a==sysModules)=false/\∃vs,KV kvs vs/\h.DictOf (z18 P w) a vs:=
 show ObjOk P w H h a (.dK kvs) from zt3 ok e
theorem zz8 {kvs:List (Key×V)} (ok:HOk P w H h) (e:H a=some (.dK kvs)):kvs.length<=sizeLine/\(a==sysModules)=false/\∃vs,KV kvs vs/\h.DictOf (z18 P w) a vs:=zg4 ok (.inl e)
theorem zdd {ks:List Key} (ok:HOk P w H h) (e:H a=some (.tup (ks.map kV))):(tupleKind (z18 P w)).is h ks a:=by
 obtain ⟨_,its,r,o,h1,h2,⟨n,h3⟩,_⟩:=(show ObjOk P w H h a (.tup (ks.map kV)) from ok a _ e)
 exact ⟨o,its.toArray,n,h1,h2,h3,by simpa using zac r⟩
theorem zkl {kvs:List (List Key×V)} (ok:HOk P w H h) (e:Rd H a (.dT kvs)):kvs.length<=sizeLine/\(a==sysModules)=false /\
  ∃xs,KT H kvs xs/\h.DictOfH (tupleKind (z18 P w)) a xs:=by
 obtain ⟨z,y,xs,r,o,es,ep,h1,h2,h3,h4,h5⟩:=(show ObjOk P w H h a (.dT kvs) from zt3 ok e)
 refine ⟨z,y,xs,r,o,es,ep,h1,h2,h3,h4,fun x hx=>?_,h5⟩
 have all:∀{l:List (List Key×V)} {m:List (List Key×Addr×Value)},KT H l m->∀x∈m,(tupleKind (z18 P w)).is h x.1 x.2.1:=by
  intro l m q
  induction q with
  | nil=>intro x hx;exact nomatch hx
  | @cons p q ps qs hq t ih=>
   intro x hx
   rcases List.mem_cons.mp hx with e | hx
   . subst e
     exact zdd ok (by rw [<-hq.1];exact hq.2.1)
   . exact ih x hx
 exact all r x hx
theorem zz9 {kvs:List (List Key×V)} (ok:HOk P w H h) (e:H a=some (.dT kvs)):kvs.length<=sizeLine/\(a==sysModules)=false /\
 ∃xs,KT H kvs xs/\h.DictOfH (tupleKind (z18 P w)) a xs:=zkl ok (.inl e)
end
def DGet (H:Hp) (a:Addr) (y:V) (r:Option V):Prop:=
 (∃kvs k,Rd H a (.dK kvs)/\y=kV k/\r=zbu kvs k)\/∃kvs k b,Rd H a (.dT kvs)/\y=.ref b/\H b=some (.tup (k.map kV))/\r=zbu kvs k
def DPut (H:Hp) (a:Addr) (y v:V) (H':Hp):Prop:=
 (∃kvs k,H a=some (.dK kvs)/\y=kV k/\kvs.length<sizeLine/\H'=upd H a (.dK (zdb kvs k v))) \/
 ∃kvs k b,H a=some (.dT kvs)/\y=.ref b/\H b=some (.tup (k.map kV))/\kvs.length<sizeLine/\H'=upd H a (.dT (zdb kvs k v))
theorem DGet.k {H:Hp} {a:Addr} {kvs:List (Key×V)} {k:Key} (e:H a=some (.dK kvs)):DGet H a (kV k) (zbu kvs k):=.inl ⟨kvs,k,.inl e,rfl,rfl⟩
theorem DGet.t {H:Hp} {a b:Addr} {kvs:List (List Key×V)} {k:List Key} (e:H a=some (.dT kvs)) (eb:H b=some (.tup (k.map kV))):DGet H a (.ref b) (zbu kvs k):=.inr ⟨kvs,k,b,.inl e,rfl,eb,rfl⟩
theorem DPut.k {H:Hp} {a:Addr} {kvs:List (Key×V)} {k:Key} {v:V} (e:H a=some (.dK kvs)) (hl:kvs.length<sizeLine):DPut H a (kV k) v (upd H a (.dK (zdb kvs k v))):=.inl ⟨kvs,k,e,rfl,hl,rfl⟩
theorem DPut.t {H:Hp} {a b:Addr} {kvs:List (List Key×V)} {k:List Key} {v:V} (e:H a=some (.dT kvs)) (eb:H b=some (.tup (k.map kV))) (hl:kvs.length<sizeLine) :
 DPut H a (.ref b) v (upd H a (.dT (zdb kvs k v))):=.inr ⟨kvs,k,b,e,rfl,eb,hl,rfl⟩
section
variable {X:Cx} {pins:List (Addr×Obj)} {U:St} {H:Hp} {s:Shared} {a:Addr} {y v:V} {u r:Value} {o:Option V} {A:Around} {E:Value->Shared->Prop}
theorem Inv.big (I:Inv X pins U H s):sysModules<s.heap.objs.size:=by
 have h:mainGlobals<s.heap.objs.size:=(I.mod.glob.keeps I.bk).lt
 exact Nat.lt_trans (by decide) h
theorem zg5 {Q:Value->Shared->Prop} (hu:A.units+1<cLine) (I:Inv X pins U H s) (g:DGet H a y (some v)) (ry:RelV y u) (h:∀w' s',Inv X pins U H s'->RelV v w'->Q w' s') :
  wpAny (model X.prog X.w) A (getItem (.ref a) u) Q E s:=by
 rcases g with ⟨kvs,k,e,ey,l⟩ | ⟨kvs,k,b,e,ey,eb,l⟩
 . subst ey
   obtain ⟨z,hd,vs,rel,dd⟩:=zg4 I.hok e
   obtain ⟨w',hw,rw'⟩:=RelO.some_of (v:=v) (o:=valueAt vs k) (by rw [l];exact rel.val k)
   exact wpAny_getItem_of (zkk ry) dd.mapOf hw (h w' _ (I.tok _) rw')
 . subst ey
   cases (show u=Value.ref b from ry)
   obtain ⟨z,hd,xs,rel,dd⟩:=zkl I.hok e
   obtain ⟨w',hw,rw'⟩:=RelO.some_of (v:=v) (o:=(atKey xs k).map (·.2)) (by rw [l];exact rel.val k)
   obtain ⟨p,hp,hp2⟩:=Option.map_eq_some_iff.mp hw
   refine wpAny_getItem_heap (tupleKind_room_in1 hu) (zdd I.hok eb) dd hp ?_
   rw [hp2]
   exact h w' _ (I.tok _) rw'
theorem zp5 {Q:Value->Shared->Prop} (hu:A.units+1<cLine) (I:Inv X pins U H s) (g:DGet H a y o) (ry:RelV y u) (h:∀s',Inv X pins U H s'->Q (.bool (!o.isSome)) s') :
  wpAny (model X.prog X.w) A (compareOp .NotIn u (.ref a)) Q E s:=by
 rcases g with ⟨kvs,k,e,ey,l⟩ | ⟨kvs,k,b,e,ey,eb,l⟩
 . subst ey
   obtain ⟨z,hd,vs,rel,dd⟩:=zg4 I.hok e
   refine wpAny_notIn_of (zkk ry) hd dd.mapOf ?_
   rw [<-(rel.val k).isSome_eq,<-l]
   exact h _ (I.tok _)
 . subst ey
   cases (show u=Value.ref b from ry)
   obtain ⟨z,hd,xs,rel,dd⟩:=zkl I.hok e
   refine wpAny_notIn_heap (tupleKind_room_in1 hu) (zdd I.hok eb) hd dd ?_
   have q:=(rel.val k).isSome_eq
   rw [Option.isSome_map] at q
   rw [<-q,<-l]
   exact h _ (I.tok _)
theorem zbv {h':Heap} {t':Nat} {ob:HO} (I:Inv X pins U H s) (mu:Mut (H a)) (hs:Heap.SameBut a s.heap h') (he:∃q,h'.get? a=some q) (new:ObjOk X.prog X.w (upd H a ob) h' a ob) :
  Inv X pins U (upd H a ob) { s with heap:=h',toks:=t' }:=
 I.write (x:=a) (e:=a) mu (.inl rfl) (fun b q hb z=>(hs.2 b hb).trans z) he new
theorem zt4 {P:Program} {w:World} {H':Hp} {h':Heap} {kvs:List (Key×V)} {vs:List (Key×Value)} (z:kvs.length<=sizeLine) (hd:(a==sysModules)=false) (rel:KV kvs vs) (dd:h'.DictOf (z18 P w) a vs) :
 ObjOk P w H' h' a (.dK kvs):=⟨z,hd,vs,rel,dd⟩
theorem zg6 {H':Hp} {Q:Unit->Shared->Prop} (hu:A.units+1<cLine) (I:Inv X pins U H s) (g:DPut H a y v H') (ry:RelV y u) (rv:RelV v r) (h:∀s',Inv X pins U H' s'->Q () s') :
  wpAny (model X.prog X.w) A (setItem (.ref a) u r) Q E s:=by
 rcases g with ⟨kvs,k,e,ey,l,eH⟩ | ⟨kvs,k,b,e,ey,eb,l,eH⟩
 . subst ey eH
   obtain ⟨z,hd,vs,rel,dd⟩:=zz8 I.hok e
   have hz:vs.length<=sizeLine:=by rw [<-rel.length];exact z
   have hl:(zdb kvs k v).length<=sizeLine:=by have:=z6o kvs k v;lia
   refine wpAny_setItem_pairs (hsz:=hz) (zkk ry) dd fun h' dd' hs=>h _ ?_
   have he:∃q,h'.get? a=some q:=let ⟨q,_,_,hq,_⟩:=dd';⟨q,hq⟩
   exact zbv I (by rw [e];exact True.intro) hs he (zt4 hl hd (rel.put k rv) dd')
 . subst ey eH
   cases (show u=Value.ref b from ry)
   obtain ⟨z,hd,xs,rel,dd⟩:=zz9 I.hok e
   have hz:xs.length<=sizeLine:=by rw [<-Paired.length rel];exact z
   have hl:(zdb kvs k v).length<=sizeLine:=by have:=z6o kvs k v;lia
   refine wpAny_setItem_heap (hsz:=hz) (tupleKind_room_in1 hu) (zdd I.hok eb) dd fun h' dd' hs=>h _ ?_
   obtain ⟨q,es,ep,hq,h2,h3,h4,_,h5⟩:=dd'
   refine zbv I (by rw [e];exact True.intro) hs ⟨q,hq⟩ ⟨hl,hd,_,(rel.put k eb rv).keeps fun c ys ec=>?_,q,es,ep,hq,h2,h3,h4,h5⟩
   rw [z0a (zyt ec e (fun z=>nomatch z))]
   exact ec
end
section
variable {X:Cx} {pins:List (Addr×Obj)} {U:St} {H:Hp} {s:Shared} {a:Addr} {kvs:List (Key×V)} {A:Around} {E:Value->Shared->Prop}
theorem zza {Q:Value->Shared->Prop} (I:Inv X pins U H s) (e:Rd H a (.dK kvs)) (h:∀t s',Inv X pins U H s'->Q (.int kvs.length t) s'):wpAny (model X.prog X.w) A (call (.builtin "len") [.ref a]) Q E s:=by
 obtain ⟨z,hd,vs,rel,dd⟩:=zg4 I.hok e
 refine call_len_dict hd dd (by rw [<-rel.length];rw [sizeLine_eq] at z;lia) ?_
 rw [<-rel.length]
 exact h _ _ (I.tok _)
end
theorem zbw {X:Cx} {pins:List (Addr×Obj)} {U:St} {H:Hp} {s:Shared} {a:Addr} {y:V} {o:Option V} (I:Inv X pins U H s) (g:DGet H a y o):s.TypeIs (.ref a) "dict":=by
 rcases g with ⟨kvs,k,e,_,_⟩ | ⟨kvs,k,b,e,_,_,_⟩
 . obtain ⟨_,_,vs,_,dd⟩:=zg4 I.hok e
   exact dd.typeIs
 . obtain ⟨_,_,xs,_,dd⟩:=zkl I.hok e
   exact dd.typeIs
structure M2 (X:Cx) (o:Expr) (m:Str) (apos:Pos) (e f:Expr) (cpos:Pos):Prop where
 base:attributeBase o m X.env (eval o X.env)=eval o X.env
 few:((backTo cpos (starEach [e,f] X.env)).all (fun x=>!x.1)&&(backToKw cpos (keywordEach [] X.env)).all (fun x=>x.1.isSome)
  && decide (([e,f]:List Expr).length+([]:List Keyword).length+(if ([]:List Keyword).isEmpty then 0 else 1)<30))=true
 line:(apos.endLine==cpos.line)=true
 trees:backTo cpos (starEach [e,f] X.env)=[(false,eval e X.env),(false,eval f X.env)]
end L2
namespace Att
open PySem PySem.W PySem.Calls PyProof.Rows
theorem z6p {P:Params} {h:Heap}:∀(ns:List Int) (vs:List Value),WellAll P h vs (ns.map WData.int)->IntsAre vs ns:=by
 intro ns
 induction ns with
 | nil=>
  intro vs w
  rw [List.map_nil] at w
  cases w
  exact .nil
 | cons n ns ih=>
  intro vs w
  rw [List.map_cons] at w
  cases w with
  | cons a b=>
   cases a
   exact .cons _ _ (ih _ b)
theorem zg7 {l:OpenLaw} {n:Nat} (hn:l.most=some n) {P:Params} {h:Heap} {args:List WData} {vals:List Value}
  (hpre:l.row.toRowW.claim.pre args=true) (hwl:WellAll P h vals args) :
  ∃a vs ns,vals=[Value.ref a]/\args=[WData.list (ns.map WData.int)]/\h.get? a=some { cls:=.type "list",data:=.seq vs.toArray }/\IntsAre vs ns/\ns.length<=n:=by
 have hsh:WShape.hasAll [] args [.list .int]=true:=(pre_splitW hpre).1
 have hc:l.pre.holds [] { args:=args }=true:=(pre_splitW hpre).2
 obtain ⟨d,r,rfl,h1,h2⟩:=hasAllW_cons hsh
 obtain rfl:=hasAllW_nil h2
 obtain ⟨xs,rfl,h3⟩:=hasW_list h1
 obtain ⟨ns,rfl⟩:=items_int h3
 have hlen:ns.length<=n:=by
  unfold OpenLaw.pre at hc
  have h4:(WTm.not (.lt (.lit (.int (n:Int))) (.len (.arg 0)))).holds [] { args:=[.list (ns.map .int)] }=true:=by
   have h4:=(holds_andW hc).1
   rw [hn] at h4
   exact h4
  have h5:=condW_of h4 (w_not (w_lt w_lit (w_len_list (w_arg rfl))))
  rw [List.length_map] at h5
  refine Nat.le_of_not_lt fun q=>?_
  have q':(n:Int)<((ns.length:Nat):Int):=by omega
  first
   | (rw [decide_eq_true q'] at h5;exact absurd h5 (by decide))
   | (simp at h5;omega)
 cases hwl with
 | cons w1 w2=>
  cases w2
  cases w1 with
  | list ho hall=>exact ⟨_,_,ns,rfl,rfl,ho,z6p ns _ hall,hlen⟩
theorem zg8 (l:OpenLaw) (args:List WData):l.row.toRowW.claim.post args (.bool true) args=true:=
 postW_of (r:=l.row.toRowW) (X:=(true==true))
  (show WShape.has [] (.bool true) .bool=true by first | rfl | decide | simp [WShape.has,WShape.arms,WShape.armsAll])
  (show (WTm.eq .res (.lit (.bool true))).value [] { args:=args,res:=some (.bool true),after:=args }=some (.bool (true==true)) from w_eq_bool (w_res rfl) w_lit) rfl
theorem attach_call {l:OpenLaw} {n:Nat} {q:Program} {loose:List Str} {XP:(Str->Option Value)->Heap->Prop} {YP:World->Heap->Prop} {d:DefRec}
  (hn:l.most=some n) (hdf:d.params.defaults=[])
  (call:∀(w:World) (s₀ s₁:Shared) (mg mb:Str->Option Value) (fa:Addr) (o:Obj) (pm cd doc:Value) (a:Addr) (vs:List Value) (ns:List Int),
   Ground q loose [] XP w s₀ mg mb s₁.heap->YP w s₁.heap ->
   s₁.heap.get? fa=some o->o.data=.func (docDef d.name d.params d.body d.scope pm cd doc)->s₁.heap.CodeRec cd d.name->mg d.name=some (.ref fa) ->
   s₁.heap.get? a=some { cls:=.type "list",data:=.seq vs.toArray }->IntsAre vs ns->ns.length<=n->s₁.gens=#[] ->
   codeAny (model l.prog w) callerA (.call (.ref fa) ⟨[.ref a],[]⟩) (fun r s'=>r=.ok (.ret (.bool true))/\OldK s₁.heap s'.heap/\s'.os=s₁.os/\AllBare s'.gens) s₁) :
  WalkO q loose XP YP l.row.toRowW d [] (fun f vs=>PySem.call f vs):=by
 intro w s₀ s₁ mg mb G Y fa o pm cd doc dV kV ho hd hcd hD hmg hg args vals as hpre hlay hrd hwl hlo
 obtain rfl:dV=.none:=Dflts.none hD hdf
 obtain rfl:kV=.none:=Dflts.noKw hD
 obtain ⟨a,vs,ns,rfl,rfl,hobj,hints,hlen⟩:=zg7 hn hpre hwl
 refine enter_call (codeAny_mono (call w s₀ s₁ mg mb fa o pm cd doc a vs ns G Y ho (fd_plain hd) hcd hmg hobj hints hlen hg) fun r s' hq=>?_)
 obtain ⟨rfl,h2,h3,h4⟩:=hq
 exact ⟨.inl ⟨.bool true,.bool true,[],rfl,fun _=>rfl,.bool true,zg8 l _,fun _=>⟨List.Pairwise.nil,fun _ hm=>(nomatch hm)⟩⟩,h2,h3,h4⟩
section
def noObjs (h:Heap):Heap:={ h with objs:=#[] }
theorem noObjs_get (h:Heap) (b:Addr):(noObjs h).get? b=none:=by
 cases e:(noObjs h).get? b with
 | none=>rfl
 | some o=>exact absurd (Heap.lt_size e) (Nat.not_lt_zero _)
theorem fr_all {h:Heap} {L:Addr} {m:Str->Option Value} (n:h.Ns L m):Fr (noObjs h) L h m:=
 ⟨n,fun b o e=>(by rw [noObjs_get] at e;cases e),Nat.zero_le _⟩
end
end Att
namespace L2
open PySem PySem.Spec PyProof.Rows
theorem z6q:∀{vs:List Value} {ns:List Int},IntsAre vs ns->Vals (ns.map V.int) vs
 | _,_,.nil=>.nil
 | _,_,.cons n t h=>.cons ⟨t,rfl⟩ (z6q h)
def zyk (H:Hp):Prop:=∀b,H b=none\/∃o xs,H b=some (.frz o (.lst xs))
theorem zkm {P:Program} {w:World} {K:Frag} {mg mb:Str->Option Value} {CX:CXT} {k:Nat} {fa a:Addr} {fd:FuncData} {x:Str} {sp:Sp} {s₁:Shared} {vs:List Value} {ns:List Int}
  (KX:K.In s₁.heap) (hns:s₁.heap.Ns mainGlobals mg) (hb:s₁.heap.Ns builtinsNs mb) (hbb:∀x:Str,x≠"__name__"->mb x=bootBuiltins x) (hlim:s₁.heap.NoLimit) (hg:s₁.gens=#[])
  (ha:s₁.heap.get? a=some { cls:=.type "list",data:=.seq vs.toArray }) (hi:IntsAre vs ns) (hl:ns.length<=sizeLine) (hr:Room k callerA)
  (F:∀base:Heap,K.In base->base.Ns mainGlobals mg->FnOk P w K mg base CX k fa fd [x] sp) (hbind:∀(s:Shared) (u:Value),BindsTo s fd ⟨[u],[]⟩ [(x,u)])
  (hsp:∀H:Hp,zyk H->SqL K H a (ns.map V.int)->sp [.ref a] H (fun v _=>v=.bl true) fun _ _ _=>False)
  (hCX:∀H e s',CX [] H s₁ (fun _ _ _=>False) e s'->False) :
  codeAny (model P w) callerA (.call (.ref fa) ⟨[.ref a],[]⟩) (fun r s'=>r=.ok (.ret (.bool true))/\OldK s₁.heap s'.heap/\s'.os=s₁.os/\AllBare s'.gens) s₁:=by
 have rv:=z6q hi
 have lenV:=hi.length
 have core:∀H:Hp,zyk H->SqL K H a (ns.map V.int)->HOk P w H s₁.heap->(∀b,H b≠none->b=a)->(H a≠none->K.lookup a=none) ->
   codeAny (model P w) callerA (.call (.ref fa) ⟨[.ref a],[]⟩) (fun r s'=>r=.ok (.ret (.bool true))/\OldK s₁.heap s'.heap/\s'.os=s₁.os/\AllBare s'.gens) s₁:=by
  intro H hO hS hok hA hK
  have base_of:∀{b:Addr} {o:Obj},s₁.heap.get? b=some o->H b=none->(zk9 s₁.heap H).get? b=some o:=fun e n=>zka e n
  have noA:∀{b:Addr} {o:Obj} {es:Array DictEntry} {ep:Nat},s₁.heap.get? b=some o->o.data=.dict es ep->H b=none:=fun {b o es ep} e d=>by
   cases q:H b with
   | none=>rfl
   | some u=>
    have e':b=a:=hA b (by rw [q];simp)
    subst e'
    rw [ha] at e;cases e
    have d':Data.seq vs.toArray _=Data.dict es ep:=d
    cases d'
  have nsK:∀{b:Addr} {m:Str->Option Value},s₁.heap.Ns b m->(zk9 s₁.heap H).Ns b m:=fun {b m} ⟨o,es,ep,e,d,r⟩=>⟨o,es,ep,base_of e (noA e d),d,r⟩
  have hKb:K.In (zk9 s₁.heap H):=fun b o e=>base_of (KX b o e) (by
   cases q:H b with
   | none=>rfl
   | some u=>
    have e':b=a:=hA b (by rw [q];simp)
    subst e'
    rw [hK (by rw [q];simp)] at e;cases e)
  have hM:Mod K mg (zk9 s₁.heap H):=⟨hKb,nsK hns,⟨mb,nsK hb,hbb⟩,let ⟨mc,h1,h2⟩:=hlim;⟨mc,nsK h1,h2⟩⟩
  have e0:Env0 P w K mg (zk9 s₁.heap H) callerA [] s₁ H:=⟨rfl,hM,fun b o e=>zos e,Nat.le_of_eq (zfq _ _),trivial,fun b hb=>absurd (show b∈([]:List Addr) from hb) (by simp),hok,.of_eq hg⟩
  refine codeAny_mono ((F _ hKb (nsK hns)).run callerA [] s₁ H ⟨[.ref a],[]⟩ [.ref a] [.ref a] _ _ hr e0 (hbind s₁ (.ref a)) (.cons rfl .nil) (hsp H hO hS)) fun r s' h=>?_
  cases r with
  | error e=>exact (hCX H e s' h).elim
  | ok fl=>
   cases fl with
   | next=>exact False.elim h
   | brk=>exact False.elim h
   | cont=>exact False.elim h
   | ret u=>
    obtain ⟨v,H',os,bare,un,hok',r',q⟩:=h
    have q':v=.bl true:=q
    subst q'
    obtain rfl:u=Value.bool true:=r'
    refine ⟨rfl,OldK.of_keep fun b o e=>?_,os,bare⟩
    cases q:H b with
    | none=>exact un.keep b o e q (by intro z;exact absurd (show b∈([]:List Addr) from z) (by simp)) (by simp)
    | some u=>
     rcases hO b with z | ⟨ob,xs,z⟩
     . rw [q] at z;cases z
     . have z2:=un.frzs b ob _ z
       obtain ⟨e1,_⟩:=hok b _ z
       obtain ⟨e2,_⟩:=hok' b _ z2
       rw [e] at e1;cases e1
       exact e2
 cases hk:K.lookup a with
 | some o=>
  have e:=KX a o hk
  rw [ha] at e
  cases e
  refine core (fun _=>none) (fun _=>.inl rfl) (.inr ⟨_,vs.toArray,_,hk,rfl,rfl,rfl,by rw [List.size_toArray,lenV];exact hl,by simpa using rv⟩) (fun b u z=>by have z':(none:Option HO)=some u:=z;cases z') (fun b z=>absurd rfl z) fun z=>absurd rfl z
 | none=>
  refine core (fun b=>if b=a then some (.frz { cls:=.type "list",data:=.seq vs.toArray } (.lst (ns.map V.int))) else none) (fun b=>?_) (.inl (.inr ⟨{ cls:=.type "list",data:=.seq vs.toArray },if_pos rfl⟩)) (fun b u z=>?_) (fun b z=>?_) fun _=>hk
  . by_cases hb:b=a
    . exact .inr ⟨_,_,if_pos hb⟩
    . exact .inl (if_neg hb)
  . by_cases hb:b=a
    . have z':=(if_pos hb).symm.trans z
      cases z'
      subst hb
      exact ⟨ha,by rw [List.length_map];exact hl,vs,_,rv,ha⟩
    . have z':=(if_neg hb).symm.trans z
      cases z'
  . by_cases hb:b=a
    . exact hb
    . exact absurd (if_neg hb) z
theorem walk_of {l:PySem.W.OpenLaw} {n k:Nat} {q:Program} {loose:List Str} {XP:(Str->Option Value)->Heap->Prop} {YP:World->Heap->Prop} {d:DefRec} {K:Params->Frag} {CX:World->CXT} {sp:World->Sp} {x:Str}
  (hn:l.most=some n) (hn2:n<=sizeLine) (hdf:d.params.defaults=[]) (hr:Room k callerA)
  (hY:∀(w:World) (h:Heap),YP w h->(K w.params).In h)
  (F:∀(w:World) (mg:Str->Option Value) (fa:Addr) (h:Heap),(K w.params).In h->h.Ns mainGlobals mg->mg d.name=some (.ref fa) ->
   ∃fd:FuncData,(∀(s:Shared) (u:Value),BindsTo s fd ⟨[u],[]⟩ [(x,u)]) /\
    ∀base:Heap,(K w.params).In base->base.Ns mainGlobals mg->FnOk l.prog w (K w.params) mg base (CX w) k fa fd [x] (sp w))
  (hsp:∀(w:World) (H:Hp) (a:Addr) (ns:List Int),ns.length<=n->zyk H->SqL (K w.params) H a (ns.map V.int)->sp w [.ref a] H (fun v _=>v=.bl true) fun _ _ _=>False)
  (hCX:∀(w:World) (H:Hp) (s:Shared) (e:Value) (s':Shared),CX w [] H s (fun _ _ _=>False) e s'->False) :
  PySem.W.WalkO q loose XP YP l.row.toRowW d [] (fun f vs=>PySem.call f vs):=by
 refine Att.attach_call hn hdf fun w s₀ s₁ mg mb fa o pm cd doc a vs ns G Y ho hd hcd hmg hobj hints hlen hg=>?_
 have KX:=hY w _ Y
 obtain ⟨fd,hb,hF⟩:=F w mg fa _ KX G.T.g hmg
 exact zkm KX G.T.g G.T.b G.T.builtins G.T.nolimit hg hobj hints (Nat.le_trans hlen hn2) hr hF hb (fun H hO hS=>hsp w H a ns hlen hO hS) fun H e s'=>hCX w H s₁ e s'
noncomputable def z36 (s:Stmt):Arguments:=match s with
 | .FunctionDef _ a _ _ _ _ _ _ _ _=>a
 | _=>{ posonlyargs:=[],args:=[],vararg:=none,kwonlyargs:=[],kw_defaults:=[],kwarg:=none,defaults:=[] }
noncomputable def z1t (s:Stmt):List Stmt:=match s with
 | .FunctionDef _ _ b _ _ _ _ _ _ _=>b
 | _=>[]
noncomputable def z04 (s:Stmt):Scope:=match s with
 | .FunctionDef _ _ _ _ _ _ sc _ _ _=>sc
 | _=>{ kind:=.function,names:=[],isGenerator:=false,isCoroutine:=false }
abbrev CX0:CXT:=fun _ _ _ _ _ _=>False
abbrev E0:XK:=fun _ _ _=>False
structure Fun (K:Frag) (x qual:Str) (st:Stmt) (f:Addr) (fd:FuncData):Prop where
 ex:∃(oc:Value) (od:Option Addr) (kV doc pm:Value) (an:Option Addr) (cdv ct:Value) (osl:Array (Option Value)),
  fd=PySem.W.fnOf x qual (z36 st) (z1t st) (z04 st) .none kV doc pm an cdv ct/\K.lookup f=some ⟨oc,od,.func fd,osl⟩/\codeIn K cdv qual=true
 kp:keepIn K (.ref f)=true
section
variable {P:Program} {w:World} {K:Frag} {mg:Str->Option Value} {base:Heap}
theorem Fun.ok {x qual:Str} {st:Stmt} {f:Addr} {fd:FuncData} {N ps:List Str} {k:Nat} {sp:Sp} (F:Fun K x qual st f fd) (S:FnScope N ps (z04 st)) (len:∀vs H Q E,sp vs H Q E->vs.length=ps.length)
  (hbody:∀(cdv:Value) (A:Around) (outer:List Env) (s:Shared) (H:Hp) (vs:List V) (Q:VK) (E:XK),Room k (A.deeper (envOfC qual (z04 st) s.heap.objs.size f cdv))->sp vs H Q E ->
   ∃t,PSs (zk4 CX0 P w K mg base N qual (z04 st) f cdv A outer s H E).nox (z1t st) t/\t { nx:=fun _ H'=>Q .non H',rt:=Q } (z57 N vs) H):FnOk P w K mg base CX0 (k+1) f fd ps sp:=by
 obtain ⟨oc,od,kV,doc,pm,an,cdv,ct,osl,rfl,lk,hcd⟩:=F.ex
 refine zsy lk hcd S len fun A outer s H vs Q E hr hsp=>?_
 obtain ⟨t,h,q⟩:=hbody cdv A outer s H vs Q E hr hsp
 exact ⟨t,h.nox,q⟩
theorem Fun.binds {x qual:Str} {st:Stmt} {f:Addr} {fd:FuncData} {ps:List Str} (F:Fun K x qual st f fd)
  (h:∀(kV doc pm:Value) (an:Option Addr) (cdv ct:Value) (us:List Value),us.length=ps.length->bindArgs (PySem.W.fnOf x qual (z36 st) (z1t st) (z04 st) .none kV doc pm an cdv ct) ⟨us,[]⟩=pure (ps.zip us)):Binds K fd ps []:=by
 obtain ⟨oc,od,kV,doc,pm,an,cdv,ct,osl,rfl,lk,hcd⟩:=F.ex
 exact .all (h kV doc pm an cdv ct)
theorem zt5 {x qual:Str} {st:Stmt} {f:Addr} {oc:Value} {od an:Option Addr} {osl:Array (Option Value)} {kV doc pm cdv ct:Value} (l:K.lookup f=some ⟨oc,od,.func (PySem.W.fnOf x qual (z36 st) (z1t st) (z04 st) .none kV doc pm an cdv ct),osl⟩)
 (c:codeIn K cdv qual=true) (k:keepIn K (.ref f)=true):Fun K x qual st f (PySem.W.fnOf x qual (z36 st) (z1t st) (z04 st) .none kV doc pm an cdv ct):=⟨⟨oc,od,kV,doc,pm,an,cdv,ct,osl,rfl,l,c⟩,k⟩
end
theorem zg9 {n:Nat} (h:n<=1000):n<sizeLine:=Nat.lt_of_le_of_lt h (by decide)
section
variable {X:Cx}
theorem pv (i:Nat) {x:Str} {pos:Pos} (hN:X.N[i]?=some x:=by rfl) (hv:Vis X.env.scope x:=by first | exact Or.inl rfl | exact Or.inr (Or.inl rfl) | exact Or.inr (Or.inr rfl)) (hd:(x==("__debug__":Str))=false:=by decide)
 (hcd:(x==("__classdict__":Str))=false:=by decide):PE X (.Name x pos) (zyu i):=zfr hN hv hd hcd
theorem call_lenD:CallR X (.builtin "len") (fun xs H Q=>∃a kvs,xs=[V.ref a]/\H a=some (.dK kvs)/\Q (.int kvs.length) H):=by
 intro pins s U H xs us Q I r h
 obtain ⟨a,kvs,rfl,ha,q⟩:=h
 obtain ⟨u,rfl,ru⟩:=z66 r
 cases ru
 exact zza I (.inl ha) fun t s' I'=>⟨.int kvs.length,H,I',⟨t,rfl⟩,q⟩
end
def Same (H H':Hp):Prop:=∀b o,H b=some o->H' b=some o
theorem Same.refl (H:Hp):Same H H:=fun _ _ h=>h
theorem Same.trans {H H1 H2:Hp} (a:Same H H1) (b:Same H1 H2):Same H H2:=fun c o h=>b c o (a c o h)
theorem Same.free {H H':Hp} (e:Same H H') {l:Addr} (h:H' l=Option.none):H l=Option.none:=by
 cases q:H l with
 | none=>rfl
 | some o=>
  rw [e l o q] at h
  cases h
end L2
set_option maxHeartbeats 4000000
namespace L2
open PySem PySem.Spec PyProof.Rows
noncomputable def z0u (cells:List (Str×Addr)):List (Str×NameKind)->List (Str×Addr)->List (Str×Addr)
 | [],acc=>acc
 | (n,k)::r,acc=>z0u cells r (if k==.free then (n,(cells.lookup n).getD 0)::acc else acc)
theorem z3z {cells:List (Str×Addr)} {x:Str} {c:Addr}:∀{names:List (Str×NameKind)} {acc:List (Str×Addr)},
  (∀y∈names,y.2=.free->∃c,cells.lookup y.1=some c)->(∀y c,acc.lookup y=some c->cells.lookup y=some c)->(z0u cells names acc).lookup x=some c->cells.lookup x=some c
 | [],acc,_,ha,h=>ha x c h
 | (n,k)::r,acc,hf,ha,h=>by
  refine z3z (names:=r) (fun y hy=>hf y (List.mem_cons_of_mem _ hy)) (fun y c'=>?_) h
  by_cases hk:k=.free
  . subst hk
    obtain ⟨c0,e0⟩:=hf (n,.free) List.mem_cons_self rfl
    intro e
    have e1:(if (NameKind.free==NameKind.free)=true then (n,(cells.lookup n).getD 0)::acc else acc)=(n,(cells.lookup n).getD 0)::acc:=if_pos (show (NameKind.free==NameKind.free)=true from rfl)
    rw [e1,List.lookup_cons] at e
    cases hyn:y==n with
    | true=>
     rw [hyn] at e
     have e2:y=n:=by simpa using hyn
     subst e2
     have e3:=Option.some.inj e
     have e0':cells.lookup y=some c0:=e0
     rw [e0'] at e3 ⊢
     exact congrArg some e3
    | false=>rw [hyn] at e;exact ha y c' e
  . have e1:(if (k==NameKind.free)=true then (n,(cells.lookup n).getD 0)::acc else acc)=acc:=if_neg (by simpa using hk)
    rw [e1];exact ha y c'
theorem z49 {cells:List (Str×Addr)} {x:Str}:∀{names:List (Str×NameKind)} {acc:List (Str×Addr)},
  ((∃c,acc.lookup x=some c)\/∃y∈names,y.2=.free/\y.1=x)->∃c,(z0u cells names acc).lookup x=some c
 | [],acc,h=>by
  rcases h with h | ⟨y,hy,_⟩
  . exact h
  . cases hy
 | (n,k)::r,acc,h=>by
  refine z49 (names:=r) ?_
  by_cases hk:k=.free
  . subst hk
    have e1:(if (NameKind.free==NameKind.free)=true then (n,(cells.lookup n).getD 0)::acc else acc)=(n,(cells.lookup n).getD 0)::acc:=if_pos (show (NameKind.free==NameKind.free)=true from rfl)
    rw [e1,List.lookup_cons]
    cases hxn:x==n with
    | true=>exact .inl ⟨_,rfl⟩
    | false=>
     rcases h with h | ⟨y,hy,hf,e⟩
     . exact .inl h
     . rcases List.mem_cons.mp hy with z | z
       . subst z
         have e':n=x:=e
         subst e'
         simp at hxn
       . exact .inr ⟨y,z,hf,e⟩
  . have e1:(if (k==NameKind.free)=true then (n,(cells.lookup n).getD 0)::acc else acc)=acc:=if_neg (by simpa using hk)
    rw [e1]
    rcases h with h | ⟨y,hy,hf,e⟩
    . exact .inl h
    . rcases List.mem_cons.mp hy with z | z
      . subst z;exact absurd hf hk
      . exact .inr ⟨y,z,hf,e⟩
theorem z4q {scope:Scope} {env:Env} (hf:∀y∈scope.names,y.2=.free->∃c,env.cells.lookup y.1=some c):closureFor scope env=pure (z0u env.cells scope.names []):=by
 have go:∀(names:List (Str×NameKind)) (acc:List (Str×Addr)),(∀y∈names,y.2=.free->∃c,env.cells.lookup y.1=some c) ->
   (forIn names acc fun x cs=>if (x.2==NameKind.free)=true then do let a <-cellOf env x.1;pure (ForInStep.yield ((x.1,a)::cs)) else pure (ForInStep.yield cs):Sem (List (Str×Addr)))=pure (z0u env.cells names acc):=by
  intro names
  induction names with
  | nil=>intro acc _;rfl
  | cons p r ih=>
   intro acc h
   obtain ⟨n,k⟩:=p
   rw [List.forIn_cons]
   by_cases hk:k=.free
   . subst hk
     obtain ⟨c,e⟩:=h (n,.free) List.mem_cons_self rfl
     have e':env.cells.lookup n=some c:=e
     have e1:cellOf env n=pure c:=by unfold cellOf;rw [e']
     have e2:z0u env.cells ((n,NameKind.free)::r) acc=z0u env.cells r ((n,c)::acc):=by
      show z0u env.cells r (if (NameKind.free==NameKind.free)=true then (n,(env.cells.lookup n).getD 0)::acc else acc)=_
      rw [if_pos (show (NameKind.free==NameKind.free)=true from rfl),e'];rfl
     rw [e2,<-ih _ fun y hy=>h y (List.mem_cons_of_mem _ hy)]
     show ((if (NameKind.free==NameKind.free)=true then do let a <-cellOf env n;pure (ForInStep.yield ((n,a)::acc)) else pure (ForInStep.yield acc)) >>= _:Sem _)=_
     rw [if_pos (show (NameKind.free==NameKind.free)=true from rfl),e1]
     rfl
   . have hk':(k==NameKind.free)=false:=by simpa using hk
     have e2:z0u env.cells ((n,k)::r) acc=z0u env.cells r acc:=by
      show z0u env.cells r (if (k==NameKind.free)=true then _ else acc)=_
      rw [if_neg (by rw [hk'];exact Bool.false_ne_true)]
     rw [e2,<-ih _ fun y hy=>h y (List.mem_cons_of_mem _ hy)]
     show ((if (k==NameKind.free)=true then do let a <-cellOf env n;pure (ForInStep.yield ((n,a)::acc)) else pure (ForInStep.yield acc)) >>= _:Sem _)=_
     rw [if_neg (by rw [hk'];exact Bool.false_ne_true)]
     rfl
 have:=go scope.names [] hf
 unfold closureFor
 simpa using this
theorem zad {prog:Program} {w:World} {A:Around} {R:Result->Shared->Prop} {s:Shared} {elt target iter:Expr} {ifs:List Expr} {scope:Scope} {pos:Pos} {it acc:Value} {env:Env} (I:Nat->Shared->Prop)
  (turn:∀n s,I n s->wpAny (model prog w) A (pyNext it) (fun r s₁=>match r with
   | none=>R (.ok .next) s₁
   | some v=>wpAny (model prog w) A (letOwnedTupleGo target it v) (fun _ s₁'=>wpAny (model prog w) A (assign target env v) (fun _ s₂=>
    wpAny (model prog w) A (forIn ifs true fun c r=>if r=true then do let ok <-isTrue c env (eval c env);pure (ForInStep.yield ok) else pure (ForInStep.yield r)) (fun ok s₃=>
     if ok=true then wpAny (model prog w) A (eval elt env) (fun x s₄=>
      wpAny (model prog w) A (call (.builtin "list.append") [acc,x]) (fun _ s₅=>∃m,m<n/\I m s₅) (fun _ _=>False) s₄) (fun _ _=>False) s₃
     else ∃m,m<n/\I m s₃) (fun _ _=>False) s₂) (fun _ _=>False) s₁') (fun _ _=>False) s₁) (fun _ _=>False) s)
  (n:Nat) (h:I n s) :
  codeAny (model prog w) A (.compLoop (.ListComp elt [⟨target,iter,ifs,0⟩] scope pos) 0 it acc env) R s:=by
 refine codeAny_loop rfl I (fun n s hI=>?_) n h
 show wpAny _ A ((compTurn (.ListComp elt [⟨target,iter,ifs,0⟩] scope pos) 0 it acc env).onRaise (fun x=>do noteFrame x env;theTreesLotGoes x)) _ _ s
 refine wpAny_noted ?_
 rw [compTurn_list]
 refine wpAny_bind (wpAny_standAt (wpAny_bind (wpAny_mono (turn n s hI) (fun r s₁ h₁=>?_) fun _ _ h'=>h'.elim)))
 cases r with
 | none=>exact wpAny_pure h₁
 | some v=>
  refine wpAny_bind (wpAny_mono h₁ (fun _ s₁' h₁'=>?_) fun _ _ h'=>h'.elim)
  refine wpAny_bind (wpAny_mono h₁' (fun _ s₂ h₂=>wpAny_bind (wpAny_mono h₂ (fun ok s₃ h₃=>?_) fun _ _ h'=>h'.elim)) fun _ _ h'=>h'.elim)
  cases ok with
  | false=>exact wpAny_pure ⟨rfl,h₃⟩
  | true=>
   exact wpAny_bind (wpAny_bind (wpAny_mono h₃ (fun x s₄ h₄=>wpAny_bind (wpAny_mono h₄ (fun _ s₅ h₅=>wpAny_pure (wpAny_pure ⟨rfl,h₅⟩)) fun _ _ h'=>h'.elim)) fun _ _ h'=>h'.elim))
theorem z2d {env:Env}:∀{names:List (Str×NameKind)} {x:Str},
  (names.map fun (n,k)=>if (k==NameKind.free&&env.scope.kind==.function&&env.kindOf n==some .cell) then (n,NameKind.cell) else (n,k)).lookup x =
   (names.lookup x).map fun k=>if (k==NameKind.free&&env.scope.kind==.function&&env.kindOf x==some .cell) then NameKind.cell else k
 | [],_=>rfl
 | (n,k)::r,x=>by
  have ih:=@z2d env r x
  show List.lookup x ((if (k==NameKind.free&&env.scope.kind==.function&&env.kindOf n==some .cell)=true then (n,NameKind.cell) else (n,k))::_)=_
  cases hx:x==n with
  | true=>
   have e:x=n:=by simpa using hx
   subst e
   by_cases hc:(k==NameKind.free&&env.scope.kind==.function&&env.kindOf x==some .cell)=true
   . rw [if_pos hc];simp only [List.lookup_cons,hx,Option.map_some,hc,if_true]
   . rw [if_neg hc];simp only [List.lookup_cons,hx,Option.map_some,hc,if_false];rfl
  | false=>
   by_cases hc:(k==NameKind.free&&env.scope.kind==.function&&env.kindOf n==some .cell)=true
   . rw [if_pos hc];simp only [List.lookup_cons,hx];exact ih
   . rw [if_neg hc];simp only [List.lookup_cons,hx];exact ih
noncomputable def z0j (X:Cx) (sc:Scope) (N':List Str) (fp:List Addr) (s₃:Shared) (H₃:Hp):Cx:=
 { X with env:=compEnvC sc (z0u X.env.cells sc.names []) s₃.heap.objs.size X.env,N:=N',s₀:=s₃,H₀:=H₃,outer:=X.stack,ex:=fp,fn:=fun _=>false,pn:=[],xe:=fun _ _=>False }
noncomputable def zk5 (ix:List Nat) (U:St):St:=ix.map fun j=>(U[j]?).getD none
structure CompOk (X:Cx) (sc:Scope) (caps:List Str) (ix:List Nat):Prop where
 calm:X.calm=true
 kind:sc.kind=.function
 ncell:∀y∈sc.names,y.2≠.cell
 free:∀y∈sc.names,y.2=.free->X.env.kindOf y.1=some .cell\/X.env.kindOf y.1=some .free
 names:∀y∈sc.names,y.2=.local->sc.names.lookup y.1=some .local
 cap:∀(j:Nat) x,caps[j]?=some x->sc.names.lookup x=some .free/\∃i,ix[j]?=some i/\X.N[i]?=some x
 len:ix.length=caps.length
noncomputable def zae (fsc:Scope) (N:List Str) (sc:Scope) (caps:List Str) (ix:List Nat):Bool:=
 sc.kind==.function&&sc.names.all (fun y=>y.2 != .cell)&&sc.names.all (fun y=>y.2 != .free||(fsc.names.lookup y.1==some .cell||fsc.names.lookup y.1==some .free)) &&
  sc.names.all (fun y=>y.2 != .local||sc.names.lookup y.1==some .local)&&caps.all (fun x=>sc.names.lookup x==some .free)&&(ix.map fun i=>N[i]?)==caps.map some
theorem z0v {X:Cx} {sc:Scope} {caps:List Str} {ix:List Nat} (hc:X.calm=true) (h:zae X.env.scope X.N sc caps ix=true):CompOk X sc caps ix:=by
 unfold zae at h
 simp only [Bool.and_eq_true] at h
 obtain ⟨⟨⟨⟨⟨h1,h2⟩,h3⟩,h4⟩,h5⟩,h6⟩:=h
 have e6:(ix.map fun i=>X.N[i]?)=caps.map some:=by simpa using h6
 have elen:ix.length=caps.length:=by simpa using congrArg List.length e6
 refine ⟨hc,by simpa using h1,fun y hy=>?_,fun y hy hf=>?_,fun y hy hl=>?_,fun j x hj=>⟨?_,?_⟩,elen⟩
 . have:=List.all_eq_true.mp h2 y hy
   simpa using this
 . have:=List.all_eq_true.mp h3 y hy
   rw [hf] at this
   simp only [bne_self_eq_false,Bool.false_or,Bool.or_eq_true,beq_iff_eq] at this
   exact this
 . have:=List.all_eq_true.mp h4 y hy
   rw [hl] at this
   simpa using this
 . have:=List.all_eq_true.mp h5 x (List.mem_of_getElem? hj)
   simpa using this
 . have hjl:j<ix.length:=by rw [elen];exact (List.getElem?_eq_some_iff.mp hj).1
   refine ⟨ix[j],List.getElem?_eq_getElem hjl,?_⟩
   have q:=congrArg (fun l=>l[j]?) e6
   simp only [List.getElem?_map,List.getElem?_eq_getElem hjl,hj,Option.map_some] at q
   exact Option.some.inj q
section
variable {X:Cx} {sc:Scope} {tgs caps:List Str} {ix:List Nat} {pins:List (Addr×Obj)} {U:St} {H:Hp} {s:Shared} {fp:List Addr}
theorem CompOk.free_cell (C:CompOk X sc caps ix) (I:Inv X pins U H s):∀y∈sc.names,y.2=.free->∃c,X.env.cells.lookup y.1=some c:=fun y hy hf=>I.ok.has y.1 (C.free y hy hf)
theorem CompOk.sub (C:CompOk X sc caps ix) (I:Inv X pins U H s) {x:Str} {c:Addr} (h:(z0u X.env.cells sc.names []).lookup x=some c):X.env.cells.lookup x=some c:=
 z3z (C.free_cell I) (fun _ _ e=>by cases e) h
theorem zet (C:CompOk X sc caps ix) (I:Inv X pins U H s) (hf:∀b∈fp,z8b X pins H b) (hl:∀b∈fp,b<s.heap.objs.size) {h':Heap} {t':Nat} {m:Str->Option Value} (hn:h'.Ns s.heap.objs.size m)
  (hk:∀b o,s.heap.get? b=some o->h'.get? b=some o) :
  Inv (z0j X sc (tgs++caps) fp s H) [] (List.replicate tgs.length none++zk5 ix U) H { s with heap:=h',toks:=t' }:=by
 have sub:∀{x c},(z0u X.env.cells sc.names []).lookup x=some c->X.env.cells.lookup x=some c:=fun h=>C.sub I h
 have clt:∀{x c},X.env.cells.lookup x=some c->c<s.heap.objs.size:=fun {x c} h=>by
  obtain ⟨v,q⟩:=I.cell x c h
  exact q.lt
 refine ⟨⟨I.ok.mod,C.kind,I.ok.glob,I.ok.blt,Nat.le_refl _,fun x y c h1 h2=>I.ok.inj x y c (sub h1) (sub h2),fun x hx=>?_,fun x c hfn _=>?_,I.ok.hd,I.ok.frames,.inl rfl,fun b hb=>⟨?_,fun x c h z=>?_⟩,fun b o e=>I.bs b o e,Nat.le_trans I.ok.bsz I.sz,fun b o e hb=>?_,fun b hb hfs=>?_,I.stack,I.stkFree⟩,
  rfl,I.bare,Un.kept hk,⟨m,hn,fun i x v e1 e2 e3=>?_⟩,fun x c h=>?_,I.hok.fresh (Nat.le_refl _),fun x c h=>I.freeC x c (sub h),fun p hp=>absurd (show p∈([]:List (Addr×Obj)) from hp) (by simp),I.hok.kept hk,?_⟩
 . -- a cell or free name of the block has a cell
   have hx':(relabel sc X.env).names.lookup x=some .cell\/(relabel sc X.env).names.lookup x=some .free:=hx
   have e:(relabel sc X.env).names.lookup x=(sc.names.lookup x).map fun k=>if (k==NameKind.free&&X.env.scope.kind==.function&&X.env.kindOf x==some .cell) then NameKind.cell else k:=z2d
   rw [e] at hx'
   cases q:sc.names.lookup x with
   | none=>rw [q] at hx';rcases hx' with z | z<;>cases z
   | some k=>
    have hm:(x,k)∈sc.names:=PySem.mem_of_lookup q
    have hkf:k=.free:=by
     rw [q] at hx'
     simp only [Option.map_some] at hx'
     by_cases hkk:k=.free
     . exact hkk
     . have:(k==NameKind.free)=false:=by simpa using hkk
       simp only [this,Bool.false_and,Bool.false_eq_true,if_false] at hx'
       rcases hx' with z | z
       . exact absurd (Option.some.inj z) (C.ncell _ hm)
       . exact Option.some.inj z
    subst hkf
    exact z49 (.inr ⟨_,hm,rfl,rfl⟩)
 . exact absurd (show false=true from hfn) Bool.false_ne_true
 . exact Nat.ne_of_lt (hl b hb)
 . exact (hf b hb).2.2.2.2.1 x c (sub h) z
 . obtain ⟨_,_,_,hx,_⟩:=hf b hb
   rcases hx with z | z
   . exact I.ok.noex b o e z
   . exact absurd (Nat.lt_of_lt_of_le (Heap.lt_size e) (Nat.le_trans I.ok.bsz z)) (Nat.lt_irrefl _)
 . obtain ⟨_,h1,h2,_⟩:=hf b hb
   rcases List.mem_cons.mp (I.stkSub b hfs) with z | z
   . exact h1 z
   . exact h2 z
 . -- the captured names' values
   have hi:tgs.length<=i:=by
    by_cases hi:i<tgs.length
    . rw [List.getElem?_append_left (by simpa using hi),List.getElem?_replicate] at e2
      split at e2<;>cases e2
    . lia
   have e1':caps[i - tgs.length]?=some x:=by
    have:(tgs++caps)[i]?=some x:=e1
    rw [List.getElem?_append_right hi] at this
    exact this
   rw [List.getElem?_append_right (by simpa using hi),List.length_replicate] at e2
   obtain ⟨hfr,j,hj,hjN⟩:=C.cap _ x e1'
   have e2':U[j]?=some (some v):=by
    unfold zk5 at e2
    rw [List.getElem?_map,hj] at e2
    simp only [Option.map_some] at e2
    have e2:=Option.some.inj e2
    cases q:U[j]? with
    | none=>rw [q] at e2;cases e2
    | some o=>rw [q] at e2;exact congrArg some e2
   have hmem:(x,NameKind.free)∈sc.names:=PySem.mem_of_lookup hfr
   have hkind:=C.free _ hmem rfl
   obtain ⟨m0,hn0,hl0⟩:=I.loc
   have hvis:Vis X.env.scope x:=hkind.elim (fun z=>.inr (.inl z)) fun z=>.inr (.inr z)
   obtain ⟨u,r,look⟩:=hl0 j x v hjN e2' hvis
   refine ⟨u,r,?_⟩
   rcases look with ⟨k,_⟩ | ⟨_,c,hc,z⟩
   . rcases hkind with q | q
     . rw [show X.env.kindOf x=some .cell from q] at k;cases k
     . rw [show X.env.kindOf x=some .free from q] at k;cases k
   . obtain ⟨c',hc'⟩:=z49 (cells:=X.env.cells) (names:=sc.names) (acc:=[]) (x:=x) (.inr ⟨_,hmem,rfl,rfl⟩)
     have hcc:c'=c:=by have:=sub hc';rw [hc] at this;exact (Option.some.inj this).symm
     subst hcc
     refine .inr ⟨?_,c',hc',?_⟩
     . have e:(relabel sc X.env).names.lookup x=(sc.names.lookup x).map fun k=>if (k==NameKind.free&&X.env.scope.kind==.function&&X.env.kindOf x==some .cell) then NameKind.cell else k:=z2d
       show (relabel sc X.env).names.lookup x=some .cell\/(relabel sc X.env).names.lookup x=some .free
       rw [e,hfr]
       simp only [Option.map_some]
       split
       . exact .inl rfl
       . exact .inr rfl
     . obtain ⟨o,ho,hd⟩:=z
       exact ⟨o,hk _ o ho,hd⟩
 . obtain ⟨v,o,ho,hd⟩:=I.cell x c (sub h)
   exact ⟨v,o,hk _ o ho,hd⟩
 . show _=(tgs++caps).length
   unfold zk5
   rw [List.length_append,List.length_replicate,List.length_map,List.length_append,C.len]
inductive PTs (X:Cx):List Expr->TT->Prop where
 | nil:PTs X [] (fun _ H Q=>Q true H)
 | one {c:Expr} {t:TT} (h:PT X c t):PTs X [c] t
theorem PTs.run {X:Cx} {ifs:List Expr} {t:TT} (h:PTs X ifs t) {pins:List (Addr×Obj)} {s:Shared} {U:St} {H:Hp} {Q:Bool->Hp->Prop} (I:Inv X pins U H s) (q:t U H Q) :
  wpAny (model X.prog X.w) X.A (forIn ifs true fun c r=>if r=true then do let ok <-isTrue c X.env (eval c X.env);pure (ForInStep.yield ok) else pure (ForInStep.yield r)) (TP X pins U Q) X.xe s:=by
 cases h with
 | nil=>exact wpAny_tests_nil ⟨H,I,q⟩
 | one h=>exact wpAny_tests_one (h pins s U H Q I q)
def zt6 (J:It) (D:Addr) (B:V->Hp->(List V->Hp->Prop)->Prop) (cs:St) (tt:TT) (te:TE) (Q:VK) (H1:Hp):Prop:=
 ∃W:Nat->Nat->List V->Hp->Prop,(∃m,W 0 m [] (upd H1 D (.lst [])))/\∀i m ys H,W i m ys H ->
  H D=some (.lst ys)/\((J.stop i H/\Q (.ref D) H)\/(J.go i H/\∀x H',J.yld i H x H'->B x H' fun vals H2=>tt (vals.map some++cs) H2 fun b H3=>
   if b=true then te (vals.map some++cs) H3 fun y H4=>H4 D=some (.lst ys)/\ys.length<sizeLine/\∃m',m'<m/\W (i+1) m' (ys++[y]) (upd H4 D (.lst (ys++[y])))
   else ∃m',m'<m/\W (i+1) m' ys H3))
noncomputable def zaf (wi:TI) (B:V->Hp->(List V->Hp->Prop)->Prop) (ix:List Nat) (tt:TT) (te:TE):TE:=fun U H Q=>wi U H fun J H1=>∀D,H1 D=none->zt6 J D B (zk5 ix U) tt te Q H1
variable {elt tg iter:Expr} {ifs:List Expr} {pos:Pos} {g:TG} {B:V->Hp->(List V->Hp->Prop)->Prop} {tt:TT} {te:TE}
theorem z7q (C:CompOk X sc caps ix) (hg:∀fp s H,PG (z0j X sc (tgs++caps) fp s H) tg g)
  (hB:∀(x:V) (σt cs:St) (H:Hp) (Q:St->Hp->Prop),σt.length=tgs.length->B x H (fun vals H2=>Q (vals.map some++cs) H2)->g x (σt++cs) H fun σ2 H2=>(∃vals:List V,vals.length=tgs.length/\σ2=vals.map some++cs)/\Q σ2 H2)
  (ht:∀fp s H,PTs (z0j X sc (tgs++caps) fp s H) ifs tt) (he:∀fp s H,PE (z0j X sc (tgs++caps) fp s H) elt te)
  {J:It} {it:Addr} {tn:Nat->Heap->Prop} {Q:VK} {E:Value->Shared->Prop} (I2:Inv X pins U H s) (T:Turn X.prog X.w X.K tg J fp it tn) (st:tn 0 s.heap) (hf:∀b∈fp,z8b X pins H b)
  (hw:∀D,H D=none->zt6 J D B (zk5 ix U) tt te Q H) {RR:Value->Addr->Result->Shared->Prop}
  (hRR:∀D Cc H' s' m,s'.heap.Ns Cc m->Inv X pins U H' s'->z8b X pins H' Cc->Q (.ref D) H'->RR (.ref D) Cc (.ok .next) s') :
  wpAny (model X.prog X.w) X.A (newList []) (fun acc s₃=>wpAny (model X.prog X.w) X.A (newFunctionEnv sc X.env.globals (z0u X.env.cells sc.names []) [] X.env.qual none .none (some X.env)) (fun cenv s₄=>
   codeAny (model X.prog X.w) X.A (.compStart (.ListComp elt [⟨tg,iter,ifs,0⟩] sc pos) 0 (.ref it) acc { cenv with scope:=relabel sc X.env }) (RR acc cenv.locals) s₄) E s₃) E s:=by
 refine wpAny_newObj_type (wpAny_newFunctionEnv C.ncell (by intro y hy;simp at hy) (fun h₁ hns₁ hsb₁=>?_) C.kind)
 have I3:Inv X pins U (upd H s.heap.objs.size (.lst [])) { s with heap:=s.heap.push { cls:=.type "list",dict:=none,data:=.seq ([]:List Value).toArray } }:=I2.lnew (t':=s.toks) (its:=[]) .nil (Nat.zero_le _)
 have hD0:H s.heap.objs.size=none:=I2.fresh
 have lt0:∀b∈fp,b<s.heap.objs.size:=fun b hb=>by
  obtain ⟨o,e,_⟩:=T.obj _ _ st b hb
  exact Heap.lt_size e
 have hfD:∀b∈fp,b≠s.heap.objs.size:=fun b hb=>Nat.ne_of_lt (lt0 b hb)
 have hf3:∀b∈fp,z8b X pins (upd H s.heap.objs.size (.lst [])) b:=fun b hb=>⟨by rw [z0a (hfD b hb)];exact (hf b hb).1,(hf b hb).2⟩
 generalize hs3:({ s with heap:=s.heap.push { cls:=.type "list",dict:=none,data:=.seq ([]:List Value).toArray } }:Shared)=s₃ at I3 hns₁ hsb₁ ⊢
 have hs3h:s₃.heap=s.heap.push { cls:=.type "list",dict:=none,data:=.seq ([]:List Value).toArray }:=by rw [<-hs3]
 have st3:tn 0 s₃.heap:=T.keep _ _ _ st fun b _ o e=>by rw [hs3h];exact Heap.get?_push_of_some _ e
 have hl3:∀b∈fp,b<s₃.heap.objs.size:=fun b hb=>by rw [hs3h,Heap.size_push];exact Nat.lt_succ_of_lt (lt0 b hb)
 generalize hDD:s.heap.objs.size=D at *
 have hk1:∀b o,s₃.heap.get? b=some o->h₁.get? b=some o:=fun b o e=>hsb₁.extBut b o (Nat.ne_of_lt (Heap.lt_size e)) (Heap.get?_push_of_some _ e)
 have I4:=zet (tgs:=tgs) (t':=s₃.toks+([]:List (Str×Value)).length) C I3 hf3 hl3 hns₁ hk1
 have st4:tn 0 h₁:=T.keep _ _ _ st3 fun b _ o e=>hk1 b o e
 have fr4:∀b∈fp,(upd H D (.lst [])) b=none:=fun b hb=>(hf3 b hb).1
 generalize hXc:z0j X sc (tgs++caps) fp s₃ (upd H D (.lst []))=Xc at I4
 have hprog:Xc.prog=X.prog:=by rw [<-hXc];rfl
 have hww:Xc.w=X.w:=by rw [<-hXc];rfl
 have hKK:Xc.K=X.K:=by rw [<-hXc];rfl
 have hcalm:Xc.calm=true:=by rw [<-hXc];exact C.calm
 have hA:Xc.A=X.A:=by rw [<-hXc];rfl
 have henv:Xc.env=compEnvC sc (z0u X.env.cells sc.names []) s₃.heap.objs.size X.env:=by rw [<-hXc];rfl
 have hxe:Xc.xe=fun _ _=>False:=by rw [<-hXc];rfl
 have hg':=hg fp s₃ (upd H D (.lst []))
 have ht':=ht fp s₃ (upd H D (.lst []))
 have he':=he fp s₃ (upd H D (.lst []))
 rw [hXc] at hg' ht' he'
 obtain ⟨W,⟨m0,w0⟩,turn⟩:=hw D hD0
 have stat:∀{H':Hp},(∀b∈fp,H' b=none)->∀b∈fp,z8b Xc [] H' b:=fun {H'} hn b hb=>by
  refine ⟨hn b hb,?_,?_,.inl ?_,fun x c e z=>?_,fun p hp=>?_⟩
  . rw [henv];exact Nat.ne_of_lt (hl3 b hb)
  . rw [<-hXc]
    intro z
    obtain ⟨_,h1,h2,_⟩:=hf b hb
    rcases List.mem_cons.mp (I3.stkSub b z) with q | q
    . exact h1 q
    . exact h2 q
  . rw [<-hXc];exact hb
  . rw [henv] at e
    exact (hf b hb).2.2.2.2.1 x c (C.sub I2 e) z
  . rw [<-hXc] at hp
    exact absurd (show p∈([]:List (Addr×Obj)) from hp) (by simp)
 have loop:∀s₄:Shared,s₄={ s₃ with heap:=h₁,toks:=s₃.toks+([]:List (Str×Value)).length } ->
   codeAny (model X.prog X.w) X.A (.compLoop (.ListComp elt [⟨tg,iter,ifs,0⟩] sc pos) 0 (.ref it) (.ref D) (compEnvC sc (z0u X.env.cells sc.names []) s₃.heap.objs.size X.env)) (RR (.ref D) s₃.heap.objs.size) s₄:=by
  intro s₄ hs4
  rw [<-hprog,<-hww,<-hA,<-henv]
  refine zad (fun n s'=>∃(i:Nat) (ys:List V) (σt:St) (H':Hp),σt.length=tgs.length/\Inv Xc [] (σt++zk5 ix U) H' s'/\tn i s'.heap/\(∀b∈fp,H' b=none)/\W i n ys H') ?_ m0
   ⟨0,[],List.replicate tgs.length none,upd H D (.lst []),by simp,by rw [hs4];exact I4,by rw [hs4];exact st4,fr4,w0⟩
  rintro n s5 ⟨i,ys,σt,H5,hσ,I5,st5,fr5,w5⟩
  obtain ⟨hD5,hturn⟩:=turn i n ys H5 w5
  rcases hturn with ⟨stop,q⟩ | ⟨go,step⟩
  . rw [hprog,hww]
    refine thn (T.done Xc hprog hww hKK hcalm i [] s5 _ H5 _ I5 (stat fr5) st5 stop) fun r s6 ⟨hr,I6⟩=>?_
    subst hr
    obtain ⟨m6,hn6,_⟩:=I6.loc
    rw [henv] at hn6
    have hcb:∀b∈fp,(b∈X.ex\/X.s₀.heap.objs.size<=b)/\b≠X.env.locals/\(∀x c,X.env.cells.lookup x=some c->c≠b)/\∀p∈X.pn++pins,p.1≠b:=fun b hb=>⟨(hf b hb).2.2.2.1,(hf b hb).2.1,(hf b hb).2.2.2.2.1,(hf b hb).2.2.2.2.2⟩
    have hos:s6.os=s₃.os:=by have:=I6.os;rw [<-hXc] at this;exact this
    have un6:Un (frs X.stack) fp (upd H D (.lst [])) H5 s₃.heap s6.heap:=by have:=I6.base;rw [<-hXc] at this;exact this
    have hok6:HOk X.prog X.w H5 s6.heap:=by have:=I6.hok;rw [hprog,hww] at this;exact this
    have I7:Inv X pins U H5 s6:=I3.call' hos un6 hok6 I6.bare hcb
    refine hRR D _ H5 s6 m6 hn6 I7 ?_ q
    have hCn:H5 s₃.heap.objs.size=none:=by have:=I6.free;rw [henv] at this;exact this
    exact I3.fpOk (Nat.le_refl _) hCn
  . rw [hprog,hww]
    refine thn (T.item Xc hprog hww hKK hcalm i [] s5 _ H5 _ I5 (stat fr5) st5 go) fun r s6 ⟨u,hr,h6⟩=>?_
    subst hr
    refine thn h6 fun _ s7 ⟨x,H7,I7,r7,y7,st7,fr7⟩=>?_
    have I7':=I7.pinned (stat fr7) (T.obj _ _ st7)
    have hst:=hg' _ s7 _ H7 x u _ I7' r7 (hB x σt (zk5 ix U) H7 (fun σ2 H2=>tt σ2 H2 fun b H3=>if b=true then te σ2 H3 fun y H4=>H4 D=some (.lst ys)/\ys.length<sizeLine/\∃m',m'<n/\W (i+1) m' (ys++[y]) (upd H4 D (.lst (ys++[y]))) else ∃m',m'<n/\W (i+1) m' ys H3) hσ (step x H7 y7))
    rw [hprog,hww,hxe] at hst
    refine thn hst fun _ s8 ⟨σ8,H8,I8,⟨vals,hvl,hσ8⟩,q8⟩=>?_
    have again:∀{H9:Hp} {s9:Shared},Inv Xc ([]++za3 fp s7.heap) σ8 H9 s9->tn (i+1) s9.heap/\∀b∈fp,H9 b=none:=fun {H9 s9} I9=>
     ⟨T.keep _ _ _ st7 fun b hb o e=>(I9.pin (b,o) (List.mem_append_right _ (List.mem_append_right _ (z3t hb e)))).1,fun b hb=>by
      obtain ⟨o,e,d⟩:=T.obj _ _ st7 b hb
      exact (I9.pin (b,o) (List.mem_append_right _ (List.mem_append_right _ (z3t hb e)))).2.1⟩
    subst hσ8
    have hts:=ht'.run I8 q8
    rw [hprog,hww,hxe] at hts
    refine thn hts fun ok s9 ⟨H9,I9,q9⟩=>?_
    cases ok with
    | false=>
     rw [if_neg Bool.false_ne_true] at q9 ⊢
     obtain ⟨m',hm,w9⟩:=q9
     obtain ⟨a1,a2⟩:=again I9
     exact ⟨m',hm,i+1,ys,vals.map some,H9,by simpa using hvl,I9.unpinned,a1,a2,w9⟩
    | true=>
     rw [if_pos rfl] at q9 ⊢
     have hev:=he' _ s9 _ H9 _ I9 q9
     rw [hprog,hww,hxe] at hev
     refine thn hev fun uy s10 ⟨y,H10,I10,r10,hD10,hz10,m',hm,w10⟩=>?_
     have hap:=z35 (X:=Xc) _ s10 _ H10 (.ref D) [y] (.ref D) [uy] (fun v H11=>v=.non/\H11=upd H10 D (.lst (ys++[y]))) I10 rfl (.cons r10 .nil) ⟨D,ys,y,rfl,rfl,hD10,hz10,rfl,rfl⟩
     rw [hprog,hww,hxe] at hap
     refine thn hap fun _ s11 ⟨v,H11,I11,_,_,e11⟩=>?_
     subst e11
     obtain ⟨a1,a2⟩:=again I11
     exact ⟨m',hm,i+1,ys++[y],vals.map some,_,by simpa using hvl,I11.unpinned,a1,a2,w10⟩
 refine codeAny_compStart_list (loop _ rfl) (T.self X.A 0 _ _ _ st4 (loop _ rfl))
theorem zga {wi:TI} (C:CompOk X sc caps ix) (hi:PI X tg iter wi) (hg:∀fp s H,PG (z0j X sc (tgs++caps) fp s H) tg g)
  (hB:∀(x:V) (σt cs:St) (H:Hp) (Q:St->Hp->Prop),σt.length=tgs.length->B x H (fun vals H2=>Q (vals.map some++cs) H2)->g x (σt++cs) H fun σ2 H2=>(∃vals:List V,vals.length=tgs.length/\σ2=vals.map some++cs)/\Q σ2 H2)
  (ht:∀fp s H,PTs (z0j X sc (tgs++caps) fp s H) ifs tt) (he:∀fp s H,PE (z0j X sc (tgs++caps) fp s H) elt te)
  (hs:∀x,foldedSetIterable iter X.env x=pure x:=by intro _;rfl):PE X (.ListComp elt [⟨tg,iter,ifs,0⟩] sc pos) (zaf wi B ix tt te):=by
 intro pins s U H Q I h
 rw [eval_ListComp]
 refine wpAny_comprehension_free (use:=none) rfl hs (z4q (C.free_cell I)) C.kind C.names (thn (hi pins s U H _ I h) fun v s1 h1=>thn h1 fun itv s2 h2=>?_)
 obtain ⟨it,fp,tn,J,H2,e,I2,T,st2,f2,hw⟩:=h2
 subst e
 refine z7q (RR:=fun acc Cc=>compPost (model X.prog X.w) X.A X.xe none (EP X pins U Q) acc Cc) C hg hB ht he I2 T st2 f2 hw ?_
 intro D Cc H' s' m hn I' hfp q
 refine ⟨m,hn,fun h' sb=>⟨.ref D,H',?_,rfl,q⟩⟩
 exact I'.turned (t':=s'.toks) (fun b o hb e=>sb.extBut b o hb e) hfp.1 hfp.2.1 hfp.2.2.2.1 hfp.2.2.2.2.1 hfp.2.2.2.2.2
theorem zgb {wi:TI} {k:Nat} {x:Str} {spos px:Pos} (hN:X.N.Nodup) (hk:X.N[k]?=some x) (hx:X.env.scope.names.lookup x=some .local) (C:CompOk X sc caps ix) (hi:PI X tg iter wi) (hg:∀fp s H,PG (z0j X sc (tgs++caps) fp s H) tg g)
  (hB:∀(x:V) (σt cs:St) (H:Hp) (Q:St->Hp->Prop),σt.length=tgs.length->B x H (fun vals H2=>Q (vals.map some++cs) H2)->g x (σt++cs) H fun σ2 H2=>(∃vals:List V,vals.length=tgs.length/\σ2=vals.map some++cs)/\Q σ2 H2)
  (ht:∀fp s H,PTs (z0j X sc (tgs++caps) fp s H) ifs tt) (he:∀fp s H,PE (z0j X sc (tgs++caps) fp s H) elt te)
  (hsw:swapsWith (.ListComp elt [⟨tg,iter,ifs,0⟩] sc pos) (some (.Name x px)) spos.line X.env=pure true:=by rfl)
  (hs:∀x,foldedSetIterable iter X.env x=pure x:=by intro _;rfl):PS X (.Assign [.Name x px] (.ListComp elt [⟨tg,iter,ifs,0⟩] sc pos) spos) (zfm (zaf wi B ix tt te) (z48 k)):=by
 intro pins s U H D0 I h
 rw [exec_Assign_Name_used _ _ _ _ hsw]
 refine wpAny_bind (wpAny_standAt (wpAny_bind ?_))
 show wpAny _ X.A (do let _ <-comprehension (.ListComp elt [⟨tg,iter,ifs,0⟩] sc pos) sc X.env _ (newList []) false (eval iter X.env) (some (assign (.Name x px) X.env))) _ _ s
 refine wpAny_bind (wpAny_mono (wpAny_comprehension_free (use:=some (assign (.Name x px) X.env)) (Q:=fun _ s'=>SP X pins D0 .next s') rfl hs (z4q (C.free_cell I)) C.kind C.names
  (thn (hi pins s U H _ I h) fun v s1 h1=>thn h1 fun itv s2 h2=>?_)) (fun _ s' hq=>wpAny_pure (wpAny_pure hq)) fun _ _ e=>e)
 obtain ⟨it,fp,tn,J,H2,e,I2,T,st2,f2,hw⟩:=h2
 subst e
 refine z7q (RR:=fun acc Cc=>compPost (model X.prog X.w) X.A X.xe (some (assign (.Name x px) X.env)) (fun _ s'=>SP X pins D0 .next s') acc Cc) C hg hB ht he I2 T st2 f2 hw ?_
 intro D Cc H' s' m hn I' hfp q
 show wpAny _ X.A (assign (.Name x px) X.env (.ref D)) _ _ _
 refine wpAny_assign_Name (za1 I' hN hk (.inl hx) (v:=.ref D) rfl (fun s'' I'' hch=>?_) (.inr hx))
 obtain ⟨a,sb,ha⟩:=hch
 have hne:Cc≠a:=by
  rcases ha with z | z
  . rw [z];exact hfp.2.1
  . exact fun e=>hfp.2.2.2.2.1 x a z e.symm
 refine ⟨m,hn.sameBut sb hne,fun h' sb'=>⟨_,H',?_,q⟩⟩
 exact I''.turned (t':=s''.toks) (fun b o hb e=>sb'.extBut b o hb e) hfp.1 hfp.2.1 hfp.2.2.2.1 hfp.2.2.2.2.1 hfp.2.2.2.2.2
end
section
variable {X:Cx}
theorem PE.imp {e:Expr} {t t':TE} (h:PE X e t) (hi:∀U H Q,t' U H Q->t U H Q):PE X e t':=fun pins s U H Q I q=>h pins s U H Q I (hi U H Q q)
theorem PT.imp {e:Expr} {t t':TT} (h:PT X e t) (hi:∀U H Q,t' U H Q->t U H Q):PT X e t':=fun pins s U H Q I q=>h pins s U H Q I (hi U H Q q)
theorem OpR.imp {f:Value->Value->Sem Value} {r r':R2} (h:OpR X f r) (hi:∀x y H Q,r' x y H Q->r x y H Q):OpR X f r':=fun pins s U H x y v u Q I rx ry q=>h pins s U H x y v u Q I rx ry (hi x y H Q q)
theorem UnR.imp {f:Value->Sem Value} {r r':V->Hp->VK->Prop} (h:UnR X f r) (hi:∀x H Q,r' x H Q->r x H Q):UnR X f r':=fun pins s U H x v Q I rx q=>h pins s U H x v Q I rx (hi x H Q q)
theorem CallR.imp {f:Value} {r r':List V->Hp->VK->Prop} (h:CallR X f r) (hi:∀xs H Q,r' xs H Q->r xs H Q):CallR X f r':=fun pins s U H xs us Q I rx q=>h pins s U H xs us Q I rx (hi xs H Q q)
end
noncomputable def z7j (i:Nat):TE:=fun U H Q=>match U[i]? with | some (some v)=>Q v H | _=>False
theorem pw {X:Cx} (i:Nat) {x:Str} {pos:Pos} (hN:X.N[i]?=some x:=by rfl) (hv:Vis X.env.scope x:=by first | exact Or.inl rfl | exact Or.inr (Or.inl rfl) | exact Or.inr (Or.inr rfl)) (hd:(x==("__debug__":Str))=false:=by decide)
  (hcd:(x==("__classdict__":Str))=false:=by decide):PE X (.Name x pos) (z7j i):=
 (zfr hN hv hd hcd).imp fun U H Q q=>by
  unfold z7j at q
  unfold zyu
  split at q
  . rename_i v e;exact ⟨v,e,q⟩
  . exact q.elim
noncomputable def cI (g:Int->Int->V):R2:=fun x y H Q=>match x,y with | .int i,.int j=>Q (g i j) H | _,_=>False
noncomputable def cIC (C:Int->Int->Prop) (g:Int->Int->V):R2:=fun x y H Q=>match x,y with | .int i,.int j=>C i j/\Q (g i j) H | _,_=>False
theorem OpR.cI {X:Cx} {f:Value->Value->Sem Value} {g:Int->Int->V} (h:OpR X f (rI0 g)):OpR X f (cI g):=h.imp fun x y H Q q=>by
 cases x<;>cases y<;>first | exact ⟨_,_,rfl,rfl,q⟩ | exact q.elim
theorem OpR.cIC {X:Cx} {f:Value->Value->Sem Value} {C:Int->Int->Prop} {g:Int->Int->V} (h:OpR X f (rI C g)):OpR X f (cIC C g):=h.imp fun x y H Q q=>by
 cases x<;>cases y<;>first | exact ⟨_,_,rfl,rfl,q.1,q.2⟩ | exact q.elim
section
variable {X:Cx}
theorem z2z:OpR X (binaryOp .Add) (cI fun i j=>.int (i+j)):=op_add.cI
theorem zp6:OpR X (binaryOp .Sub) (cI fun i j=>.int (i - j)):=op_sub.cI
theorem zkn:OpR X (binaryOp .Mult) (cIC CMul fun i j=>.int (i * j)):=op_mul.cIC
theorem zgc:OpR X (binaryOp .FloorDiv) (cIC zox fun i j=>.int (i / j)):=op_fdiv.cIC
theorem z8h:OpR X (binaryOp .Mod) (cIC (fun _ j=>0<j) fun i j=>.int (i % j)):=op_mod.cIC
theorem zt7:OpR X (compareOp .Lt) (cI fun i j=>.bl (decide (i<j))):=op_lt.cI
theorem zzb:OpR X (compareOp .LtE) (cI fun i j=>.bl (decide (i<=j))):=op_le.cI
theorem zzc:OpR X (compareOp .Gt) (cI fun i j=>.bl (decide (j<i))):=op_gt.cI
def cU (g:Int->V):V->Hp->VK->Prop:=fun x H Q=>match x with | .int i=>Q (g i) H | _=>False
theorem zt8:UnR X (unaryOp .USub) (cU fun i=>.int (-i)):=un_neg.imp fun x H Q q=>by
 cases x<;>first | exact ⟨_,rfl,q⟩ | exact q.elim
end
noncomputable def z68 (H:Hp) (p:Addr):Option (List V):=match H p with
 | some (.lst xs)=>some xs
 | some (.tup xs)=>some xs
 | some (.frz _ (.lst xs))=>some xs
 | some (.frz _ (.tup xs))=>some xs
 | _=>none
theorem zde {K:Frag} {H:Hp} {p:Addr} {xs:List V} (h:z68 H p=some xs):SqL K H p xs\/SqT K H p xs:=by
 unfold z68 at h
 split at h
 all_goals first | (cases h;done) | skip
 . rename_i ys e;cases h;exact .inl (.inl (.inl e))
 . rename_i ys e;cases h;exact .inr (.inl (.inl e))
 . rename_i o ys e;cases h;exact .inl (.inl (.inr ⟨_,e⟩))
 . rename_i o ys e;cases h;exact .inr (.inl (.inr ⟨_,e⟩))
theorem zag {H:Hp} {p:Addr} {xs:List V} (h:H p=some (.lst xs)):z68 H p=some xs:=by unfold z68;rw [h]
theorem zah {H:Hp} {p:Addr} {xs:List V} (h:H p=some (.tup xs)):z68 H p=some xs:=by unfold z68;rw [h]
def zai (x:V) (H:Hp) (Q:Bool->Hp->Prop):Prop:=match x with
 | .bl b=>Q b H
 | .int i=>Q (i != 0) H
 | .non=>Q false H
 | .str y=>y.length<=sizeLine/\Q ((y.length:Int) != 0) H
 | .ref p=>(match z68 H p with
  | some xs=>Q (!xs.isEmpty) H
  | none=>(match H p with | some (.dK kvs)=>Q (!kvs.isEmpty) H | _=>False))
 | _=>False
theorem zdf {K:Frag} {x:V} {H:Hp} {Q:Bool->Hp->Prop} (h:zai x H Q):∃k,y2d K x H k/\Q k H:=by
 cases x with
 | bl b=>exact ⟨b,rfl,h⟩
 | int i=>exact ⟨_,rfl,h⟩
 | non=>exact ⟨_,rfl,h⟩
 | str y=>exact ⟨_,⟨h.1,rfl⟩,h.2⟩
 | ref p=>
  unfold zai at h
  dsimp only at h
  split at h
  . rename_i xs e
    rcases zde (K:=K) e with z | z
    . exact ⟨_,.inl ⟨xs,z,rfl⟩,h⟩
    . exact ⟨_,.inr (.inl ⟨xs,z,rfl⟩),h⟩
  . split at h
    . rename_i kvs e;exact ⟨_,.inr (.inr ⟨kvs,e,rfl⟩),h⟩
    . exact h.elim
 | _=>exact h.elim
noncomputable def y3c (t:TE):TT:=fun U H Q=>t U H fun x H'=>zai x H' Q
section
variable {X:Cx} {a b c:Expr} {ta tb:TE} {pos:Pos}
theorem zt9 (ha:PE X a ta) (he:∀whole,isTrue a X.env whole=(do let v <-whole;standAt a.pos;holding [v] (truthy v)):=by intro _;rfl):PT X a (y3c ta):=by
 intro pins s U H Q I h
 exact isTrue_plain (thn (ha pins s U H _ I h) fun v s1 ⟨x,H1,I1,r1,q1⟩=>zmp pins s1 U H1 x v Q I1 r1 (zdf q1)) (he _)
noncomputable def zp7 (t:TE):TT:=fun U H Q=>t U H fun x H'=>match x with | .bl k=>Q k H' | _=>False
theorem zp8 {op:CmpOp} {r:R2} (ho:OpR X (compareOp op) r) (ha:PE X a ta) (hb:PE X b tb) (hm:behindInMarks op b=false):PT X (.Compare a [op] [b] pos) (zp7 (tOp r ta tb)):=by
 intro pins s U H Q I h
 refine wpAny_isTrue_Compare1 (thn (ha pins s U H _ I h) fun v s1 ⟨x,H1,I1,r1,q1⟩=>thn (hb pins s1 U H1 _ I1 q1) fun u s2 ⟨y,H2,I2,r2,q2⟩=>
  thn (ho pins s2 U H2 x y v u _ I2 r1 r2 q2) fun c s3 ⟨z,H3,I3,r3,q3⟩=>?_) hm
 cases z<;>first | exact q3.elim | skip
 cases r3
 exact wpAny_truthy_bool ⟨H3,I3,q3⟩
end
section
variable {X:Cx} {a b c:Expr} {ta tb:TE} {pos:Pos}
def PChT (X:Cx) (ops:List CmpOp) (rs:List Expr) (t:V->TT):Prop:=
 ∀(pos:Pos) (pins:List (Addr×Obj)) (s:Shared) (U:St) (H:Hp) (x:V) (v:Value) (Q:Bool->Hp->Prop),Inv X pins U H s->RelV x v->t x U H Q->wpAny (model X.prog X.w) X.A (testChain pos v ops (evalEach rs X.env)) (TP X pins U Q) X.xe s
noncomputable def zmr (r:R2) (tb:TE):V->TT:=fun x U H Q=>tb U H fun y H2=>r x y H2 fun z H3=>match z with | .bl k=>Q k H3 | _=>False
noncomputable def zms (r:R2) (tb:TE) (t:V->TT):V->TT:=fun x U H Q=>tb U H fun y H2=>r x y H2 fun z H3=>match z with | .bl k=>(if k=true then t y U H3 Q else Q false H3) | _=>False
theorem zgd {op:CmpOp} {r:R2} (ho:OpR X (compareOp op) r) (hb:PE X b tb):PChT X [op] [b] (zmr r tb):=by
 intro pos pins s U H x v Q I rx h
 refine test_last (thn (hb pins s U H _ I h) fun u s2 ⟨y,H2,I2,r2,q2⟩=>thn (ho pins s2 U H2 x y v u _ I2 rx r2 q2) fun d s3 ⟨z,H3,I3,r3,q3⟩=>?_)
 cases z<;>first | exact q3.elim | skip
 cases r3
 exact wpAny_truthy_bool ⟨H3,I3,q3⟩
theorem zge {op op':CmpOp} {ops:List CmpOp} {r':Expr} {rs:List Expr} {r:R2} {t:V->TT} (ho:OpR X (compareOp op) r) (hb:PE X b tb) (hr:PChT X (op'::ops) (r'::rs) t):PChT X (op::op'::ops) (b::r'::rs) (zms r tb t):=by
 intro pos pins s U H x v Q I rx h
 refine test_link (thn (hb pins s U H _ I h) fun u s2 ⟨y,H2,I2,r2,q2⟩=>thn (ho pins s2 U H2 x y v u _ I2 rx r2 q2) fun d s3 ⟨z,H3,I3,r3,q3⟩=>?_)
 cases z<;>first | exact q3.elim | skip
 rename_i k
 cases r3
 refine wpAny_truthy_bool ?_
 cases k with
 | false=>exact ite_ff ⟨H3,I3,by simpa using q3⟩
 | true=>exact ite_tt (hr pos pins s3 U H3 y u Q I3 r2 (by simpa using q3))
noncomputable def zta (ta:TE) (t:V->TT):TT:=fun U H Q=>ta U H fun x H1=>t x U H1 Q
theorem ztb {op₁ op₂:CmpOp} {ops:List CmpOp} {r₁ r₂:Expr} {rs:List Expr} {t:V->TT} (ha:PE X a ta) (hr:PChT X (op₁::op₂::ops) (r₁::r₂::rs) t) (hm:lastMarks (op₁::op₂::ops) (r₁::r₂::rs)=false:=by with_unfolding_all rfl) :
  PT X (.Compare a (op₁::op₂::ops) (r₁::r₂::rs) pos) (zta ta t):=by
 intro pins s U H Q I h
 exact isTrue_chain (thn (ha pins s U H _ I h) fun v s1 ⟨x,H1,I1,r1,q1⟩=>hr pos pins s1 U H1 x v Q I1 r1 q1) hm
noncomputable def ztc (ta tb:TE):TE:=fun U H Q=>ta U H fun x H1=>match x with | .bl c=>(if c=true then tb U H1 Q else Q (.bl false) H1) | _=>False
end
section
variable {X:Cx} {a b c:Expr} {ta tb:TE} {pos:Pos} {rest:List Expr}
theorem zp9 (ha:PE X a ta) (hb:PE X (.BoolOp .And (b::rest) pos) tb):PE X (.BoolOp .And (a::b::rest) pos) (ztc ta tb):=by
 intro pins s U H Q I h
 refine BoolOp_and (thn (ha pins s U H _ I h) fun v s1 ⟨x,H1,I1,r1,q1⟩=>?_)
 cases x<;>first | exact q1.elim | skip
 rename_i k
 cases r1
 refine wpAny_truthy_bool ?_
 cases k with
 | true=>exact ite_tt (hb pins s1 U H1 Q I1 (by simpa using q1))
 | false=>exact ite_ff ⟨.bl false,H1,I1,rfl,by simpa using q1⟩
noncomputable def zzd (ta:TE):TE:=fun U H Q=>ta U H fun x H1=>zai x H1 fun k H2=>Q (.bl (!k)) H2
theorem zpa (ha:PE X a ta):PE X (.UnaryOp .Not a pos) (zzd ta):=by
 intro pins s U H Q I h
 refine UnaryOp_ (thn (ha pins s U H _ I h) fun v s1 ⟨x,H1,I1,r1,q1⟩=>not_of ?_)
 exact thn (zmp pins s1 U H1 x v _ I1 r1 (zdf q1)) fun k s2 ⟨H2,I2,q2⟩=>⟨.bl (!k),H2,I2,rfl,q2⟩
noncomputable def z8i (H:Hp):V->Option String
 | .non=>some "NoneType"
 | .bl _=>some "bool"
 | .int _=>some "int"
 | .str _=>some "str"
 | .ref a=>(match H a with
  | some (.lst _)=>some "list"
  | some (.frz _ (.lst _))=>some "list"
  | some (.tup _)=>some "tuple"
  | some (.dK _)=>some "dict"
  | some (.dT _)=>some "dict"
  | _=>none)
 | _=>none
noncomputable def zgf (t c:String):Bool:=t==c||(t=="bool"&&c=="int")
noncomputable def z6r (c:String):Bool:=["int","bool","str","list","tuple","dict"].contains c
theorem z1a {K:Frag} {t c:String} (ht:["NoneType","bool","int","str","list","tuple","dict"].contains t=true) (hc:z6r c=true):PySem.W.kitOne K (.type t) (.type c)=some (zgf t c):=by
 have h1:t="NoneType"\/t="bool"\/t="int"\/t="str"\/t="list"\/t="tuple"\/t="dict":=by simpa using ht
 have h2:c="int"\/c="bool"\/c="str"\/c="list"\/c="tuple"\/c="dict":=by simpa [z6r] using hc
 rcases h1 with rfl | rfl | rfl | rfl | rfl | rfl | rfl<;>rcases h2 with rfl | rfl | rfl | rfl | rfl | rfl<;>first | rfl | (with_unfolding_all rfl)
theorem zko:CallR X (.builtin "isinstance") (fun xs H Q=>match xs with
  | [x,.ty c]=>z6r c=true/\(match z8i H x with | some t=>Q (.bl (zgf t c)) H | none=>False)
  | _=>False):=by
 intro pins s U H xs us Q I r h
 split at h
 . rename_i x c
   obtain ⟨hc,h⟩:=h
   obtain ⟨u,w',rfl,ru,rw'⟩:=zoz r
   cases rw'
   split at h
   . rename_i t et
     have fin:∀(tk:Nat),EP X pins U Q (.bool (zgf t c)) { s with toks:=tk }:=fun tk=>⟨.bl _,H,I.tok _,rfl,h⟩
     cases x<;>simp only [z8i] at et
     case non=>cases et;exact z19 I ru .non (z1a (by decide) hc) fin
     case bl b=>cases et;exact z19 I ru (.bl b) (z1a (by decide) hc) fin
     case int b=>cases et;exact z19 I ru (.int b) (z1a (by decide) hc) fin
     case str b=>cases et;exact z19 I ru (.str b) (z1a (by decide) hc) fin
     case ref a=>
      split at et<;>first | (cases et;done) | skip
      . rename_i ys e;cases et;exact z19 I ru (.lst e) (z1a (by decide) hc) fin
      . rename_i o ys e;cases et;exact z19 I ru (.frz e) (z1a (by decide) hc) fin
      . rename_i ys e;cases et;exact z19 I ru (.tup e) (z1a (by decide) hc) fin
      . rename_i ys e;cases et;exact z19 I ru (.dK e) (z1a (by decide) hc) fin
      . rename_i ys e;cases et;exact z19 I ru (.dT e) (z1a (by decide) hc) fin
     all_goals cases et
   . exact h.elim
 . exact h.elim
theorem zgg (hc:X.calm=true):CallR X (.builtin "sum") (fun xs H Q=>match xs with
  | [.ref p]=>∃ns:List Int,z68 H p=some (ns.map V.int)/\Q (.int ns.sum) H
  | _=>False):=by
 intro pins s U H xs us Q I r h
 split at h
 . rename_i p
   obtain ⟨ns,e,q⟩:=h
   obtain ⟨u,rfl,ru⟩:=z66 r
   cases ru
   have key:∀{its:List Value},Vals (ns.map V.int) its->∃ys:Array (Int×Tok),its.toArray=intItems ys/\preSum (numAt ys) ys.size=ns.sum:=fun {its} rv=>by
    have hi:=z58 rv
    obtain ⟨ys,hx⟩:=hi.allInts.items
    refine ⟨ys,hx,?_⟩
    have e1:ns=ys.toList.map (·.1):=by
     rw [<-nums_intItems,<-hx]
     exact (show numsOf its.toArray.toList=ns from hi.numsOf).symm
    rw [preSum_eq,List.take_of_length_le (by simp),e1]
   rcases zde (K:=X.K) e with hq | hq
   . obtain ⟨its,rv,pl,_⟩:=I.list hq
     obtain ⟨ys,hx,es⟩:=key rv
     refine sum_intListG (I.ok.hd hc) (hx ▸ pl.isList) fun h' tk t' hk=>?_
     rw [es]
     exact ⟨.int ns.sum,H,I.kept hk,⟨_,rfl⟩,q⟩
   . obtain ⟨its,rv,pl,_⟩:=I.tuple hq
     obtain ⟨ys,hx,es⟩:=key rv
     refine PySem.W.ktm_sumG (I.ok.hd hc) (hx ▸ pl) fun h' tk t' hk=>?_
     rw [es]
     exact ⟨.int ns.sum,H,I.kept hk,⟨_,rfl⟩,q⟩
 . exact h.elim
abbrev zgh (s:Shared) (L:Addr):List (Addr×Obj):=z6l (Att.noObjs s.heap) s.heap L
section
variable {pins:List (Addr×Obj)} {U:St} {H:Hp} {s:Shared} {h':Heap} {m:Str->Option Value}
theorem z7r {L:Addr} (N:News (Att.noObjs s.heap) L h' (zgh s L)):∀b o,b≠L->s.heap.get? b=some o->h'.get? b=some o:=fun b o hb e=>(N (b,o) (z6m hb (Att.noObjs_get _ _) e)).1
theorem Inv.frn {tk:Nat} (I:Inv X pins U H s) (hn:s.heap.Ns X.env.locals m) (F:Fr (Att.noObjs s.heap) X.env.locals h' m) (N:News (Att.noObjs s.heap) X.env.locals h' (zgh s X.env.locals)):Inv X pins U H { s with heap:=h',toks:=tk }:=by
 have kept:=z7r N
 refine I.step (g':=s.gens) (d':=s.drawn) (ch:=[]) (fun _ z=>nomatch z) (fun b o hL _ _ e _=>kept b o hL e) (fun b o hL _ _ e _=>⟨o.slots,kept b o hL e⟩) (fun _ _ _ _ n=>n) (fun b o _ e=>?_) (fun _ _ e=>e) (fun _ _ _ e=>e) (fun b ps e=>⟨#[],by rw [e];simp⟩) (fun m' hm=>?_) (fun b u e=>?_) I.bare
 . by_cases hb:b=X.env.locals
   . subst hb
     obtain ⟨o',_,_,ho',_⟩:=F.ns
     exact ⟨o',ho'⟩
   . exact ⟨o,kept b o hb e⟩
 . rw [hm.eq_nsMap,<-hn.eq_nsMap];exact F.ns
 . refine (I.hok b u e).stay (fun c v hc q=>kept c v ?_ q) (fun _ q=>q) fun _ _ q=>q
   intro z
   rcases hc with hc | hc
   . rw [<-hc,z,I.free] at e;cases e
   . rw [z,I.free] at hc;cases hc
theorem Inv.frnew {tk:Nat} {D:Addr} {ob:Obj} {o:HO} (I:Inv X pins U H s) (hn:s.heap.Ns X.env.locals m) (F:Fr (Att.noObjs s.heap) X.env.locals h' m) (N:News (Att.noObjs s.heap) X.env.locals h' ((D,ob)::zgh s X.env.locals))
  (hD:s.heap.get? D=none) (new:ObjOk X.prog X.w (upd H D o) h' D o):H D=none/\Inv X pins U (upd H D o) { s with heap:=h',toks:=tk }:=by
 have kept:=z7r (fun p hp=>N p (.tail _ hp))
 have hDL:D≠X.env.locals:=(N (D,ob) (.head _)).2.1
 have neD:∀b o,s.heap.get? b=some o->b≠D:=fun b o e z=>by rw [z,hD] at e;cases e
 have HD:H D=none:=by
  cases q:H D with
  | none=>rfl
  | some u=>
   have:=(I.hok D u q).lt
   obtain ⟨v,hv⟩:∃v,s.heap.get? D=some v:=by
    have z:=I.hok D u q
    cases u with
    | lst xs=>obtain ⟨_,_,_,_,e⟩:=z;exact ⟨_,e⟩
    | tup xs=>obtain ⟨_,_,_,o,e,_⟩:=z;exact ⟨_,e⟩
    | dK kvs=>obtain ⟨_,_,_,_,o,_,_,e,_⟩:=z;exact ⟨_,e⟩
    | dT kvs=>obtain ⟨_,_,_,_,o,_,_,e,_⟩:=z;exact ⟨_,e⟩
    | set S n=>obtain ⟨_,_,_,_,e,_⟩:=z;exact ⟨_,e⟩
    | ins C dx fs=>obtain ⟨_,_,_,e,_⟩:=z;exact ⟨_,e⟩
    | own x=>exact z
    | xd fs=>obtain ⟨mA,n1,_⟩:=z;obtain ⟨o,_,_,e,_⟩:=n1;exact ⟨o,e⟩
    | met f x=>exact ⟨_,z⟩
    | rng lo hi=>obtain ⟨_,_,_,e⟩:=z;exact ⟨_,e⟩
    | frz o u=>exact ⟨_,z.1⟩
    | tbl ps=>exact ⟨_,z⟩
    | ctb q=>obtain ⟨_,e,_⟩:=z;exact ⟨_,e⟩
    | ext φ=>exact z.2.1
   rw [hD] at hv;cases hv
 refine ⟨HD,I.step (g':=s.gens) (d':=s.drawn) (ch:=[]) (fun _ z=>nomatch z) (fun b o hL _ _ e _=>kept b o hL e) (fun b o hL _ _ e _=>⟨o.slots,kept b o hL e⟩) (fun b ob _ e n=>by rw [z0a (neD b ob e)];exact n) (fun b o _ e=>?_)
  (fun b xs e=>by rw [z0a (z0b e HD)];exact e) (fun b u xs e=>by rw [z0a (z0b e HD)];exact e) (fun b ps e=>⟨#[],by rw [z0a (z0b e HD),e];simp⟩) (fun m' hm=>?_) (fun b u e=>?_) I.bare⟩
 . by_cases hb:b=X.env.locals
   . subst hb
     obtain ⟨o',_,_,ho',_⟩:=F.ns
     exact ⟨o',ho'⟩
   . exact ⟨o,kept b o hb e⟩
 . rw [hm.eq_nsMap,<-hn.eq_nsMap];exact F.ns
 . by_cases hb:b=D
   . subst hb
     rw [z0c] at e
     cases e
     exact new
   . rw [z0a hb] at e
     refine (I.hok b u e).stay (fun c v hc q=>kept c v ?_ q) (fun c q=>?_) fun c xs q=>?_
     . intro z
       rcases hc with hc | hc
       . rw [<-hc,z,I.free] at e;cases e
       . rw [z,I.free] at hc;cases hc
     . rw [z0a (z0b q HD)];exact q
     . rw [z0a (z0b q HD)];exact q
end
theorem zgi:CallR X (.type "int") (fun xs H Q=>match xs with | [.int i]=>Q (.int i) H | [.bl k]=>Q (.int (if k then 1 else 0)) H | _=>False):=call_int1.imp fun xs H Q q=>by
 split at q
 . exact .inl ⟨_,rfl,q⟩
 . exact .inr ⟨_,rfl,q⟩
 . exact q.elim
end
noncomputable def ItS (S:Hp->Prop) (xs:List V):It:=⟨fun i H=>S H/\i<xs.length,fun i H x H'=>H'=H/\xs[i]?=some x,fun i H=>S H/\xs.length<=i⟩
theorem Turn.conv {P:Program} {w:World} {K:Frag} {tg:Expr} {J J':It} {fp:List Addr} {it:Addr} {tn:Nat->Heap->Prop} (T:Turn P w K tg J fp it tn) (h1:∀i H,J'.go i H->J.go i H) (h2:∀i H x H',J'.go i H->J.yld i H x H'->J'.yld i H x H')
  (h3:∀i H,J'.stop i H->J.stop i H):Turn P w K tg J' fp it tn where
 mem:=T.mem
 obj:=T.obj
 keep:=T.keep
 item:=fun X a b c d i pins s U H E I hf st hg=>thn (T.item X a b c d i pins s U H E I hf st (h1 i H hg)) fun r s1 ⟨u,e,h⟩=>⟨u,e,thn h fun _ s2 ⟨x,H',I',r',y',st',fr'⟩=>⟨x,H',I',r',h2 i H x H' hg y',st',fr'⟩⟩
 done:=fun X a b c d i pins s U H E I hf st hg=>T.done X a b c d i pins s U H E I hf st (h3 i H hg)
 self:=T.self
section
variable {X:Cx} {tg:Expr}
def zsc (x:V) (H1:Hp) (R:It->Hp->Prop):Prop:=match x with
 | .ref a=>(match H1 a with
  | some (.lst xs)=>R (ItS (fun H'=>Rd H' a (.lst xs)) xs) H1
  | some (.frz _ (.lst xs))=>R (ItS (fun H'=>Rd H' a (.lst xs)) xs) H1
  | some (.tup xs)=>R (ItS (fun H'=>H' a=some (.tup xs)) xs) H1
  | _=>False)
 | _=>False
theorem zkp {a:Addr} {H:Hp} {R:It->Hp->Prop} {xs:List V} (h:Rd H a (.lst xs)) (r:R (ItS (fun H'=>Rd H' a (.lst xs)) xs) H):zsc (.ref a) H R:=by
 unfold zsc
 rcases h with h | ⟨o,h⟩
 . dsimp only;rw [h];exact r
 . dsimp only;rw [h];exact r
theorem zkq {a:Addr} {H:Hp} {R:It->Hp->Prop} {xs:List V} (h:H a=some (.tup xs)) (r:R (ItS (fun H'=>H' a=some (.tup xs)) xs) H):zsc (.ref a) H R:=by
 unfold zsc
 dsimp only;rw [h];exact r
noncomputable def y3d (K:Frag) (tl:TE):TI:=fun U H R=>tl U H fun x H1=>zsc x H1 R
theorem ztd {l:Expr} {tl:TE} (hl:PE X l tl):PI X tg l (y3d X.K tl):=by
 intro pins s U H R I h
 refine thn (hl pins s U H _ I h) fun v s1 ⟨x,H1,I1,r1,q1⟩=>?_
 cases x<;>first | exact q1.elim | skip
 rename_i a
 cases r1
 unfold zsc at q1
 dsimp only at q1
 have asList:∀xs,Rd H1 a (.lst xs)->R (ItS (fun H'=>Rd H' a (.lst xs)) xs) H1->wpAny (model X.prog X.w) X.A (pyIter (.ref a)) (PIE X pins U tg R) X.xe s1:=fun xs hq q=>by
  obtain ⟨its,rv,p,hz⟩:=I1.list (.inl hq)
  refine wpAny_pyIter_list p.isList ?_
  refine ⟨s1.heap.objs.size,[s1.heap.objs.size],_,_,H1,rfl,I1.kept (t':=s1.toks) fun b o e=>Heap.get?_push_of_some _ e,(zfv a _).conv ?_ ?_ ?_,⟨_,Heap.get?_push_size _ rfl,rfl,rfl⟩,fun b hb=>?_,q⟩
  . exact fun i H' ⟨h1,h2⟩=>⟨xs,xs[i],.inl h1,by simp [h2]⟩
  . exact fun i H' x H'' ⟨h1,h2⟩ ⟨e,y⟩=>⟨e,y xs (.inl h1)⟩
  . exact fun i H' ⟨h1,h2⟩=>⟨xs,.inl h1,h2⟩
  . have e:b=s1.heap.objs.size:=by simpa using hb
    subst e
    exact I1.fpOk (Nat.le_refl _) (I1.hok.fresh (Nat.le_refl _))
 split at q1
 . rename_i xs e;exact asList xs (.inl e) q1
 . rename_i o xs e;exact asList xs (.inr ⟨o,e⟩) q1
 . rename_i xs e
   obtain ⟨its,rv,p,hz⟩:=I1.tuple (.of e)
   refine wpAny_pyIter_tuple (show s1.heap.IsTuple a its.toArray from p) ?_
   refine ⟨s1.heap.objs.size,[s1.heap.objs.size],_,_,H1,rfl,I1.kept (t':=s1.toks) fun b o e=>Heap.get?_push_of_some _ e,(zep a _).conv ?_ ?_ ?_,⟨_,Heap.get?_push_size _ rfl,rfl,rfl⟩,fun b hb=>?_,q1⟩
   . exact fun i H' ⟨h1,h2⟩=>⟨xs,xs[i],.of h1,by simp [h2]⟩
   . exact fun i H' x H'' ⟨h1,h2⟩ ⟨e,y⟩=>⟨e,y xs (.of h1)⟩
   . exact fun i H' ⟨h1,h2⟩=>⟨xs,.of h1,h2⟩
   . have e:b=s1.heap.objs.size:=by simpa using hb
     subst e
     exact I1.fpOk (Nat.le_refl _) (I1.hok.fresh (Nat.le_refl _))
 . exact q1.elim
noncomputable def zfn (lo:Int) (n:Nat):List V:=(List.range n).map fun (i:Nat)=>V.int (lo+i)
theorem z4r (lo:Int) (n:Nat):(zfn lo n).length=n:=by simp [zfn]
theorem zgj (lo:Int) (n i:Nat) (h:i<n):(zfn lo n)[i]?=some (.int (lo+i)):=by simp [zfn,h]
noncomputable def iR1 (ta:TA):TI:=fun U H R=>ta U H fun vs H1=>match vs with | [.int j]=>(-(2 ^ 62)<=j/\j<2 ^ 62)/\R (ItS (fun _=>True) (zfn 0 j.toNat)) H1 | _=>False
theorem z59 (lo:Int) (n:Nat):(∀i (H:Hp),(ItS (fun _=>True) (zfn lo n)).go i H->(Itr lo n).go i H)/\(∀i H x H',(ItS (fun _=>True) (zfn lo n)).go i H->(Itr lo n).yld i H x H'->(ItS (fun _=>True) (zfn lo n)).yld i H x H') /\
  (∀i (H:Hp),(ItS (fun _=>True) (zfn lo n)).stop i H->(Itr lo n).stop i H):=by
 refine ⟨fun i H ⟨_,h⟩=>?_,fun i H x H' ⟨_,h⟩ ⟨e,y⟩=>⟨e,?_⟩,fun i H ⟨_,h⟩=>?_⟩
 . rw [z4r] at h;exact h
 . rw [z4r] at h;rw [y];exact zgj lo n i h
 . rw [z4r] at h;exact h
end
def y2l (J:It) (g:TG) (tb:TS) (D:Ends) (U:St) (H1:Hp):Prop:=∃W:Nat->Nat->St->Hp->Prop,(∃m,W 0 m U H1)/\∀i m U H,W i m U H ->
 (J.stop i H/\D.nx U H)\/(J.go i H/\∃N:St->Hp->Prop,(∀σ' H',N σ' H'->∃m',m'<m/\W (i+1) m' σ' H')/\∀x H',J.yld i H x H'->g x U H' fun σ2 H2=>tb { D with nx:=N,ct:=N,bk:=D.nx } σ2 H2)
noncomputable def zte (wi:TI) (g:TG) (tb:TS):TS:=fun D U H=>wi U H fun J H1=>y2l J g tb D U H1
theorem zgk {X:Cx} {tg iter:Expr} {body:List Stmt} {wi:TI} {g:TG} {tb:TS} {pos:Pos} (hp:PassesOwn (model X.prog X.w) X.A X.env X.xe) (hc:X.calm=true) (hi:PI X tg iter wi) (hg:PG X tg g) (hb:PSs X body tb)
 (hs:∀x,foldedSetIterable iter X.env x=pure x:=by intro _;rfl):PS X (.For tg iter body [] pos) (zte wi g tb):=zst hp hc hi hg hb hs
def Stp (n i:Nat) (P:Prop):Prop:=∃m',m'<n - i/\m'=n - (i+1)/\i+1<=n/\P
theorem Stp.mk {n i:Nat} {P:Prop} (h:i<n) (p:P):Stp n i P:=⟨n - (i+1),by omega,rfl,h,p⟩
theorem Same.upd_new {H:Hp} {a:Addr} {o:HO} (h:H a=none):Same H (upd H a o):=fun b u e=>by rw [z0a (z0b e h)];exact e
theorem Same.upd_at {H H1:Hp} {a:Addr} {o:HO} (s:Same H H1) (h:H a=none):Same H (upd H1 a o):=fun b u e=>by rw [z0a (z0b e h)];exact s b u e
theorem zpb {prog:Program} {w:World} {A:Around} {E:Value->Shared->Prop} {s:Shared} {e it l:Addr} (hei:e≠it) (hle:l≠e) (hli:l≠it) {items:Array Value} {i:Nat} {Q:Option Value->Shared->Prop} (hi:i<items.size)
  (he:∃old,IsEnum s.heap e it i old) (h1:s.heap.IsListIter it l i) (g1:s.heap.IsList l items)
  (q:∀T vals h' tk,(∃t x,items[i]?=some x/\vals=#[.int i t,x])->s.heap.objs.size<=T->IsTp h' T vals->((∃x,IsEnumOut h' e it ((i:Int)+1) x T)/\h'.IsListIter it l (i+1)/\h'.IsList l items/\T≠e/\T≠it) ->
   (∀c o,c∉[e,it]->s.heap.get? c=some o->h'.get? c=some o)->Q (some (.ref T)) { s with heap:=h',toks:=tk }):wpAny (model prog w) A (pyNext (.ref e)) Q E s:=by
 obtain ⟨old,he⟩:=he
 have gt:∀{c:Addr} {o:Obj},s.heap.get? c=some o->s.heap.objs.size≠c:=fun e z=>absurd (Heap.lt_size e) (by rw [z];exact Nat.lt_irrefl _)
 have n1:s.heap.objs.size≠it:=by obtain ⟨_,e,_⟩:=h1;exact gt e
 refine wpAny_pyNext_enum_item he h1 g1 (x:=items[i]) (by simp [hi]) hei fun h' r1 r2 r3 _ kp=>?_
 have kl:∀c o,c∉[e,it]->s.heap.get? c=some o->h'.get? c=some o:=fun c o hc e=>by
  simp only [List.mem_cons,List.not_mem_nil,or_false,not_or] at hc
  exact kp c o hc.1 hc.2 e
 exact q s.heap.objs.size #[.int i s.toks,items[i]] h' (s.toks+1) ⟨_,_,by simp [hi],rfl⟩ (Nat.le_refl _) (.mk' r3) ⟨⟨_,r1⟩,r2,g1.at fun o e=>kp _ o hle hli e,gt he,n1⟩ kl
section
variable {X:Cx} {pins:List (Addr×Obj)} {U:St} {H:Hp} {s:Shared}
theorem Inv.turnedT {wr:List Addr} {h':Heap} {tk:Nat} {T:Addr} {xs:List V} {its:List Value} (I:Inv X pins U H s) (hw:∀b∈wr,z8b X pins H b) (k:∀b o,b∉wr->s.heap.get? b=some o->h'.get? b=some o)
  (hT:s.heap.objs.size<=T) (ht:IsTp h' T its.toArray) (rv:Vals xs its) (hz:xs.length<=sizeLine):Inv X pins U (upd H T (.tup xs)) { s with heap:=h',toks:=tk }:=by
 have HT:H T=none:=I.hok.fresh hT
 have nw:∀b u,H b=some u->b∉wr:=fun b u e z=>by rw [(hw b z).1] at e;cases e
 have neT:∀b o,s.heap.get? b=some o->b≠T:=fun b o e=>Nat.ne_of_lt (Nat.lt_of_lt_of_le (Heap.lt_size e) hT)
 refine I.step (g':=s.gens) (d':=s.drawn) (ch:=wr) (fun b hb=>⟨(hw b hb).2.2.2.1,(hw b hb).2.1,(hw b hb).2.2.2.2.1,(hw b hb).2.2.2.2.2⟩) (fun b o _ _ hc e _=>k b o hc e) (fun b o _ _ hc e _=>⟨o.slots,k b o hc e⟩)
  (fun b o _ e n=>by rw [z0a (neT b o e)];exact n) (fun b o hc e=>⟨o,k b o hc e⟩) (fun b ys e=>by rw [z0a (z0b e HT)];exact e) (fun b u ys e=>by rw [z0a (z0b e HT)];exact e)
  (fun b ps e=>⟨#[],by rw [z0a (z0b e HT),e];simp⟩) (fun m hm=>?_) (fun b u e=>?_) I.bare
 . obtain ⟨o,es,ep,ho,r⟩:=hm
   exact ⟨o,es,ep,k _ o (fun z=>(hw _ z).2.1 rfl) ho,r⟩
 . by_cases hb:b=T
   . subst hb
     rw [z0c] at e
     cases e
     exact ⟨hz,its,rv,ht⟩
   . rw [z0a hb] at e
     refine (I.hok b u e).stay (fun c v hc q=>k c v ?_ q) (fun c q=>?_) fun c ys q=>?_
     . rcases hc with z | z
       . rw [z];exact nw b u e
       . exact nw c _ z
     . rw [z0a (z0b q HT)];exact q
     . rw [z0a (z0b q HT)];exact q
end
section
variable {X:Cx} {pins:List (Addr×Obj)} {U:St} {H:Hp} {s:Shared}
theorem Inv.turnedN {wr:List Addr} {h':Heap} {tk:Nat} (I:Inv X pins U H s) (hw:∀b∈wr,z8b X pins H b) (k:∀b o,b∉wr->s.heap.get? b=some o->h'.get? b=some o):Inv X pins U H { s with heap:=h',toks:=tk }:=by
 have nw:∀b u,H b=some u->b∉wr:=fun b u e z=>by rw [(hw b z).1] at e;cases e
 refine I.step (g':=s.gens) (d':=s.drawn) (ch:=wr) (fun b hb=>⟨(hw b hb).2.2.2.1,(hw b hb).2.1,(hw b hb).2.2.2.2.1,(hw b hb).2.2.2.2.2⟩) (fun b o _ _ hc e _=>k b o hc e) (fun b o _ _ hc e _=>⟨o.slots,k b o hc e⟩)
  (fun b o _ e n=>n) (fun b o hc e=>⟨o,k b o hc e⟩) (fun b ys e=>e) (fun b u ys e=>e) (fun b ps e=>⟨#[],by rw [e];simp⟩) (fun m hm=>?_) (fun b u e=>?_) I.bare
 . obtain ⟨o,es,ep,ho,r⟩:=hm
   exact ⟨o,es,ep,k _ o (fun z=>(hw _ z).2.1 rfl) ho,r⟩
 . refine (I.hok b u e).stay (fun c v hc q=>k c v ?_ q) (fun c q=>q) fun c ys q=>q
   rcases hc with z | z
   . rw [z];exact nw b u e
   . exact nw c _ z
end
noncomputable def ItP (S:Hp->Prop) (ps:List (V×V)):It:=⟨fun i H=>S H/\i<ps.length,fun i H x H'=>∃T a b,x=.ref T/\H T=none/\H'=upd H T (.tup [a,b])/\ps[i]?=some (a,b),fun i H=>S H/\i=ps.length⟩
theorem zdg:2<=sizeLine:=by rw [sizeLine_eq];decide
theorem zgl {P:Program} {w:World} {K:Frag} {elts:List Expr} {k:Nat} {pos:Pos} {e it l:Addr} {xs:List V} (hei:e≠it) (hle:l≠e) (hli:l≠it) :
  Turn P w K (.Tuple elts k pos) (ItP (fun H=>Rd H l (.lst xs)) ((zfn 0 xs.length).zip xs)) [e,it] e (fun i h=>(∃old,IsEnum h e it i old)/\h.IsListIter it l i) where
 mem:=by simp
 obj:=fun i h ⟨⟨old,he⟩,⟨o1,h1,_,d1⟩⟩ c hc=>by
  have hc':c=e\/c=it:=by simpa using hc
  rcases hc' with rfl | rfl
  . exact ⟨_,he,fun v z=>by cases z⟩
  . exact ⟨o1,h1,fun v z=>by rw [d1] at z;cases z⟩
 keep:=fun i h h' ⟨⟨old,he⟩,h1⟩ kp=>⟨⟨old,kp e (by simp) _ he⟩,h1.at fun o z=>kp it (by simp) o z⟩
 item:=by
  intro X hP hw hK hc i pins s U H E I hf st hg
  subst hP hw hK
  obtain ⟨hS,hlt⟩:=hg
  obtain ⟨he,h1⟩:=st
  obtain ⟨its,r,p1,z1⟩:=I.list (.inl hS)
  have W:=WalksT.enumerate (prog:=X.prog) (w:=X.w) (A:=X.A) (I.ok.hd hc) e it l hei hle hli its.toArray
  have le1:=r.length
  have hlx:i<xs.length:=by rw [List.length_zip,z4r] at hlt;lia
  have hlz:i<its.toArray.size:=by simp only [List.size_toArray];lia
  refine zpb hei hle hli hlz he h1 p1.isList fun T vals h' tk hPt hT ht hM hk=>⟨.ref T,rfl,?_⟩
  refine W.go elts k pos i T _ _ _ hM fun h'' hst'' hk''=>?_
  obtain ⟨t,x,hx,rfl⟩:=hPt
  obtain ⟨a,ea⟩:∃a,xs[i]?=some a:=⟨xs[i],by simp⟩
  obtain ⟨u1,q1,ru1⟩:=r.get ea
  have hx':its[i]?=some x:=by simpa using hx
  rw [q1] at hx';cases hx'
  obtain ⟨oT,hoT,hcT,nT,hdT⟩:=ht
  have ht'':IsTp h'' T ([.int (i:Nat) t,x]:List Value).toArray:=⟨oT,hk'' T oT (W.apart i T _ hM) hoT,hcT,nT,hdT⟩
  have sub:∀c∈[e,it],z8b X pins H c:=fun c hc'=>hf c hc'
  have I2:=I.turnedT (tk:=tk) (xs:=[.int (i:Nat),a]) (its:=[.int (i:Nat) t,x]) sub (fun c o hcw z=>hk'' c o hcw (hk c o hcw z)) hT ht'' (.cons ⟨_,rfl⟩ (.cons ru1 .nil)) zdg
  have HT:H T=none:=I.hok.fresh hT
  refine ⟨.ref T,upd H T (.tup [.int (i:Nat),a]),I2,rfl,⟨T,.int (i:Nat),a,rfl,HT,rfl,?_⟩,⟨hst''.1,hst''.2.1⟩,fun c hc'=>?_⟩
  . rw [List.getElem?_zip_eq_some]
    refine ⟨?_,ea⟩
    rw [zgj 0 _ _ hlx];simp
  . rw [z0a]
    . exact (hf c hc').1
    . intro ec
      have hh:∃o,s.heap.get? c=some o:=by
       have hc'':c=e\/c=it:=by simpa using hc'
       obtain ⟨old,he'⟩:=he
       obtain ⟨o1,g1,_⟩:=h1
       rcases hc'' with z | z<;>subst z
       . exact ⟨_,he'⟩
       . exact ⟨_,g1⟩
      obtain ⟨o,ho⟩:=hh
      exact absurd (Nat.lt_of_lt_of_le (Heap.lt_size ho) hT) (by rw [ec];exact Nat.lt_irrefl _)
 done:=by
  intro X hP hw hK hc i pins s U H E I hf st hg
  subst hP hw hK
  obtain ⟨hS,hle'⟩:=hg
  obtain ⟨he,h1⟩:=st
  obtain ⟨its,r,p1,z1⟩:=I.list (.inl hS)
  have W:=WalksT.enumerate (prog:=X.prog) (w:=X.w) (A:=X.A) (I.ok.hd hc) e it l hei hle hli its.toArray
  have le1:=r.length
  have hi:its.toArray.size=i:=by
   rw [List.length_zip,z4r] at hle'
   simp only [List.size_toArray];lia
  rw [<-hi] at h1 he
  exact W.done s _ _ ⟨he,h1,p1.isList⟩ fun h' tk hk=>⟨rfl,I.turnedN hf hk⟩
 self:=fun A i s Q E st h=>by
  obtain ⟨⟨old,he⟩,_⟩:=st
  exact wpAny_pyIter_enum he h
section
variable {X:Cx} {a:Expr} {ta:TA} {p pos tpos:Pos} {elts:List Expr} {k:Nat}
theorem zaj {n l1 l2:Addr} (h1:l1<n) (h2:l2<n):ZipApart (n+4) (n+2) (n+3) n (n+1) l1 l2:=PySem.W.ktu_apart _ _ _ h1 h2
noncomputable def zze (ta:TA):TI:=fun U H R=>ta U H fun vs H1=>match vs with
 | [.ref l]=>∃xs,Rd H1 l (.lst xs)/\R (ItP (fun H=>Rd H l (.lst xs)) ((zfn 0 xs.length).zip xs)) H1
 | _=>False
theorem zpc (hg:Gl X "enumerate") (hm:X.mg "enumerate"=none) (ha:PA X [a] ta) (hs:starEach [a] X.env=[(false,eval a X.env)]:=by rfl) :
  PI X (.Tuple elts k tpos) (.Call (.Name "enumerate" p) [a] [] pos) (zze ta):=by
 intro pins s U H R I h
 refine Call_ (z3y I hg hm boot_enumerate (PyProof.Rows.callWith_type1 (thn (ha pos pins s U H _ I h) fun us s1 ⟨vs,H1,I1,r1,q1⟩=>?_) hs rfl))
 dsimp only at q1
 split at q1
 . rename_i l
   obtain ⟨xs,e1,q⟩:=q1
   obtain ⟨u,rfl,ru⟩:=z66 r1
   cases ru
   obtain ⟨its1,rr1,p1,_⟩:=I1.list (.inl e1)
   have lt1:l<s1.heap.objs.size:=by obtain ⟨o,ho,_⟩:=p1.isList;exact Heap.lt_size ho
   refine call_enumerate_list p1.isList fun h' he hi hsz hk=>?_
   refine wpAny_pyIter_enum he ⟨s1.heap.objs.size+1,[s1.heap.objs.size+1,s1.heap.objs.size],_,_,H1,rfl,I1.kept (t':=s1.toks) hk,zgl (Nat.succ_ne_self _) (Nat.ne_of_lt (Nat.lt_succ_of_lt lt1)) (Nat.ne_of_lt lt1),⟨⟨_,he⟩,hi⟩,fun c hc=>?_,q⟩
   have hc':s1.heap.objs.size<=c:=by
    have:c=s1.heap.objs.size+1\/c=s1.heap.objs.size:=by simpa using hc
    rcases this with z | z<;>rw [z]<;>first | exact Nat.le_add_right _ _ | exact Nat.le_refl _
   exact I1.fpOk hc' (I1.hok.fresh hc')
 . exact q1.elim
end
section
variable {X:Cx} {tg:Expr} {a:Expr} {ta:TA} {p pos:Pos}
theorem zzf (hg:Gl X "range") (hm:X.mg "range"=none) (ha:PA X [a] ta) (hs:starEach [a] X.env=[(false,eval a X.env)]:=by rfl):PI X tg (.Call (.Name "range" p) [a] [] pos) (iR1 ta):=by
 intro pins s U H R I h
 refine Call_ (z3y I hg hm boot_range (PyProof.Rows.callWith_type1 (thn (ha pos pins s U H _ I h) fun us s1 ⟨vs,H1,I1,r1,q1⟩=>?_) hs rfl))
 dsimp only at q1
 split at q1
 . rename_i j
   obtain ⟨⟨h1,h2⟩,q⟩:=q1
   obtain ⟨u,rfl,t,rfl⟩:=z66 r1
   refine call_range_1 (thn (zkd (tg:=tg) (R:=fun J H1=>∃J',(∀i H,J'.go i H->J.go i H)/\(∀i H x H',J'.go i H->J.yld i H x H'->J'.yld i H x H')/\(∀i H,J'.stop i H->J.stop i H)/\R J' H1) I1 (by lia) (by lia) h1 h2 ?_) fun itv s2 h2=>?_)
   . refine ⟨_,(z59 0 (j - 0).toNat).1,(z59 0 (j - 0).toNat).2.1,(z59 0 (j - 0).toNat).2.2,?_⟩
     simpa using q
   . obtain ⟨it,fp,tn,J,H2,e,I2,T,st,hf,J',c1,c2,c3,r⟩:=h2
     exact ⟨it,fp,tn,J',H2,e,I2,T.conv c1 c2 c3,st,hf,r⟩
 . exact q1.elim
end
def cB1:V->Hp->(List V->Hp->Prop)->Prop:=fun x H R=>R [x] H
def cBT (n:Nat):V->Hp->(List V->Hp->Prop)->Prop:=fun x H R=>match x with
 | .ref a=>(match H a with | some (.tup xs)=>xs.length=n/\R xs H | _=>False)
 | _=>False
section
variable {X:Cx} {sc:Scope} {caps:List Str} {ix:List Nat} {elt iter:Expr} {ifs:List Expr} {pos px py tpos:Pos} {tt:TT} {te:TE} {wi:TI} {x y:Str} {kt:Nat}
theorem y2m (x:V) (σt cs:St) (H:Hp) (Q:St->Hp->Prop) (hl:σt.length=1) (h:cB1 x H (fun vals H2=>Q (vals.map some++cs) H2)):z48 0 x (σt++cs) H fun σ2 H2=>(∃vals:List V,vals.length=1/\σ2=vals.map some++cs)/\Q σ2 H2:=by
 match σt,hl with
 | [t],_=>exact ⟨⟨[x],rfl,rfl⟩,h⟩
theorem y2n {K:Frag} (x:V) (σt cs:St) (H:Hp) (Q:St->Hp->Prop) (hl:σt.length=2) (h:cBT 2 x H (fun vals H2=>Q (vals.map some++cs) H2)) :
  zz0 K 2 (zft (z48 0) (zft (z48 1) zyz)) x (σt++cs) H fun σ2 H2=>(∃vals:List V,vals.length=2/\σ2=vals.map some++cs)/\Q σ2 H2:=by
 cases x<;>first | exact h.elim | skip
 rename_i a
 unfold cBT at h
 dsimp only at h
 split at h
 . rename_i xs e
   obtain ⟨hn,h⟩:=h
   match σt,hl,xs,hn with
   | [t,t'],_,[v,v'],_=>exact ⟨a,[v,v'],rfl,.of e,rfl,v,[v'],rfl,v',[],rfl,rfl,⟨[v,v'],rfl,rfl⟩,h⟩
 . exact h.elim
theorem zyl {tgs:List Str} {i:Nat} {x:Str} {px:Pos} (hN:(tgs++caps).Nodup) (hi:(tgs++caps)[i]?=some x) (hx:sc.names.lookup x=some .local) (fp:List Addr) (s:Shared) (H:Hp):PG (z0j X sc (tgs++caps) fp s H) (.Name x px) (z48 i):=
 zbo (X:=z0j X sc (tgs++caps) fp s H) hN hi (.inl (lookup_relabel_local hx)) (.inr (lookup_relabel_local hx))
theorem zkr (C:CompOk X sc caps ix) (hN:([x]++caps).Nodup) (hx:sc.names.lookup x=some .local) (hi:PI X (.Name x px) iter wi) (ht:∀fp s H,PTs (z0j X sc ([x]++caps) fp s H) ifs tt) (he:∀fp s H,PE (z0j X sc ([x]++caps) fp s H) elt te)
  (hs:∀x,foldedSetIterable iter X.env x=pure x:=by intro _;rfl):PE X (.ListComp elt [⟨.Name x px,iter,ifs,0⟩] sc pos) (zaf wi cB1 ix tt te):=
 zga (tgs:=[x]) C hi (fun fp s H=>zyl hN rfl hx fp s H) y2m ht he hs
theorem zks {v:Str} {k:Nat} {spos pv:Pos} (hNX:X.N.Nodup) (hk:X.N[k]?=some v) (hv:X.env.scope.names.lookup v=some .local) (C:CompOk X sc caps ix) (hN:([x]++caps).Nodup) (hx:sc.names.lookup x=some .local) (hi:PI X (.Name x px) iter wi)
  (ht:∀fp s H,PTs (z0j X sc ([x]++caps) fp s H) ifs tt) (he:∀fp s H,PE (z0j X sc ([x]++caps) fp s H) elt te)
  (hsw:swapsWith (.ListComp elt [⟨.Name x px,iter,ifs,0⟩] sc pos) (some (.Name v pv)) spos.line X.env=pure true:=by rfl) (hs:∀x,foldedSetIterable iter X.env x=pure x:=by intro _;rfl) :
  PS X (.Assign [.Name v pv] (.ListComp elt [⟨.Name x px,iter,ifs,0⟩] sc pos) spos) (zfm (zaf wi cB1 ix tt te) (z48 k)):=
 zgb (tgs:=[x]) hNX hk hv C hi (fun fp s H=>zyl hN rfl hx fp s H) y2m ht he hsw hs
theorem ztf (hc:X.calm=true) (hN:([x,y]++caps).Nodup) (hx:sc.names.lookup x=some .local) (hy:sc.names.lookup y=some .local) (fp:List Addr) (s:Shared) (H:Hp) :
  PG (z0j X sc ([x,y]++caps) fp s H) (.Tuple [.Name x px,.Name y py] kt tpos) (zz0 X.K 2 (zft (z48 0) (zft (z48 1) zyz))):=
 zmm (X:=z0j X sc ([x,y]++caps) fp s H) hc (z8a (zyl hN rfl hx fp s H) (z8a (zyl hN rfl hy fp s H) pgs_nil))
theorem zkt (C:CompOk X sc caps ix) (hN:([x,y]++caps).Nodup) (hx:sc.names.lookup x=some .local) (hy:sc.names.lookup y=some .local) (hi:PI X (.Tuple [.Name x px,.Name y py] kt tpos) iter wi) (ht:∀fp s H,PTs (z0j X sc ([x,y]++caps) fp s H) ifs tt)
  (he:∀fp s H,PE (z0j X sc ([x,y]++caps) fp s H) elt te) (hs:∀x,foldedSetIterable iter X.env x=pure x:=by intro _;rfl):PE X (.ListComp elt [⟨.Tuple [.Name x px,.Name y py] kt tpos,iter,ifs,0⟩] sc pos) (zaf wi (cBT 2) ix tt te):=
 zga (tgs:=[x,y]) C hi (fun fp s H=>ztf C.calm hN hx hy fp s H) y2n ht he hs
theorem zku {v:Str} {k:Nat} {spos pv:Pos} (hNX:X.N.Nodup) (hk:X.N[k]?=some v) (hv:X.env.scope.names.lookup v=some .local) (C:CompOk X sc caps ix) (hN:([x,y]++caps).Nodup) (hx:sc.names.lookup x=some .local) (hy:sc.names.lookup y=some .local)
  (hi:PI X (.Tuple [.Name x px,.Name y py] kt tpos) iter wi) (ht:∀fp s H,PTs (z0j X sc ([x,y]++caps) fp s H) ifs tt) (he:∀fp s H,PE (z0j X sc ([x,y]++caps) fp s H) elt te)
  (hsw:swapsWith (.ListComp elt [⟨.Tuple [.Name x px,.Name y py] kt tpos,iter,ifs,0⟩] sc pos) (some (.Name v pv)) spos.line X.env=pure true:=by rfl) (hs:∀x,foldedSetIterable iter X.env x=pure x:=by intro _;rfl) :
  PS X (.Assign [.Name v pv] (.ListComp elt [⟨.Tuple [.Name x px,.Name y py] kt tpos,iter,ifs,0⟩] sc pos) spos) (zfm (zaf wi (cBT 2) ix tt te) (z48 k)):=
 zgb (tgs:=[x,y]) hNX hk hv C hi (fun fp s H=>ztf C.calm hN hx hy fp s H) y2n ht he hsw hs
noncomputable def zpd (n:Nat) (t:TGs):TG:=fun v U H Q=>match v with
 | .ref a=>(match H a with | some (.tup xs)=>xs.length=n/\t xs U H Q | _=>False)
 | _=>False
noncomputable def zmt (t:TG) (u:TGs):TGs:=fun vs U H Q=>match vs with | v::r=>t v U H fun σ' H'=>u r σ' H' Q | []=>False
noncomputable def ztg:TGs:=fun vs U H Q=>match vs with | []=>Q U H | _=>False
theorem PGs.imp {es:List Expr} {t t':TGs} (h:PGs X es t) (hi:∀vs U H Q,t' vs U H Q->t vs U H Q):PGs X es t':=fun pins s U H vs us Q I r q=>h pins s U H vs us Q I r (hi vs U H Q q)
theorem PG.imp {e:Expr} {t t':TG} (h:PG X e t) (hi:∀v U H Q,t' v U H Q->t v U H Q):PG X e t':=fun pins s U H v u Q I r q=>h pins s U H v u Q I r (hi v U H Q q)
theorem zkv:PGs X [] ztg:=pgs_nil.imp fun vs U H Q q=>by
 cases vs with
 | nil=>exact ⟨rfl,q⟩
 | cons _ _=>exact q.elim
theorem zgm {e:Expr} {es:List Expr} {t:TG} {u:TGs} (h1:PG X e t) (h2:PGs X es u) (hs:(assignEach (e::es) X.env).map (·.2)=assign e X.env::(assignEach es X.env).map (·.2):=by rfl):PGs X (e::es) (zmt t u):=(z8a h1 h2 hs).imp fun vs U H Q q=>by
 cases vs with
 | nil=>exact q.elim
 | cons v r=>exact ⟨v,r,rfl,q⟩
theorem zpe {es:List Expr} {k:Nat} {t:TGs} {n:Nat} (hc:X.calm=true) (h:PGs X es t)
  (hn:(assignEach es X.env).length=n:=by rfl) (hst:(assignEach es X.env).findIdx? (·.1)=none:=by rfl):PG X (.Tuple es k pos) (zpd n t):=(zmm hc h hn hst).imp fun v U H Q q=>by
 cases v<;>first | exact q.elim | skip
 rename_i a
 unfold zpd at q
 dsimp only at q
 split at q
 . rename_i xs e;exact ⟨a,xs,rfl,.of e,q.1,q.2⟩
 . exact q.elim
end
theorem y2o {α:Type} (a:α) (r:List α):atI (a::r) 0=some a:=z8c (j:=0) rfl
theorem y2p {α:Type} (a b:α) (r:List α):atI (a::b::r) 1=some b:=z8c (j:=1) rfl
section
variable {prog:Program} {w:World} {A:Around} {E:Value->Shared->Prop} {s:Shared}
theorem zdh {it t:Addr} {items:Array Value} (hne:t≠it):∀(n i:Nat) (s:Shared) (Q:List Value->Shared->Prop),s.heap.IsListIter it t i->s.heap.IsList t items->i+n<=items.size ->
  (∀h',h'.IsListIter it t (i+n)->Heap.SameBut it s.heap h'->Q ((items.toList.drop i).take n) { s with heap:=h' })->wpAny (model prog w) A (draw (.ref it) n) Q E s
 | 0,i,s,Q,hit,_,_,k=>by
  show wpAny _ _ (pure []) Q E s
  exact wpAny_pure (by simpa using k s.heap hit (Heap.SameBut.refl ..))
 | n+1,i,s,Q,hit,ht,hle,k=>by
  have hlt:i<items.size:=by lia
  show wpAny _ _ (pyNext (.ref it) >>= _) Q E s
  refine wpAny_bind (wpAny_pyNext_list_item hit ht (x:=items[i]) (by simp [hlt]) fun g1 it1 sb1=>?_)
  refine wpAny_bind (wpAny_holding (zdh hne n (i+1) _ _ it1 (ht.extBut sb1.extBut hne) (by lia) fun g2 it2 sb2=>wpAny_pure ?_))
  have hd:items.toList.drop i=items[i]::items.toList.drop (i+1):=by simp [List.drop_eq_getElem_cons,hlt]
  have z:=k g2 (by rw [show i+(n+1)=i+1+n by lia];exact it2) (sb1.trans sb2)
  rw [hd,List.take_succ_cons] at z
  exact z
theorem zgn {t:Addr} {items:Array Value} {Q:List Value->Shared->Prop} (hh:A.handled=none) (ht:s.heap.IsList t items)
  (k:∀h',(∀b o,s.heap.get? b=some o->h'.get? b=some o)->Q items.toList { s with heap:=h' }):wpAny (model prog w) A (unpackItems (.ref t) items.size none) Q E s:=by
 have hlt:t≠s.heap.objs.size:=by obtain ⟨o,ho,_⟩:=ht;exact Nat.ne_of_lt (Heap.lt_size ho)
 have old:∀{b:Addr} {o:Obj},s.heap.get? b=some o->b≠s.heap.objs.size:=fun e=>Nat.ne_of_lt (Heap.lt_size e)
 unfold unpackItems
 refine wpAny_bind ?_
 . unfold notIterableAtAll
   refine wpAny_bind (wpAny_specialOf ht.typeIs slot_list_iter.lookup ?_)
   refine wpAny_pure ?_
   simp only [Bool.false_eq_true,if_false]
   refine wpAny_bind (wpAny_holding (wpAny_pyIter_list ht ?_))
   refine wpAny_bind (wpAny_holding (zdh hlt items.size 0 _ _ ⟨_,Heap.get?_push_size _ rfl,rfl,rfl⟩ (ht.push _) (by lia) fun g1 it1 sb1=>?_))
   have hall:List.take items.size (List.drop 0 items.toList)=items.toList:=by
    rw [List.drop_zero];exact List.take_of_length_le (by simp)
   rw [hall]
   rw [if_neg (by simp)]
   have ht1:g1.IsList t items:=(ht.push _).extBut sb1.extBut hlt
   refine wpAny_bind (wpAny_holding (wpAny_pyNext_list_end hh it1 ht1 (by simp) fun g2 eb2=>?_))
   simp only [Option.isSome_none,Bool.false_eq_true,if_false]
   exact wpAny_pure (k g2 fun b o e=>eb2 b o (old e) (sb1.extBut b o (old e) (Heap.get?_push_of_some _ e)))
theorem zeu {env:Env} {elts:List Expr} {x1} {pos:Pos} {t:Addr} {items:Array Value} {Q:Unit->Shared->Prop} (hh:A.handled=none) (ht:s.heap.IsList t items)
  (hn:(assignEach elts env).length=items.size) (hstar:(assignEach elts env).findIdx? (·.1)=none)
  (h:∀h',(∀b o,s.heap.get? b=some o->h'.get? b=some o)->wpAny (model prog w) A (assignInOrder ((assignEach elts env).map (·.2)) items.toList) Q E { s with heap:=h' }) :
  wpAny (model prog w) A (assign (.Tuple elts x1 pos) env (.ref t)) Q E s:=by
 rw [assign_Tuple]
 refine wpAny_bind (wpAny_standAt ?_)
 unfold unpack
 rw [hn,hstar]
 exact wpAny_bind (wpAny_holding (zgn hh ht h))
end
section
variable {X:Cx} {pos:Pos}
noncomputable def zev (n:Nat) (t:TGs):TG:=fun v U H Q=>match v with
 | .ref a=>(match H a with
  | some (.tup xs)=>xs.length=n/\t xs U H Q
  | some (.lst xs)=>xs.length=n/\t xs U H Q
  | _=>False)
 | _=>False
theorem zgo {es:List Expr} {k:Nat} {t:TGs} {n:Nat} (hc:X.calm=true) (h:PGs X es t)
  (hn:(assignEach es X.env).length=n:=by rfl) (hst:(assignEach es X.env).findIdx? (·.1)=none:=by rfl):PG X (.Tuple es k pos) (zev n t):=by
 intro pins s U H v u Q I r hw
 cases v<;>first | exact hw.elim | skip
 rename_i a
 unfold zev at hw
 dsimp only at hw
 split at hw
 . rename_i xs e
   exact zpe hc h hn hst pins s U H (.ref a) u Q I r (by unfold zpd;dsimp only;rw [e];exact hw)
 . rename_i xs e
   obtain ⟨hl,hw⟩:=hw
   cases r
   obtain ⟨its,rv,ht,hz⟩:=I.list (.of e)
   refine zeu (I.ok.hd hc) ht.isList (by simp [hn,<-hl,rv.length]) hst fun h' hx=>?_
   exact h pins _ U H xs _ Q (I.kept (t':=s.toks) hx) (by simpa using rv) hw
 . exact hw.elim
theorem few {n:Nat} (h:n<=1000):n<=sizeLine:=Nat.le_of_lt (zg9 h)
def zym:List V->Hp->VK->Prop:=fun xs H Q=>match xs with
 | [x,.ty c]=>z6r c=true/\(match z8i H x with | some t=>Q (.bl (zgf t c)) H | none=>False)
 | _=>False
def zpf:List V->Hp->VK->Prop:=fun xs H Q=>match xs with
 | [.ref p]=>∃ns:List Int,z68 H p=some (ns.map V.int)/\Q (.int ns.sum) H
 | _=>False
def zth:List V->Hp->VK->Prop:=fun xs H Q=>match xs with | [.int i]=>Q (.int i) H | [.bl k]=>Q (.int (if k then 1 else 0)) H | _=>False
section
variable {H:Hp} {Q:VK} {p:Addr} {x:V} {cs:String}
theorem zti:zym [x,.ty cs] H Q=(z6r cs=true/\(match z8i H x with | some t=>Q (.bl (zgf t cs)) H | none=>False)):=rfl
theorem zgp:zpf [.ref p] H Q=∃ns:List Int,z68 H p=some (ns.map V.int)/\Q (.int ns.sum) H:=rfl
end
theorem zzg:CallR X (.builtin "isinstance") zym:=zko
theorem zzh (hc:X.calm=true):CallR X (.builtin "sum") zpf:=zgg hc
theorem ztj:CallR X (.type "int") zth:=zgi
end
inductive NK where
 | i (n:Int)
 | t (ks:List NK)
noncomputable instance:DecidableEq NK:=fun a b=>Classical.propDecidable (a=b)
mutual
noncomputable def NK.dep:NK->Nat
 | .i _=>0
 | .t ks=>z2v ks+1
noncomputable def z2v:List NK->Nat
 | []=>0
 | k::ks=>max k.dep (z2v ks)
end
mutual
noncomputable def NK.hs:NK->Int
 | .i n=>hashInt n
 | .t ks=>reduceHash (Builtin.Tuple.tupleHashOf (ztk ks))
noncomputable def ztk:List NK->List Int
 | []=>[]
 | k::ks=>k.hs::ztk ks
end
mutual
noncomputable def NK.dr:NK->Nat
 | .i _=>1
 | .t ks=>zyn ks+1
noncomputable def zyn:List NK->Nat
 | []=>0
 | k::ks=>k.dr+zyn ks
end
mutual
def NKv (h:Heap):NK->Value->Prop
 | .i n,v=>∃t,v=.int n t
 | .t ks,v=>∃a its,v=.ref a/\h.IsTuple a its/\NKvs h ks its.toList
def NKvs (h:Heap):List NK->List Value->Prop
 | [],vs=>vs=[]
 | k::ks,vs=>∃v r,vs=v::r/\NKv h k v/\NKvs h ks r
end
theorem NKvs.len {h:Heap}:∀{ks:List NK} {vs:List Value},NKvs h ks vs->ks.length=vs.length
 | [],_,q=>by simp only [NKvs] at q;rw [q];rfl
 | k::ks,_,q=>by
  simp only [NKvs] at q
  obtain ⟨v,r,rfl,_,q⟩:=q
  simp only [List.length_cons,NKvs.len q]
theorem zgq {h:Heap} {a:Addr} {x y:Array Value} (p:h.IsTuple a x) (q:h.IsTuple a y):x=y:=by
 obtain ⟨o,e,c,n,d⟩:=p
 obtain ⟨o',e',c',n',d'⟩:=q
 rw [e] at e';cases e'
 rw [d] at d';cases d';rfl
mutual
theorem NKv.inj {h:Heap}:∀{k j:NK} {v:Value},NKv h k v->NKv h j v->k=j
 | .i n,.i m,v,p,q=>by
  simp only [NKv] at p q
  obtain ⟨t,rfl⟩:=p;obtain ⟨t',e⟩:=q
  cases e;rfl
 | .i n,.t ks,v,p,q=>by
  simp only [NKv] at p q
  obtain ⟨t,rfl⟩:=p;obtain ⟨_,_,e,_⟩:=q;cases e
 | .t ks,.i m,v,p,q=>by
  simp only [NKv] at p q
  obtain ⟨t,rfl⟩:=q;obtain ⟨_,_,e,_⟩:=p;cases e
 | .t ks,.t js,v,p,q=>by
  simp only [NKv] at p q
  obtain ⟨a,its,rfl,p1,p2⟩:=p
  obtain ⟨b,its',e,q1,q2⟩:=q
  cases e
  cases zgq p1 q1
  rw [NKvs.inj p2 q2]
theorem NKvs.inj {h:Heap}:∀{ks js:List NK} {vs:List Value},NKvs h ks vs->NKvs h js vs->ks=js
 | [],[],_,_,_=>rfl
 | [],j::js,_,p,q=>by
  simp only [NKvs] at p q;subst p;obtain ⟨_,_,e,_⟩:=q;cases e
 | k::ks,[],_,p,q=>by
  simp only [NKvs] at p q;subst q;obtain ⟨_,_,e,_⟩:=p;cases e
 | k::ks,j::js,_,p,q=>by
  simp only [NKvs] at p q
  obtain ⟨v,r,rfl,p1,p2⟩:=p
  obtain ⟨_,_,e,q1,q2⟩:=q
  cases e
  rw [NKv.inj p1 q1,NKvs.inj p2 q2]
end
mutual
theorem NKv.stay {h h':Heap} (st:∀a its,h.IsTuple a its->h'.IsTuple a its):∀{k:NK} {v:Value},NKv h k v->NKv h' k v
 | .i n,v,p=>by simp only [NKv] at p ⊢;exact p
 | .t ks,v,p=>by
  simp only [NKv] at p ⊢
  obtain ⟨a,its,e,p1,p2⟩:=p
  exact ⟨a,its,e,st _ _ p1,NKvs.stay st p2⟩
theorem NKvs.stay {h h':Heap} (st:∀a its,h.IsTuple a its->h'.IsTuple a its):∀{ks:List NK} {vs:List Value},NKvs h ks vs->NKvs h' ks vs
 | [],_,p=>by simp only [NKvs] at p ⊢;exact p
 | k::ks,_,p=>by
  simp only [NKvs] at p ⊢
  obtain ⟨v,r,e,p1,p2⟩:=p
  exact ⟨v,r,e,NKv.stay st p1,NKvs.stay st p2⟩
end
section
variable {prog:Program} {w:World}
theorem zgr:∀(m:Nat) {k:NK} {v:Value} {A:Around} {E:Value->Shared->Prop} {s:Shared} {Q:Int->Shared->Prop},k.dep<=m->A.units+m<cLine->NKv s.heap k v->Q k.hs { s with toks:=s.toks+k.dr }->wpAny (model prog w) A (pyHash v) Q E s
 | m,.i n,v,A,E,s,Q,hd,hu,p,q=>by
  simp only [NKv] at p
  obtain ⟨t,rfl⟩:=p
  exact wpAny_pyHash_int q
 | 0,.t ks,v,A,E,s,Q,hd,hu,p,q=>by simp only [NK.dep] at hd;lia
 | m+1,.t ks,v,A,E,s,Q,hd,hu,p,q=>by
  simp only [NKv] at p
  obtain ⟨a,its,rfl,⟨o,e,c,n,d⟩,p2⟩:=p
  simp only [NK.dep] at hd
  show wpAny (model prog w) A (pyHashByItsType (.ref a)) Q E s
  refine W.pyHash_slot (T:="tuple") ⟨o,e,c⟩ F.slot_tuple_hash F.entry_tuple_hash (F.args_tuple_hash_1 _) rfl (.inr (by lia)) ?_
  refine wpAny_bind (wpAny_of_eq (show slotArgs "__hash__" 0 ⟨[.ref a],[]⟩=pure (.ref a,[]) from rfl) ?_)
  show wpAny (model prog w) A.in1 (Builtin.Tuple.tupleItemsOf (.ref a) >>= _) _ _ s
  refine wpAny_bind (wpAny_tupleItemsOf e d ?_)
  refine wpAny_bind ?_
  have go:∀(ks:List NK) (vs:List Value) (b:Array Int) (s':Shared) (Q':Array Int->Shared->Prop),z2v ks<=m->NKvs s'.heap ks vs->(∀b':Array Int,b'.toList=b.toList++ztk ks->Q' b' { s' with toks:=s'.toks+zyn ks }) ->
    wpAny (model prog w) A.in1 (forIn vs b fun x r=>do
     let h <-pyHash x
     pure (ForInStep.yield (r.push h))) Q' E s':=by
   intro ks
   induction ks with
   | nil=>
    intro vs b s' Q' _ p hq
    simp only [NKvs] at p;subst p
    exact wpAny_pure (hq b (by simp [ztk]))
   | cons k ks ih=>
    intro vs b s' Q' hd p hq
    simp only [NKvs] at p
    obtain ⟨v,r,rfl,p1,p2⟩:=p
    simp only [z2v] at hd
    rw [List.forIn_cons]
    refine wpAny_bind (wpAny_bind (zgr m (by lia) (by show A.units+1+m<cLine;lia) p1 ?_))
    refine wpAny_pure ?_
    refine ih r (b.push k.hs) _ Q' (by lia) p2 fun b' hb'=>?_
    have:=hq b' (by rw [hb'];simp [ztk])
    simpa only [zyn,Nat.add_assoc] using this
  rw [<-Array.forIn_toList]
  refine go ks its.toList #[] s _ (by lia) p2 fun b' hb'=>?_
  show wpAny (model prog w) A.in1 (retInt (Builtin.Tuple.tupleHashOf b'.toList)) _ _ _
  refine wpAny_mono (wpAny_ret_mkInt (Q:=fun v s'=>∃n t,v=Value.int n t/\Q (reduceHash n) s') ⟨_,_,rfl,?_⟩) (fun fin s' h=>?_) fun _ _ h=>h
  . rw [hb']
    simpa only [NK.hs,NK.dr,Nat.add_assoc,List.nil_append] using q
  . obtain ⟨v,rfl,n,t,rfl,hq⟩:=h
    exact ⟨n,t,rfl,hq⟩
theorem ztl {s:Shared}:∀(m:Nat) {k j:NK} {u v:Value} {A:Around},k.dep<=m->A.units+m<cLine->NKv s.heap k u->NKv s.heap j v->SeqAt.EqAt A s u v (decide (k=j))
 | m,.i n,.i n',u,v,A,hd,hu,p,q=>by
  simp only [NKv] at p q
  obtain ⟨t,rfl⟩:=p;obtain ⟨t',rfl⟩:=q
  have:decide (NK.i n=NK.i n')=(n==n'):=by
   by_cases h:n=n'
   . rw [h];simp
   . rw [decide_eq_false (fun e=>h (NK.i.inj e))];simp [h]
  rw [this]
  exact .int_int _ _ _ _
 | m,.i n,.t js,u,v,A,hd,hu,p,q=>by
  simp only [NKv] at p q
  obtain ⟨t,rfl⟩:=p;obtain ⟨a,its,rfl,q1,_⟩:=q
  rw [decide_eq_false (fun e=>by cases e)]
  exact .int_tuple _ _ q1 (by lia)
 | m,.t ks,.i n',u,v,A,hd,hu,p,q=>by
  simp only [NKv] at p q
  obtain ⟨t,rfl⟩:=q;obtain ⟨a,its,rfl,q1,_⟩:=p
  rw [decide_eq_false (fun e=>by cases e)]
  exact .tuple_int _ _ q1 (by lia)
 | 0,.t ks,.t js,u,v,A,hd,hu,p,q=>by simp only [NK.dep] at hd;lia
 | m+1,.t ks,.t js,u,v,A,hd,hu,p,q=>by
  have p0:=p
  have q0:=q
  simp only [NKv] at p q
  obtain ⟨a,its,rfl,p1,p2⟩:=p
  obtain ⟨b,its2,rfl,q1,q2⟩:=q
  simp only [NK.dep] at hd
  by_cases hab:a=b
  . subst hab
    rw [decide_eq_true (NKv.inj p0 q0)]
    exact .same _
  . have l1:=p2.len
    have l2:=q2.len
    simp only [Array.length_toList] at l1 l2
    have at':∀(ks:List NK) (vs:List Value),NKvs s.heap ks vs->∀j v,vs[j]?=some v->NKv s.heap (ks.getD j (.i 0)) v/\(ks.getD j (.i 0)).dep<=z2v ks:=by
     intro ks
     induction ks with
     | nil=>intro vs p j v e;simp only [NKvs] at p;subst p;simp at e
     | cons k ks ih=>
      intro vs p j v e
      simp only [NKvs] at p
      obtain ⟨v0,r,rfl,r1,r2⟩:=p
      cases j with
      | zero=>simp at e;subst e;exact ⟨r1,by simp only [List.getD_cons_zero,z2v];lia⟩
      | succ j=>
       simp only [List.getElem?_cons_succ] at e
       obtain ⟨x1,x2⟩:=ih r r2 j v e
       exact ⟨x1,by simp only [List.getD_cons_succ,z2v];lia⟩
    have q:=SeqAt.RcAt.tuples (A:=A) p1 q1 (by lia) (e:=fun j=>decide (ks.getD j (.i 0)=js.getD j (.i 0))) fun j h1 h2=>by
     obtain ⟨x1,x2⟩:=at' ks _ p2 j its[j] (by simp [h1])
     obtain ⟨y1,y2⟩:=at' js _ q2 j its2[j] (by simp [h2])
     exact ztl m (by lia) (by show A.units+1+m<cLine;lia) x1 y1
    have eb:((List.range (min its.size its2.size)).all (fun j=>decide (ks.getD j (.i 0)=js.getD j (.i 0)))&&its.size==its2.size)=decide (NK.t ks=NK.t js):=by
     rw [Bool.eq_iff_iff,Bool.and_eq_true,List.all_eq_true,decide_eq_true_eq,beq_iff_eq]
     constructor
     . rintro ⟨h1,h2⟩
       congr 1
       refine List.ext_getElem (by lia) fun j hj hj'=>?_
       have:=h1 j (List.mem_range.mpr (by lia))
       rw [decide_eq_true_eq,List.getD_eq_getElem?_getD,List.getD_eq_getElem?_getD,List.getElem?_eq_getElem hj,List.getElem?_eq_getElem hj'] at this
       exact this
     . intro e
       cases e
       exact ⟨fun j _=>decide_eq_true rfl,by lia⟩
    rw [eb] at q
    exact .of_refs hab q
end
section
variable {prog:Program} {w:World}
theorem zdi {A:Around} {E:Value->Shared->Prop} {s:Shared}:∀(m:Nat) {k:NK} {v:Value} {Q:Bool->Shared->Prop},k.dep<=m->NKv s.heap k v->Q true s->wpAny (model prog w) A (eqIsQuiet m v) Q E s
 | m,.i n,v,Q,hd,p,q=>by
  simp only [NKv] at p
  obtain ⟨t,rfl⟩:=p
  rw [eqIsQuiet.eq_3 _ _ (fun a e=>by cases e)]
  exact wpAny_pure q
 | 0,.t ks,v,Q,hd,p,q=>by simp only [NK.dep] at hd;lia
 | m+1,.t ks,v,Q,hd,p,q=>by
  simp only [NKv] at p
  obtain ⟨a,its,rfl,⟨o,e,c,n,d⟩,p2⟩:=p
  simp only [NK.dep] at hd
  rw [eqIsQuiet.eq_2]
  refine wpAny_bind (wpAny_specialOf (T:="tuple") ⟨o,e,c⟩ F.slot_tuple_eq.lookup ?_)
  show wpAny (model prog w) A (isInstance (.ref a) (.type "tuple") >>= _) _ _ s
  refine wpAny_bind (wpAny_isInstance (T:="tuple") (b:=true) ⟨o,e,c⟩ (by rfl) ?_)
  show wpAny (model prog w) A (seqItems? (.ref a) >>= _) _ _ s
  refine wpAny_bind (wpAny_seqItems e d ?_)
  refine wpAny_bind ?_
  have go:∀(ks:List NK) (vs:List Value) (Q':Option Bool×Unit->Shared->Prop),z2v ks<=m->NKvs s.heap ks vs->Q' (none,()) s ->
    wpAny (model prog w) A (forIn vs ((none,()):Option Bool×Unit) fun y __s=>do
     let __do_lift <-eqIsQuiet m y
     if (!__do_lift)=true then pure (ForInStep.done (some false,()))
      else pure (ForInStep.yield (none,()))) Q' E s:=by
   intro ks
   induction ks with
   | nil=>
    intro vs Q' _ p hq
    simp only [NKvs] at p;subst p
    exact wpAny_pure hq
   | cons k ks ih=>
    intro vs Q' hd p hq
    simp only [NKvs] at p
    obtain ⟨v,r,rfl,p1,p2⟩:=p
    simp only [z2v] at hd
    rw [List.forIn_cons]
    refine wpAny_bind (wpAny_bind (zdi m (by lia) p1 ?_))
    refine wpAny_pure ?_
    exact ih r Q' (by lia) p2 hq
  show wpAny (model prog w) A (forIn its ((none,()):Option Bool×Unit) _) _ _ s
  rw [<-Array.forIn_toList]
  refine go ks its.toList _ (by lia) p2 ?_
  exact wpAny_pure q
noncomputable def deepKind (prog:Program) (w:World):HeapKind prog w NK where
 is:=fun h k a=>NKv h k (.ref a)/\k.dep<=8
 hash:=NK.hs
 draws:=NK.dr
 room:=fun A=>A.units+8<cLine
 inj:=fun p q=>NKv.inj p.1 q.1
 keeps:=fun {h h' k a d o es ep} p e eo sb=>⟨NKv.stay (fun b its t=>by
  obtain ⟨ob,eb,cb,n,db⟩:=t
  have hne:b≠d:=fun z=>by
   subst z
   rw [e] at eb;cases eb
   rw [eo] at db;cases db
  exact ⟨ob,(sb.2 b hne).trans eb,cb,n,db⟩) p.1,p.2⟩
 pyHash:=fun {A E s k a Q} hr p q=>zgr 8 p.2 hr p.1 q
 eqBool:=fun {A E s x y a b Q} hr p p' q=>ztl 8 p.2 hr p.1 p'.1 prog w E Q q
 quiet:=fun {A E s k a Q} p q=>zdi 8 p.2 p.1 q
end
noncomputable def dnE (x:NK×Addr×Value):DictEntry:={ hash:=x.1.hs,key:=.ref x.2.1,val:=x.2.2 }
def dnP (a:Addr) (ks:List (NK×Addr)) (xs:List V) (o:Obj) (h:Heap):Prop:=
 h.get? a=some o/\∃(vs:List Value) (es:Array DictEntry) (ep:Nat),Vals xs vs/\ks.length=vs.length/\o.ExactDict/\o.data=.dict es ep/\es.toList=((ks.zip vs).map fun q=>(q.1.1,q.1.2,q.2)).map dnE
theorem dnP.stay {a:Addr} {ks:List (NK×Addr)} {xs:List V} {o:Obj}:∀h1 h2:Heap,dnP a ks xs o h1->(∀o,h1.get? a=some o->h2.get? a=some o)->dnP a ks xs o h2:=fun _ _ p k=>⟨k _ p.1,p.2⟩
mutual
def NKr (H:Hp):NK->V->Prop
 | .i n,v=>v=.int n
 | .t ks,v=>∃a ys,v=.ref a/\H a=some (.tup ys)/\NKrs H ks ys
def NKrs (H:Hp):List NK->List V->Prop
 | [],vs=>vs=[]
 | k::ks,vs=>∃v r,vs=v::r/\NKr H k v/\NKrs H ks r
end
mutual
theorem NKr.mono {H H':Hp} (st:∀a ys,H a=some (.tup ys)->H' a=some (.tup ys)):∀{k:NK} {v:V},NKr H k v->NKr H' k v
 | .i n,v,p=>by simp only [NKr] at p ⊢;exact p
 | .t ks,v,p=>by
  simp only [NKr] at p ⊢
  obtain ⟨a,ys,e,p1,p2⟩:=p
  exact ⟨a,ys,e,st _ _ p1,NKrs.mono st p2⟩
theorem NKrs.mono {H H':Hp} (st:∀a ys,H a=some (.tup ys)->H' a=some (.tup ys)):∀{ks:List NK} {vs:List V},NKrs H ks vs->NKrs H' ks vs
 | [],_,p=>by simp only [NKrs] at p ⊢;exact p
 | k::ks,_,p=>by
  simp only [NKrs] at p ⊢
  obtain ⟨v,r,e,p1,p2⟩:=p
  exact ⟨v,r,e,NKr.mono st p1,NKrs.mono st p2⟩
end
section
variable {X:Cx} {pins:List (Addr×Obj)} {U:St} {H:Hp} {s:Shared}
mutual
theorem zkw (I:Inv X pins U H s):∀{k:NK} {x:V} {u:Value},NKr H k x->RelV x u->NKv s.heap k u
 | .i n,x,u,p,r=>by
  simp only [NKr] at p;subst p
  obtain ⟨t,rfl⟩:=r
  simp only [NKv];exact ⟨t,rfl⟩
 | .t ks,x,u,p,r=>by
  simp only [NKr] at p
  obtain ⟨a,ys,rfl,p1,p2⟩:=p
  cases r
  obtain ⟨its,r1,t1,_⟩:=I.tuple (.of p1)
  simp only [NKv]
  exact ⟨a,its.toArray,rfl,t1,zmu I p2 r1⟩
theorem zmu (I:Inv X pins U H s):∀{ks:List NK} {xs:List V} {us:List Value},NKrs H ks xs->Vals xs us->NKvs s.heap ks us
 | [],_,_,p,r=>by simp only [NKrs] at p;subst p;cases r;simp only [NKvs]
 | k::ks,_,_,p,r=>by
  simp only [NKrs] at p
  obtain ⟨v,q,rfl,p1,p2⟩:=p
  cases r with
  | cons a1 a2=>
   simp only [NKvs]
   exact ⟨_,_,rfl,zkw I p1 a1,zmu I p2 a2⟩
end
end
def KL (K:Frag) (a:Addr) (xs:List V):Prop:=∃(o:Obj) (its:Array Value) (n:Nat),K.lookup a=some o/\o.cls=.type "list"/\o.dict=none/\o.data=.seq its n/\its.size<=sizeLine/\Vals xs its.toList
def XO (K:Frag) (c:String) (a:Addr) (od:Option Addr) (o:HO):Prop:=∃C:Addr,PySem.W.nsIn K mainGlobals (c:Str)=some (some (.ref C))/\o=.ext fun h=>∃ob,h.get? a=some ob/\ob.cls=.ref C/\(∃vs,ob.data=.fields vs)/\ob.dict=od
noncomputable def y2q (c:String):List Str:=if c="Fallen" then ["corner"] else if c="Crossed" then ["one","other"] else if c="NotFull" then ["line"] else []
inductive D where
 | non | bl (b:Bool) | int (i:Int) | str (x:Str) | tup (ds:List D) | lst (ds:List D)
 | dk (ks:List Key) (ds:List D) | dt (ks:List (List Key)) (ds:List D) | dn (ks:List NK) (ds:List D) | scr (ns:List Int) | exc (c:String) (fs:List D)
def DN (H:Hp) (a:Addr) (qs:List (NK×Addr)):Prop:=(qs.map (·.1)).Nodup/\(∀q∈qs,NKr H q.1 (.ref q.2)/\q.1.dep<=8)/\(a==sysModules)=false/\qs.length<=sizeLine
theorem DN.tk {H H':Hp} {a:Addr} {qs:List (NK×Addr)} (h:DN H a qs) (st:∀a ys,H a=some (.tup ys)->H' a=some (.tup ys)):DN H' a qs:=
 ⟨h.1,fun q hq=>⟨NKr.mono st (h.2.1 q hq).1,(h.2.1 q hq).2⟩,h.2.2⟩
mutual
def RD (K:Frag) (H:Hp):D->V->Prop
 | .non,v=>v=.non
 | .bl b,v=>v=.bl b
 | .int i,v=>v=.int i
 | .str x,v=>v=.str x
 | .tup ds,v=>∃a xs,v=.ref a/\H a=some (.tup xs)/\RDs K H ds xs
 | .lst ds,v=>∃a xs,v=.ref a/\H a=some (.lst xs)/\RDs K H ds xs
 | .dk ks ds,v=>∃a xs,v=.ref a/\H a=some (.dK (ks.zip xs))/\ks.length=xs.length/\RDs K H ds xs
 | .dt ks ds,v=>∃a xs,v=.ref a/\H a=some (.dT (ks.zip xs))/\ks.length=xs.length/\RDs K H ds xs
 | .dn ks ds,v=>∃a qs xs o,v=.ref a/\H a=some (.ext (dnP a qs xs o))/\qs.map (·.1)=ks/\DN H a qs/\RDs K H ds xs
 | .scr ns,v=>∃a,v=.ref a/\((∃o,H a=some (.frz o (.lst (ns.map V.int))))\/KL K a (ns.map V.int))
 | .exc c fs,v=>∃a od o,v=.ref a/\XO K c a od o/\H a=some o/\(fs=[]\/∃(dx:Addr) (ns:List Int) (ob:Obj),od=some dx/\H dx=some (.frz ob (.xd ((y2q c).zip (ns.map V.int))))/\fs=ns.map D.int)
def RDs (K:Frag) (H:Hp):List D->List V->Prop
 | [],xs=>xs=[]
 | d::ds,xs=>∃x r,xs=x::r/\RD K H d x/\RDs K H ds r
end
mutual
noncomputable def D.noL:D->Bool
 | .lst _=>false
 | .dk _ _=>false
 | .dt _ _=>false
 | .dn _ _=>false
 | .tup ds=>z2g ds
 | _=>true
noncomputable def z2g:List D->Bool
 | []=>true
 | d::ds=>d.noL&&z2g ds
end
mutual
noncomputable def D.pl:D->Bool
 | .dk _ _=>false
 | .dt _ _=>false
 | .dn _ _=>false
 | .scr _=>false
 | .exc _ _=>false
 | .tup ds=>pls ds
 | .lst ds=>pls ds
 | _=>true
noncomputable def pls:List D->Bool
 | []=>true
 | d::ds=>d.pl&&pls ds
end
noncomputable def D.shal:D->Bool
 | .lst ds=>z2g ds
 | .dk _ ds=>z2g ds
 | .dt _ ds=>z2g ds
 | .dn _ ds=>z2g ds
 | d=>d.noL
def Imm:HO->Prop
 | .tup _=>True
 | .frz _ _=>True
 | .ext φ=>∀a qs xs o,φ≠dnP a qs xs o
 | _=>False
theorem XO.imm {K:Frag} {c:String} {a:Addr} {od:Option Addr} {o:HO} (h:XO K c a od o):Imm o:=by
 obtain ⟨C,_,rfl⟩:=h
 intro b qs xs o0 e
 obtain ⟨ob,hob⟩:∃ob:Obj,ob={ cls:=.ref C,dict:=od,data:=.fields #[] }:=⟨_,rfl⟩
 have hg:∀(i:Nat) (o:Obj),({ objs:=Array.replicate (a+1) ob }:Heap).get? i=some o->o=ob:=fun i o q=>by
  by_cases hi:i<a+1
  . have z:({ objs:=Array.replicate (a+1) ob }:Heap).get? i=some ob:=by
     unfold Heap.get?
     rw [Array.getElem?_replicate,if_pos hi,hob]
    rw [z] at q;cases q;rfl
  . unfold Heap.get? at q
    rw [Array.getElem?_replicate,if_neg hi] at q;cases q
 have h1:(fun h:Heap=>∃ob,h.get? a=some ob/\ob.cls=.ref C/\(∃vs,ob.data=.fields vs)/\ob.dict=od) { objs:=Array.replicate (a+1) ob }:=by
  refine ⟨ob,?_,by rw [hob],⟨#[],by rw [hob]⟩,by rw [hob]⟩
  unfold Heap.get?
  rw [Array.getElem?_replicate,if_pos (Nat.lt_succ_self a),hob]
 rw [e] at h1
 obtain ⟨g,vs,es,ep,_,_,_,d,_⟩:=h1
 rw [hg _ _ g,hob] at d
 cases d
def TK (H H':Hp):Prop:=∀a o,Imm o->H a=some o->H' a=some o
section
variable {K:Frag} {H H':Hp}
mutual
theorem RD.tk (hs:TK H H'):∀{d:D} {v:V},d.noL=true->RD K H d v->RD K H' d v
 | .non,_,_,h=>by simp only [RD] at h ⊢;exact h
 | .bl _,_,_,h=>by simp only [RD] at h ⊢;exact h
 | .int _,_,_,h=>by simp only [RD] at h ⊢;exact h
 | .str _,_,_,h=>by simp only [RD] at h ⊢;exact h
 | .tup ds,_,n,h=>by
  simp only [RD] at h ⊢
  obtain ⟨a,xs,e,h1,h2⟩:=h
  exact ⟨a,xs,e,hs _ _ trivial h1,RDs.tk hs (by simpa only [D.noL] using n) h2⟩
 | .lst ds,_,n,h=>by simp [D.noL] at n
 | .dk _ ds,_,n,h=>by simp [D.noL] at n
 | .dt _ ds,_,n,h=>by simp [D.noL] at n
 | .dn _ ds,_,n,h=>by simp [D.noL] at n
 | .exc c fs,_,n,h=>by
  simp only [RD] at h ⊢
  obtain ⟨a,od,o,e,h1,h2,h3⟩:=h
  refine ⟨a,od,o,e,h1,hs _ _ h1.imm h2,?_⟩
  rcases h3 with h3 | ⟨dx,xs,ob,q1,q2,q3⟩
  . exact .inl h3
  . exact .inr ⟨dx,xs,ob,q1,hs _ _ trivial q2,q3⟩
 | .scr ns,_,n,h=>by
  simp only [RD] at h ⊢
  obtain ⟨a,e,h1⟩:=h
  refine ⟨a,e,?_⟩
  rcases h1 with ⟨o,h1⟩ | h1
  . exact .inl ⟨o,hs _ _ trivial h1⟩
  . exact .inr h1
theorem RDs.tk (hs:TK H H'):∀{ds:List D} {xs:List V},z2g ds=true->RDs K H ds xs->RDs K H' ds xs
 | [],_,_,h=>by simp only [RDs] at h ⊢;exact h
 | d::ds,_,n,h=>by
  simp only [RDs] at h ⊢
  simp only [z2g,Bool.and_eq_true] at n
  obtain ⟨x,r,e,h1,h2⟩:=h
  exact ⟨x,r,e,RD.tk hs n.1 h1,RDs.tk hs n.2 h2⟩
end
mutual
theorem RD.mono (hs:Same H H'):∀{d:D} {v:V},RD K H d v->RD K H' d v
 | .non,_,h=>by simp only [RD] at h ⊢;exact h
 | .bl _,_,h=>by simp only [RD] at h ⊢;exact h
 | .int _,_,h=>by simp only [RD] at h ⊢;exact h
 | .str _,_,h=>by simp only [RD] at h ⊢;exact h
 | .tup ds,_,h=>by
  simp only [RD] at h ⊢
  obtain ⟨a,xs,e,h1,h2⟩:=h
  exact ⟨a,xs,e,hs _ _ h1,RDs.mono hs h2⟩
 | .lst ds,_,h=>by
  simp only [RD] at h ⊢
  obtain ⟨a,xs,e,h1,h2⟩:=h
  exact ⟨a,xs,e,hs _ _ h1,RDs.mono hs h2⟩
 | .dk _ ds,_,h=>by
  simp only [RD] at h ⊢
  obtain ⟨a,xs,e,h1,hl,h2⟩:=h
  exact ⟨a,xs,e,hs _ _ h1,hl,RDs.mono hs h2⟩
 | .dn _ ds,_,h=>by
  simp only [RD] at h ⊢
  obtain ⟨a,qs,xs,o,e,h1,hk,hd,h2⟩:=h
  exact ⟨a,qs,xs,o,e,hs _ _ h1,hk,hd.tk fun b ys q=>hs _ _ q,RDs.mono hs h2⟩
 | .dt _ ds,_,h=>by
  simp only [RD] at h ⊢
  obtain ⟨a,xs,e,h1,hl,h2⟩:=h
  exact ⟨a,xs,e,hs _ _ h1,hl,RDs.mono hs h2⟩
 | .exc c fs,_,h=>by
  simp only [RD] at h ⊢
  obtain ⟨a,od,o,e,h1,h2,h3⟩:=h
  refine ⟨a,od,o,e,h1,hs _ _ h2,?_⟩
  rcases h3 with h3 | ⟨dx,xs,ob,q1,q2,q3⟩
  . exact .inl h3
  . exact .inr ⟨dx,xs,ob,q1,hs _ _ q2,q3⟩
 | .scr ns,_,h=>by
  simp only [RD] at h ⊢
  obtain ⟨a,e,h1⟩:=h
  refine ⟨a,e,?_⟩
  rcases h1 with ⟨o,h1⟩ | h1
  . exact .inl ⟨o,hs _ _ h1⟩
  . exact .inr h1
theorem RDs.mono (hs:Same H H'):∀{ds:List D} {xs:List V},RDs K H ds xs->RDs K H' ds xs
 | [],_,h=>by simp only [RDs] at h ⊢;exact h
 | d::ds,_,h=>by
  simp only [RDs] at h ⊢
  obtain ⟨x,r,e,h1,h2⟩:=h
  exact ⟨x,r,e,RD.mono hs h1,RDs.mono hs h2⟩
end
theorem RDs.length:∀{ds:List D} {xs:List V},RDs K H ds xs->ds.length=xs.length
 | [],_,h=>by simp only [RDs] at h;subst h;rfl
 | d::ds,_,h=>by
  simp only [RDs] at h
  obtain ⟨x,r,rfl,_,h2⟩:=h
  simp [RDs.length h2]
theorem RDs.get:∀{ds:List D} {xs:List V} {i:Nat} {x:V},RDs K H ds xs->xs[i]?=some x->∃d,ds[i]?=some d/\RD K H d x
 | [],_,i,x,h,e=>by simp only [RDs] at h;subst h;simp at e
 | d::ds,_,i,x,h,e=>by
  simp only [RDs] at h
  obtain ⟨y,r,rfl,h1,h2⟩:=h
  cases i with
  | zero=>simp at e;subst e;exact ⟨d,rfl,h1⟩
  | succ i=>simp at e;obtain ⟨d',e1,e2⟩:=RDs.get h2 e;exact ⟨d',by simpa using e1,e2⟩
theorem RDs.get':∀{ds:List D} {xs:List V} {i:Nat} {d:D},RDs K H ds xs->ds[i]?=some d->∃x,xs[i]?=some x/\RD K H d x
 | [],_,i,d,h,e=>by simp at e
 | d'::ds,_,i,d,h,e=>by
  simp only [RDs] at h
  obtain ⟨y,r,rfl,h1,h2⟩:=h
  cases i with
  | zero=>simp at e;subst e;exact ⟨y,rfl,h1⟩
  | succ i=>simp at e;obtain ⟨x',e1,e2⟩:=RDs.get' h2 e;exact ⟨x',by simpa using e1,e2⟩
theorem RDs.append:∀{ds es:List D} {xs ys:List V},RDs K H ds xs->RDs K H es ys->RDs K H (ds++es) (xs++ys)
 | [],_,_,_,h,h'=>by simp only [RDs] at h;subst h;exact h'
 | d::ds,es,_,ys,h,h'=>by
  simp only [RDs] at h
  obtain ⟨x,r,rfl,h1,h2⟩:=h
  simp only [List.cons_append,RDs]
  exact ⟨x,r++ys,rfl,h1,RDs.append h2 h'⟩
theorem RDs.nil:RDs K H [] []:=by simp only [RDs]
theorem RDs.cons {d:D} {x:V} {ds:List D} {xs:List V} (h:RD K H d x) (h':RDs K H ds xs):RDs K H (d::ds) (x::xs):=by simp only [RDs];exact ⟨x,xs,rfl,h,h'⟩
theorem RDs.one {d:D} {x:V} (h:RD K H d x):RDs K H [d] [x]:=.cons h .nil
theorem RDs.take:∀{ds:List D} {xs:List V} (n:Nat),RDs K H ds xs->RDs K H (ds.take n) (xs.take n)
 | _,_,0,_=>by simp [RDs]
 | [],_,n+1,h=>by simp only [RDs] at h;subst h;simp [RDs]
 | d::ds,_,n+1,h=>by
  simp only [RDs] at h
  obtain ⟨x,r,rfl,h1,h2⟩:=h
  simp only [List.take_succ_cons]
  exact .cons h1 (RDs.take n h2)
theorem RDs.drop:∀{ds:List D} {xs:List V} (n:Nat),RDs K H ds xs->RDs K H (ds.drop n) (xs.drop n)
 | _,_,0,h=>h
 | [],_,n+1,h=>by simp only [RDs] at h;subst h;simp [RDs]
 | d::ds,_,n+1,h=>by
  simp only [RDs] at h
  obtain ⟨x,r,rfl,h1,h2⟩:=h
  exact RDs.drop n h2
theorem RDs.set:∀{ds:List D} {xs:List V} (n:Nat) {d:D} {x:V},RDs K H ds xs->RD K H d x->RDs K H (ds.set n d) (xs.set n x)
 | [],_,n,_,_,h,_=>by simp only [RDs] at h;subst h;simp [RDs]
 | d::ds,_,0,_,_,h,h'=>by
  simp only [RDs] at h
  obtain ⟨x,r,rfl,h1,h2⟩:=h
  exact .cons h' h2
 | d::ds,_,n+1,_,_,h,h'=>by
  simp only [RDs] at h
  obtain ⟨x,r,rfl,h1,h2⟩:=h
  exact .cons h1 (RDs.set n h2 h')
theorem RDs.ofInts:∀(ns:List Int),RDs K H (ns.map D.int) (ns.map V.int)
 | []=>by simp only [List.map,RDs]
 | n::ns=>by
  simp only [List.map]
  exact RDs.cons (by simp only [RD]) (RDs.ofInts ns)
end
mutual
noncomputable def eqD:D->D->Bool
 | .non,.non=>true
 | .bl a,.bl b=>a==b
 | .bl a,.int j=>(if a then 1 else 0)==j
 | .int i,.bl b=>i==(if b then 1 else 0)
 | .int i,.int j=>i==j
 | .str a,.str b=>a==b
 | .tup ds,.tup es=>z69 ds es
 | .lst ds,.lst es=>z69 ds es
 | _,_=>false
noncomputable def z69:List D->List D->Bool
 | [],[]=>true
 | d::ds,e::es=>eqD d e&&z69 ds es
 | _,_=>false
end
mutual
noncomputable def D.dep:D->Nat
 | .tup ds=>z4a ds+1
 | .lst ds=>z4a ds+1
 | _=>0
noncomputable def z4a:List D->Nat
 | []=>0
 | d::ds=>max d.dep (z4a ds)
end
mutual
theorem zdj:∀d:D,d.pl=true->eqD d d=true
 | .non,_=>rfl
 | .bl b,_=>by simp [eqD]
 | .int b,_=>by simp [eqD]
 | .str b,_=>by simp [eqD]
 | .tup ds,h=>by simp only [eqD];exact z6s ds (by simpa only [D.pl] using h)
 | .lst ds,h=>by simp only [eqD];exact z6s ds (by simpa only [D.pl] using h)
 | .dk _ _,h=>by simp [D.pl] at h
 | .dt _ _,h=>by simp [D.pl] at h
 | .dn _ _,h=>by simp [D.pl] at h
 | .scr _,h=>by simp [D.pl] at h
 | .exc _ _,h=>by simp [D.pl] at h
theorem z6s:∀ds:List D,pls ds=true->z69 ds ds=true
 | [],_=>rfl
 | d::ds,h=>by
  simp only [pls,Bool.and_eq_true] at h
  simp only [z69,zdj d h.1,z6s ds h.2,Bool.and_self]
end
mutual
theorem RD.inj {K:Frag} {H:Hp}:∀{d e:D} {v:V},d.pl=true->e.pl=true->RD K H d v->RD K H e v->d=e
 | .non,e,v,_,p,h,h'=>by
  simp only [RD] at h;subst h
  cases e<;>simp only [RD] at h'<;>first | (exfalso;simp [D.pl] at p;done) | rfl | (cases h';done) | (obtain ⟨a,xs,z,_⟩:=h';cases z)
 | .bl b,e,v,_,p,h,h'=>by
  simp only [RD] at h;subst h
  cases e<;>simp only [RD] at h'<;>first | (exfalso;simp [D.pl] at p;done) | (cases h';rfl) | (cases h';done) | (obtain ⟨a,xs,z,_⟩:=h';cases z)
 | .int b,e,v,_,p,h,h'=>by
  simp only [RD] at h;subst h
  cases e<;>simp only [RD] at h'<;>first | (exfalso;simp [D.pl] at p;done) | (cases h';rfl) | (cases h';done) | (obtain ⟨a,xs,z,_⟩:=h';cases z)
 | .str b,e,v,_,p,h,h'=>by
  simp only [RD] at h;subst h
  cases e<;>simp only [RD] at h'<;>first | (exfalso;simp [D.pl] at p;done) | (cases h';rfl) | (cases h';done) | (obtain ⟨a,xs,z,_⟩:=h';cases z)
 | .dk _ _,e,v,p,_,h,h'=>by simp [D.pl] at p
 | .dt _ _,e,v,p,_,h,h'=>by simp [D.pl] at p
 | .dn _ _,e,v,p,_,h,h'=>by simp [D.pl] at p
 | .scr _,e,v,p,_,h,h'=>by simp [D.pl] at p
 | .exc _ _,e,v,p,_,h,h'=>by simp [D.pl] at p
 | .tup ds,e,v,p,p',h,h'=>by
  simp only [RD] at h
  obtain ⟨a,xs,rfl,h1,h2⟩:=h
  cases e<;>simp only [RD] at h'
  case tup es=>
   obtain ⟨b,ys,z,h3,h4⟩:=h'
   cases z
   rw [h1] at h3;cases h3
   rw [RDs.inj (by simpa only [D.pl] using p) (by simpa only [D.pl] using p') h2 h4]
  case lst es=>
   obtain ⟨b,ys,z,h3,h4⟩:=h'
   cases z
   rw [h1] at h3;cases h3
  all_goals first | (exfalso;simp [D.pl] at p';done) | cases h'
 | .lst ds,e,v,p,p',h,h'=>by
  simp only [RD] at h
  obtain ⟨a,xs,rfl,h1,h2⟩:=h
  cases e<;>simp only [RD] at h'
  case tup es=>
   obtain ⟨b,ys,z,h3,h4⟩:=h'
   cases z
   rw [h1] at h3;cases h3
  case lst es=>
   obtain ⟨b,ys,z,h3,h4⟩:=h'
   cases z
   rw [h1] at h3;cases h3
   rw [RDs.inj (by simpa only [D.pl] using p) (by simpa only [D.pl] using p') h2 h4]
  all_goals first | (exfalso;simp [D.pl] at p';done) | cases h'
theorem RDs.inj {K:Frag} {H:Hp}:∀{ds es:List D} {xs:List V},pls ds=true->pls es=true->RDs K H ds xs->RDs K H es xs->ds=es
 | [],es,xs,_,_,h,h'=>by
  simp only [RDs] at h;subst h
  cases es<;>simp only [RDs] at h'
  . rfl
  . obtain ⟨x,r,z,_⟩:=h';cases z
 | d::ds,es,xs,p,p',h,h'=>by
  simp only [RDs] at h
  obtain ⟨x,r,rfl,h1,h2⟩:=h
  simp only [pls,Bool.and_eq_true] at p
  cases es with
  | nil=>simp only [RDs] at h';cases h'
  | cons e es=>
   simp only [RDs] at h'
   obtain ⟨y,r',z,h3,h4⟩:=h'
   cases z
   simp only [pls,Bool.and_eq_true] at p'
   rw [RD.inj p.1 p'.1 h1 h3,RDs.inj p.2 p'.2 h2 h4]
end
theorem zbx:∀{ds:List D} {d:D},pls ds=true->d∈ds->d.pl=true
 | e::ds,d,h,m=>by
  simp only [pls,Bool.and_eq_true] at h
  rcases List.mem_cons.mp m with rfl | m
  . exact h.1
  . exact zbx h.2 m
theorem z8j:∀{ds:List D} {d:D},d∈ds->d.dep<=z4a ds
 | d'::ds,d,h=>by
  simp only [z4a]
  rcases List.mem_cons.mp h with rfl | h
  . lia
  . have:=z8j h;lia
theorem z8k:∀{ds es:List D},ds.length=es.length->z69 ds es=(List.range ds.length).all fun j=>eqD (ds.getD j .non) (es.getD j .non)
 | [],[],_=>rfl
 | [],_::_,h=>by simp at h
 | _::_,[],h=>by simp at h
 | d::ds,e::es,h=>by
  simp only [z69,List.length_cons]
  rw [z8k (by simpa using h),List.range_succ_eq_map,List.all_cons,List.all_map]
  rfl
theorem z8l:∀{ds es:List D},ds.length≠es.length->z69 ds es=false
 | [],[],h=>absurd rfl h
 | [],_::_,_=>rfl
 | _::_,[],_=>rfl
 | d::ds,e::es,h=>by
  simp only [z69]
  rw [z8l (by intro z;exact h (by simp [z])),Bool.and_false]
section
variable {X:Cx} {pins:List (Addr×Obj)} {U:St} {H:Hp} {s:Shared}
theorem Inv.tupA (I:Inv X pins U H s) {a:Addr} {xs:List V} (h:H a=some (.tup xs)):∃its:List Value,Vals xs its/\s.heap.IsTuple a its.toArray:=by
 obtain ⟨its,r,t,_⟩:=I.tuple (.of h)
 exact ⟨its,r,t⟩
theorem Inv.lstA (I:Inv X pins U H s) {a:Addr} {xs:List V} (h:H a=some (.lst xs)):∃its:List Value,Vals xs its/\s.heap.IsList a its.toArray:=by
 obtain ⟨its,r,t,_⟩:=I.list (.of h)
 exact ⟨its,r,t.isList⟩
inductive Shp (X:Cx) (H:Hp) (s:Shared):D->V->Value->Prop
 | non:Shp X H s .non .non .none
 | bl (b:Bool):Shp X H s (.bl b) (.bl b) (.bool b)
 | int (i:Int) (t:Tok):Shp X H s (.int i) (.int i) (.int i t)
 | str (c:Str) (t:Tok):Shp X H s (.str c) (.str c) (.str c t)
 | tup {ds:List D} {a:Addr} {xs:List V} {its:List Value} (p:pls ds=true) (h:H a=some (.tup xs)) (q:RDs X.K H ds xs) (r:Vals xs its) (t:s.heap.IsTuple a its.toArray):Shp X H s (.tup ds) (.ref a) (.ref a)
 | lst {ds:List D} {a:Addr} {xs:List V} {its:List Value} (p:pls ds=true) (h:H a=some (.lst xs)) (q:RDs X.K H ds xs) (r:Vals xs its) (t:s.heap.IsList a its.toArray):Shp X H s (.lst ds) (.ref a) (.ref a)
theorem shp (I:Inv X pins U H s) {d:D} {x:V} {u:Value} (p:d.pl=true) (h:RD X.K H d x) (r:RelV x u):Shp X H s d x u:=by
 cases d<;>simp only [RD] at h<;>first | (exfalso;simp [D.pl] at p;done) | skip
 . subst h;cases r;exact .non
 . subst h;cases r;exact .bl _
 . subst h;obtain ⟨t,rfl⟩:=r;exact .int _ _
 . subst h;obtain ⟨t,rfl⟩:=r;exact .str _ _
 . obtain ⟨a,xs,rfl,h1,h2⟩:=h
   cases r
   obtain ⟨its,v,t⟩:=I.tupA h1
   exact .tup (by simpa only [D.pl] using p) h1 h2 v t
 . obtain ⟨a,xs,rfl,h1,h2⟩:=h
   cases r
   obtain ⟨its,v,t⟩:=I.lstA h1
   exact .lst (by simpa only [D.pl] using p) h1 h2 v t
def zzi (X:Cx) (H:Hp) (s:Shared) (A:Around) (n:Nat):Prop:=∀{d e:D} {x y:V} {u v:Value},d.pl=true->e.pl=true->d.dep<=n->RD X.K H d x->RD X.K H e y->RelV x u->RelV y v->SeqAt.EqAt A s u v (eqD d e)
theorem zgs {A:Around} {n:Nat} (ih:zzi X H s A n) {ds es:List D} {xs ys:List V} {its its2:List Value} (pd:pls ds=true) (pe:pls es=true) (hdn:z4a ds<=n) (hxs:RDs X.K H ds xs) (hys:RDs X.K H es ys) (r:Vals xs its) (r2:Vals ys its2) (j:Nat)
  (h1:j<its.toArray.size) (h2:j<its2.toArray.size):SeqAt.EqAt A s its.toArray[j] its2.toArray[j] (eqD (ds.getD j .non) (es.getD j .non)):=by
 have h1':j<its.length:=by simpa using h1
 have h2':j<its2.length:=by simpa using h2
 have l1:=r.length
 have l2:=r2.length
 obtain ⟨u1,e1,q1⟩:=r.get (i:=j) (x:=xs[j]'(by lia)) (by simp)
 obtain ⟨u2,e2,q2⟩:=r2.get (i:=j) (x:=ys[j]'(by lia)) (by simp)
 obtain ⟨d1,g1,w1⟩:=hxs.get (i:=j) (x:=xs[j]'(by lia)) (by simp)
 obtain ⟨d2,g2,w2⟩:=hys.get (i:=j) (x:=ys[j]'(by lia)) (by simp)
 have ea:its.toArray[j]=u1:=by
  rw [List.getElem?_eq_getElem h1'] at e1;simpa using e1
 have eb:its2.toArray[j]=u2:=by
  rw [List.getElem?_eq_getElem h2'] at e2;simpa using e2
 have ga:ds.getD j .non=d1:=by rw [List.getD_eq_getElem?_getD,g1];rfl
 have gb:es.getD j .non=d2:=by rw [List.getD_eq_getElem?_getD,g2];rfl
 rw [ea,eb,ga,gb]
 exact ih (zbx pd (List.mem_of_getElem? g1)) (zbx pe (List.mem_of_getElem? g2)) (Nat.le_trans (z8j (List.mem_of_getElem? g1)) hdn) w1 w2 q1 q2
theorem zpg {ds es:List D} {xs ys:List V} {its its2:List Value} (hxs:RDs X.K H ds xs) (hys:RDs X.K H es ys) (r:Vals xs its) (r2:Vals ys its2) :
  ((List.range (min its.toArray.size its2.toArray.size)).all (fun j=>eqD (ds.getD j .non) (es.getD j .non))&&its.toArray.size==its2.toArray.size)=z69 ds es:=by
 have lx:=hxs.length;have ly:=hys.length;have l1:=r.length;have l2:=r2.length
 simp only [List.size_toArray]
 by_cases hl:ds.length=es.length
 . rw [z8k hl]
   have:its.length=its2.length:=by lia
   rw [this,Nat.min_self,show its2.length=ds.length by lia]
   simp
 . rw [z8l hl]
   have:(its.length==its2.length)=false:=by simp;lia
   rw [this,Bool.and_false]
theorem zph {ds es:List D} {xs ys:List V} {its its2:List Value} (hxs:RDs X.K H ds xs) (hys:RDs X.K H es ys) (r:Vals xs its) (r2:Vals ys its2) (hl:ds.length=es.length) :
  ((List.range its.toArray.size).all fun j=>eqD (ds.getD j .non) (es.getD j .non))=z69 ds es:=by
 have lx:=hxs.length;have ly:=hys.length;have l1:=r.length;have l2:=r2.length
 rw [z8k hl,List.size_toArray,show its.length=ds.length by lia]
theorem y2r {A:Around} {n:Nat} (hu:A.units<cLine) (ih:zzi X H s A.in1 n) {d e:D} {x y:V} {u v:Value} (hn:d.dep<=n+1) (sx:Shp X H s d x u) (sy:Shp X H s e y v):SeqAt.RcAt A s u v (eqD d e)/\SeqAt.RcNeAt A s u v (!eqD d e):=by
 cases sx with
 | non=>cases sy with
  | non=>exact ⟨.none_none,.none_none⟩
  | bl _=>exact ⟨.none_bool _,.none_bool _⟩
  | int _ _=>exact ⟨.none_int _ _,.none_int _ _⟩
  | str _ _=>exact ⟨.none_str _ _,.none_str _ _⟩
  | tup p2 h2 q2 r2 t2=>exact ⟨.none_tuple t2 hu,.none_tuple t2 hu⟩
  | lst p2 h2 q2 r2 t2=>exact ⟨.none_list t2 hu,.none_list t2 hu⟩
 | bl _=>cases sy with
  | non=>exact ⟨.bool_none _,.bool_none _⟩
  | bl _=>exact ⟨.bool_bool _ _,.bool_bool _ _⟩
  | int _ _=>exact ⟨.bool_int _ _ _,.bool_int _ _ _⟩
  | str _ _=>exact ⟨.bool_str _ _ _,.bool_str _ _ _⟩
  | tup p2 h2 q2 r2 t2=>exact ⟨.bool_tuple _ t2 hu,.bool_tuple _ t2 hu⟩
  | lst p2 h2 q2 r2 t2=>exact ⟨.bool_list _ t2 hu,.bool_list _ t2 hu⟩
 | int _ _=>cases sy with
  | non=>exact ⟨.int_none _ _,.int_none _ _⟩
  | bl _=>exact ⟨.int_bool _ _ _,.int_bool _ _ _⟩
  | int _ _=>exact ⟨.int_int _ _ _ _,.int_int _ _ _ _⟩
  | str _ _=>exact ⟨.int_str _ _ _ _,.int_str _ _ _ _⟩
  | tup p2 h2 q2 r2 t2=>exact ⟨.int_tuple _ _ t2 hu,.int_tuple _ _ t2 hu⟩
  | lst p2 h2 q2 r2 t2=>exact ⟨.int_list _ _ t2 hu,.int_list _ _ t2 hu⟩
 | str _ _=>cases sy with
  | non=>exact ⟨.str_none _ _,.str_none _ _⟩
  | bl _=>exact ⟨.str_bool _ _ _,.str_bool _ _ _⟩
  | int _ _=>exact ⟨.str_int _ _ _ _,.str_int _ _ _ _⟩
  | str _ _=>exact ⟨.str_str _ _ _ _,.str_str _ _ _ _⟩
  | tup p2 h2 q2 r2 t2=>exact ⟨.str_tuple _ _ t2 hu,.str_tuple _ _ t2 hu⟩
  | lst p2 h2 q2 r2 t2=>exact ⟨.str_list _ _ t2 hu,.str_list _ _ t2 hu⟩
 | tup p h q r t=>cases sy with
  | non=>exact ⟨.tuple_none t hu,.tuple_none t hu⟩
  | bl _=>exact ⟨.tuple_bool _ t hu,.tuple_bool _ t hu⟩
  | int _ _=>exact ⟨.tuple_int _ _ t hu,.tuple_int _ _ t hu⟩
  | str _ _=>exact ⟨.tuple_str _ _ t hu,.tuple_str _ _ t hu⟩
  | tup p2 h2 q2 r2 t2 => 
   simp only [D.dep] at hn
   have z:=zgs ih p p2 (Nat.le_of_succ_le_succ hn) q q2 r r2
   simp only [eqD]
   rw [<-zpg q q2 r r2]
   exact ⟨.tuples t t2 hu z,.tuples t t2 hu z⟩
  | lst p2 h2 q2 r2 t2=>exact ⟨.tuple_list t t2 hu,.tuple_list t t2 hu⟩
 | lst p h q r t=>cases sy with
  | non=>exact ⟨.list_none t hu,.list_none t hu⟩
  | bl _=>exact ⟨.list_bool _ t hu,.list_bool _ t hu⟩
  | int _ _=>exact ⟨.list_int _ _ t hu,.list_int _ _ t hu⟩
  | str _ _=>exact ⟨.list_str _ _ t hu,.list_str _ _ t hu⟩
  | tup p2 h2 q2 r2 t2=>exact ⟨.list_tuple t t2 hu,.list_tuple t t2 hu⟩
  | lst p2 h2 q2 r2 t2 => 
   rename_i ds _ xs its es _ ys its2
   simp only [D.dep] at hn
   have z:=zgs ih p p2 (Nat.le_of_succ_le_succ hn) q q2 r r2
   have lx:=q.length;have ly:=q2.length;have l1:=r.length;have l2:=r2.length
   simp only [eqD]
   by_cases hl:ds.length=es.length
   . have hsz:its.toArray.size=its2.toArray.size:=by simp;lia
     rw [<-zph q q2 r r2 hl]
     exact ⟨.lists t t2 hsz hu z,.lists t t2 hsz hu z⟩
   . have hsz:(its.toArray.size != its2.toArray.size)=true:=by simp;lia
     rw [z8l hl]
     exact ⟨.lists_lengths t t2 hsz hu,.lists_lengths t t2 hsz hu⟩
theorem zdk (I:Inv X pins U H s):∀(n:Nat) {A:Around} {d e:D} {x y:V} {u v:Value},d.pl=true->e.pl=true->d.dep<=n->A.units+n<cLine->RD X.K H d x->RD X.K H e y->RelV x u->RelV y v->SeqAt.EqAt A s u v (eqD d e):=by
 have key:∀(n:Nat) {A:Around} {d e:D} {x y:V} {u v:Value},A.units<cLine->(∀m,m+1=n->zzi X H s A.in1 m)->d.pl=true->e.pl=true->d.dep<=n->RD X.K H d x->RD X.K H e y->RelV x u->RelV y v->SeqAt.EqAt A s u v (eqD d e):=by
  intro n A d e x y u v hu ih hpd hpe hn hx hy ru rv
  have sx:=shp I hpd hx ru
  have sy:=shp I hpe hy rv
  have back:∀{a b:Addr},u=.ref a->v=.ref b->x=.ref a->y=.ref b->1<=d.dep->SeqAt.EqAt A s u v (eqD d e):=fun {a b} eu ev ex ey h1=>by
   subst eu ev ex ey
   by_cases hab:a=b
   . subst hab
     rw [RD.inj hpd hpe hx hy,zdj _ hpe]
     exact .same _
   . exact .of_refs hab (y2r (n:=n - 1) hu (ih (n - 1) (by lia)) (by lia) sx sy).1
  cases sx with
  | non=>cases sy with
   | non=>exact .same _
   | bl _=>exact .none_bool _
   | int _ _=>exact .none_int _ _
   | str _ _=>exact .none_str _ _
   | tup p2 h2 q2 r2 t2=>exact .none_tuple t2 hu
   | lst p2 h2 q2 r2 t2=>exact .none_list t2 hu
  | bl _=>cases sy with
   | non=>exact .bool_none _
   | bl _=>exact .bool_bool _ _
   | int _ _=>exact .bool_int _ _ _
   | str _ _=>exact .bool_str _ _ _
   | tup p2 h2 q2 r2 t2=>exact .bool_tuple _ t2 hu
   | lst p2 h2 q2 r2 t2=>exact .bool_list _ t2 hu
  | int _ _=>cases sy with
   | non=>exact .int_none _ _
   | bl _=>exact .int_bool _ _ _
   | int _ _=>exact .int_int _ _ _ _
   | str _ _=>exact .int_str _ _ _ _
   | tup p2 h2 q2 r2 t2=>exact .int_tuple _ _ t2 hu
   | lst p2 h2 q2 r2 t2=>exact .int_list _ _ t2 hu
  | str _ _=>cases sy with
   | non=>exact .str_none _ _
   | bl _=>exact .str_bool _ _ _
   | int _ _=>exact .str_int _ _ _ _
   | str _ _=>exact .str_str _ _ _ _
   | tup p2 h2 q2 r2 t2=>exact .str_tuple _ _ t2 hu
   | lst p2 h2 q2 r2 t2=>exact .str_list _ _ t2 hu
  | tup p h q r t=>cases sy with
   | non=>exact .tuple_none t hu
   | bl _=>exact .tuple_bool _ t hu
   | int _ _=>exact .tuple_int _ _ t hu
   | str _ _=>exact .tuple_str _ _ t hu
   | tup p2 h2 q2 r2 t2=>exact back rfl rfl rfl rfl (by simp only [D.dep];exact Nat.succ_pos _)
   | lst p2 h2 q2 r2 t2=>exact .tuple_list t t2 hu
  | lst p h q r t=>cases sy with
   | non=>exact .list_none t hu
   | bl _=>exact .list_bool _ t hu
   | int _ _=>exact .list_int _ _ t hu
   | str _ _=>exact .list_str _ _ t hu
   | tup p2 h2 q2 r2 t2=>exact .list_tuple t t2 hu
   | lst p2 h2 q2 r2 t2=>exact back rfl rfl rfl rfl (by simp only [D.dep];exact Nat.succ_pos _)
 intro n
 induction n with
 | zero=>exact fun p q hn hu=>key 0 (by lia) (fun m z=>nomatch z) p q hn
 | succ n ih=>exact fun {A d e x y u v} p q hn hu=>key (n+1) (by lia) (fun m z=>by cases z;exact fun p q hn=>ih p q hn (by show A.units+1+n<cLine;lia)) p q hn
theorem zmv (I:Inv X pins U H s) {n:Nat} {A:Around} {d e:D} {x y:V} {u v:Value} (hpd:d.pl=true) (hpe:e.pl=true) (hn:d.dep<=n) (hu:A.units+1+n<cLine) (hx:RD X.K H d x) (hy:RD X.K H e y) (ru:RelV x u) (rv:RelV y v):SeqAt.RcAt A s u v (eqD d e)/\SeqAt.RcNeAt A s u v (!eqD d e):=
 y2r (n:=n) (by lia) (fun p q h=>zdk I n p q h (by show A.units+1+n<cLine;lia)) (by lia) (shp I hpd hx ru) (shp I hpe hy rv)
end
section
variable {X:Cx}
open Classical in
noncomputable def hitD (K:Frag) (H:Hp) (d:D) (u:Value):Bool:=match y29 u with
 | some v=>decide (∃e,e.pl=true/\RD K H e v/\eqD e d=true)
 | none=>false
open Classical in
theorem zby {K:Frag} {H:Hp} {d e:D} {y:V} {u:Value} (pe:e.pl=true) (r:RelV y u) (h:RD K H e y):hitD K H d u=eqD e d:=by
 unfold hitD
 rw [r.abs]
 dsimp only
 rw [Bool.eq_iff_iff]
 rw [decide_eq_true_iff]
 exact ⟨fun ⟨e',p',h',q⟩=>by rw [RD.inj pe p' h h'];exact q,fun q=>⟨e,pe,h,q⟩⟩
theorem z8m {K:Frag} {H:Hp} {d:D}:∀{es:List D} {xs:List V} {us:List Value},pls es=true->RDs K H es xs->Vals xs us->us.any (hitD K H d)=es.any fun e=>eqD e d
 | [],_,_,_,h,r=>by
  simp only [RDs] at h;subst h;cases r;rfl
 | e::es,_,_,p,h,r=>by
  simp only [RDs] at h
  simp only [pls,Bool.and_eq_true] at p
  obtain ⟨x,xs,rfl,h1,h2⟩:=h
  cases r with
  | cons r1 r2=>rw [List.any_cons,List.any_cons,zby p.1 r1 h1,z8m p.2 h2 r2]
theorem z6t {A:Around} {pins:List (Addr×Obj)} {U:St} {H:Hp} {s:Shared} (I:Inv X pins U H s) (hu:A.units+1+20<cLine) {d:D} {x:V} {v:Value} (pd:d.pl=true) (hx:RD X.K H d x) (rx:RelV x v):∀{es:List D} {xs:List V} {us:List Value},
  pls es=true->RDs X.K H es xs->Vals xs us->z4a es<=20->∀u∈us,SeqAt.EqAt A.in1 s u v (hitD X.K H d u)
 | [],_,_,_,h,r,_=>by
  simp only [RDs] at h;subst h;cases r
  intro u hu;cases hu
 | e::es,_,_,p,h,r,hd=>by
  simp only [RDs] at h
  simp only [pls,Bool.and_eq_true] at p
  obtain ⟨y,xs,rfl,h1,h2⟩:=h
  simp only [z4a] at hd
  cases r with
  | cons r1 r2=>
   intro u hm
   rcases List.mem_cons.mp hm with z | hm
   . subst z
     rw [zby p.1 r1 h1]
     exact zdk I 20 p.1 pd (by lia) (by show A.units+1+20<cLine;lia) h1 hx r1 rx
   . exact z6t I hu pd hx rx p.2 h2 r2 (by lia) u hm
end
structure Ex where
 cls:String
 fs:List D
inductive R (α:Type) where
 | ok (a:α) | er (x:Ex) | st
noncomputable def R.bind {α β:Type} (r:R α) (f:α->R β):R β:=match r with
 | .ok a=>f a
 | .er x=>.er x
 | .st=>.st
def Rk {α:Type} (EX:Ex->Prop) (r:R α) (k:α->Prop):Prop:=match r with
 | .ok a=>k a
 | .er x=>EX x
 | .st=>False
section
variable {α β:Type} {EX:Ex->Prop}
noncomputable def R.of (o:Option α):R α:=match o with
 | some a=>.ok a
 | none=>.st
theorem R.of_some (a:α):R.of (some a)=R.ok a:=rfl
theorem Rk.of {o:Option α} {k:α->Prop} (h:Rk EX (R.of o) k):∃a,o=some a/\k a:=by
 cases o with
 | none=>exact h.elim
 | some a=>exact ⟨a,rfl,h⟩
theorem R.bind_ok (a:α) (f:α->R β):(R.ok a).bind f=f a:=rfl
theorem Rk.bind {r:R α} {f:α->R β} {k:β->Prop}:Rk EX (r.bind f) k=Rk EX r fun a=>Rk EX (f a) k:=by cases r<;>rfl
theorem Rk.mono {r:R α} {k k':α->Prop} (h:Rk EX r k) (hk:∀a,k a->k' a):Rk EX r k':=by
 cases r with
 | ok a=>exact hk a h
 | er x=>exact h
 | st=>exact h
end
def Ext (H0 H H0' H':Hp):Prop:=Same H0 H0'/\Same H0' H'/\∀a,H a≠none->H0 a=none->H0' a=none
theorem Ext.refl {H0 H:Hp} (h:Same H0 H):Ext H0 H H0 H:=⟨Same.refl _,h,fun _ _ e=>e⟩
theorem z6u {α:Type} {o:Option α} {x:α} (h:o=some x):o≠none:=by rw [h];exact fun z=>nomatch z
theorem Same.ne {H H':Hp} (h:Same H H') {a:Addr} (n:H a≠none):H' a≠none:=by
 cases e:H a with
 | none=>exact absurd e n
 | some o=>exact z6u (h a o e)
theorem Ext.trans {H0 H H0' H' H0'' H'':Hp} (s:Same H H') (a:Ext H0 H H0' H') (b:Ext H0' H' H0'' H''):Ext H0 H H0'' H'':=
 ⟨a.1.trans b.1,b.2.1,fun c h1 h2=>b.2.2 c (s.ne h1) (a.2.2 c h1 h2)⟩
theorem Ext.grow {H0 H H0' H' H'':Hp} (a:Ext H0 H H0' H') (s:Same H' H''):Ext H0 H H0' H'':=⟨a.1,a.2.1.trans s,a.2.2⟩
theorem Ext.new {H0 H:Hp} {p:Addr} {o:HO} (h:Same H0 H) (hp:H p=none):Ext H0 H (upd H0 p o) (upd H p o):=by
 have h0:H0 p=none:=by
  cases e:H0 p with
  | none=>rfl
  | some u=>rw [h p u e] at hp;cases hp
 refine ⟨Same.upd_new h0,fun b u e=>?_,fun a h1 h2=>?_⟩
 . by_cases hb:b=p
   . subst hb;rw [z0c] at e ⊢;exact e
   . rw [z0a hb] at e ⊢;exact h b u e
 . have ha:a≠p:=fun z=>h1 (by rw [z];exact hp)
   rw [z0a ha];exact h2
def OB (K:Frag) (H0 H:Hp) (a:Addr):D->Prop
 | .lst ds=>∃xs,H a=some (.lst xs)/\RDs K H0 ds xs
 | .dk ks ds=>∃xs,H a=some (.dK (ks.zip xs))/\ks.length=xs.length/\RDs K H0 ds xs
 | .dt ks ds=>∃xs,H a=some (.dT (ks.zip xs))/\ks.length=xs.length/\RDs K H0 ds xs
 | .dn ks ds=>∃qs xs o,H a=some (.ext (dnP a qs xs o))/\qs.map (·.1)=ks/\DN H0 a qs/\RDs K H0 ds xs
 | _=>False
section
variable {K:Frag} {H0 H H0' H':Hp} {a:Addr} {d:D}
theorem OB.some (h:OB K H0 H a d):∃o,H a=some o/\¬Imm o:=by
 cases d<;>simp only [OB] at h
 . obtain ⟨xs,h,_⟩:=h;exact ⟨_,h,fun z=>z⟩
 . obtain ⟨xs,h,_⟩:=h;exact ⟨_,h,fun z=>z⟩
 . obtain ⟨xs,h,_⟩:=h;exact ⟨_,h,fun z=>z⟩
 . obtain ⟨qs,xs,o,h,_⟩:=h;exact ⟨_,h,fun z=>z _ _ _ _ rfl⟩
theorem OB.mono (h:OB K H0 H a d) (s0:Same H0 H0') (s:Same H H'):OB K H0' H' a d:=by
 cases d<;>simp only [OB] at h ⊢
 . obtain ⟨xs,h,r⟩:=h;exact ⟨_,s _ _ h,r.mono s0⟩
 . obtain ⟨xs,h,l,r⟩:=h;exact ⟨_,s _ _ h,l,r.mono s0⟩
 . obtain ⟨xs,h,l,r⟩:=h;exact ⟨_,s _ _ h,l,r.mono s0⟩
 . obtain ⟨qs,xs,o,h,k,n,r⟩:=h;exact ⟨qs,xs,o,s _ _ h,k,n.tk fun b ys q=>s0 _ _ q,r.mono s0⟩
theorem OB.at (h:OB K H0 H a d) (e:H' a=H a):OB K H0 H' a d:=by
 cases d<;>simp only [OB] at h ⊢
 . obtain ⟨xs,h,r⟩:=h;exact ⟨_,e.trans h,r⟩
 . obtain ⟨xs,h,l,r⟩:=h;exact ⟨_,e.trans h,l,r⟩
 . obtain ⟨xs,h,l,r⟩:=h;exact ⟨_,e.trans h,l,r⟩
 . obtain ⟨qs,xs,o,h,k,n,r⟩:=h;exact ⟨qs,xs,o,e.trans h,k,n,r⟩
theorem OB.tk (h:OB K H0 H a d) (n:d.shal=true) (t:TK H0 H0'):OB K H0' H a d:=by
 cases d<;>simp only [OB,D.shal] at h n ⊢
 . obtain ⟨xs,h,r⟩:=h;exact ⟨_,h,r.tk t n⟩
 . obtain ⟨xs,h,l,r⟩:=h;exact ⟨_,h,l,r.tk t n⟩
 . obtain ⟨xs,h,l,r⟩:=h;exact ⟨_,h,l,r.tk t n⟩
 . obtain ⟨qs,xs,o,h,k,m,r⟩:=h;exact ⟨qs,xs,o,h,k,m.tk fun b ys q=>t _ _ trivial q,r.tk t n⟩
theorem OB.rd (h:OB K H0 H a d) (s0:Same H0 H0') (e:H0' a=H a):RD K H0' d (.ref a):=by
 cases d<;>simp only [OB,RD] at h ⊢
 . obtain ⟨xs,h,r⟩:=h;exact ⟨_,_,rfl,e.trans h,r.mono s0⟩
 . obtain ⟨xs,h,l,r⟩:=h;exact ⟨_,_,rfl,e.trans h,l,r.mono s0⟩
 . obtain ⟨xs,h,l,r⟩:=h;exact ⟨_,_,rfl,e.trans h,l,r.mono s0⟩
 . obtain ⟨qs,xs,o,h,k,n,r⟩:=h;exact ⟨_,qs,xs,o,rfl,e.trans h,k,n.tk fun b ys q=>s0 _ _ q,r.mono s0⟩
end
def Out (K:Frag) (fr:Bool) (H0 H:Hp) (d:D) (v:V) (H':Hp):Prop:=
 Same H H'/\∃H0',Ext H0 H H0' H'/\(if fr=true then ∃p,v=.ref p/\H p=none/\H0' p=none/\OB K H0' H' p d else RD K H0' d v)
section
variable {K:Frag} {fr:Bool} {H0 H H0' H':Hp} {d:D} {v:V}
theorem Out.val (s:Same H H') (e:Ext H0 H H0' H') (r:RD K H0' d v):Out K false H0 H d v H':=⟨s,H0',e,by rw [if_neg Bool.false_ne_true];exact r⟩
theorem Out.pure (s:Same H0 H) (r:RD K H0 d v):Out K false H0 H d v H:=.val (Same.refl _) (.refl s) r
theorem Out.fresh {p:Addr} (s:Same H H') (e:Ext H0 H H0' H') (hp:H p=none) (hp0:H0' p=none) (o:OB K H0' H' p d):Out K true H0 H d (.ref p) H':=⟨s,H0',e,by rw [if_pos rfl];exact ⟨p,rfl,hp,hp0,o⟩⟩
theorem Out.rd (o:Out K false H0 H d v H'):Same H H'/\∃H0',Ext H0 H H0' H'/\RD K H0' d v:=by
 obtain ⟨s,H0',e,r⟩:=o
 rw [if_neg Bool.false_ne_true] at r
 exact ⟨s,H0',e,r⟩
theorem Out.weak (o:Out K fr H0 H d v H'):Out K false H0 H d v H':=by
 cases fr with
 | false=>exact o
 | true=>
  obtain ⟨s,H0',e,r⟩:=o
  rw [if_pos rfl] at r
  obtain ⟨p,rfl,hp,hp0,ob⟩:=r
  obtain ⟨u,hu,_⟩:=ob.some
  have e2:Ext H0 H (upd H0' p u) H':=by
   refine ⟨e.1.trans (Same.upd_new hp0),fun b w q=>?_,fun a h1 h2=>?_⟩
   . by_cases hb:b=p
     . subst hb;rw [z0c] at q;cases q;exact hu
     . rw [z0a hb] at q;exact e.2.1 b w q
   . rw [z0a (fun z=>h1 (by rw [z];exact hp))];exact e.2.2 a h1 h2
  exact .val s e2 (ob.rd (Same.upd_new hp0) (by rw [z0c,hu]))
theorem Out.after {H1 H1':Hp} (s:Same H H1) (e:Ext H0 H H1' H1) (o:Out K fr H1' H1 d v H'):Out K fr H0 H d v H':=by
 obtain ⟨s',H0',e',r⟩:=o
 refine ⟨s.trans s',H0',e.trans s e',?_⟩
 cases fr with
 | false=>exact r
 | true=>
  rw [if_pos rfl] at r ⊢
  obtain ⟨p,rfl,hp,r⟩:=r
  refine ⟨p,rfl,?_,r⟩
  cases q:H p with
  | none=>rfl
  | some u=>rw [s p u q] at hp;cases hp
end
abbrev DE:=List (Option D)
def RE (K:Frag) (H:Hp) (ρ:DE) (U:St):Prop:=ρ.length=U.length/\∀(i:Nat) d,ρ[i]?=some (some d)->∃v,U[i]?=some (some v)/\RD K H d v
theorem RE.mono {K:Frag} {H H':Hp} {ρ:DE} {U:St} (h:RE K H ρ U) (s:Same H H'):RE K H' ρ U:=⟨h.1,fun i d e=>by
 obtain ⟨v,h1,h2⟩:=h.2 i d e
 exact ⟨v,h1,h2.mono s⟩⟩
structure XW where
 hb:Hp
 p:Ex->Hp->Prop
abbrev F0:XW:=⟨fun _=>none,fun _ _=>False⟩
theorem F0.same (H:Hp):Same F0.hb H:=fun _ _ z=>nomatch z
def XW.at (W:XW) (x:Ex):Prop:=∀H',Same W.hb H'->W.p x H'
noncomputable def TEd (K:Frag) (EX:XW) (fr:Bool) (f:DE->R D):TE:=fun U H Q=>Same EX.hb H/\∃ρ H0,Same H0 H/\RE K H0 ρ U/\Rk EX.at (f ρ) fun d=>∀v H',Out K fr H0 H d v H'->Q v H'
noncomputable def TAd (K:Frag) (EX:XW) (f:DE->R (List D)):TA:=fun U H Q=>Same EX.hb H/\∃ρ H0,Same H0 H/\RE K H0 ρ U/\Rk EX.at (f ρ) fun ds=>∀vs H' H0',Same H H'->Ext H0 H H0' H'->RDs K H0' ds vs->Q vs H'
noncomputable def TTd (K:Frag) (EX:XW) (f:DE->R Bool):TT:=fun U H Q=>Same EX.hb H/\∃ρ H0,Same H0 H/\RE K H0 ρ U/\Rk EX.at (f ρ) fun b=>∀H',Same H H'->Q b H'
noncomputable def z02 (i:Nat):DE->R D:=fun ρ=>match ρ[i]? with | some (some d)=>.ok d | _=>.st
noncomputable def eC (d:D):DE->R D:=fun _=>.ok d
noncomputable def eOp (o:D->D->Option D) (fa fb:DE->R D):DE->R D:=fun ρ=>(fa ρ).bind fun x=>(fb ρ).bind fun y=>R.of (o x y)
noncomputable def eUn (o:D->Option D) (fa:DE->R D):DE->R D:=fun ρ=>(fa ρ).bind fun x=>R.of (o x)
noncomputable def z09:DE->R (List D):=fun _=>.ok []
noncomputable def z01 (f:DE->R D) (fs:DE->R (List D)):DE->R (List D):=fun ρ=>(f ρ).bind fun d=>(fs ρ).bind fun ds=>.ok (d::ds)
noncomputable def z0i (m:List D->R D) (fs:DE->R (List D)):DE->R D:=fun ρ=>(fs ρ).bind m
noncomputable def eCB (m:List D->Option D) (fs:DE->R (List D)):DE->R D:=fun ρ=>(fs ρ).bind fun ds=>R.of (m ds)
noncomputable def z6f (fs:DE->R (List D)):DE->R D:=fun ρ=>(fs ρ).bind fun ds=>if ds.length<=1000 then .ok (.tup ds) else .st
noncomputable def zbk (fs:DE->R (List D)):DE->R D:=fun ρ=>(fs ρ).bind fun ds=>if ds.length<=1000 then .ok (.lst ds) else .st
noncomputable def eIf (t:DE->R Bool) (fa fb:DE->R D):DE->R D:=fun ρ=>(t ρ).bind fun b=>if b=true then fa ρ else fb ρ
noncomputable def zpi (t u:DE->R Bool):DE->R Bool:=fun ρ=>(t ρ).bind fun b=>if b=true then u ρ else .ok false
noncomputable def bOr (t u:DE->R Bool):DE->R Bool:=fun ρ=>(t ρ).bind fun b=>if b=true then .ok true else u ρ
noncomputable def zmw (t:DE->R Bool):DE->R Bool:=fun ρ=>(t ρ).bind fun b=>.ok (!b)
noncomputable def asB:D->Option Bool
 | .bl b=>some b
 | _=>none
noncomputable def z4s (tr:D->Option Bool) (f:DE->R D):DE->R Bool:=fun ρ=>(f ρ).bind fun d=>R.of (tr d)
noncomputable def zmx (fa fb:DE->R D):DE->R D:=fun ρ=>(fa ρ).bind fun x=>(R.of (asB x)).bind fun b=>if b=true then fb ρ else .ok (.bl false)
noncomputable def eOr (fa fb:DE->R D):DE->R D:=fun ρ=>(fa ρ).bind fun x=>(R.of (asB x)).bind fun b=>if b=true then .ok (.bl true) else fb ρ
def OpD (K:Frag) (fr:Bool) (o:D->D->Option D) (r:R2):Prop:=∀(H0 H:Hp) (x y:V) (d e z:D) (Q:VK),Same H0 H->RD K H0 d x->RD K H0 e y->o d e=some z->(∀v H',Out K fr H0 H z v H'->Q v H')->r x y H Q
def UnD (K:Frag) (fr:Bool) (o:D->Option D) (r:V->Hp->VK->Prop):Prop:=∀(H0 H:Hp) (x:V) (d z:D) (Q:VK),Same H0 H->RD K H0 d x->o d=some z->(∀v H',Out K fr H0 H z v H'->Q v H')->r x H Q
def z7k (K:Frag) (fr:Bool) (m:List D->Option D) (r:List V->Hp->VK->Prop):Prop:=∀(H0 H:Hp) (xs:List V) (ds:List D) (z:D) (Q:VK),Same H0 H->RDs K H0 ds xs->m ds=some z->(∀v H',Out K fr H0 H z v H'->Q v H')->r xs H Q
def zzj (K:Frag) (tr:D->Option Bool) (r:V->Hp->(Bool->Hp->Prop)->Prop):Prop:=∀(H0 H:Hp) (x:V) (d:D) (b:Bool) (Q:Bool->Hp->Prop),Same H0 H->RD K H0 d x->tr d=some b->Q b H->r x H Q
section
variable {K:Frag} {EX:XW} {fr:Bool} {U:St} {H:Hp} {Q:VK}
theorem TEd.go {f:DE->R D} {ρ:DE} {H0:Hp} {k:D->Prop} (sx:Same EX.hb H) (s:Same H0 H) (e:RE K H0 ρ U) (h:Rk EX.at (f ρ) k) (hk:∀d,k d->∀v H' H0',Same H H'->Ext H0 H H0' H'->RD K H0' d v->Q v H'):TEd K EX false f U H Q:=
 ⟨sx,ρ,H0,s,e,h.mono fun d z v H' o=>by
  obtain ⟨s',H0',e',r⟩:=o.rd
  exact hk d z v H' H0' s' e' r⟩
theorem TAd.go {f:DE->R (List D)} {ρ:DE} {H0:Hp} {k:List D->Prop} {Q:List V->Hp->Prop} (sx:Same EX.hb H) (s:Same H0 H) (e:RE K H0 ρ U) (h:Rk EX.at (f ρ) k) (hk:∀d,k d->∀v H' H0',Same H H'->Ext H0 H H0' H'->RDs K H0' d v->Q v H'):TAd K EX f U H Q:=
 ⟨sx,ρ,H0,s,e,h.mono fun d z v H' H0' s' e' r=>hk d z v H' H0' s' e' r⟩
theorem TTd.go {f:DE->R Bool} {ρ:DE} {H0:Hp} {k:Bool->Prop} {Q:Bool->Hp->Prop} (sx:Same EX.hb H) (s:Same H0 H) (e:RE K H0 ρ U) (h:Rk EX.at (f ρ) k) (hk:∀b,k b->∀H',Same H H'->Q b H'):TTd K EX f U H Q:=
 ⟨sx,ρ,H0,s,e,h.mono fun b z H' s'=>hk b z H' s'⟩
theorem TEd.weak {f:DE->R D} (h:TEd K EX false f U H Q):TEd K EX fr f U H Q:=by
 obtain ⟨sx,ρ,H0,s,e,h⟩:=h
 exact ⟨sx,ρ,H0,s,e,h.mono fun d z v H' o=>z v H' o.weak⟩
theorem zzk {i:Nat} (h:TEd K EX false (z02 i) U H Q):∃v,U[i]?=some (some v)/\Q v H:=by
 obtain ⟨sx,ρ,H0,s,e,h⟩:=h
 unfold z02 at h
 split at h
 . rename_i d q
   obtain ⟨v,h1,h2⟩:=e.2 i d q
   exact ⟨v,h1,h v H (.pure s h2)⟩
 . exact h.elim
theorem zgt {d:D} {v:V} (hd:∀H0,RD K H0 d v) (h:TEd K EX false (eC d) U H Q):tC v U H Q:=by
 obtain ⟨sx,ρ,H0,s,e,h⟩:=h
 exact h v H (.pure s (hd _))
theorem zyo {o:D->D->Option D} {r:R2} {fa fb:DE->R D} (ho:OpD K fr o r) (h:TEd K EX fr (eOp o fa fb) U H Q):tOp r (TEd K EX false fa) (TEd K EX false fb) U H Q:=by
 obtain ⟨sx,ρ,H0,s,e,h⟩:=h
 unfold eOp at h
 rw [Rk.bind] at h
 refine TEd.go sx s e h fun d h v H1 H1' s1 e1 r1=>?_
 rw [Rk.bind] at h
 refine TEd.go (sx.trans s1) e1.2.1 (e.mono e1.1) h fun d2 h v2 H2 H2' s2 e2 r2=>?_
 obtain ⟨z,hz,h⟩:=h.of
 exact ho H2' H2 v v2 d d2 z Q e2.2.1 (r1.mono e2.1) r2 hz fun w H3 o=>h w H3 (o.after (s1.trans s2) (e1.trans s1 e2))
theorem y3e {o:D->Option D} {r:V->Hp->VK->Prop} {fa:DE->R D} (ho:UnD K fr o r) (h:TEd K EX fr (eUn o fa) U H Q):tUn r (TEd K EX false fa) U H Q:=by
 obtain ⟨sx,ρ,H0,s,e,h⟩:=h
 unfold eUn at h
 rw [Rk.bind] at h
 refine TEd.go sx s e h fun d h v H1 H1' s1 e1 r1=>?_
 obtain ⟨z,hz,h⟩:=h.of
 exact ho H1' H1 v d z Q e1.2.1 r1 hz fun w H3 o=>h w H3 (o.after s1 e1)
theorem ztm {Q:List V->Hp->Prop} (h:TAd K EX z09 U H Q):zp1 U H Q:=by
 obtain ⟨sx,ρ,H0,s,e,h⟩:=h
 exact h [] H H0 (Same.refl _) (.refl s) .nil
theorem zgu {Q:List V->Hp->Prop} {f:DE->R D} {fs:DE->R (List D)} (h:TAd K EX (z01 f fs) U H Q):z67 (TEd K EX false f) (TAd K EX fs) U H Q:=by
 obtain ⟨sx,ρ,H0,s,e,h⟩:=h
 unfold z01 at h
 rw [Rk.bind] at h
 refine TEd.go sx s e h fun d h v H1 H1' s1 e1 r1=>?_
 rw [Rk.bind] at h
 refine TAd.go (sx.trans s1) e1.2.1 (e.mono e1.1) h fun ds h vs H2 H2' s2 e2 r2=>?_
 exact h (v::vs) H2 H2' (s1.trans s2) (e1.trans s1 e2) (.cons (r1.mono e2.1) r2)
theorem zzl {m:List D->Option D} {r:List V->Hp->VK->Prop} {fs:DE->R (List D)} (hm:z7k K fr m r) (h:TEd K EX fr (eCB m fs) U H Q):tCB r (TAd K EX fs) U H Q:=by
 obtain ⟨sx,ρ,H0,s,e,h⟩:=h
 unfold eCB at h
 rw [Rk.bind] at h
 refine TAd.go sx s e h fun ds h vs H1 H1' s1 e1 r1=>?_
 obtain ⟨z,hz,h⟩:=h.of
 exact hm H1' H1 vs ds z Q e1.2.1 r1 hz fun w H3 o=>h w H3 (o.after s1 e1)
theorem zgv {n:Nat} (h:n<=1000):n<=sizeLine:=Nat.le_trans h (by decide)
theorem zzm {fs:DE->R (List D)} (h:TEd K EX false (z6f fs) U H Q):y2e (TAd K EX fs) U H Q:=by
 obtain ⟨sx,ρ,H0,s,e,h⟩:=h
 unfold z6f at h
 rw [Rk.bind] at h
 refine TAd.go sx s e h fun ds h vs H1 H1' s1 e1 r1=>?_
 split at h
 . rename_i hl
   refine ⟨zgv (by rw [<-r1.length];exact hl),fun p hp=>h _ _ (.val (s1.trans (Same.upd_new hp)) (e1.trans s1 (.new e1.2.1 hp)) ?_)⟩
   have h1p:H1' p=none:=by
    cases q:H1' p with
    | none=>rfl
    | some u=>rw [e1.2.1 p u q] at hp;cases hp
   simp only [RD]
   exact ⟨p,vs,rfl,z0c,r1.mono (Same.upd_new h1p)⟩
 . exact h.elim
theorem Same.none {H H':Hp} (s:Same H H') {p:Addr} (h:H' p=none):H p=none:=by
 cases q:H p with
 | none=>rfl
 | some u=>rw [s p u q] at h;cases h
theorem Out.new {H0 H:Hp} {d:D} {p:Addr} {o:HO} (s:Same H0 H) (hp:H p=none) (hob:∀H',H' p=some o->OB K H0 H' p d):Out K true H0 H d (.ref p) (upd H p o):=
 .fresh (Same.upd_new hp) ((Ext.refl s).grow (Same.upd_new hp)) hp (s.none hp) (hob _ z0c)
theorem zzn {fs:DE->R (List D)} (h:TEd K EX true (zbk fs) U H Q):y2f (TAd K EX fs) U H Q:=by
 obtain ⟨sx,ρ,H0,s,e,h⟩:=h
 unfold zbk at h
 rw [Rk.bind] at h
 refine TAd.go sx s e h fun ds h vs H1 H1' s1 e1 r1=>?_
 split at h
 . rename_i hl
   refine ⟨zgv (by rw [<-r1.length];exact hl),fun p hp=>h _ _ (Out.after s1 e1 (.new e1.2.1 hp fun H' hH=>?_))⟩
   simp only [OB]
   exact ⟨vs,hH,r1⟩
 . exact h.elim
theorem y3f {t:DE->R Bool} {fa fb:DE->R D} (h:TEd K EX fr (eIf t fa fb) U H Q):tIf (TTd K EX t) (TEd K EX fr fa) (TEd K EX fr fb) U H Q:=by
 obtain ⟨sx,ρ,H0,s,e,h⟩:=h
 unfold eIf at h
 rw [Rk.bind] at h
 refine TTd.go sx s e h fun b h H1 s1=>?_
 have fin:∀{f:DE->R D},Rk EX.at (f ρ) (fun d=>∀v H',Out K fr H0 H d v H'->Q v H')->TEd K EX fr f U H1 Q:=fun {f} h=>
  ⟨sx.trans s1,ρ,H0,s.trans s1,e,h.mono fun d z v H' o=>z v H' (o.after s1 ((Ext.refl s).grow s1))⟩
 cases b with
 | true=>exact fin h
 | false=>exact fin h
theorem ztn {t u:DE->R Bool} {Q:Bool->Hp->Prop} (h:TTd K EX (zpi t u) U H Q):y27 (TTd K EX t) (TTd K EX u) U H Q:=by
 obtain ⟨sx,ρ,H0,s,e,h⟩:=h
 unfold zpi at h
 rw [Rk.bind] at h
 refine TTd.go sx s e h fun b h H1 s1=>?_
 cases b with
 | true=>exact TTd.go (sx.trans s1) (s.trans s1) e h fun b h H' s'=>h H' (s1.trans s')
 | false=>exact h H1 s1
theorem zzo {t u:DE->R Bool} {Q:Bool->Hp->Prop} (h:TTd K EX (bOr t u) U H Q):tOr (TTd K EX t) (TTd K EX u) U H Q:=by
 obtain ⟨sx,ρ,H0,s,e,h⟩:=h
 unfold bOr at h
 rw [Rk.bind] at h
 refine TTd.go sx s e h fun b h H1 s1=>?_
 cases b with
 | true=>exact h H1 s1
 | false=>exact TTd.go (sx.trans s1) (s.trans s1) e h fun b h H' s'=>h H' (s1.trans s')
theorem zto {t:DE->R Bool} {Q:Bool->Hp->Prop} (h:TTd K EX (zmw t) U H Q):y28 (TTd K EX t) U H Q:=by
 obtain ⟨sx,ρ,H0,s,e,h⟩:=h
 unfold zmw at h
 rw [Rk.bind] at h
 exact TTd.go sx s e h fun b h H1 s1=>h H1 s1
end
noncomputable def y3g (r:V->Hp->(Bool->Hp->Prop)->Prop) (t:TE):TT:=fun U H Q=>t U H fun x H'=>r x H' Q
noncomputable def zgw (K:Frag) (EX:XW) (g:D->DE->R Bool):V->TT:=fun x U H Q=>Same EX.hb H/\∃d ρ H0,Same H0 H/\RE K H0 ρ U/\RD K H0 d x/\Rk EX.at (g d ρ) fun b=>∀H',Same H H'->Q b H'
noncomputable def zzp (o:D->D->Option D) (fb:DE->R D):D->DE->R D:=fun d ρ=>(fb ρ).bind fun y=>R.of (o d y)
noncomputable def zzq (o:D->D->Option D) (fb:DE->R D) (g:D->DE->R D):D->DE->R D:=fun d ρ=>(fb ρ).bind fun y=>(R.of (o d y)).bind fun z=>(R.of (asB z)).bind fun b=>if b=true then g y ρ else .ok (.bl false)
noncomputable def z7s (o:D->D->Option D) (fb:DE->R D):D->DE->R Bool:=fun d ρ=>(fb ρ).bind fun y=>(R.of (o d y)).bind fun z=>R.of (asB z)
noncomputable def z6v (o:D->D->Option D) (fb:DE->R D) (g:D->DE->R Bool):D->DE->R Bool:=fun d ρ=>(fb ρ).bind fun y=>(R.of (o d y)).bind fun z=>(R.of (asB z)).bind fun b=>if b=true then g y ρ else .ok false
noncomputable def y3h (fa:DE->R D) (g:D->DE->R D):DE->R D:=fun ρ=>(fa ρ).bind fun x=>g x ρ
noncomputable def zsd (fa:DE->R D) (g:D->DE->R Bool):DE->R Bool:=fun ρ=>(fa ρ).bind fun x=>g x ρ
theorem z6g {d:D} {b:Bool} (h:asB d=some b):d=.bl b:=by
 cases d<;>simp [asB] at h
 subst h;rfl
theorem RD.bl {K:Frag} {H:Hp} {b:Bool} {v:V} (h:RD K H (.bl b) v):v=.bl b:=by simpa only [RD] using h
section
variable {K:Frag} {EX:XW} {U:St} {H:Hp} {Q:VK} {QB:Bool->Hp->Prop}
theorem zzr {fa fb:DE->R D} (h:TEd K EX false (zmx fa fb) U H Q):ztc (TEd K EX false fa) (TEd K EX false fb) U H Q:=by
 obtain ⟨sx,ρ,H0,s,e,h⟩:=h
 unfold zmx at h
 rw [Rk.bind] at h
 refine TEd.go sx s e h fun d h v H1 H1' s1 e1 r1=>?_
 rw [Rk.bind] at h
 obtain ⟨b,hb,h⟩:=h.of
 cases z6g hb
 cases r1.bl
 cases b with
 | true=>exact TEd.go (sx.trans s1) e1.2.1 (e.mono e1.1) h fun d h v H2 H2' s2 e2 r2=>h v H2 (.val (s1.trans s2) (e1.trans s1 e2) r2)
 | false=>exact h _ H1 (.val s1 e1 (by simp only [RD]))
theorem zzs {tr:D->Option Bool} {r:V->Hp->(Bool->Hp->Prop)->Prop} {fa:DE->R D} (ht:zzj K tr r) (h:TTd K EX (z4s tr fa) U H QB):y3g r (TEd K EX false fa) U H QB:=by
 obtain ⟨sx,ρ,H0,s,e,h⟩:=h
 unfold z4s at h
 rw [Rk.bind] at h
 refine TEd.go sx s e h fun d h v H1 H1' s1 e1 r1=>?_
 obtain ⟨b,hb,h⟩:=h.of
 exact ht H1' H1 v d b QB e1.2.1 r1 hb (h H1 s1)
theorem ztp {tr:D->Option Bool} {r:V->Hp->(Bool->Hp->Prop)->Prop} {fa:DE->R D} (ht:zzj K tr r) (h:TEd K EX false (eUn (fun d=>(tr d).map fun b=>.bl (!b)) fa) U H Q) :
  (fun U H Q=>(TEd K EX false fa) U H fun x H1=>r x H1 fun k H2=>Q (.bl (!k)) H2) U H Q:=by
 obtain ⟨sx,ρ,H0,s,e,h⟩:=h
 unfold eUn at h
 rw [Rk.bind] at h
 refine TEd.go sx s e h fun d h v H1 H1' s1 e1 r1=>?_
 obtain ⟨z,hz,h⟩:=h.of
 have hz:(tr d).map (fun b=>D.bl (!b))=some z:=hz
 cases hb:tr d with
 | none=>rw [hb] at hz;cases hz
 | some b=>
  rw [hb] at hz;cases hz
  exact ht H1' H1 v d b _ e1.2.1 r1 hb (h _ H1 (.val s1 e1 (by simp only [RD])))
theorem zzt {o:D->D->Option D} {r:R2} {fa fb:DE->R D} (ho:OpD K false o r) (h:TTd K EX (z4s asB (eOp o fa fb)) U H QB):zp7 (tOp r (TEd K EX false fa) (TEd K EX false fb)) U H QB:=by
 obtain ⟨sx,ρ,H0,s,e,h⟩:=h
 unfold z4s at h
 rw [Rk.bind] at h
 unfold zp7
 refine zyo (EX:=EX) ho ⟨sx,ρ,H0,s,e,h.mono fun d h v H' o=>?_⟩
 obtain ⟨b,hb,h⟩:=h.of
 obtain ⟨s',H0',e',r'⟩:=o.rd
 cases z6g hb
 cases r'.bl
 exact h H' s'
theorem zpj {o:D->D->Option D} {r:R2} {fb:DE->R D} (ho:OpD K false o r) {x:V} (h:zgw K EX (z7s o fb) x U H QB):zmr r (TEd K EX false fb) x U H QB:=by
 obtain ⟨sx,d,ρ,H0,s,e,rx,h⟩:=h
 unfold z7s at h
 rw [Rk.bind] at h
 refine TEd.go sx s e h fun d2 h v2 H2 H2' s2 e2 r2=>?_
 rw [Rk.bind] at h
 obtain ⟨z,hz,h⟩:=h.of
 obtain ⟨b,hb,h⟩:=h.of
 cases z6g hb
 refine ho H2' H2 x v2 d d2 _ _ e2.2.1 (rx.mono e2.1) r2 hz fun w H3 o=>?_
 obtain ⟨s3,H3',e3,r3⟩:=o.rd
 cases r3.bl
 exact h H3 (s2.trans s3)
theorem zpk {o:D->D->Option D} {r:R2} {fb:DE->R D} {g:D->DE->R Bool} (ho:OpD K false o r) {x:V} (h:zgw K EX (z6v o fb g) x U H QB):zms r (TEd K EX false fb) (zgw K EX g) x U H QB:=by
 obtain ⟨sx,d,ρ,H0,s,e,rx,h⟩:=h
 unfold z6v at h
 rw [Rk.bind] at h
 refine TEd.go sx s e h fun d2 h v2 H2 H2' s2 e2 r2=>?_
 rw [Rk.bind] at h
 obtain ⟨z,hz,h⟩:=h.of
 rw [Rk.bind] at h
 obtain ⟨b,hb,h9⟩:=h.of
 cases z6g hb
 refine ho H2' H2 x v2 d d2 _ _ e2.2.1 (rx.mono e2.1) r2 hz fun w H3 o=>?_
 obtain ⟨s3,H3',e3,r3⟩:=o.rd
 cases r3.bl
 clear h
 have h:=h9
 cases b with
 | true=>exact ⟨(sx.trans s2).trans s3,d2,ρ,H3',e3.2.1,e.mono (e2.1.trans e3.1),r2.mono e3.1,h.mono fun z h H' s'=>h H' (s2.trans (s3.trans s'))⟩
 | false=>exact h H3 (s2.trans s3)
theorem ztq {fa:DE->R D} {g:D->DE->R Bool} (h:TTd K EX (zsd fa g) U H QB):zta (TEd K EX false fa) (zgw K EX g) U H QB:=by
 obtain ⟨sx,ρ,H0,s,e,h⟩:=h
 unfold zsd at h
 rw [Rk.bind] at h
 exact TEd.go sx s e h fun d h v H1 H1' s1 e1 r1=>⟨sx.trans s1,d,ρ,H1',e1.2.1,e.mono e1.1,r1,h.mono fun z h H' s'=>h H' (s1.trans s')⟩
end
inductive Sl where
 | em | im (d:D) | ow (d:D)
abbrev DS:=List Sl
noncomputable def Sl.see (b:Bool):Sl->Option D
 | .em=>none
 | .im d=>some d
 | .ow d=>if b=true then some d else none
noncomputable def Sl.frz (b:Bool):Sl->Sl
 | .ow d=>if b=true then .im d else .ow d
 | s=>s
noncomputable def vis:List Bool->DS->DE
 | _,[]=>[]
 | [],s::r=>s.see false::vis [] r
 | b::m,s::r=>s.see b::vis m r
noncomputable def frz:List Bool->DS->DS
 | _,[]=>[]
 | [],s::r=>s::r
 | b::m,s::r=>s.frz b::frz m r
theorem zbz:∀(m:List Bool) (ρ:DS) (i:Nat),(vis m ρ)[i]?=(ρ[i]?).map (Sl.see (m.getD i false))
 | [],[],i=>by simp [vis]
 | _::_,[],i=>by simp [vis]
 | [],s::r,0=>by simp [vis]
 | b::m,s::r,0=>by simp [vis]
 | [],s::r,i+1=>by simpa [vis] using zbz [] r i
 | b::m,s::r,i+1=>by simpa [vis] using zbz m r i
theorem z5a:∀(m:List Bool) (ρ:DS),(vis m ρ).length=ρ.length
 | [],[]=>rfl
 | _::_,[]=>rfl
 | [],s::r=>by simp [vis,z5a [] r]
 | b::m,s::r=>by simp [vis,z5a m r]
theorem Sl.frz_false (s:Sl):s.frz false=s:=by cases s<;>simp [Sl.frz]
theorem zc0:∀(m:List Bool) (ρ:DS) (i:Nat),(L2.frz m ρ)[i]?=(ρ[i]?).map (Sl.frz (m.getD i false))
 | [],[],i=>by simp [frz]
 | _::_,[],i=>by simp [frz]
 | [],s::r,i=>by
  simp only [frz,List.getD_nil]
  cases h:(s::r)[i]? with
  | none=>rfl
  | some x=>simp [Sl.frz_false]
 | b::m,s::r,0=>by simp [frz]
 | b::m,s::r,i+1=>by simpa [frz] using zc0 m r i
theorem z7t:∀(m:List Bool) (ρ:DS),(L2.frz m ρ).length=ρ.length
 | [],[]=>rfl
 | _::_,[]=>rfl
 | [],s::r=>rfl
 | b::m,s::r=>by simp [frz,z7t m r]
structure RS (K:Frag) (Hc Hb H0:Hp) (ρ:DS) (U:St) (H:Hp):Prop where
 sb:Same Hb H
 ext:Ext Hc Hb H0 H
 len:ρ.length=U.length
 im:∀(i:Nat) d,ρ[i]?=some (.im d)->∃v,U[i]?=some (some v)/\RD K H0 d v
 ow:∀(i:Nat) d,ρ[i]?=some (.ow d)->∃a,U[i]?=some (some (.ref a))/\H0 a=none/\Hb a=none/\OB K H0 H a d
 ap:∀(i j:Nat) d e a,ρ[i]?=some (.ow d)->ρ[j]?=some (.ow e)->U[i]?=some (some (.ref a))->U[j]?=some (some (.ref a))->i=j
theorem RS.grow {K:Frag} {Hc Hb H0 H H':Hp} {ρ:DS} {U:St} (R:RS K Hc Hb H0 ρ U H) (s:Same H H'):RS K Hc Hb H0 ρ U H':=
 ⟨R.sb.trans s,R.ext.grow s,R.len,R.im,fun i d e=>by
  obtain ⟨a,h1,h2,h3,h4⟩:=R.ow i d e
  exact ⟨a,h1,h2,h3,h4.mono (Same.refl _) s⟩,R.ap⟩
def Msk (m:List Bool) (ρ:DS) (U:St) (a:Addr):Prop:=∃i d,m.getD i false=true/\ρ[i]?=some (.ow d)/\U[i]?=some (some (.ref a))
open Classical in
noncomputable def HeOf (m:List Bool) (ρ:DS) (U:St) (H0 H:Hp):Hp:=fun a=>if Msk m ρ U a then H a else H0 a
open Classical in
noncomputable def HdOf (m:List Bool) (ρ:DS) (U:St) (H0:Hp):Hp:=fun a=>if Msk m ρ U a then none else H0 a
section
variable {K:Frag} {Hc Hb H0 H H':Hp} {ρ:DS} {U:St} {m:List Bool}
theorem RS.msk (R:RS K Hc Hb H0 ρ U H) {a:Addr} (h:Msk m ρ U a):H0 a=none/\Hb a=none/\∃o,H a=some o/\¬Imm o:=by
 obtain ⟨i,d,_,h1,h2⟩:=h
 obtain ⟨a',q1,q2,q3,q4⟩:=R.ow i d h1
 rw [h2] at q1;cases q1
 exact ⟨q2,q3,q4.some⟩
theorem z8n {a:Addr} (h:Msk m ρ U a):HeOf m ρ U H0 H a=H a:=by unfold HeOf;exact if_pos h
theorem z3u {a:Addr} (h:¬Msk m ρ U a):HeOf m ρ U H0 H a=H0 a:=by unfold HeOf;exact if_neg h
theorem z8o {a:Addr} (h:Msk m ρ U a):HdOf m ρ U H0 a=none:=by unfold HdOf;exact if_pos h
theorem z3v {a:Addr} (h:¬Msk m ρ U a):HdOf m ρ U H0 a=H0 a:=by unfold HdOf;exact if_neg h
theorem RS.he0 (R:RS K Hc Hb H0 ρ U H) (m:List Bool):Same H0 (HeOf m ρ U H0 H):=fun b o e=>by
 by_cases h:Msk m ρ U b
 . rw [(R.msk h).1] at e;cases e
 . rw [z3u h];exact e
theorem RS.heH (R:RS K Hc Hb H0 ρ U H) (m:List Bool):Same (HeOf m ρ U H0 H) H:=fun b o e=>by
 by_cases h:Msk m ρ U b
 . rw [z8n h] at e;exact e
 . rw [z3u h] at e;exact R.ext.2.1 b o e
theorem RS.re (R:RS K Hc Hb H0 ρ U H) (m:List Bool):RE K (HeOf m ρ U H0 H) (vis m ρ) U:=by
 refine ⟨by rw [z5a];exact R.len,fun i d e=>?_⟩
 rw [zbz] at e
 cases q:ρ[i]? with
 | none=>rw [q] at e;cases e
 | some s=>
  rw [q] at e
  simp only [Option.map_some,Option.some.injEq] at e
  cases s with
  | em=>cases e
  | im d'=>
   cases e
   obtain ⟨v,h1,h2⟩:=R.im i d q
   exact ⟨v,h1,h2.mono (R.he0 m)⟩
  | ow d'=>
   simp only [Sl.see] at e
   split at e
   . rename_i hm
     cases e
     obtain ⟨a,h1,h2,h3,h4⟩:=R.ow i d q
     exact ⟨_,h1,h4.rd (R.he0 m) (z8n ⟨i,d,hm,q,h1⟩)⟩
   . cases e
noncomputable def z4b (keep:Bool) (m:List Bool) (ρ:DS):DS:=if keep=true then ρ else frz m ρ
noncomputable def keeps (fr:Bool) (d:D):Bool:=if fr=true then d.shal else d.noL
def Apt (K:Frag) (fr:Bool) (Hb H0:Hp) (ρ:DS) (U:St) (H:Hp) (d:D) (v:V):Prop:=
 if fr=true then ∃p,v=.ref p/\H0 p=none/\Hb p=none/\OB K H0 H p d/\∀(i:Nat) e,ρ[i]?=some (.ow e)->U[i]?≠some (some (.ref p)) else RD K H0 d v
theorem z8p {keep:Bool} {i:Nat} {d:D} (h:(z4b keep m ρ)[i]?=some (.ow d)):ρ[i]?=some (.ow d)/\(keep=false->m.getD i false=false):=by
 unfold z4b at h
 cases keep with
 | true=>exact ⟨h,fun z=>nomatch z⟩
 | false=>
  rw [if_neg Bool.false_ne_true,zc0] at h
  cases q:ρ[i]? with
  | none=>rw [q] at h;cases h
  | some s=>
   rw [q] at h
   simp only [Option.map_some,Option.some.injEq] at h
   cases s with
   | em=>cases h
   | im d'=>cases h
   | ow d'=>
    simp only [Sl.frz] at h
    split at h
    . cases h
    . rename_i hm
      cases h
      exact ⟨rfl,fun _=>by simpa using hm⟩
theorem RS.frame (R:RS K Hc Hb H0 ρ U H) {H0':Hp} (s:Same H H') (e:Ext (HeOf m ρ U H0 H) H H0' H') (keep:Bool) :
  ∃H0n,RS K Hc Hb H0n (z4b keep m ρ) U H'/\TK H0' H0n/\(keep=false->H0n=H0')/\(∀p,H0' p=none->H0n p=none)/\Same H0 H0n:=by
 have hunm:∀(i:Nat) d' a,ρ[i]?=some (.ow d')->U[i]?=some (some (.ref a))->¬Msk m ρ U a->H0' a=none:=fun i d' a h1 h2 h3=>by
  obtain ⟨a',q1,q2,q3,q4⟩:=R.ow i d' h1
  rw [h2] at q1;cases q1
  obtain ⟨u,hu,_⟩:=q4.some
  exact e.2.2 a (z6u hu) (by rw [z3u h3];exact q2)
 have nmsk:∀{i:Nat} {d':D} {a:Addr},ρ[i]?=some (.ow d')->U[i]?=some (some (.ref a))->m.getD i false=false->¬Msk m ρ U a:=fun {i d' a} h1 h2 h3 ⟨j,e',q1,q2,q3⟩=>by
  have:=R.ap i j d' e' a h1 q2 h2 q3
  subst this
  rw [h3] at q1;cases q1
 cases keep with
 | true=>
  have hth:z4b true m ρ=ρ:=rfl
  have s0:Same H0 (HdOf m ρ U H0'):=fun b u q=>by
   have hb:¬Msk m ρ U b:=fun z=>by rw [(R.msk z).1] at q;cases q
   rw [z3v hb]
   exact e.1 b u (R.he0 m b u q)
  have tk:TK H0' (HdOf m ρ U H0'):=fun b u hi q=>by
   have hb:¬Msk m ρ U b:=fun z=>by
    obtain ⟨_,_,w,hw,hn⟩:=R.msk z
    have:=e.1 b w (by rw [z8n z];exact hw)
    rw [q] at this;cases this
    exact hn hi
   rw [z3v hb];exact q
  refine ⟨HdOf m ρ U H0',⟨R.sb.trans s,⟨R.ext.1.trans s0,fun b u q=>?_,fun a h1 h2=>?_⟩,R.len,fun i d' q=>?_,fun i d' q=>?_,R.ap⟩,tk,(fun z=>nomatch z),fun p hp=>?_,s0⟩
  . by_cases hb:Msk m ρ U b
    . rw [z8o hb] at q;cases q
    . rw [z3v hb] at q;exact e.2.1 b u q
  . by_cases hb:Msk m ρ U a
    . exact z8o hb
    . rw [z3v hb]
      exact e.2.2 a (R.sb.ne h1) (by rw [z3u hb];exact R.ext.2.2 a h1 h2)
  . obtain ⟨w,h1,h2⟩:=R.im i d' q
    exact ⟨w,h1,h2.mono s0⟩
  . obtain ⟨a,h1,h2,h3,h4⟩:=R.ow i d' q
    refine ⟨a,h1,?_,h3,h4.mono s0 s⟩
    by_cases hb:Msk m ρ U a
    . exact z8o hb
    . rw [z3v hb];exact hunm i d' a q h1 hb
  . by_cases hb:Msk m ρ U p
    . exact z8o hb
    . rw [z3v hb];exact hp
 | false=>
  refine ⟨H0',⟨R.sb.trans s,?_,?_,fun i d' q=>?_,fun i d' q=>?_,fun i j d1 d2 a q1 q2=>?_⟩,fun _ _ _ z=>z,fun _=>rfl,fun _ z=>z,(R.he0 m).trans e.1⟩
  . refine ⟨R.ext.1.trans ((R.he0 m).trans e.1),e.2.1,fun a h1 h2=>e.2.2 a (R.sb.ne h1) ?_⟩
    have hb:¬Msk m ρ U a:=fun z=>h1 (R.msk z).2.1
    rw [z3u hb];exact R.ext.2.2 a h1 h2
  . show (L2.frz m ρ).length=_
    rw [z7t];exact R.len
  . have q':(L2.frz m ρ)[i]?=some (.im d'):=q
    rw [zc0] at q'
    cases hs:ρ[i]? with
    | none=>rw [hs] at q';cases q'
    | some sl=>
     rw [hs] at q'
     simp only [Option.map_some,Option.some.injEq] at q'
     cases sl with
     | em=>cases q'
     | im d2=>
      cases q'
      obtain ⟨w,h1,h2⟩:=R.im i d' hs
      exact ⟨w,h1,h2.mono ((R.he0 m).trans e.1)⟩
     | ow d2=>
      simp only [Sl.frz] at q'
      split at q'
      . rename_i hm
        cases q'
        obtain ⟨a,h1,h2,h3,h4⟩:=R.ow i d' hs
        obtain ⟨u,hu,_⟩:=h4.some
        refine ⟨_,h1,h4.rd ((R.he0 m).trans e.1) ?_⟩
        rw [hu]
        exact e.1 a u (by rw [z8n ⟨i,d',hm,hs,h1⟩];exact hu)
      . cases q'
  . obtain ⟨q1,q2⟩:=z8p q
    obtain ⟨a,h1,h2,h3,h4⟩:=R.ow i d' q1
    exact ⟨a,h1,hunm i d' a q1 h1 (nmsk q1 h1 (q2 rfl)),h3,h4.mono ((R.he0 m).trans e.1) s⟩
  . exact R.ap i j d1 d2 a (z8p q1).1 (z8p q2).1
theorem RS.out (R:RS K Hc Hb H0 ρ U H) {fr:Bool} {d:D} {v:V} (o:Out K fr (HeOf m ρ U H0 H) H d v H') :
  ∃H0n,RS K Hc Hb H0n (z4b (keeps fr d) m ρ) U H'/\Apt K fr Hb H0n (z4b (keeps fr d) m ρ) U H' d v:=by
 obtain ⟨s,H0',e,r⟩:=o
 obtain ⟨H0n,R',tk,eq,hn,_⟩:=R.frame s e (keeps fr d)
 refine ⟨H0n,R',?_⟩
 unfold Apt
 cases fr with
 | false=>
  rw [if_neg Bool.false_ne_true] at r ⊢
  cases hk:keeps false d with
  | true=>exact r.tk tk (by simpa [keeps] using hk)
  | false=>rw [eq hk];exact r
 | true=>
  rw [if_pos rfl] at r ⊢
  obtain ⟨p,rfl,hp,hp0,ob⟩:=r
  refine ⟨p,rfl,hn p hp0,R.sb.none hp,?_,fun i e' q z=>?_⟩
  . cases hk:keeps true d with
    | true=>exact ob.tk (by simpa [keeps] using hk) tk
    | false=>rw [eq hk];exact ob
  . obtain ⟨a,h1,_,_,h4⟩:=R.ow i e' (z8p q).1
    rw [z] at h1;cases h1
    obtain ⟨u,hu,_⟩:=h4.some
    rw [hp] at hu;cases hu
theorem RS.outs (R:RS K Hc Hb H0 ρ U H) {ds:List D} {vs:List V} {H0':Hp} (s:Same H H') (e:Ext (HeOf m ρ U H0 H) H H0' H') (r:RDs K H0' ds vs) :
  ∃H0n,RS K Hc Hb H0n (z4b (z2g ds) m ρ) U H'/\RDs K H0n ds vs:=by
 obtain ⟨H0n,R',tk,eq,hn,_⟩:=R.frame s e (z2g ds)
 refine ⟨H0n,R',?_⟩
 cases hk:z2g ds with
 | true=>exact r.tk tk hk
 | false=>rw [eq hk];exact r
noncomputable def zkx (fr:Bool) (i:Nat) (d:D) (ρ:DS):DS:=ρ.set i (if fr=true then .ow d else .im d)
theorem RS.put (R:RS K Hc Hb H0 ρ U H) {fr:Bool} {d:D} {v:V} (a:Apt K fr Hb H0 ρ U H d v) (i:Nat):RS K Hc Hb H0 (zkx fr i d ρ) (U.set i (some v)) H:=by
 unfold zkx
 have other:∀{j:Nat} {s:Sl},j≠i->(ρ.set i s)[j]?=ρ[j]?:=fun {j s} h=>by rw [List.getElem?_set_ne (Ne.symm h)]
 have otherσ:∀{j:Nat},j≠i->(U.set i (some v))[j]?=U[j]?:=fun {j} h=>by rw [List.getElem?_set_ne (Ne.symm h)]
 have here:∀{s s':Sl},(ρ.set i s)[i]?=some s'->s'=s/\(U.set i (some v))[i]?=some (some v):=fun {s s'} h=>by
  have hi:i<ρ.length:=by
   have:=(List.getElem?_eq_some_iff.mp h).1
   simpa using this
  rw [List.getElem?_set_self hi] at h
  cases h
  exact ⟨rfl,by rw [List.getElem?_set_self (by rw [<-R.len];exact hi)]⟩
 refine ⟨R.sb,R.ext,by rw [List.length_set,List.length_set];exact R.len,fun j d' q=>?_,fun j d' q=>?_,fun j k d1 d2 b q1 q2 z1 z2=>?_⟩
 . by_cases hj:j=i
   . subst hj
     obtain ⟨h1,h2⟩:=here q
     refine ⟨v,h2,?_⟩
     cases fr with
     | false=>
      rw [if_neg Bool.false_ne_true] at h1;cases h1
      unfold Apt at a
      rw [if_neg Bool.false_ne_true] at a;exact a
     | true=>rw [if_pos rfl] at h1;cases h1
   . rw [other hj] at q
     rw [otherσ hj];exact R.im j d' q
 . by_cases hj:j=i
   . subst hj
     obtain ⟨h1,h2⟩:=here q
     cases fr with
     | false=>rw [if_neg Bool.false_ne_true] at h1;cases h1
     | true=>
      rw [if_pos rfl] at h1;cases h1
      unfold Apt at a
      rw [if_pos rfl] at a
      obtain ⟨p,rfl,a1,a2,a3,_⟩:=a
      exact ⟨p,h2,a1,a2,a3⟩
   . rw [other hj] at q
     rw [otherσ hj];exact R.ow j d' q
 . by_cases hj:j=i
   . by_cases hk:k=i
     . rw [hj,hk]
     . subst hj
       obtain ⟨h1,h2⟩:=here q1
       rw [other hk] at q2
       rw [otherσ hk] at z2
       rw [h2] at z1
       cases fr with
       | false=>rw [if_neg Bool.false_ne_true] at h1;cases h1
       | true=>
        unfold Apt at a
        rw [if_pos rfl] at a
        obtain ⟨p,rfl,_,_,_,a4⟩:=a
        cases z1
        exact absurd z2 (a4 k d2 q2)
   . by_cases hk:k=i
     . subst hk
       obtain ⟨h1,h2⟩:=here q2
       rw [other hj] at q1
       rw [otherσ hj] at z1
       rw [h2] at z2
       cases fr with
       | false=>rw [if_neg Bool.false_ne_true] at h1;cases h1
       | true=>
        unfold Apt at a
        rw [if_pos rfl] at a
        obtain ⟨p,rfl,_,_,_,a4⟩:=a
        cases z2
        exact absurd z1 (a4 j d1 q1)
     . rw [other hj] at q1
       rw [other hk] at q2
       rw [otherσ hj] at z1
       rw [otherσ hk] at z2
       exact R.ap j k d1 d2 b q1 q2 z1 z2
end
inductive SR where
 | nx (ρ:DS) | bk (ρ:DS) | ct (ρ:DS) | rt (d:D) | er (x:Ex) | st
def SK (K:Frag) (EX:XW) (fr:Bool) (Hc Hb:Hp) (De:Ends):SR->Prop
 | .nx ρ=>∀U H H0,RS K Hc Hb H0 ρ U H->De.nx U H
 | .bk ρ=>∀U H H0,RS K Hc Hb H0 ρ U H->De.bk U H
 | .ct ρ=>∀U H H0,RS K Hc Hb H0 ρ U H->De.ct U H
 | .rt d=>∀v H,Out K fr Hc Hb d v H->De.rt v H
 | .er x=>EX.at x
 | .st=>False
noncomputable def TSd (K:Frag) (EX:XW) (fr:Bool) (g:DS->SR):TS:=fun De U H=>∃Hc Hb H0 ρ,Same EX.hb Hb/\RS K Hc Hb H0 ρ U H/\SK K EX fr Hc Hb De (g ρ)
noncomputable def R.toS {α:Type} (r:R α) (k:α->SR):SR:=match r with
 | .ok a=>k a
 | .er x=>.er x
 | .st=>.st
noncomputable def sNx:DS->SR:=fun ρ=>.nx ρ
noncomputable def sNo:DS->SR:=fun _=>.st
noncomputable def z1u (g1 g2:DS->SR):DS->SR:=fun ρ=>match g1 ρ with
 | .nx ρ'=>g2 ρ'
 | r=>r
noncomputable def see (ρ:DS):DE:=ρ.map (Sl.see true)
noncomputable def sIf (t:DE->R Bool) (g1 g2:DS->SR):DS->SR:=fun ρ=>(t (see ρ)).toS fun b=>if b=true then g1 ρ else g2 ρ
noncomputable def z2p (fr:Bool) (i:Nat) (m:List Bool) (f:DE->R D):DS->SR:=fun ρ=>(f (vis m ρ)).toS fun d=>.nx (zkx fr i d (z4b (keeps fr d) m ρ))
noncomputable def z6w (m:List Bool) (f:DE->R D):DS->SR:=fun ρ=>(f (vis m ρ)).toS fun d=>.rt d
noncomputable def zzu:DS->SR:=fun _=>.rt .non
noncomputable def zew (i:Nat):DS->SR:=fun ρ=>match ρ[i]? with
 | some (.ow d)=>.rt d
 | _=>.st
noncomputable def z8q (f:DE->R D):DS->SR:=fun ρ=>(f (see ρ)).toS fun _=>.nx ρ
section
variable {K:Frag} {EX:XW} {fr:Bool} {Hc Hb H0 H H':Hp} {ρ:DS} {U:St} {De:Ends} {m:List Bool}
theorem SK.toS {α:Type} {r:R α} {k:α->SR}:SK K EX fr Hc Hb De (r.toS k)=Rk EX.at r fun a=>SK K EX fr Hc Hb De (k a):=by cases r<;>rfl
theorem zc1:∀(ρ:DS),vis (List.replicate ρ.length true) ρ=see ρ
 | []=>rfl
 | s::r=>by
  show s.see true::vis (List.replicate r.length true) r=_
  rw [zc1 r];rfl
theorem RS.extE (R:RS K Hc Hb H0 ρ U H) (m:List Bool):Ext Hc Hb (HeOf m ρ U H0 H) H:=
 ⟨R.ext.1.trans (R.he0 m),R.heH m,fun a h1 h2=>by
  have hb:¬Msk m ρ U a:=fun z=>h1 (R.msk z).2.1
  rw [z3u hb];exact R.ext.2.2 a h1 h2⟩
theorem RS.te (I:RS K Hc Hb H0 ρ U H) (sb:Same EX.hb Hb) {f:DE->R D} {fr':Bool} {k:D->Prop} {Q:VK} (h:Rk EX.at (f (vis m ρ)) k)
  (hk:∀d,k d->∀v H' H0n,RS K Hc Hb H0n (z4b (keeps fr' d) m ρ) U H'->Apt K fr' Hb H0n (z4b (keeps fr' d) m ρ) U H' d v->Q v H'):TEd K EX fr' f U H Q:=
 ⟨sb.trans I.sb,vis m ρ,HeOf m ρ U H0 H,I.heH m,I.re m,h.mono fun d z v H' o=>by
  obtain ⟨H0n,R',a⟩:=I.out o
  exact hk d z v H' H0n R' a⟩
theorem RS.tt (I:RS K Hc Hb H0 ρ U H) (sb:Same EX.hb Hb) {f:DE->R Bool} {k:Bool->Prop} {Q:Bool->Hp->Prop} (h:Rk EX.at (f (see ρ)) k) (hk:∀b,k b->∀H',RS K Hc Hb H0 ρ U H'->Q b H'):TTd K EX f U H Q:=by
 refine ⟨sb.trans I.sb,see ρ,HeOf (List.replicate ρ.length true) ρ U H0 H,I.heH _,?_,h.mono fun b z H' s=>hk b z H' (I.grow s)⟩
 rw [<-zc1];exact I.re _
theorem y3i (h:TSd K EX fr sNx De U H):zss De U H:=by
 obtain ⟨Hc,Hb,H0,ρ,sb,R,h⟩:=h
 exact h U H H0 R
theorem y3j (h:TSd K EX fr sNo De U H):zml De U H:=by
 obtain ⟨Hc,Hb,H0,ρ,sb,R,h⟩:=h
 exact h
theorem ztr {g1 g2:DS->SR} (h:TSd K EX fr (z1u g1 g2) De U H):zyw (TSd K EX fr g1) (TSd K EX fr g2) De U H:=by
 obtain ⟨Hc,Hb,H0,ρ,sb,R,h⟩:=h
 refine ⟨Hc,Hb,H0,ρ,sb,R,?_⟩
 unfold z1u at h
 cases q:g1 ρ with
 | nx ρ'=>rw [q] at h;exact fun σ' H' H0' R'=>⟨Hc,Hb,H0',ρ',sb,R',h⟩
 | bk ρ'=>rw [q] at h;exact h
 | ct ρ'=>rw [q] at h;exact h
 | rt d=>rw [q] at h;exact h
 | er x=>rw [q] at h;exact h
 | st=>rw [q] at h;exact h
theorem zzv {t:DE->R Bool} {g1 g2:DS->SR} (h:TSd K EX fr (sIf t g1 g2) De U H):y2a (TTd K EX t) (TSd K EX fr g1) (TSd K EX fr g2) De U H:=by
 obtain ⟨Hc,Hb,H0,ρ,sb,R,h⟩:=h
 unfold sIf at h
 rw [SK.toS] at h
 refine R.tt sb h fun b h H' R'=>?_
 cases b with
 | true=>exact ⟨Hc,Hb,H0,ρ,sb,R',h⟩
 | false=>exact ⟨Hc,Hb,H0,ρ,sb,R',h⟩
theorem zky {i:Nat} {f:DE->R D} {fr':Bool} (h:TSd K EX fr (z2p fr' i m f) De U H):zfm (TEd K EX fr' f) (z48 i) De U H:=by
 obtain ⟨Hc,Hb,H0,ρ,sb,R,h⟩:=h
 unfold z2p at h
 rw [SK.toS] at h
 exact R.te sb h fun d h v H' H0n R' a=>h _ H' H0n (R'.put a i)
theorem zzw {f:DE->R D} (h:TSd K EX fr (z6w m f) De U H):zyx (TEd K EX fr f) De U H:=by
 obtain ⟨Hc,Hb,H0,ρ,sb,R,h⟩:=h
 unfold z6w at h
 rw [SK.toS] at h
 exact ⟨sb.trans R.sb,vis m ρ,HeOf m ρ U H0 H,R.heH m,R.re m,h.mono fun d z v H' o=>z v H' (o.after R.sb (R.extE m))⟩
theorem zts {i:Nat} (h:TSd K EX true (zew i) De U H):zyx (z7j i) De U H:=by
 obtain ⟨Hc,Hb,H0,ρ,sb,R,h⟩:=h
 unfold zew at h
 split at h
 . rename_i d q
   obtain ⟨a,h1,h2,h3,h4⟩:=R.ow i d q
   show z7j i U H De.rt
   unfold z7j
   rw [h1]
   exact h _ H (.fresh R.sb R.ext h3 h2 h4)
 . exact h.elim
theorem ztt {f:DE->R D} (h:TSd K EX fr (z8q f) De U H):za2 (TEd K EX false f) De U H:=by
 obtain ⟨Hc,Hb,H0,ρ,sb,R,h⟩:=h
 unfold z8q at h
 rw [SK.toS] at h
 refine ⟨sb.trans R.sb,see ρ,HeOf (List.replicate ρ.length true) ρ U H0 H,R.heH _,by rw [<-zc1];exact R.re _,h.mono fun d z v H' o=>?_⟩
 exact z U H' H0 (R.grow o.1)
theorem RS.mutate (R:RS K Hc Hb H0 ρ U H) {i:Nat} {d d':D} {a:Addr} {o:HO} (h:ρ[i]?=some (.ow d)) (ha:U[i]?=some (some (.ref a))) (ob:OB K H0 (upd H a o) a d'):RS K Hc Hb H0 (ρ.set i (.ow d')) U (upd H a o):=by
 obtain ⟨a',q1,q2,q3,q4⟩:=R.ow i d h
 rw [ha] at q1;cases q1
 have hi:i<ρ.length:=(List.getElem?_eq_some_iff.mp h).1
 have other:∀{j:Nat} {s:Sl},j≠i->(ρ.set i s)[j]?=ρ[j]?:=fun {j s} h=>by rw [List.getElem?_set_ne (Ne.symm h)]
 have here:(ρ.set i (.ow d'))[i]?=some (.ow d'):=by rw [List.getElem?_set_self hi]
 have sm:∀{H1:Hp},Same H1 H->H1 a=none->Same H1 (upd H a o):=fun s n=>s.upd_at n
 refine ⟨sm R.sb q3,⟨R.ext.1,sm R.ext.2.1 q2,R.ext.2.2⟩,by rw [List.length_set];exact R.len,fun j d2 q=>?_,fun j d2 q=>?_,fun j k d1 d2 b z1 z2=>?_⟩
 . have hj:j≠i:=fun z=>by subst z;rw [here] at q;cases q
   rw [other hj] at q
   exact R.im j d2 q
 . by_cases hj:j=i
   . subst hj
     rw [here] at q;cases q
     exact ⟨a,ha,q2,q3,ob⟩
   . rw [other hj] at q
     obtain ⟨b,h1,h2,h3,h4⟩:=R.ow j d2 q
     have hb:b≠a:=fun z=>hj (R.ap j i d2 d b q h h1 (by rw [z];exact ha))
     exact ⟨b,h1,h2,h3,h4.at (z0a hb)⟩
 . have back:∀{j:Nat} {d1:D},(ρ.set i (.ow d'))[j]?=some (.ow d1)->∃d0,ρ[j]?=some (.ow d0):=fun {j d1} z=>by
    by_cases hj:j=i
    . subst hj;exact ⟨d,h⟩
    . rw [other hj] at z;exact ⟨_,z⟩
   obtain ⟨e1,z1⟩:=back z1
   obtain ⟨e2,z2⟩:=back z2
   exact R.ap j k e1 e2 b z1 z2
def ztu (K:Frag) (mt:D->List D->Option D) (r:V->List V->Hp->VK->Prop):Prop:=∀(H0 H:Hp) (a:Addr) (d d':D) (ds:List D) (vs:List V) (Q:VK),Same H0 H->H0 a=none->OB K H0 H a d->RDs K H0 ds vs->mt d ds=some d' ->
 (∀v o,OB K H0 (upd H a o) a d'->Q v (upd H a o))->r (.ref a) vs H Q
noncomputable def isT (T:String):D->Bool
 | .lst _=>T=="list"
 | .dk _ _=>T=="dict"
 | .dt _ _=>T=="dict"
 | _=>false
def TyD (K:Frag) (T:String):Prop:=∀(H0 H:Hp) (a:Addr) (d:D),OB K H0 H a d->isT T d=true->tyV K T (.ref a) H
noncomputable def zgx (T:String) (mt:D->List D->Option D) (i:Nat) (m:List Bool) (fs:DE->R (List D)):DS->SR:=fun ρ=>match ρ[i]? with
 | some (.ow d0)=>if isT T d0=true then (fs (vis m ρ)).toS fun ds=>match (z4b (z2g ds) m ρ)[i]? with
  | some (.ow d)=>(R.of (mt d ds)).toS fun d'=>.nx ((z4b (z2g ds) m ρ).set i (.ow d'))
  | _=>.st
  else .st
 | _=>.st
theorem zzx {T:String} {mt:D->List D->Option D} {r:V->List V->Hp->VK->Prop} {i:Nat} {fs:DE->R (List D)} (hm:ztu K mt r) (hT:TyD K T) (h:TSd K EX fr (zgx T mt i m fs) De U H) :
  za2 (tBM K T r (z7j i) (TAd K EX fs)) De U H:=by
 obtain ⟨Hc,Hb,H0,ρ,sb,R,h⟩:=h
 unfold zgx at h
 split at h
 . rename_i d0 q0
   split at h
   . rename_i hty
     rw [SK.toS] at h
     obtain ⟨a,h1,h2,h3,h4⟩:=R.ow i d0 q0
     unfold za2 tBM z7j
     rw [h1]
     refine ⟨hT H0 H a d0 h4 hty,sb.trans R.sb,vis m ρ,HeOf m ρ U H0 H,R.heH m,R.re m,h.mono fun ds h vs H' H0' s e rds=>?_⟩
     obtain ⟨H0n,R',rd'⟩:=R.outs s e rds
     split at h
     . rename_i d q
       rw [SK.toS] at h
       obtain ⟨d',hd',h⟩:=h.of
       obtain ⟨a',z1,z2,z3,z4⟩:=R'.ow i d q
       rw [h1] at z1;cases z1
       exact hm H0n H' a d d' ds vs _ R'.ext.2.1 z2 z4 rd' hd' fun v o ob=>h U _ H0n (R'.mutate q h1 ob)
     . exact h.elim
   . exact h.elim
 . exact h.elim
noncomputable def zzy (T:String) (mt:D->List D->Option D) (i:Nat):DS->SR:=fun ρ=>match ρ[i]? with
 | some (.ow d)=>if isT T d=true then (R.of (mt d [])).toS fun d'=>.nx (ρ.set i (.ow d')) else .st
 | _=>.st
def zzz (K:Frag) (st:D->D->D->Option D) (r:zov):Prop:=∀(H0 H:Hp) (a:Addr) (d d' dk dv:D) (y v:V) (Q:Hp->Prop),Same H0 H->H0 a=none->OB K H0 H a d->RD K H0 dk y->RD K H0 dv v->st d dk dv=some d' ->
 (∀o,OB K H0 (upd H a o) a d'->Q (upd H a o))->r (.ref a) y v H Q
noncomputable def zk6 (st:D->D->D->Option D) (i:Nat) (m:List Bool) (fk fv:DE->R D):DS->SR:=fun ρ=>(fv (vis m ρ)).toS fun dv=>match (z4b (keeps false dv) m ρ)[i]? with
 | some (.ow _)=>(fk (vis m (z4b (keeps false dv) m ρ))).toS fun dk=>(match (z4b (keeps false dk) m (z4b (keeps false dv) m ρ))[i]? with
  | some (.ow d)=>(R.of (st d dk dv)).toS fun d'=>.nx ((z4b (keeps false dk) m (z4b (keeps false dv) m ρ)).set i (.ow d'))
  | _=>.st)
 | _=>.st
theorem Apt.rd {ρ:DS} {d:D} {v:V} (a:Apt K false Hb H0 ρ U H d v):RD K H0 d v:=by
 unfold Apt at a
 rw [if_neg Bool.false_ne_true] at a;exact a
end
section
variable {K:Frag} {EX:XW} {fr:Bool} {Hc Hb H0 H H':Hp} {ρ:DS} {U:St} {De:Ends} {m:List Bool}
theorem zpl {st:D->D->D->Option D} {r:zov} {i:Nat} {fk fv:DE->R D} (hs:zzz K st r) (h:TSd K EX fr (zk6 st i m fk fv) De U H) :
  zfm (TEd K EX false fv) (zyj (z7j i) (TEd K EX false fk) r) De U H:=by
 obtain ⟨Hc,Hb,H0,ρ,sb,I,h⟩:=h
 unfold zk6 at h
 rw [SK.toS] at h
 refine I.te sb h fun dv h v H1 H1n I1 a1=>?_
 split at h
 . rename_i d0 q0
   rw [SK.toS] at h
   obtain ⟨a,h1,h2,h3,h4⟩:=I1.ow i d0 q0
   unfold zyj z7j
   rw [h1]
   refine ⟨sb.trans I1.sb,vis m _,HeOf m _ U H1n H1,I1.heH m,I1.re m,h.mono fun dk h y H2 o2=>?_⟩
   obtain ⟨s2,H2',e2,r2⟩:=o2.rd
   obtain ⟨H2n,I2,tk,eq,hn,sub⟩:=I1.frame s2 e2 (keeps false dk)
   have r2':RD K H2n dk y:=by
    cases hk:keeps false dk with
    | true=>exact r2.tk tk (by simpa [keeps] using hk)
    | false=>rw [eq hk];exact r2
   split at h
   . rename_i d q
     rw [SK.toS] at h
     obtain ⟨d',hd',h⟩:=h.of
     obtain ⟨a',z1,z2,z3,z4⟩:=I2.ow i d q
     rw [h1] at z1;cases z1
     exact hs H2n H2 a d d' dk dv y v _ I2.ext.2.1 z2 z4 r2' (a1.rd.mono sub) hd' fun o ob=>h U _ H2n (I2.mutate q h1 ob)
   . exact h.elim
 . exact h.elim
inductive Tg where
 | n (i:Nat) | t (is:List Nat)
noncomputable def zdl:List Nat->List D->DS->DS
 | i::is,d::ds,ρ=>zdl is ds (zkx false i d ρ)
 | _,_,ρ=>ρ
noncomputable def items:D->Option (List D)
 | .tup ds=>some ds
 | .lst ds=>some ds
 | _=>none
noncomputable def zmy:Tg->D->DS->Option DS
 | .n i,d,ρ=>some (zkx false i d ρ)
 | .t is,d,ρ=>(items d).bind fun ds=>if ds.length=is.length then some (zdl is ds ρ) else none
noncomputable def TGd (K:Frag) (tg:Tg):TG:=fun v U H Q=>∃Hc Hb H0 ρ d ρ',RS K Hc Hb H0 ρ U H/\RD K H0 d v/\zmy tg d ρ=some ρ'/\∀σ',RS K Hc Hb H0 ρ' σ' H->Q σ' H
theorem RS.putI (I:RS K Hc Hb H0 ρ U H) {d:D} {v:V} (r:RD K H0 d v) (i:Nat):RS K Hc Hb H0 (zkx false i d ρ) (U.set i (some v)) H:=
 I.put (fr:=false) (by unfold Apt;rw [if_neg Bool.false_ne_true];exact r) i
theorem y3k {i:Nat} {v:V} {Q:St->Hp->Prop} (h:TGd K (.n i) v U H Q):z48 i v U H Q:=by
 obtain ⟨Hc,Hb,H0,ρ,d,ρ',I,r,e,q⟩:=h
 simp only [zmy,Option.some.injEq] at e
 subst e
 exact q _ (I.putI r i)
noncomputable def z5s:List Nat->TGs
 | []=>ztg
 | i::is=>zmt (z48 i) (z5s is)
theorem z6x:∀(is:List Nat) {ds:List D} {xs:List V} {ρ:DS} {U:St} {Q:St->Hp->Prop},RS K Hc Hb H0 ρ U H->RDs K H0 ds xs->ds.length=is.length->(∀σ',RS K Hc Hb H0 (zdl is ds ρ) σ' H->Q σ' H)->z5s is xs U H Q
 | [],[],_,ρ,U,Q,I,r,_,q=>by
  simp only [RDs] at r;subst r
  exact q U I
 | [],_::_,_,_,_,_,_,_,hl,_=>by simp at hl
 | _::_,[],_,_,_,_,_,_,hl,_=>by simp at hl
 | i::is,d::ds,_,ρ,U,Q,I,r,hl,q=>by
  simp only [RDs] at r
  obtain ⟨x,xs,rfl,r1,r2⟩:=r
  exact z6x is (I.putI r1 i) r2 (by simpa using hl) q
theorem y2s {is:List Nat} {v:V} {Q:St->Hp->Prop} (h:TGd K (.t is) v U H Q):zev is.length (z5s is) v U H Q:=by
 obtain ⟨Hc,Hb,H0,ρ,d,ρ',I,r,e,q⟩:=h
 simp only [zmy] at e
 cases d<;>simp only [items,Option.bind_none,Option.bind_some] at e<;>first | cases e | skip
 . rename_i ds
   split at e
   . rename_i hl
     cases e
     simp only [RD] at r
     obtain ⟨a,xs,rfl,ha,rs⟩:=r
     unfold zev
     simp only [I.ext.2.1 a _ ha]
     exact ⟨by rw [<-rs.length];exact hl,z6x is I rs hl q⟩
   . cases e
 . rename_i ds
   split at e
   . rename_i hl
     cases e
     simp only [RD] at r
     obtain ⟨a,xs,rfl,ha,rs⟩:=r
     unfold zev
     simp only [I.ext.2.1 a _ ha]
     exact ⟨by rw [<-rs.length];exact hl,z6x is I rs hl q⟩
   . cases e
noncomputable def zk7 (tg:Tg) (m:List Bool) (f:DE->R D):DS->SR:=fun ρ=>(f (vis m ρ)).toS fun d=>match zmy tg d (z4b (keeps false d) m ρ) with
 | some ρ'=>.nx ρ'
 | none=>.st
theorem y00 {tg:Tg} {f:DE->R D} (h:TSd K EX fr (zk7 tg m f) De U H):zfm (TEd K EX false f) (TGd K tg) De U H:=by
 obtain ⟨Hc,Hb,H0,ρ,sb,I,h⟩:=h
 unfold zk7 at h
 rw [SK.toS] at h
 refine I.te sb h fun d h v H' H0n I' a=>?_
 split at h
 . rename_i ρ' q
   exact ⟨Hc,Hb,H0n,_,d,ρ',I',a.rd,q,fun σ' I2=>h σ' H' H0n I2⟩
 . exact h.elim
noncomputable def Hno:Hp:=fun _=>none
def zse (K:Frag) (J:It) (H0:Hp) (ds:List D):Prop:=
 (∀(i:Nat) d,ds[i]?=some d->∀H H1,Same H0 H1->Same H1 H->J.go i H/\∀x H',J.yld i H x H'->Same H H'/\∃H1',Ext H1 H H1' H'/\RD K H1' d x)/\∀H,Same H0 H->J.stop ds.length H
noncomputable def TId (K:Frag) (EX:XW) (kp:Bool) (f:DE->R (List D)):TI:=fun U H Q=>Same EX.hb H/\∃ρ H0,Same H0 H/\RE K H0 ρ U/\Rk EX.at (f ρ) fun ds=>∀J H' H0',Same H H'->Ext H0 H H0' H'->zse K J (if kp=true then Hno else H0') ds->Q J H'
noncomputable def zex (tg:Tg) (g:DS->SR):List D->DS->SR
 | [],ρ=>.nx ρ
 | d::ds,ρ=>match zmy tg d ρ with
  | none=>.st
  | some ρ1=>match g ρ1 with
   | .nx ρ2=>zex tg g ds ρ2
   | .ct ρ2=>zex tg g ds ρ2
   | .bk ρ2=>.nx ρ2
   | .rt d=>.rt d
   | .er x=>.er x
   | .st=>.st
noncomputable def zc2 (kp:Bool) (m:List Bool) (f:DE->R (List D)) (tg:Tg) (g:DS->SR):DS->SR:=fun ρ=>(f (vis m ρ)).toS fun ds=>zex tg g ds (z4b kp m ρ)
theorem Ext.base {Hc':Hp} (a:Ext Hc Hb Hc' H) (b:Ext Hc' Hb H0 H'):Ext Hc Hb H0 H':=⟨a.1.trans b.1,b.2.1,fun c h1 h2=>b.2.2 c h1 (a.2.2 c h1 h2)⟩
theorem RS.base {Hc' H1:Hp} (a:Ext Hc Hb Hc' H1) (I:RS K Hc' Hb H0 ρ U H):RS K Hc Hb H0 ρ U H:=⟨I.sb,a.base I.ext,I.len,I.im,I.ow,I.ap⟩
theorem RS.self (I:RS K Hc Hb H0 ρ U H):RS K H0 Hb H0 ρ U H:=⟨I.sb,⟨Same.refl _,I.ext.2.1,fun _ _ z=>z⟩,I.len,I.im,I.ow,I.ap⟩
theorem Out.base {Hc':Hp} {d:D} {v:V} (a:Ext Hc Hb Hc' H) (o:Out K fr Hc' Hb d v H'):Out K fr Hc Hb d v H':=by
 obtain ⟨s,H0',e,r⟩:=o
 exact ⟨s,H0',a.base e,r⟩
theorem RS.sees {H1':Hp} (I:RS K Hc Hb H0 ρ U H) (s:Same H H') (e:Ext H0 H H1' H'):RS K Hc Hb H1' ρ U H':=
 ⟨I.sb.trans s,⟨I.ext.1.trans e.1,e.2.1,fun a h1 h2=>e.2.2 a (I.sb.ne h1) (I.ext.2.2 a h1 h2)⟩,I.len,fun i d q=>by
  obtain ⟨v,h1,h2⟩:=I.im i d q
  exact ⟨v,h1,h2.mono e.1⟩,fun i d q=>by
  obtain ⟨a,h1,h2,h3,h4⟩:=I.ow i d q
  obtain ⟨u,hu,_⟩:=h4.some
  exact ⟨a,h1,e.2.2 a (z6u hu) h2,h3,h4.mono e.1 s⟩,I.ap⟩
theorem y3l {J:It} {Hn H1:Hp} {ρ:DS} {ds:List D} {tg:Tg} {g:DS->SR} (sb:Same EX.hb Hb) (I1:RS K Hc Hb Hn ρ U H1) (it':zse K J Hn ds) (h:SK K EX fr Hc Hb De (zex tg g ds ρ)):y2l J (TGd K tg) (TSd K EX fr g) De U H1:=by
 have ex1:Ext Hc Hb Hn H1:=I1.ext
 refine ⟨fun i mm U H=>mm=ds.length - i/\i<=ds.length/\∃ρ H0,RS K Hn Hb H0 ρ U H/\SK K EX fr Hc Hb De (zex tg g (ds.drop i) ρ),⟨ds.length,by simp,Nat.zero_le _,_,Hn,I1.self,h⟩,?_⟩
 rintro i mm U H ⟨rfl,hi,ρ,H0,I2,h⟩
 have sn:Same Hn H0:=I2.ext.1
 by_cases hlt:i<ds.length
 . have hd:ds[i]?=some ds[i]:=by simp [hlt]
   obtain ⟨hgo,hy⟩:=it'.1 i _ hd H H0 sn I2.ext.2.1
   have hdr:ds.drop i=ds[i]::ds.drop (i+1):=List.drop_eq_getElem_cons hlt
   rw [hdr] at h
   refine .inr ⟨hgo,fun σ' H'=>∃ρ' H0',RS K Hn Hb H0' ρ' σ' H'/\SK K EX fr Hc Hb De (zex tg g (ds.drop (i+1)) ρ'),fun σ' H' ⟨ρ',H0',q⟩=>⟨ds.length - (i+1),by omega,rfl,hlt,ρ',H0',q⟩,fun x H' y=>?_⟩
   obtain ⟨s3,H3,e3,r3⟩:=hy x H' y
   have I3:=I2.sees s3 e3
   unfold zex at h
   split at h
   . exact h.elim
   . rename_i ρ1 q1
     refine ⟨Hn,Hb,H3,ρ,ds[i],ρ1,I3,r3,q1,fun σ' I4=>⟨Hn,Hb,H3,ρ1,sb,I4,?_⟩⟩
     cases qg:g ρ1 with
     | nx ρ2=>rw [qg] at h;exact fun σ5 H5 H05 I5=>⟨ρ2,H05,I5,h⟩
     | ct ρ2=>rw [qg] at h;exact fun σ5 H5 H05 I5=>⟨ρ2,H05,I5,h⟩
     | bk ρ2=>rw [qg] at h;exact fun σ5 H5 H05 I5=>h σ5 H5 H05 (I5.base ex1)
     | rt d=>rw [qg] at h;exact fun v H5 o=>h v H5 (o.base ex1)
     | er x=>rw [qg] at h;exact h
     | st=>rw [qg] at h;exact h
 . have e:i=ds.length:=by omega
   subst e
   rw [List.drop_length] at h
   refine .inl ⟨it'.2 H (sn.trans I2.ext.2.1),?_⟩
   exact h U H H0 (I2.base ex1)
theorem ztv {kp:Bool} {f:DE->R (List D)} {tg:Tg} {g:DS->SR} (h:TSd K EX fr (zc2 kp m f tg g) De U H):zte (TId K EX kp f) (TGd K tg) (TSd K EX fr g) De U H:=by
 obtain ⟨Hc,Hb,H0,ρ,sb,I,h⟩:=h
 unfold zc2 at h
 rw [SK.toS] at h
 refine ⟨sb.trans I.sb,vis m ρ,HeOf m ρ U H0 H,I.heH m,I.re m,h.mono fun ds h J H1 H1' s1 e1 it=>?_⟩
 obtain ⟨Hn,I1,tk,eq,hn,sub⟩:=I.frame s1 e1 kp
 have it':zse K J Hn ds:=by
  cases kp with
  | true=>
   rw [if_pos rfl] at it
   exact ⟨fun i d q H H1 a b=>it.1 i d q H H1 (fun _ _ z=>nomatch z) b,fun H a=>it.2 H fun _ _ z=>nomatch z⟩
  | false=>rw [if_neg Bool.false_ne_true,<-eq rfl] at it;exact it
 exact y3l sb I1 it' h
noncomputable def z4t (t:DE->R Bool) (g:DS->SR):Nat->DS->SR
 | 0,_=>.st
 | n+1,ρ=>(t (see ρ)).toS fun b=>if b=true then (match g ρ with
  | .nx ρ2=>z4t t g n ρ2
  | .ct ρ2=>z4t t g n ρ2
  | .bk ρ2=>.nx ρ2
  | .rt d=>.rt d
  | .er x=>.er x
  | .st=>.st) else .nx ρ
noncomputable def zak (n:Nat) (t:DE->R Bool) (g:DS->SR):DS->SR:=z4t t g n
theorem zpm {n:Nat} {t:DE->R Bool} {g:DS->SR} (h:TSd K EX fr (zak n t g) De U H):zmo (TTd K EX t) (TSd K EX fr g) De U H:=by
 obtain ⟨Hc,Hb,H0,ρ,sb,I,h⟩:=h
 refine ⟨fun mm U H=>∃ρ H0,RS K Hc Hb H0 ρ U H/\SK K EX fr Hc Hb De (z4t t g mm ρ),⟨n,ρ,H0,I,h⟩,?_⟩
 rintro mm U H ⟨ρ,H0,I,h⟩
 cases mm with
 | zero=>exact h.elim
 | succ mm=>
  unfold z4t at h
  rw [SK.toS] at h
  refine I.tt sb h fun b h H' I'=>?_
  cases b with
  | false=>exact h U H' H0 I'
  | true=>
   rw [if_pos rfl] at h ⊢
   refine ⟨fun σ' H'=>∃ρ' H0',RS K Hc Hb H0' ρ' σ' H'/\SK K EX fr Hc Hb De (z4t t g mm ρ'),fun σ' H' q=>⟨mm,Nat.lt_succ_self _,q⟩,Hc,Hb,H0,ρ,sb,I',?_⟩
   cases qg:g ρ with
   | nx ρ2=>rw [qg] at h;exact fun σ5 H5 H05 I5=>⟨ρ2,H05,I5,h⟩
   | ct ρ2=>rw [qg] at h;exact fun σ5 H5 H05 I5=>⟨ρ2,H05,I5,h⟩
   | bk ρ2=>rw [qg] at h;exact fun σ5 H5 H05 I5=>h σ5 H5 H05 I5
   | rt d=>rw [qg] at h;exact fun v H5 o=>h v H5 o
   | er x=>rw [qg] at h;exact h
   | st=>rw [qg] at h;exact h
noncomputable def R.noE {α:Type} (r:R α):R α:=match r with
 | .er _=>.st
 | r=>r
theorem Rk.noE {α:Type} {EX EX':Ex->Prop} {r:R α} {k:α->Prop} (h:Rk EX r.noE k):Rk EX' r k:=by
 cases r with
 | ok a=>exact h
 | er x=>exact h.elim
 | st=>exact h
def BD (K:Frag) (bn:D->Option (List D)) (B:V->Hp->(List V->Hp->Prop)->Prop):Prop:=∀(H0 H:Hp) (x:V) (d:D) (ds:List D) (Q:List V->Hp->Prop),Same H0 H->RD K H0 d x->bn d=some ds->(∀vs,RDs K H0 ds vs->Q vs H)->B x H Q
noncomputable def b1:D->Option (List D):=fun d=>some [d]
noncomputable def bT (n:Nat):D->Option (List D)
 | .tup ds=>if ds.length=n then some ds else none
 | _=>none
theorem y2t:BD K b1 cB1:=fun H0 H x d ds Q s r e q=>by
 simp only [b1,Option.some.injEq] at e
 subst e
 exact q [x] (.one r)
theorem y2u {n:Nat}:BD K (bT n) (cBT n):=fun H0 H x d ds Q s r e q=>by
 cases d<;>simp only [bT] at e<;>first | cases e | skip
 rename_i es
 split at e
 . rename_i hl
   cases e
   simp only [RD] at r
   obtain ⟨a,xs,rfl,ha,rs⟩:=r
   unfold cBT
   simp only [s a _ ha]
   exact ⟨by rw [<-rs.length];exact hl,q xs rs⟩
 . cases e
noncomputable def sel (ix:List Nat) (ρ:DE):DE:=ix.map fun j=>(ρ[j]?).getD none
noncomputable def z4c (bn:D->Option (List D)) (t:DE->R Bool) (f:DE->R D) (cs:DE):List D->R (List D)
 | []=>.ok []
 | d::ds=>(R.of (bn d)).bind fun bs=>(t (bs.map some++cs)).noE.bind fun b=>if b=true then (f (bs.map some++cs)).noE.bind fun y=>(z4c bn t f cs ds).bind fun ys=>.ok (y::ys) else z4c bn t f cs ds
noncomputable def z14 (fi:DE->R (List D)) (bn:D->Option (List D)) (ix:List Nat) (t:DE->R Bool) (f:DE->R D):DE->R D:=fun ρ=>(fi ρ).bind fun ds=>if ds.length<=100000 then (z4c bn t f (sel ix ρ) ds).bind fun ys=>.ok (.lst ys) else .st
theorem RE.sel {ρ:DE} {vs:List V} {ds:List D} (h:RE K H0 ρ U) (r:RDs K H0 ds vs) (ix:List Nat):RE K H0 (ds.map some++sel ix ρ) (vs.map some++zk5 ix U):=by
 have hl:=r.length
 refine ⟨by simp [L2.sel,zk5,hl],fun i d e=>?_⟩
 by_cases hi:i<ds.length
 . rw [List.getElem?_append_left (by simpa using hi),List.getElem?_map] at e
   rw [List.getElem?_append_left (by simpa [<-hl] using hi),List.getElem?_map]
   cases q:ds[i]? with
   | none=>rw [q] at e;cases e
   | some d'=>
    rw [q] at e;cases e
    obtain ⟨x,h1,h2⟩:=r.get' q
    exact ⟨x,by rw [h1];rfl,h2⟩
 . rw [List.getElem?_append_right (by simpa using hi)] at e
   rw [List.getElem?_append_right (by simpa [<-hl] using hi)]
   simp only [List.length_map] at e ⊢
   rw [<-hl]
   unfold L2.sel at e
   unfold zk5
   rw [List.getElem?_map] at e ⊢
   cases q:ix[i - ds.length]? with
   | none=>rw [q] at e;cases e
   | some j=>
    rw [q] at e
    simp only [Option.map_some,Option.some.injEq] at e ⊢
    cases qj:ρ[j]? with
    | none=>rw [qj] at e;cases e
    | some o=>
     rw [qj] at e
     simp only [Option.getD_some] at e
     subst e
     obtain ⟨v,h1,h2⟩:=h.2 j d qj
     exact ⟨v,by rw [h1];rfl,h2⟩
theorem z1m {n:Nat} (h:n<100000):n<sizeLine:=Nat.lt_of_lt_of_le h (by decide)
theorem zpn {W:XW} {kp:Bool} {fi:DE->R (List D)} {bn:D->Option (List D)} {B:V->Hp->(List V->Hp->Prop)->Prop} {ix:List Nat} {t:DE->R Bool} {f:DE->R D} {Q:VK} {tt:TT} (hW:Same W.hb EX.hb) (hB:BD K bn B) (htt:∀U H Q,TTd K F0 t U H Q->tt U H Q)
  (h:TEd K EX true (z14 fi bn ix t f) U H Q):zaf (TId K EX kp fi) B ix tt (TEd K W false f) U H Q:=by
 obtain ⟨sx,ρ,H0,s,e,h⟩:=h
 unfold z14 at h
 rw [Rk.bind] at h
 refine ⟨sx,ρ,H0,s,e,h.mono fun ds h J H1 H1' s1 e1 it D hD=>?_⟩
 split at h
 . rename_i hsz
   rw [Rk.bind] at h
   have it':zse K J H1' ds:=by
    cases kp with
    | true=>rw [if_pos rfl] at it;exact ⟨fun i d q H H1 a b=>it.1 i d q H H1 (fun _ _ z=>nomatch z) b,fun H a=>it.2 H fun _ _ z=>nomatch z⟩
    | false=>rw [if_neg Bool.false_ne_true] at it;exact it
   have e':=e.mono e1.1
   have hDn:H1' D=none:=e1.2.1.none hD
   refine ⟨fun i mm ys H2=>mm=ds.length - i/\i<=ds.length/\ys.length<=i/\∃acc H2',Same H1 H2/\H2 D=some (.lst ys)/\Ext H1' H1 H2' H2/\H2' D=none/\RDs K H2' acc ys /\
    Rk EX.at (z4c bn t f (L2.sel ix ρ) (ds.drop i)) fun rest=>∀v H',Out K true H0 H (.lst (acc++rest)) v H'->Q v H',⟨ds.length,by simp,Nat.zero_le _,Nat.le_refl _,[],H1',Same.upd_new hD,z0c,(Ext.refl e1.2.1).grow (Same.upd_new hD),hDn,.nil,h⟩,?_⟩
   rintro i mm ys H2 ⟨rfl,hi,hys,acc,H2',s2,hd2,e2,hdn2,r2,h⟩
   refine ⟨hd2,?_⟩
   by_cases hlt:i<ds.length
   . have hd:ds[i]?=some ds[i]:=by simp [hlt]
     obtain ⟨hgo,hy⟩:=it'.1 i _ hd H2 H2' e2.1 e2.2.1
     have hdr:ds.drop i=ds[i]::ds.drop (i+1):=List.drop_eq_getElem_cons hlt
     rw [hdr] at h
     unfold z4c at h
     rw [Rk.bind] at h
     obtain ⟨bs,hbs,h⟩:=h.of
     rw [Rk.bind] at h
     refine .inr ⟨hgo,fun x H3 y=>?_⟩
     obtain ⟨s3,H3',e3,r3⟩:=hy x H3 y
     refine hB H3' H3 x _ bs _ e3.2.1 r3 hbs fun vs rvs=>?_
     have en:=(e'.mono (e2.1.trans e3.1)).sel rvs ix
     have e23:=e2.trans s2 e3
     refine htt _ _ _ ⟨F0.same _,_,H3',e3.2.1,en,(Rk.noE h).mono fun b h H4 s4=>?_⟩
     have s14:=s2.trans (s3.trans s4)
     have hd4:H4 D=some (.lst ys):=s4 _ _ (s3 _ _ hd2)
     have hdn3:H3' D=none:=e3.2.2 D (z6u hd2) hdn2
     have e14:Ext H1' H1 H3' H4:=e23.grow s4
     cases b with
     | false=>
      rw [if_neg Bool.false_ne_true] at h
      dsimp only
      rw [if_neg Bool.false_ne_true]
      exact ⟨ds.length - (i+1),by lia,rfl,hlt,by lia,acc,H3',s14,hd4,e14,hdn3,r2.mono e3.1,h⟩
     | true=>
      rw [if_pos rfl] at h
      dsimp only
      rw [if_pos rfl]
      rw [Rk.bind] at h
      refine ⟨hW.trans (sx.trans (s1.trans s14)),_,H3',e14.2.1,en,(Rk.noE h).mono fun y h w H5 o5=>?_⟩
      obtain ⟨s5,H5',e5,r5⟩:=o5.rd
      have hd5:H5 D=some (.lst ys):=s5 _ _ hd4
      have hdn5:H5' D=none:=e5.2.2 D (z6u hd4) hdn3
      have e15:=e14.trans s14 e5
      rw [Rk.bind] at h
      refine ⟨hd5,z1m (by lia),ds.length - (i+1),by lia,rfl,hlt,by rw [List.length_append];show ys.length+1<=i+1;lia,acc++[y],H5',(s14.trans s5).upd_at hD,z0c,⟨e15.1,e15.2.1.upd_at hdn5,e15.2.2⟩,hdn5,((r2.mono (e3.1.trans e5.1))).append (.one r5),?_⟩
      exact h.mono fun rest h v H' o=>h v H' (by simpa using o)
   . have ei:i=ds.length:=by lia
     subst ei
     rw [List.drop_length] at h
     refine .inl ⟨it'.2 H2 (e2.1.trans e2.2.1),h _ H2 ?_⟩
     rw [List.append_nil]
     refine Out.after s1 e1 (.fresh s2 e2 hD hdn2 ?_)
     simp only [OB]
     exact ⟨ys,hd2,r2⟩
 . exact h.elim
theorem zdm {kp:Bool} {fi:DE->R (List D)} {bn:D->Option (List D)} {B:V->Hp->(List V->Hp->Prop)->Prop} {ix:List Nat} {t:DE->R Bool} {f:DE->R D} {Q:VK} {tt:TT} (hB:BD K bn B) (htt:∀U H Q,TTd K F0 t U H Q->tt U H Q)
 (h:TEd K EX true (z14 fi bn ix t f) U H Q):zaf (TId K EX kp fi) B ix tt (TEd K F0 false f) U H Q:=zpn (F0.same _) hB htt h
noncomputable def mOf (fr:Bool) (n k:Nat) (g:DS->SR):List D->R D:=fun ds=>if ds.length=n then (match g (ds.map .im++List.replicate k .em) with
 | .rt d=>.ok d
 | .nx _=>if fr=true then .st else .ok .non
 | .er x=>.er x
 | _=>.st) else .st
def XFs (K:Frag) (x:Ex) (od:Option Addr) (H:Hp):Prop:=x.fs=[]\/∃(dx:Addr) (ns:List Int) (ob:Obj),od=some dx/\H dx=some (.frz ob (.xd ((y2q x.cls).zip (ns.map V.int))))/\x.fs=ns.map D.int
def xNm (K:Frag) (mg:Str->Option Value) (E:XK) (x:Ex) (H:Hp):Prop:=∃C,mg (x.cls:Str)=some (.ref C)/\∀od,XFs K x od H->E (.ref C) od H
noncomputable def spD (K:Frag) (mg:Str->Option Value) (fr:Bool) (m:List D->R D) (n:Nat):Sp:=fun vs H Q E=>∃ds H0,Same H0 H/\RDs K H0 ds vs/\ds.length=n/\Rk (XW.at ⟨H,xNm K mg E⟩) (m ds) fun d=>∀v H',Out K fr H0 H d v H'->Q v H'
noncomputable def zal (sp:Sp) (E:XK) (t:TA):TE:=fun U H Q=>t U H fun vs H1=>sp vs H1 Q E
theorem ztw {mg:Str->Option Value} {E:XK} {m:List D->R D} {n:Nat} {fs:DE->R (List D)} {Q:VK} (hl:∀ds,ds.length≠n->m ds=.st) (hE:∀x H,EX.p x H->xNm K mg E x H) (h:TEd K EX fr (z0i m fs) U H Q):zal (spD K mg fr m n) E (TAd K EX fs) U H Q:=by
 obtain ⟨sx,ρ,H0,s,e,h⟩:=h
 unfold z0i at h
 rw [Rk.bind] at h
 refine TAd.go sx s e h fun ds h vs H1 H1' s1 e1 r1=>?_
 refine ⟨ds,H1',e1.2.1,r1,?_,?_⟩
 . apply Classical.byContradiction
   intro hn
   rw [hl ds hn] at h
   exact h
 . cases q:m ds with
   | ok d=>rw [q] at h;exact fun v H' o=>h v H' (o.after s1 e1)
   | er x=>rw [q] at h;exact fun H' s'=>hE x H' (h H' ((sx.trans s1).trans s'))
   | st=>rw [q] at h;exact h
theorem zpo {n k:Nat} {g:DS->SR} (ds:List D) (h:ds.length≠n):mOf fr n k g ds=.st:=by unfold mOf;rw [if_neg h]
theorem zkz {vs:List V} {ds:List D} (s:Same H0 H) (r:RDs K H0 ds vs) (k:Nat):RS K H0 H H0 (ds.map .im++List.replicate k .em) (vs.map some++List.replicate k none) H:=by
 have hl:=r.length
 have noow:∀(i:Nat) d,(ds.map Sl.im++List.replicate k Sl.em)[i]?≠some (.ow d):=fun i d q=>by
  rcases List.mem_append.mp (List.mem_of_getElem? q) with z | z
  . obtain ⟨_,_,z⟩:=List.mem_map.mp z;cases z
  . have:=(List.mem_replicate.mp z).2;cases this
 refine ⟨Same.refl _,.refl s,by simp [hl],fun i d q=>?_,fun i d q=>absurd q (noow i d),fun i j d e a q=>absurd q (noow i d)⟩
 by_cases hi:i<ds.length
 . rw [List.getElem?_append_left (by simpa using hi),List.getElem?_map] at q
   rw [List.getElem?_append_left (by simpa [<-hl] using hi),List.getElem?_map]
   cases qd:ds[i]? with
   | none=>rw [qd] at q;cases q
   | some d'=>
    rw [qd] at q
    simp only [Option.map_some,Option.some.injEq,Sl.im.injEq] at q
    subst q
    obtain ⟨x,h1,h2⟩:=r.get' qd
    exact ⟨x,by rw [h1];rfl,h2⟩
 . rw [List.getElem?_append_right (by simpa using hi)] at q
   have:=(List.mem_replicate.mp (List.mem_of_getElem? q)).2
   cases this
theorem ztx {n k:Nat} {g:DS->SR} {vs:List V} {Q:VK} {E:XK} {mg:Str->Option Value} (h:spD K mg fr (mOf fr n k g) n vs H Q E) :
  TSd K ⟨H,xNm K mg E⟩ fr g { nx:=fun _ H'=>Q .non H',rt:=Q } (vs.map some++List.replicate k none) H:=by
 obtain ⟨ds,H0,s,r,hn,h⟩:=h
 refine ⟨H0,H,H0,_,Same.refl _,zkz s r k,?_⟩
 unfold mOf at h
 rw [if_pos hn] at h
 cases q:g (ds.map .im++List.replicate k .em) with
 | nx ρ=>
  rw [q] at h
  cases fr with
  | true=>exact h.elim
  | false=>exact fun U H' H0' I=>h _ H' (.val I.sb I.ext (by simp only [RD]))
 | rt d=>rw [q] at h;exact h
 | er x=>rw [q] at h;exact h
 | bk ρ=>rw [q] at h;exact h.elim
 | ct ρ=>rw [q] at h;exact h.elim
 | st=>rw [q] at h;exact h.elim
end
structure Flt {α:Type} (t:Sem α):Prop where
 go:∀{M:Model} {Γ:PySem.Ctx} {Q Q':α->Pos->Shared->Prop} {E E':Value->Pos->Shared->Prop} {p:Pos} {s:Shared},
 t.wp M Γ Q E p s->t.wp M Γ Q' E' p s->t.wp M Γ (fun a p s=>Q a p s/\Q' a p s) (fun a p s=>E a p s/\E' a p s) p s
theorem Flt.bind {α β:Type} {t:Sem α} {f:α->Sem β} (h:Flt t) (k:∀a,Flt (f a)):Flt (t >>= f):=by
 refine ⟨fun x y=>?_⟩
 rw [Sem.wp_bind'] at x y ⊢
 exact Sem.wp_mono _ _ _ (fun a _ _ z=>(k a).go z.1 z.2) (fun _ _ _ z=>z) _ _ (h.go x y)
theorem Flt.pure {α:Type} (a:α):Flt (Pure.pure a:Sem α):=⟨fun x y=>⟨x,y⟩⟩
theorem Flt.uns {α:Type} (w:String):Flt (unsupported w:Sem α):=⟨fun x _=>x.elim⟩
theorem Flt.stack:Flt PySem.stack:=⟨fun x y=>⟨x,y⟩⟩
theorem Flt.alloc (o:Obj):Flt (PySem.alloc o):=⟨fun x y=>⟨x,y⟩⟩
theorem Flt.update (a:Addr) (f:Obj->Obj):Flt (PySem.update a f):=⟨fun x y=>⟨x.1,x.2,y.2⟩⟩
theorem Flt.load (a:Addr):Flt (PySem.load a):=⟨fun ⟨o,e,x⟩ ⟨o',e',y⟩=>by rw [e] at e';cases e';exact ⟨o,e,x,y⟩⟩
theorem Flt.cells (v:Value):Flt (fieldsOf v):=by
 cases v<;>first | exact .uns _ | exact .bind (.load _) fun o=>by split<;>first | exact .pure _ | exact .uns _
theorem Flt.field (v:Value) (i:Nat):Flt (PySem.field v i):=.bind (.cells v) fun vs=>by split<;>first | exact .pure _ | exact .uns _
theorem Flt.put (v:Value) (i:Nat) (x:Value):Flt (setField v i x):=by
 cases v<;>first | exact .uns _ | exact .bind (.load _) fun o=>by split<;>first | exact .uns _ | (split<;>first | exact .update _ _ | exact .uns _)
theorem Flt.flight (e:Value) (f:Option Addr):Flt (setFlight e f):=.bind (.field e 1) fun tb=>by split<;>first | exact .put _ _ _ | exact .pure _
theorem Flt.ready:∀l:List Env,Flt (readyFrames l)
 | []=>.pure _
 | env::outer=>by
  unfold readyFrames
  split<;>first | exact .uns _ | skip
  refine .bind (.load _) fun o=>?_
  split<;>first | exact .pure _ | skip
  refine .bind ?_ fun b=>.bind ?_ fun v=>.bind (.update _ _) fun _=>Flt.ready outer
  . unfold behindIsImport
    split<;>first | exact .pure _ | skip
    split<;>first | exact .pure _ | exact .bind (.field _ _) fun _=>.pure _
  . unfold keptBack
    split<;>first | exact .pure _ | skip
    split<;>first | exact .pure _ | exact .bind (.bind .stack fun _=>.pure _) fun _=>.pure _
theorem Flt.frame (env:Env):Flt (frameOf env):=.bind (.bind .stack fun _=>.pure _) fun es=>.bind (by
 unfold frameObject
 split
 . exact .pure _
 . exact .bind (.ready _) fun _=>.pure _) fun f=>by split<;>first | exact .pure _ | exact .uns _
theorem Flt.fields (vs:List Value):Flt (newFields "traceback" vs):=by
 have h:Flt (newObjAsIs (.type "traceback") (.fields vs.toArray)):=.bind (.alloc _) fun a=>.pure _
 unfold newFields newObj
 dsimp only
 split
 . exact .bind (.uns _) fun _=>h
 . exact h
theorem Flt.entry (env:Env) (e head:Value) (L:Addr) (b:Bool):Flt (do let a <-frameOf env;let pl <-entryPlaceOf L b;let b <-EntryCells.newEntry head a .none (rawInt L) .none pl;setField e 1 b):=
 .bind (.frame env) fun _=>.bind (.bind .stack fun acts=>by split<;>exact .pure _) fun _=>.bind (.fields _) fun _=>.put _ _ _
theorem Flt.note (e:Value) (env:Env):Flt (noteFrame e env):=by
 unfold noteFrame
 split<;>first | exact .uns _ | skip
 refine .bind (.field _ _) fun head=>?_
 split
 . refine .bind (.field _ _) fun x=>?_
   split
   . exact .pure _
   . exact .bind (.put _ _ _) fun _=>.entry _ _ _ _ _
 . exact .entry _ _ _ _ _
theorem z5b {M:Model} {A:Around} {α:Type} {t:Sem α} {Q Q':α->Shared->Prop} {E E':Value->Shared->Prop} {s:Shared} (f:Flt t) (h:wpAny M A t Q E s) (k:wpAny M A t Q' E' s):wpAny M A t (fun a s=>Q a s/\Q' a s) (fun a s=>E a s/\E' a s) s:=
 fun Γ p hΓ=>f.go (h Γ p hΓ) (k Γ p hΓ)
section
variable {M:Model} {A:Around} {E:Value->Shared->Prop} {s:Shared} {base:Heap} {env:Env} {outer:List Env} {L e:Addr} {cls a0 fl:Value} {od:Option Addr}
def z37 (e:Addr) (od:Option Addr) (h:Heap):Prop:=∀o,h.get? e=some o->o.dict=od
theorem zl0 (o:Obj) (f:Array Value->Array Value):(Obj.mapFields f o).dict=o.dict:=by
 unfold Obj.mapFields
 split<;>rfl
theorem z8r {h:Heap} {b:Addr} {f:Array Value->Array Value} (d:z37 e od h) (hb:∃o,h.get? b=some o/\∃vs,o.data=.fields vs):z37 e od (h.update b (Obj.mapFields f)):=by
 intro o ho
 by_cases q:b=e
 . subst q
   obtain ⟨ob,h1,vs,h2⟩:=hb
   rw [Heap.get?_update_self _ h1 (Obj.isFreed_of_fields (Obj.data_mapFields h2 f))] at ho
   cases ho
   rw [zl0]
   exact d _ h1
 . rw [Heap.get?_update_other _ _ q] at ho
   exact d o ho
theorem zgy (T:Addr):(Value.ref T != Value.none)=true:=by simp
theorem zty (L:Addr):(Value.none==rawInt L)=false:=by simp [rawInt]
theorem zc3 (ht:s.heap.TracedAtW base e cls a0 fl) (d:z37 e od s.heap):wpAny M A (setFlight (.ref e) none) (fun _ s'=>z37 e od s'.heap) E s:=by
 obtain ⟨oe,vs,T,oT,ts,he,-,hd,h1,-,-,hT,hdT,h3⟩:=ht
 have in3:=(Array.getElem?_eq_some_iff.mp h3).1
 unfold setFlight
 exact wpAny_bind (wpAny_field he hd h1 (by rw [if_pos (zgy T)];exact wpAny_setField hT hdT in3 (z8r d ⟨_,hT,_,hdT⟩)))
theorem z7u {oe:Obj} {vs:Array Value} {head:Value} {hadNext:Bool} (hfr:A.frames=some (env::outer)) (hl:s.heap.FunFrames base (env::outer)) (hf:env.frame=some L) (he:s.heap.get? e=some oe) (hd:oe.data=.fields vs) (hsz:1<vs.size) (d:z37 e od s.heap) :
  wpAny M A (do let a <-frameOf env;let pl <-entryPlaceOf L hadNext;let b <-EntryCells.newEntry head a .none (rawInt L) .none pl;setField (.ref e) 1 b) (fun _ s'=>z37 e od s'.heap) E s:=by
 have nf:e∉(env::outer).filterMap (·.frame):=fun hm=>by
  obtain ⟨_,o,ho,hnf⟩:=hl.mem hm
  rw [he] at ho;cases ho;exact hnf vs hd
 refine wpAny_bind (wpAny_frameOf_fun hfr hl hf fun h1 hs=>wpAny_bind (wpAny_entryPlaceOf fun pl hpl=>?_))
 unfold EntryCells.newEntry newFields
 refine wpAny_bind (wpAny_newObj_type ?_ (hpl.sizeOk5 _ _ _ _ _))
 have he1:h1.get? e=some oe:=(hs.2.1 e nf).trans he
 have he2:=Heap.get?_push_of_some (h:=h1) { cls:=.type "traceback",dict:=none,data:=.fields ([head,.ref L,.none,rawInt L,.none]++(if pl.isEmpty then List.replicate 6 Value.none else pl)).toArray } he1
 refine wpAny_setField he2 hd hsz (z8r (fun o ho=>?_) ⟨_,he2,_,hd⟩)
 rw [he2] at ho;cases ho
 exact d _ he
theorem zgz (hfr:A.frames=some (env::outer)) (hl:s.heap.FunFrames base (env::outer)) (hf:env.frame=some L) (ht:s.heap.TracedW base e cls a0) (d:z37 e od s.heap) :
  wpAny M A (noteFrame (.ref e) env) (fun _ s'=>z37 e od s'.heap) E s:=by
 obtain ⟨oe,vs,T,oT,ts,he,-,hd,h1,-,hTe,hT,hdT,h3⟩:=ht
 have in1:=(Array.getElem?_eq_some_iff.mp h1).1
 have in3:=(Array.getElem?_eq_some_iff.mp h3).1
 have off:∀b,T≠b->(s.heap.update T (Obj.mapFields (·.setIfInBounds 3 Value.none))).get? b=s.heap.get? b:=fun b hb=>Heap.get?_update_other _ _ hb
 have fr:(s.heap.update T (Obj.mapFields (·.setIfInBounds 3 Value.none))).FunFrames base (env::outer):=hl.of_keeps fun b o hb nf=>⟨o,(off b fun z=>by rw [<-z,hT] at hb;cases hb;exact nf ts hdT).trans hb,rfl⟩
 unfold noteFrame
 simp only [hf]
 exact wpAny_bind (wpAny_field he hd h1 (by
  rw [if_pos (zgy T)]
  exact wpAny_bind (wpAny_field hT hdT h3 (by
   rw [if_neg (by rw [zty];exact Bool.false_ne_true)]
   exact wpAny_bind (wpAny_setField hT hdT in3 (z7u hfr fr hf ((off e hTe).trans he) hd in1 (z8r d ⟨_,hT,_,hdT⟩)))))))
end
section
variable {M:Model} {A:Around} {E:Value->Shared->Prop} {s:Shared} {base:Heap} {env:Env} {outer:List Env} {L e:Addr} {cls a0:Value} {od:Option Addr} {Q:Unit->Shared->Prop}
theorem zh0 (hh:Heap.HeldW base (env::outer) e cls a0 L s.heap) (d:z37 e od s.heap) (hQ:∀h',Heap.FlyingW base (env::outer) e cls a0 h'->s.heap.UpToSlots h'->z37 e od h'->Q () { s with heap:=h' }):wpAny M A (setFlight (.ref e) none) Q E s:=
 wpAny_mono (z5b (E:=E) (E':=E) (.flight _ _) (wpAny_landsW hh (Q:=fun _ s'=>∃h',s'={ s with heap:=h' }/\Heap.FlyingW base (env::outer) e cls a0 h'/\s.heap.UpToSlots h') fun h' f u=>⟨h',rfl,f,u⟩) (zc3 hh.2.2.2 d))
  (fun _ s' ⟨⟨h',e1,f,u⟩,d'⟩=>by subst e1;exact hQ h' f u d') fun _ _ z=>z.1
theorem zpp (hfr:A.frames=some (env::outer)) (hf:env.frame=some L) (hfl:Heap.FlyingW base (env::outer) e cls a0 s.heap) (d:z37 e od s.heap)
  (hQ:∀h',Heap.HeldW base (env::outer) e cls a0 L h'->s.heap.UpToSlots h'->z37 e od h'->Q () { s with heap:=h' }):wpAny M A (noteFrame (.ref e) env) Q E s:=
 wpAny_mono (z5b (E:=E) (E':=E) (.note _ _) (wpAny_looks_onW hfr hf hfl (Q:=fun _ s'=>∃h',s'={ s with heap:=h' }/\Heap.HeldW base (env::outer) e cls a0 L h'/\s.heap.UpToSlots h') fun h' f u=>⟨h',rfl,f,u⟩) (zgz hfr hfl.2.2.1 hf hfl.2.2.2 d))
  (fun _ s' ⟨⟨h',e1,f,u⟩,d'⟩=>by subst e1;exact hQ h' f u d') fun _ _ z=>z.1
theorem zl1 (hfr:A.frames=some (env::outer)) (hf:env.frame=some L) (hfl:Heap.FlyingW base (env::outer) e cls a0 s.heap) (d:z37 e od s.heap)
  (hQ:∀h',Heap.FlyingW base outer e cls a0 h'->s.heap.UpToSlots h'->z37 e od h'->Q () { s with heap:=h' }):wpAny M A (leaving env (.ref e)) Q E s:=by
 unfold leaving
 refine wpAny_bind (zpp hfr hf hfl d fun h1 hh u1 d1=>zh0 (s:={ s with heap:=h1 }) hh d1 fun h2 f u2 d2=>hQ h2 ?_ (u1.trans u2) d2)
 obtain ⟨k1,k2,⟨_,_,k3⟩,k4⟩:=f
 exact ⟨k1,k2,k3,k4⟩
theorem zpq {oe:Obj} {vs:Array Value} (hfr:A.frames=some (env::outer)) (hl:s.heap.FunFrames base (env::outer)) (hf:env.frame=some L) (he:s.heap.get? e=some oe) (hkb:base.StaysIn s.heap) (hen:base.get? e=none) (hd:oe.data=.fields vs) (h1:vs[1]?=some .none) (h0:vs[0]?=some a0) (d:z37 e od s.heap)
  (hQ:∀h',Heap.FlyingW base outer e oe.cls a0 h'->s.heap.UpToSlots h'->z37 e od h'->Q () { s with heap:=h' }):wpAny M A (leaving env (.ref e)) Q E s:=by
 have hsz:=(Array.getElem?_eq_some_iff.mp h1).1
 unfold leaving noteFrame
 simp only [hf]
 refine wpAny_bind (wpAny_bind (wpAny_field he hd h1 ?_))
 rw [if_neg (by decide)]
 refine wpAny_mono (z5b (E:=E) (E':=E) (.entry _ _ _ _ _) (wpAny_entryW hfr hl hf he hkb hen hd hsz h0 (Q:=fun _ s'=>∃h',s'={ s with heap:=h' }/\Heap.NotedW base (env::outer) e oe.cls a0 (rawInt L) s.heap h') fun h' n=>⟨h',rfl,n⟩) (z7u hfr hl hf he hd hsz d)) (fun _ s' z=>?_) fun _ _ z=>z.1
 obtain ⟨⟨h',e1,n1,n2,n3,n4⟩,d1⟩:=z
 subst e1
 refine zh0 (s:={ s with heap:=h' }) ⟨n1,hen,n2,n3⟩ d1 fun h2 f u2 d2=>hQ h2 ?_ (Heap.UpToSlots.trans n4 u2) d2
 obtain ⟨k1,k2,⟨_,_,k3⟩,k4⟩:=f
 exact ⟨k1,k2,k3,k4⟩
end
theorem ObjOk.there {P:Program} {w:World} {H:Hp} {h:Heap} {a:Addr} {o:HO} (x:ObjOk P w H h a o):∃ob,h.get? a=some ob:=by
 induction o with
 | lst xs=>obtain ⟨_,_,_,_,e⟩:=x;exact ⟨_,e⟩
 | tup xs=>obtain ⟨_,_,_,ob,e,_⟩:=x;exact ⟨_,e⟩
 | dK kvs=>obtain ⟨_,_,_,_,o,_,_,e,_⟩:=x;exact ⟨_,e⟩
 | dT kvs=>obtain ⟨_,_,_,_,o,_,_,e,_⟩:=x;exact ⟨_,e⟩
 | set S n=>obtain ⟨o,_,_,_,e,_⟩:=x;exact ⟨_,e⟩
 | ins C dx fs=>obtain ⟨_,_,_,e,_⟩:=x;exact ⟨_,e⟩
 | own y=>exact x
 | xd fs=>obtain ⟨_,⟨_,_,_,e,_⟩,_⟩:=x;exact ⟨_,e⟩
 | rng lo hi=>obtain ⟨_,_,_,e⟩:=x;exact ⟨_,e⟩
 | frz ob u ih=>exact ⟨_,x.1⟩
 | tbl ps=>exact ⟨_,x⟩
 | ctb q=>obtain ⟨_,e,_⟩:=x;exact ⟨_,e⟩
 | met f y=>exact ⟨_,x⟩
 | ext φ=>exact x.2.1
theorem HOk.none {P:Program} {w:World} {H:Hp} {h:Heap} {a:Addr} (x:HOk P w H h) (e:h.get? a=Option.none):H a=Option.none:=by
 cases q:H a with
 | none=>rfl
 | some o=>
  obtain ⟨ob,z⟩:=(x a o q).there
  rw [e] at z;cases z
def Fly (h0:Heap) (H':Hp) (C a:Addr) (od:Option Addr) (h:Heap):Prop:=∃oe vs T oT ts a0,h.get? a=some oe/\oe.cls=.ref C/\vs[0]?=some a0/\oe.data=.fields vs/\vs[1]?=some (.ref T)/\T≠a/\h.get? T=some oT/\oT.data=.fields ts/\ts[3]?=some Value.none /\
 h0.get? a=none/\h0.get? T=none/\H' a=none/\H' T=none/\oe.dict=od/\∀dx,od=some dx->h0.get? dx=none
structure XOut (P:Program) (w:World) (outer:List Env) (H:Hp) (s:Shared) (C a:Addr) (od:Option Addr) (H':Hp) (s':Shared):Prop where
 os:s'.os=s.os
 bare:AllBare s'.gens
 un:Un (frs outer) [] H H' s.heap s'.heap
 hok:HOk P w H' s'.heap
 fly:Fly s.heap H' C a od s'.heap
noncomputable def CX1 (P:Program) (w:World):CXT:=fun outer H s E e s'=>∃C a od H',e=.ref a/\XOut P w outer H s C a od H' s'/\E (.ref C) od H'
theorem zam {l:List Addr} {h:Heap} {b:Addr} (e:(hideAll h l).get? b=none):b∈l\/h.get? b=none:=by
 by_cases hb:b∈l
 . exact .inl hb
 . cases q:h.get? b with
   | none=>exact .inr rfl
   | some o=>rw [hideAll_get l q hb] at e;cases e
section
variable {X:Cx} {pins:List (Addr×Obj)} {U:List (Option V)} {H1 H2:Hp} {s1 s2:Shared} {h' B:Heap} {Z:List Addr} {C a:Addr} {a0:Value} {od:Option Addr}
theorem Inv.stack2 (I:Inv X pins U H1 s1) (un:Un (frs X.stack) [] H1 H2 s1.heap s2.heap):s2.heap.FunFrames X.base X.stack:=by
 have all:∀(l:List Env),(∀b∈frs l,b∈frs X.stack)->s1.heap.FunFrames X.base l->s2.heap.FunFrames X.base l:=by
  intro l
  induction l with
  | nil=>intro _ _;trivial
  | cons env r ih=>
   intro hs hl
   obtain ⟨hk,⟨L,o,hf,hn,ho,hd⟩,hr⟩:=hl
   have hL:L∈frs X.stack:=hs L (by unfold frs;rw [List.filterMap_cons,hf];exact List.mem_cons_self)
   obtain ⟨sl,e⟩:=un.slot L o ho (I.stkFree L hL) hL (by simp)
   exact ⟨hk,⟨L,_,hf,hn,e,hd⟩,ih (fun b hb=>hs b (by unfold frs;rw [List.filterMap_cons,hf];exact List.mem_cons_of_mem _ hb)) hr⟩
 exact all X.stack (fun _ hb=>hb) I.stack
theorem z7v (I:Inv X pins U H1 s1) (hst:X.stack=X.env::X.outer) (hex:X.ex=[]) (hos:s2.os=s1.os) (hbare:AllBare s2.gens) (un:Un (frs X.stack) [] H1 H2 s1.heap s2.heap) (hok:HOk X.prog X.w H2 s2.heap)
  (hZ:∀b∈Z,s1.heap.get? b=none/\H2 b=none) (ha:s1.heap.get? a=none) (hHa:H2 a=none) (keep:∀b o,s2.heap.get? b=some o->b∉Z->b∉frs X.stack->h'.get? b=some o)
  (up:s2.heap.UpToSlots h') (hB:∀b,B.get? b=none->b∈frs X.stack\/(s1.heap.get? b=none/\H2 b=none)) (hfl:Heap.FlyingW B X.outer a (.ref C) a0 h') (hdc:z37 a od h') (hnd:∀dx,od=some dx->s1.heap.get? dx=none) :
  XOut X.prog X.w X.outer X.H₀ X.s₀ C a od H2 { s2 with heap:=h' }:=by
 have base:Un X.fs [] X.H₀ H1 X.s₀.heap s1.heap:=hex ▸ I.base
 have F2:=I.stack2 un
 have sub:∀b∈frs X.outer,b∈frs X.stack:=fun b hb=>by
  rw [hst];unfold frs
  cases q:X.env.frame with
  | none=>rw [List.filterMap_cons,q];exact hb
  | some L=>rw [List.filterMap_cons,q];exact List.mem_cons_of_mem _ hb
 have neL:∀b o,X.s₀.heap.get? b=some o->b≠X.env.locals:=fun b o e=>Nat.ne_of_lt (Nat.lt_of_lt_of_le (Heap.lt_size e) I.ok.above)
 have nost:∀b o,X.s₀.heap.get? b=some o->b∉frs X.outer->b∉frs X.stack:=fun b o e hb z=>(List.mem_cons.mp (I.stkSub b z)).elim (neL b o e) hb
 have fresh0:∀b,s1.heap.get? b=none->X.s₀.heap.get? b=none:=fun b e=>by
  cases q:X.s₀.heap.get? b with
  | none=>rfl
  | some o=>
   obtain ⟨o',z⟩:=base.there b o q (by simp)
   rw [e] at z;cases z
 have noZ:∀b o,X.s₀.heap.get? b=some o->b∉Z:=fun b o e hb=>by
  rw [fresh0 b (hZ b hb).1] at e;cases e
 have frFree:∀b∈frs X.stack,H2 b=none:=fun b hb=>by
  obtain ⟨_,o,ho,_⟩:=I.stack.mem hb
  exact un.free b o ho (I.stkFree b hb) (by simp)
 have slotF:∀b∈frs X.stack,∀o,s2.heap.get? b=some o->∃sl,h'.get? b=some { o with slots:=sl }:=fun b hb o e=>by
  obtain ⟨_,o',ho',hd⟩:=F2.mem hb
  rw [e] at ho';cases ho'
  exact up b o e hd
 refine ⟨by show s2.os=_;rw [hos,I.os],hbare,⟨fun b o e n hb _=>?_,fun b o e n hb _=>?_,fun b o e n _=>?_,fun b o e _=>?_,fun b xs e=>un.tups b xs (base.tups b xs e),fun b o u e=>un.frzs b o u (base.frzs b o u e),fun b ps e=>?_⟩,fun b o e=>?_,?_⟩
 . exact keep b o (un.keep b o (base.keep b o e n hb (by simp)) (base.free b o e n (by simp)) (nost b o e hb) (by simp)) (noZ b o e) (nost b o e hb)
 . obtain ⟨sl,e1⟩:=base.slot b o e n hb (by simp)
   obtain ⟨sl2,e2⟩:=un.slot b _ e1 (base.free b o e n (by simp)) (sub b hb) (by simp)
   obtain ⟨sl3,e3⟩:=slotF b (sub b hb) _ e2
   exact ⟨sl3,e3⟩
 . obtain ⟨o1,e1⟩:=base.there b o e (by simp)
   exact un.free b o1 e1 (base.free b o e n (by simp)) (by simp)
 . obtain ⟨o1,e1⟩:=base.there b o e (by simp)
   obtain ⟨o2,e2⟩:=un.there b o1 e1 (by simp)
   by_cases hb:b∈frs X.stack
   . obtain ⟨sl,e3⟩:=slotF b hb _ e2
     exact ⟨_,e3⟩
   . exact ⟨o2,keep b o2 e2 (noZ b o e) hb⟩
 . obtain ⟨m1,e1⟩:=base.tbls b ps e
   obtain ⟨m2,e2⟩:=un.tbls b _ e1
   exact ⟨m1++m2,by rw [e2,Array.append_assoc]⟩
 . refine (hok b o e).stay (fun c v hc q=>keep c v q (fun hz=>?_) fun hf=>?_) (fun _ q=>q) fun _ _ q=>q
   . have:=(hZ c hz).2
     rcases hc with rfl | hc
     . rw [e] at this;cases this
     . rw [hc] at this;cases this
   . have:=frFree c hf
     rcases hc with rfl | hc
     . rw [e] at this;cases this
     . rw [hc] at this;cases this
 . obtain ⟨_,_,_,oe,vs,T,oT,ts,he,⟨hc,h0⟩,hd,h1,hnT,hTe,hT,hdT,h3⟩:=hfl
   have hTn:s1.heap.get? T=none/\H2 T=none:=by
    rcases hB T hnT with z | z
    . obtain ⟨_,o',ho',hd'⟩:=F2.mem z
      obtain ⟨sl,e3⟩:=slotF T z o' ho'
      rw [hT] at e3;cases e3
      exact absurd hdT (hd' ts)
    . exact z
   exact ⟨oe,vs,T,oT,ts,a0,he,hc,h0,hd,h1,hTe,hT,hdT,h3,fresh0 a ha,fresh0 T hTn.1,hHa,hTn.2,hdc _ he,fun dx e=>fresh0 dx (hnd dx e)⟩
theorem zl2 (I:Inv X pins U H1 s1) (hst:X.stack=X.env::X.outer) (hex:X.ex=[]) (hf:X.env.frame=some X.env.locals) (x:XOut X.prog X.w X.stack H1 s1 C a od H2 s2) {E:Value->Shared->Prop} {Q:Unit->Shared->Prop}
  (h:∀s',XOut X.prog X.w X.outer X.H₀ X.s₀ C a od H2 s'->Q () s'):wpAny (model X.prog X.w) X.A (leaving X.env (.ref a)) Q E s2:=by
 obtain ⟨oe,vs,T,oT,ts,a0,he,hc,h0,hd,h1,hTe,hT,hdT,h3,na,nT,ha,hHT,hod,hnd⟩:=id x.fly
 have F2:=I.stack2 x.un
 have hin:∀env∈X.stack,∀b,env.frame=some b->b∈a::T::frs X.stack:=fun env he b hb=>List.mem_cons_of_mem _ (List.mem_cons_of_mem _ (List.mem_filterMap.mpr ⟨env,he,hb⟩))
 have hfr:X.A.frames=some (X.env::X.outer):=by rw [<-hst];exact I.ok.frames
 refine zl1 (od:=od) (base:=hideAll s2.heap (a::T::frs X.stack)) (cls:=.ref C) (a0:=a0) hfr hf ⟨fun b o q=>PySem.W.of_hideAll _ q,hideAll_none _ (.head _),hst ▸ PySem.W.funFrames_hide F2 hin,?_⟩ (fun o ho=>by rw [he] at ho;cases ho;exact hod) fun h' hfl up hdc=>h _ (z7v (Z:=[a,T]) I hst hex x.os x.bare x.un x.hok (fun b hb=>?_) na ha (fun b o q hz hfs=>hfl.1 b o (hideAll_get _ q ?_)) up (fun b q=>?_) hfl hdc hnd)
 . exact ⟨oe,vs,T,oT,ts,he,⟨hc,h0⟩,hd,h1,hideAll_none _ (.tail _ (.head _)),hTe,hT,hdT,h3⟩
 . rcases List.mem_cons.mp hb with rfl | hb
   . exact ⟨na,ha⟩
   . have:b=T:=by simpa using hb
     subst this;exact ⟨nT,hHT⟩
 . intro z
   rcases List.mem_cons.mp z with rfl | z
   . exact hz (.head _)
   . rcases List.mem_cons.mp z with rfl | z
     . exact hz (.tail _ (.head _))
     . exact hfs z
 . rcases zam q with z | z
   . rcases List.mem_cons.mp z with rfl | z
     . exact .inr ⟨na,ha⟩
     . rcases List.mem_cons.mp z with rfl | z
       . exact .inr ⟨nT,hHT⟩
       . exact .inl z
   . refine .inr ⟨?_,x.hok.none z⟩
     cases q1:s1.heap.get? b with
     | none=>rfl
     | some o=>
      obtain ⟨o',e'⟩:=x.un.there b o q1 (by simp)
      rw [z] at e';cases e'
structure MadeX (h h':Heap) (e C:Addr) (od:Option Addr):Prop where
 new:h.get? e=none
 newd:∀dx,od=some dx->h.get? dx=none
 there:∃oe vs a0,h'.get? e=some oe/\oe.cls=.ref C/\oe.dict=od/\oe.data=.fields vs/\vs[0]?=some a0/\vs[1]?=some .none
theorem MadeX.of {h h':Heap} {e C:Addr} {args:List Value} (x:Heap.MadeExcOf h h' e (.ref C) args):MadeX h h' e C none:=by
 obtain ⟨t,he,_,_⟩:=x.there
 exact ⟨x.new,(fun _ z=>nomatch z),_,_,_,he,rfl,rfl,rfl,rfl,rfl⟩
theorem zey (I:Inv X pins U H1 s1) (hst:X.stack=X.env::X.outer) (hex:X.ex=[]) (hf:X.env.frame=some X.env.locals) (hx:MadeX s1.heap s2.heap a C od) (hok:HOk X.prog X.w H2 s2.heap) (un:Un (frs X.stack) [] H1 H2 s1.heap s2.heap) (hHa:H2 a=none) (hos:s2.os=s1.os) (hbare:AllBare s2.gens) {E:Value->Shared->Prop} {Q:Unit->Shared->Prop}
  (h:∀s',XOut X.prog X.w X.outer X.H₀ X.s₀ C a od H2 s'->Q () s'):wpAny (model X.prog X.w) X.A (leaving X.env (.ref a)) Q E s2:=by
 have hin:∀env∈X.stack,∀b,env.frame=some b->b∈a::frs X.stack:=fun env he b hb=>List.mem_cons_of_mem _ (List.mem_filterMap.mpr ⟨env,he,hb⟩)
 have hfr:X.A.frames=some (X.env::X.outer):=by rw [<-hst];exact I.ok.frames
 have F2:=I.stack2 un
 obtain ⟨oe,vs,a0,he,hc,hod,hd,h0,h1⟩:=hx.there
 refine zpq (od:=od) (base:=hideAll s2.heap (a::frs X.stack)) hfr (hst ▸ PySem.W.funFrames_hide F2 hin) hf he (fun b o q=>PySem.W.of_hideAll _ q) (hideAll_none _ (.head _)) hd h1 h0 (fun o ho=>by rw [he] at ho;cases ho;exact hod) fun h' hfl up hdc=>h _ ?_
 rw [hc] at hfl
 refine z7v (B:=hideAll s2.heap (a::frs X.stack)) (Z:=[a]) I hst hex hos hbare un hok (fun b hb=>?_) hx.new hHa (fun b o q hz hfs=>hfl.1 b o (hideAll_get _ q ?_)) up (fun b q=>?_) hfl hdc hx.newd
 . obtain rfl:b=a:=by simpa using hb
   exact ⟨hx.new,hHa⟩
 . intro z
   rcases List.mem_cons.mp z with rfl | z
   . exact hz (.head _)
   . exact hfs z
 . rcases zam q with z | z
   . rcases List.mem_cons.mp z with rfl | z
     . exact .inr ⟨hx.new,hHa⟩
     . exact .inl z
   . refine .inr ⟨?_,hok.none z⟩
     cases q1:s1.heap.get? b with
     | none=>rfl
     | some o=>
      obtain ⟨o',e'⟩:=un.there b o q1 (by simp)
      rw [z] at e';cases e'
end
noncomputable def eOf (K:Frag) (EX:XW) (mg:Str->Option Value):XK:=fun cv od H=>∃x:Ex,EX.p x H/\mg (x.cls:Str)=some cv/\XFs K x od H
structure Lnd (X:Cx) (EX:XW):Prop where
 nm:∀x H,EX.p x H->∃C,X.mg (x.cls:Str)=some (.ref C)
 on:zd8 (CX1 X.prog X.w) X (eOf X.K EX X.mg)
 md:∀(pins:List (Addr×Obj)) (U:St) (H H2:Hp) (s:Shared) (a C:Addr) (od:Option Addr) (s':Shared) (x:Ex),Inv X pins U H s->MadeX s.heap s'.heap a C od->HOk X.prog X.w H2 s'.heap->Un (frs X.stack) [] H H2 s.heap s'.heap->H2 a=none->s'.os=s.os->AllBare s'.gens->X.mg (x.cls:Str)=some (.ref C)->EX.p x H2->XFs X.K x od H2->X.xe (.ref a) s'
theorem zyp {X:Cx}:Lnd X F0:=⟨fun _ _ z=>z.elim,fun _ _ _ _ _ _ _ ⟨_,_,_,_,_,_,_,z,_⟩=>z.elim,fun _ _ _ _ _ _ _ _ _ _ _ _ _ _ _ _ _ _ z _=>z.elim⟩
theorem z56 {P:Program} {w:World} {K:Frag} {mg:Str->Option Value} {base:Heap} {N:List Str} {qual:Str} {sc:Scope} {f:Addr} {cdv:Value} {A:Around} {outer:List Env} {s:Shared} {H:Hp} {E:XK} :
  Lnd (zk4 (CX1 P w) P w K mg base N qual sc f cdv A outer s H E) ⟨H,xNm K mg E⟩:=by
 refine ⟨fun x H ⟨C,hC,_⟩=>⟨C,hC⟩,?_,?_⟩
 . rintro pins U H1 s1 e s' I ⟨C,a,od,H',rfl,xo,x,⟨C',hC',hE⟩,hmg,hx⟩
   have hmg:mg (x.cls:Str)=some (.ref C):=hmg
   rw [hC'] at hmg
   cases hmg
   exact zl2 I rfl rfl rfl xo fun s'' y=>⟨_,a,od,H',rfl,y,hE od hx⟩
 . rintro pins U H1 H2 s1 a C od s' x I hx hok un hHa ho hb hmg ⟨C',hC',hE⟩ hf
   have hmg:mg (x.cls:Str)=some (.ref C):=hmg
   rw [hC'] at hmg
   cases hmg
   exact zey I rfl rfl rfl hx hok un hHa ho hb fun s'' y=>⟨_,a,od,H2,rfl,y,hE od hf⟩
def z6a (P:Program) (w:World) (K:Frag) (mg:Str->Option Value) (base:Heap) (x:Str) (ps:List Str) (k:Nat) (sp:Sp):Prop:=
 ∃f fd,FnOk P w K mg base (CX1 P w) k f fd ps sp/\Binds K fd ps []/\mg x=some (.ref f)/\keepIn K (.ref f)=true
section
variable {X:Cx} {x:Str} {p pos:Pos} {e:Expr} {es:List Expr} {t:TA} {ps:List Str} {k j:Nat} {sp:Sp} {E:XK}
theorem zh1 (G:z6a X.prog X.w X.K X.mg X.base x ps k sp) (hx:zd8 (CX1 X.prog X.w) X E) (hr:Room j X.A) (hg:Gl X x) (ha:PA X (e::es) t) (hkj:k<=j:=by omega) (hdb:(x==("__debug__":Str))=false:=by decide)
  (he:starEach (e::es) X.env=(false,eval e X.env)::starEach es X.env:=by rfl) (hpl:(backTo pos (starEach es X.env)).any (·.1)=false:=by rfl):PE X (.Call (.Name x p) (e::es) [] pos) (zal sp E t):=by
 obtain ⟨f,fd,F,b,m,kp⟩:=G
 refine (zp2 F (hr.mono hkj) hg m kp b .nil hx ha hdb he hpl).imp fun U H Q q=>?_
 unfold zsw
 unfold zal at q
 simpa only [List.append_nil] using q
end
theorem Fun.okX {P:Program} {w:World} {K:Frag} {mg:Str->Option Value} {base:Heap} {x qual:Str} {st:Stmt} {f:Addr} {fd:FuncData} {N ps:List Str} {k:Nat} {sp:Sp} {CX:CXT} (F:Fun K x qual st f fd) (S:FnScope N ps (z04 st)) (len:∀vs H Q E,sp vs H Q E->vs.length=ps.length)
  (hbody:∀(cdv:Value) (A:Around) (outer:List Env) (s:Shared) (H:Hp) (vs:List V) (Q:VK) (E:XK),Room k (A.deeper (envOfC qual (z04 st) s.heap.objs.size f cdv))->sp vs H Q E ->
   ∃t,PSs (zk4 CX P w K mg base N qual (z04 st) f cdv A outer s H E) (z1t st) t/\t { nx:=fun _ H'=>Q .non H',rt:=Q } (z57 N vs) H):FnOk P w K mg base CX (k+1) f fd ps sp:=by
 obtain ⟨oc,od,kV,doc,pm,an,cdv,ct,osl,rfl,lk,hcd⟩:=F.ex
 refine zsy lk hcd S len fun A outer s H vs Q E hr hsp=>?_
 exact hbody cdv A outer s H vs Q E hr hsp
section
variable {K:Frag} {H:Hp} {v:V}
theorem RD.int {i:Int} (h:RD K H (.int i) v):v=.int i:=by simpa only [RD] using h
theorem RD.str {i:Str} (h:RD K H (.str i) v):v=.str i:=by simpa only [RD] using h
theorem RD.non (h:RD K H .non v):v=.non:=by simpa only [RD] using h
theorem RD.tup {ds:List D} (h:RD K H (.tup ds) v):∃a xs,v=.ref a/\H a=some (.tup xs)/\RDs K H ds xs:=by simpa only [RD] using h
theorem RD.lst {ds:List D} (h:RD K H (.lst ds) v):∃a xs,v=.ref a/\H a=some (.lst xs)/\RDs K H ds xs:=by simpa only [RD] using h
theorem RD.dk {ks:List Key} {ds:List D} (h:RD K H (.dk ks ds) v):∃a xs,v=.ref a/\H a=some (.dK (ks.zip xs))/\ks.length=xs.length/\RDs K H ds xs:=by simpa only [RD] using h
theorem RD.dt {ks:List (List Key)} {ds:List D} (h:RD K H (.dt ks ds) v):∃a xs,v=.ref a/\H a=some (.dT (ks.zip xs))/\ks.length=xs.length/\RDs K H ds xs:=by simpa only [RD] using h
theorem RD.scr {ns:List Int} (h:RD K H (.scr ns) v):∃a,v=.ref a/\SqL K H a (ns.map V.int):=by
 simp only [RD] at h
 obtain ⟨a,e,h | h⟩:=h
 . exact ⟨a,e,.inl (.inr h)⟩
 . exact ⟨a,e,.inr h⟩
theorem RD.mkInt (i:Int):RD K H (.int i) (.int i):=by simp only [RD]
theorem RD.mkBl (i:Bool):RD K H (.bl i) (.bl i):=by simp only [RD]
theorem RD.mkStr (i:Str):RD K H (.str i) (.str i):=by simp only [RD]
theorem RD.mkTup {a:Addr} {xs:List V} {ds:List D} (h:H a=some (.tup xs)) (r:RDs K H ds xs):RD K H (.tup ds) (.ref a):=by simp only [RD];exact ⟨a,xs,rfl,h,r⟩
end
noncomputable def dI (g:Int->Int->D):D->D->Option D
 | .int i,.int j=>some (g i j)
 | _,_=>none
noncomputable def dIC (C:Int->Int->Prop) [∀i j,Decidable (C i j)] (g:Int->Int->D):D->D->Option D
 | .int i,.int j=>if C i j then some (g i j) else none
 | _,_=>none
noncomputable def dOr (o p:D->D->Option D):D->D->Option D:=fun d e=>match o d e with
 | some z=>some z
 | none=>p d e
section
variable {K:Frag}
theorem OpD.weak {fr:Bool} {o:D->D->Option D} {r:R2} (h:OpD K fr o r):OpD K false o r:=fun H0 H x y d e z Q s rx ry ho k=>h H0 H x y d e z Q s rx ry ho fun v H' q=>k v H' q.weak
theorem OpD.or {f1 f2:Bool} {o p:D->D->Option D} {r q:R2} (h1:OpD K f1 o r) (h2:OpD K f2 p q):OpD K false (dOr o p) (fun x y H Q=>r x y H Q\/q x y H Q):=by
 intro H0 H x y d e z Q s rx ry ho k
 unfold dOr at ho
 split at ho
 . rename_i z' hz
   cases ho
   exact .inl (h1.weak H0 H x y d e z Q s rx ry hz k)
 . exact .inr (h2.weak H0 H x y d e z Q s rx ry ho k)
theorem ztz {gv:Int->Int->V} {gd:Int->Int->D} (h:∀i j H,RD K H (gd i j) (gv i j)):OpD K false (dI gd) (cI gv):=by
 intro H0 H x y d e z Q s rx ry ho k
 cases d<;>simp only [dI] at ho<;>first | cases ho | skip
 cases e<;>simp only [dI] at ho<;>first | cases ho | skip
 cases rx.int;cases ry.int
 exact k _ H (.pure s (h _ _ _))
theorem zpr {C:Int->Int->Prop} [∀i j,Decidable (C i j)] {gv:Int->Int->V} {gd:Int->Int->D} (h:∀i j H,RD K H (gd i j) (gv i j)):OpD K false (dIC C gd) (cIC C gv):=by
 intro H0 H x y d e z Q s rx ry ho k
 cases d<;>simp only [dIC] at ho<;>first | cases ho | skip
 cases e<;>simp only [dIC] at ho<;>first | cases ho | skip
 cases rx.int;cases ry.int
 split at ho
 . rename_i hcc
   cases ho
   exact ⟨hcc,k _ H (.pure s (h _ _ _))⟩
 . cases ho
instance (i j:Int):Decidable (CMul i j):=by unfold CMul;infer_instance
instance (i j:Int):Decidable (zox i j):=by unfold zox;infer_instance
instance (i j:Int):Decidable (y2c i j):=by unfold y2c;infer_instance
noncomputable def z1v:D->D->Option D:=dI fun i j=>.int (i+j)
noncomputable def zl3:D->D->Option D:=dI fun i j=>.int (i - j)
noncomputable def zh2:D->D->Option D:=dIC CMul fun i j=>.int (i * j)
noncomputable def zl4:D->D->Option D:=dIC zox fun i j=>.int (i / j)
noncomputable def zan:D->D->Option D:=dIC (fun _ j=>0<j) fun i j=>.int (i % j)
noncomputable def zps:D->D->Option D:=dI fun i j=>.bl (decide (i<j))
noncomputable def dLe:D->D->Option D:=dI fun i j=>.bl (decide (i<=j))
noncomputable def zu0:D->D->Option D:=dI fun i j=>.bl (decide (j<i))
noncomputable def dGe:D->D->Option D:=dI fun i j=>.bl (decide (j<=i))
theorem z0r:OpD K false z1v (cI fun i j=>.int (i+j)):=ztz fun _ _ _=>.mkInt _
theorem zh3:OpD K false zl3 (cI fun i j=>.int (i - j)):=ztz fun _ _ _=>.mkInt _
theorem zdn:OpD K false zh2 (cIC CMul fun i j=>.int (i * j)):=zpr fun _ _ _=>.mkInt _
theorem zh4:OpD K false zl4 (cIC zox fun i j=>.int (i / j)):=zpr fun _ _ _=>.mkInt _
theorem z4u:OpD K false zan (cIC (fun _ j=>0<j) fun i j=>.int (i % j)):=zpr fun _ _ _=>.mkInt _
theorem zao:OpD K false zps (cI fun i j=>.bl (decide (i<j))):=ztz fun _ _ _=>.mkBl _
theorem zpt:OpD K false dLe (cI fun i j=>.bl (decide (i<=j))):=ztz fun _ _ _=>.mkBl _
theorem zh5:OpD K false zu0 (cI fun i j=>.bl (decide (j<i))):=ztz fun _ _ _=>.mkBl _
noncomputable def zu1:D->Option D
 | .int i=>some (.int (-i))
 | _=>none
theorem zmz:UnD K false zu1 (cU fun i=>.int (-i)):=by
 intro H0 H x d z Q s rx ho k
 cases d<;>simp only [zu1] at ho<;>first | cases ho | skip
 cases rx.int
 exact k _ H (.pure s (.mkInt _))
noncomputable def zc4:D->D->Option D
 | .lst ds,.lst es=>if ds.length+es.length<=100000 then some (.lst (ds++es)) else none
 | _,_=>none
theorem zpu {n:Nat} (h:n<=100000):n<=sizeLine:=Nat.le_trans h (by decide)
theorem zh6:OpD K true zc4 y2k:=by
 intro H0 H x y d e z Q s rx ry ho k
 cases d<;>simp only [zc4] at ho<;>first | cases ho | skip
 cases e<;>simp only [zc4] at ho<;>first | cases ho | skip
 split at ho<;>cases ho
 rename_i hl
 obtain ⟨a,xs,rfl,ha,ra⟩:=rx.lst
 obtain ⟨b,ys,rfl,hb,rb⟩:=ry.lst
 refine ⟨a,b,xs,ys,rfl,rfl,s _ _ ha,s _ _ hb,by rw [<-ra.length,<-rb.length];exact zpu hl,fun p hp=>k _ _ (.new s hp fun H' hH=>?_)⟩
 simp only [OB]
 exact ⟨_,hH,ra.append rb⟩
end
noncomputable def dEq:D->D->Option D:=fun d e=>if d.pl=true/\e.pl=true/\d.dep<=20 then some (.bl (eqD d e)) else none
noncomputable def dNe:D->D->Option D:=fun d e=>if d.pl=true/\e.pl=true/\d.dep<=20 then some (.bl (!eqD d e)) else none
noncomputable def y2v (K:Frag):R2:=fun x y H Q=>∃d e,RD K H d x/\RD K H e y/\d.pl=true/\e.pl=true/\d.dep<=20/\Q (.bl (eqD d e)) H
noncomputable def y2w (K:Frag):R2:=fun x y H Q=>∃d e,RD K H d x/\RD K H e y/\d.pl=true/\e.pl=true/\d.dep<=20/\Q (.bl (!eqD d e)) H
noncomputable def zyq (neg:Bool):D->D->Option D:=fun d c=>match c with
 | .lst es=>if d.pl=true/\pls es=true/\z4a es<=20 then some (.bl (if neg then !(es.any fun e=>eqD e d) else es.any fun e=>eqD e d)) else none
 | .tup es=>if d.pl=true/\pls es=true/\z4a es<=20 then some (.bl (if neg then !(es.any fun e=>eqD e d) else es.any fun e=>eqD e d)) else none
 | _=>none
noncomputable def y01 (K:Frag) (neg:Bool):R2:=fun x y H Q=>∃p xs d es,y=.ref p/\(H p=some (.lst xs)\/H p=some (.tup xs))/\RD K H d x/\RDs K H es xs/\d.pl=true/\pls es=true/\z4a es<=20/\Q (.bl (if neg then !(es.any fun e=>eqD e d) else es.any fun e=>eqD e d)) H
section
variable {X:Cx} {K:Frag}
theorem zu2 (hu:X.A.units+64<cLine):OpR X (compareOp .Eq) (y2v X.K):=by
 intro pins s U H x y v u Q I rx ry h
 obtain ⟨d,e,h1,h2,p1,p2,h3,q⟩:=h
 exact (zmv (n:=20) I p1 p2 h3 (by lia) h1 h2 rx ry).1 X.prog X.w X.xe _ ⟨.bl _,H,I,rfl,q⟩
theorem y02 (hu:X.A.units+64<cLine):OpR X (compareOp .NotEq) (y2w X.K):=by
 intro pins s U H x y v u Q I rx ry h
 obtain ⟨d,e,h1,h2,p1,p2,h3,q⟩:=h
 exact (zmv (n:=20) I p1 p2 h3 (by lia) h1 h2 rx ry).2 X.prog X.w X.xe _ ⟨.bl _,H,I,rfl,q⟩
theorem zu3:OpD K false dEq (y2v K):=by
 intro H0 H x y d e z Q s rx ry ho k
 unfold dEq at ho
 split at ho<;>cases ho
 rename_i h
 exact ⟨d,e,rx.mono s,ry.mono s,h.1,h.2.1,h.2.2,k _ H (.pure s (.mkBl _))⟩
theorem y03:OpD K false dNe (y2w K):=by
 intro H0 H x y d e z Q s rx ry ho k
 unfold dNe at ho
 split at ho<;>cases ho
 rename_i h
 exact ⟨d,e,rx.mono s,ry.mono s,h.1,h.2.1,h.2.2,k _ H (.pure s (.mkBl _))⟩
theorem zl5 (hu:X.A.units+64<cLine):OpR X (compareOp .NotIn) (y01 X.K true):=by
 intro pins s U H x y v u Q I rx ry h
 obtain ⟨p,xs,d,es,rfl,hp,hx,hes,pd,pe,hd,q⟩:=h
 cases ry
 rcases hp with hq | hq
 . obtain ⟨its,rv,pl,_⟩:=I.list (.of hq)
   refine SeqAt.notIn_listAt (hitD X.K H d) pl.isList (fun y hy=>z6t (A:=X.A) I (by lia) pd hx rx pe hes rv hd y (by simpa using hy)) ⟨.bl _,H,I,rfl,?_⟩
   rw [show its.toArray.any (hitD X.K H d)=its.any (hitD X.K H d) by simp,z8m pe hes rv]
   simpa using q
 . obtain ⟨its,rv,pl,_⟩:=I.tuple (.of hq)
   refine SeqAt.notIn_tupleAt (hitD X.K H d) pl (fun y hy=>z6t (A:=X.A) I (by lia) pd hx rx pe hes rv hd y (by simpa using hy)) ⟨.bl _,H,I,rfl,?_⟩
   rw [show its.toArray.any (hitD X.K H d)=its.any (hitD X.K H d) by simp,z8m pe hes rv]
   simpa using q
theorem od_inS {neg:Bool}:OpD K false (zyq neg) (y01 K neg):=by
 intro H0 H x y d e z Q s rx ry ho k
 unfold zyq at ho
 cases e<;>dsimp only at ho<;>first | cases ho | skip
 . split at ho<;>cases ho
   rename_i es h
   obtain ⟨a,xs,rfl,ha,ra⟩:=ry.tup
   exact ⟨a,xs,d,es,rfl,.inr (s _ _ ha),rx.mono s,ra.mono s,h.1,h.2.1,h.2.2,k _ H (.pure s (.mkBl _))⟩
 . split at ho<;>cases ho
   rename_i es h
   obtain ⟨a,xs,rfl,ha,ra⟩:=ry.lst
   exact ⟨a,xs,d,es,rfl,.inl (s _ _ ha),rx.mono s,ra.mono s,h.1,h.2.1,h.2.2,k _ H (.pure s (.mkBl _))⟩
end
noncomputable def zpv:D->Option Key
 | .int i=>some (.inl i)
 | .str x=>some (.inr x)
 | _=>none
noncomputable def zap:List D->Option (List Key)
 | []=>some []
 | d::ds=>match zpv d,zap ds with
  | some k,some ks=>some (k::ks)
  | _,_=>none
theorem zc5 {K:Frag} {H:Hp} {d:D} {k:Key} {v:V} (h:zpv d=some k) (r:RD K H d v):v=kV k:=by
 cases d<;>simp only [zpv] at h<;>first | cases h | skip
 . cases r.int;rfl
 . cases r.str;rfl
theorem z8s {K:Frag} {H:Hp}:∀{ds:List D} {ks:List Key} {xs:List V},zap ds=some ks->RDs K H ds xs->xs=ks.map kV
 | [],ks,xs,h,r=>by
  simp only [zap] at h;cases h
  simp only [RDs] at r;subst r;rfl
 | d::ds,ks,xs,h,r=>by
  simp only [RDs] at r
  obtain ⟨x,xs,rfl,r1,r2⟩:=r
  simp only [zap] at h
  split at h<;>cases h
  rename_i k ks h1 h2
  rw [zc5 h1 r1,z8s h2 r2];rfl
def ROp (K:Frag) (H:Hp):Option D->Option V->Prop
 | some z,w=>∃v,w=some v/\RD K H z v
 | none,w=>w=none
section
variable {κ:Type} [DecidableEq κ]
noncomputable def zc6 (ks:List κ) (ds:List D) (k:κ):Option D:=((ks.zip ds).find? fun kv=>decide (kv.1=k)).map (·.2)
theorem zc7 {K:Frag} {H:Hp} (k:κ):∀{ks:List κ} {ds:List D} {xs:List V},ks.length=xs.length->RDs K H ds xs->ROp K H (zc6 ks ds k) (zbu (ks.zip xs) k)
 | [],ds,xs,_,_=>by simp [zc6,zbu,ROp]
 | k'::ks,[],xs,h,r=>by
  simp only [RDs] at r;subst r;simp at h
 | k'::ks,d::ds,xs,h,r=>by
  simp only [RDs] at r
  obtain ⟨x,xs,rfl,r1,r2⟩:=r
  have ih:=zc7 k (by simpa using h) r2 (ks:=ks)
  simp only [zc6,zbu,List.zip_cons_cons,List.find?_cons] at ih ⊢
  by_cases e:k'=k
  . simp only [e,decide_true]
    exact ⟨x,rfl,r1⟩
  . simp only [e,decide_false]
    exact ih
noncomputable def z6y (ks:List κ) (k:κ):List κ:=if k∈ks then ks else ks++[k]
noncomputable def z7w {β:Type} (ks:List κ) (ds:List β) (k:κ) (d:β):List β:=if k∈ks then List.zipWith (fun k' d'=>if k'=k then d else d') ks ds else ds++[d]
theorem zdo (k:κ) (v:V) {ks:List κ} {xs:List V} (hl:ks.length=xs.length):zdb (ks.zip xs) k v=(z6y ks k).zip (z7w ks xs k v)/\(z6y ks k).length=(z7w ks xs k v).length:=by
 have any:∀(ks:List κ) (xs:List V),ks.length=xs.length->((ks.zip xs).any fun kv=>decide (kv.1=k))=decide (k∈ks):=by
  intro ks
  induction ks with
  | nil=>intro xs _;simp
  | cons k' ks ih=>
   intro xs h
   cases xs with
   | nil=>simp at h
   | cons x xs=>
    simp only [List.zip_cons_cons,List.any_cons]
    rw [ih xs (by simpa using h)]
    by_cases e:k'=k
    . simp [e]
    . by_cases m:k∈ks<;>simp [e,m,Ne.symm e]
 have mp:∀(ks:List κ) (xs:List V),ks.length=xs.length->(ks.zip xs).map (fun kv=>if kv.1=k then (kv.1,v) else kv)=ks.zip (List.zipWith (fun k' d'=>if k'=k then v else d') ks xs):=by
  intro ks
  induction ks with
  | nil=>intro xs _;simp
  | cons k' ks ih=>
   intro xs h
   cases xs with
   | nil=>simp at h
   | cons x xs=>
    simp only [List.zip_cons_cons,List.map_cons,List.zipWith_cons_cons]
    rw [ih xs (by simpa using h)]
    by_cases e:k'=k<;>simp [e]
 unfold zdb z6y z7w
 rw [any ks xs hl]
 by_cases m:k∈ks
 . rw [if_pos (by simpa using m),if_pos m,if_pos m]
   exact ⟨mp ks xs hl,by simp [hl]⟩
 . rw [if_neg (by simpa using m),if_neg m,if_neg m]
   exact ⟨by rw [List.zip_append hl];rfl,by simp [hl]⟩
theorem zc8 {K:Frag} {H:Hp} (k:κ) {d:D} {v:V} (rv:RD K H d v) {ks:List κ} {ds:List D} {xs:List V} (r:RDs K H ds xs):RDs K H (z7w ks ds k d) (z7w ks xs k v):=by
 have zw:∀(ks:List κ) (ds:List D) (xs:List V),RDs K H ds xs->RDs K H (List.zipWith (fun k' d'=>if k'=k then d else d') ks ds) (List.zipWith (fun k' d'=>if k'=k then v else d') ks xs):=by
  intro ks
  induction ks with
  | nil=>intro ds xs _;simp [RDs]
  | cons k' ks ih=>
   intro ds xs r
   cases ds with
   | nil=>simp only [RDs] at r;subst r;simp [RDs]
   | cons d' ds=>
    simp only [RDs] at r
    obtain ⟨x,xs,rfl,r1,r2⟩:=r
    simp only [List.zipWith_cons_cons]
    refine .cons ?_ (ih ds xs r2)
    by_cases e:k'=k
    . rw [if_pos e,if_pos e];exact rv
    . rw [if_neg e,if_neg e];exact r1
 unfold z7w
 by_cases m:k∈ks
 . rw [if_pos m,if_pos m];exact zw ks ds xs r
 . rw [if_neg m,if_neg m];exact r.append (.one rv)
end
noncomputable def zc9:D->D->Option (Option D)
 | .dk ks ds,k=>(zpv k).map fun k=>zc6 ks ds k
 | .dt ks ds,.tup es=>(zap es).map fun k=>zc6 ks ds k
 | _,_=>none
theorem zh7 {K:Frag} {H:Hp} {d k:D} {x y:V} {o:Option D} (h:zc9 d k=some o) (rx:RD K H d x) (ry:RD K H k y) :
  ∃a w,x=.ref a/\DGet H a y w/\ROp K H o w:=by
 cases d<;>simp only [zc9] at h<;>first | cases h | skip
 . rename_i ks ds
   obtain ⟨a,xs,rfl,ha,hl,rs⟩:=rx.dk
   cases hk:zpv k with
   | none=>rw [hk] at h;cases h
   | some k'=>
    rw [hk] at h
    have h:zc6 ks ds k'=o:=by simpa using h
    subst h
    cases zc5 hk ry
    exact ⟨a,_,rfl,DGet.k ha,zc7 k' hl rs⟩
 . rename_i ks ds
   cases k<;>simp only [zc9] at h<;>first | cases h | skip
   rename_i es
   obtain ⟨a,xs,rfl,ha,hl,rs⟩:=rx.dt
   obtain ⟨b,ys,rfl,hb,rb⟩:=ry.tup
   cases hk:zap es with
   | none=>rw [hk] at h;cases h
   | some k'=>
    rw [hk] at h
    have h:zc6 ks ds k'=o:=by simpa using h
    subst h
    have e:=z8s hk rb
    subst e
    exact ⟨a,_,rfl,DGet.t ha hb,zc7 k' hl rs⟩
noncomputable def y04 (neg:Bool):D->D->Option D:=fun k d=>(zc9 d k).map fun o=>.bl (if neg then !o.isSome else o.isSome)
noncomputable def y05 (neg:Bool):R2:=fun y x H Q=>∃a w,x=.ref a/\DGet H a y w/\Q (.bl (if neg then !w.isSome else w.isSome)) H
noncomputable def y06:D->D->Option D:=fun d k=>(zc9 d k).bind id
noncomputable def y07:R2:=fun x y H Q=>∃a w,x=.ref a/\DGet H a y (some w)/\Q w H
noncomputable def zdp:D->D->Option D
 | .lst ds,.int i=>atI ds i
 | .tup ds,.int i=>atI ds i
 | .scr ns,.int i=>(atI ns i).map D.int
 | .str z,.int i=>if z.length<=100000 then (atI z.cps.toList i).map fun c=>D.str ⟨#[c]⟩ else none
 | _,_=>none
theorem RDs.atI {K:Frag} {H:Hp} {ds:List D} {xs:List V} {i:Int} {d:D} (r:RDs K H ds xs) (h:L2.atI ds i=some d):∃v,L2.atI xs i=some v/\RD K H d v:=by
 unfold L2.atI at h ⊢
 rw [<-r.length]
 cases q:ixN ds.length i with
 | none=>rw [q] at h;cases h
 | some j=>
  rw [q] at h
  exact r.get' h
theorem zpw {α β:Type} (f:α->β) (xs:List α) (i:Int):atI (xs.map f) i=(atI xs i).map f:=by
 unfold atI
 rw [List.length_map]
 cases ixN xs.length i with
 | none=>rfl
 | some j=>simp
section
variable {X:Cx} {K:Frag}
theorem zl6 (hu:X.A.units+64<cLine):OpR X (compareOp .NotIn) (y05 true):=by
 intro pins s U H x y v u Q I rx ry h
 obtain ⟨a,w,rfl,g,q⟩:=h
 cases ry
 exact zp5 (by omega) I g rx fun s' I'=>⟨.bl (!w.isSome),H,I',rfl,by simpa using q⟩
theorem zu4 {neg:Bool}:OpD K false (y04 neg) (y05 neg):=by
 intro H0 H x y d e z Q s rx ry ho k
 unfold y04 at ho
 cases ho':zc9 e d with
 | none=>rw [ho'] at ho;cases ho
 | some o=>
  rw [ho'] at ho;cases ho
  obtain ⟨a,w,rfl,g,m⟩:=zh7 ho' (ry.mono s) (rx.mono s)
  refine ⟨a,w,rfl,g,k _ H ?_⟩
  have e:w.isSome=o.isSome:=by
   cases o with
   | none=>rw [show w=none from m];rfl
   | some z=>obtain ⟨v,e,_⟩:=m;rw [e];rfl
  rw [e]
  exact .pure s (.mkBl _)
noncomputable def dIn (neg:Bool):D->D->Option D:=dOr (zyq neg) (y04 neg)
noncomputable def y2x (K:Frag) (neg:Bool):R2:=fun x y H Q=>y01 K neg x y H Q\/y05 neg x y H Q
theorem zl7 (hu:X.A.units+64<cLine):OpR X (compareOp .NotIn) (y2x X.K true):=(zl5 hu).or (zl6 hu)
theorem y08 {neg:Bool}:OpD K false (dIn neg) (y2x K neg):=od_inS.or zu4
theorem zpx (hu:X.A.units+64<cLine):IxR X y07:=by
 intro value slice pins s U H x y v u Q I rx ry h hs
 obtain ⟨a,w,rfl,g,q⟩:=h
 cases rx
 exact tail_any (ops:=[.ref a,u]) (zbw I g) PySem.F.slot_dict_getitem.lookup (zg5 (by lia) I g ry fun w' s3 I3 rw'=>⟨w,H,I3,rw',q⟩) hs
theorem zu5:OpD K false y06 y07:=by
 intro H0 H x y d e z Q s rx ry ho k
 unfold y06 at ho
 cases ho':zc9 d e with
 | none=>rw [ho'] at ho;cases ho
 | some o=>
  rw [ho'] at ho
  have ho:o=some z:=ho
  subst ho
  obtain ⟨a,w,e0,g,m⟩:=zh7 ho' rx ry
  obtain ⟨v,rfl,rv⟩:=m
  subst e0
  refine ⟨a,v,rfl,?_,k _ H (.pure s rv)⟩
  rcases g with ⟨kvs,kk,e1,e2,e3⟩ | ⟨kvs,kk,b,e1,e2,e3,e4⟩
  . refine .inl ⟨kvs,kk,?_,e2,e3⟩
    rcases e1 with e1 | ⟨o,e1⟩
    . exact .inl (s _ _ e1)
    . exact .inr ⟨o,s _ _ e1⟩
  . refine .inr ⟨kvs,kk,b,?_,e2,s _ _ e3,e4⟩
    rcases e1 with e1 | ⟨o,e1⟩
    . exact .inl (s _ _ e1)
    . exact .inr ⟨o,s _ _ e1⟩
theorem od_ixS:OpD K false zdp (rIx K):=by
 intro H0 H x y d e z Q s rx ry ho k
 cases d<;>simp only [zdp] at ho<;>first | cases ho | skip
 . -- a text
   cases e<;>simp only [zdp] at ho<;>first | cases ho | skip
   cases rx.str;cases ry.int
   split at ho
   . rename_i z' i hl
     cases hc:atI z'.cps.toList i with
     | none=>rw [hc] at ho;cases ho
     | some c=>
      rw [hc] at ho;cases ho
      exact .inr (.inr ⟨z',i,c,rfl,rfl,zpu hl,hc,k _ H (.pure s (.mkStr _))⟩)
   . cases ho
 . cases e<;>simp only [zdp] at ho<;>first | cases ho | skip
   obtain ⟨a,xs,rfl,ha,ra⟩:=rx.tup
   cases ry.int
   obtain ⟨v,hv,rv⟩:=ra.atI ho
   exact .inr (.inl ⟨a,xs,_,v,rfl,rfl,.of (s _ _ ha),hv,k _ H (.pure s rv)⟩)
 . cases e<;>simp only [zdp] at ho<;>first | cases ho | skip
   obtain ⟨a,xs,rfl,ha,ra⟩:=rx.lst
   cases ry.int
   obtain ⟨v,hv,rv⟩:=ra.atI ho
   exact .inl ⟨a,xs,_,v,rfl,rfl,.of (s _ _ ha),hv,k _ H (.pure s rv)⟩
 . cases e<;>simp only [zdp] at ho<;>first | cases ho | skip
   rename_i ns i
   cases ry.int
   obtain ⟨a,rfl,ha⟩:=(rx.mono s).scr
   cases hc:atI ns i with
   | none=>rw [hc] at ho;cases ho
   | some c=>
    rw [hc] at ho;cases ho
    exact .inl ⟨a,_,i,.int c,rfl,rfl,ha,by rw [zpw,hc];rfl,k _ H (.pure s (.mkInt _))⟩
noncomputable def dIx:D->D->Option D:=dOr zdp y06
noncomputable def y2y (K:Frag):R2:=fun x y H Q=>rIx K x y H Q\/y07 x y H Q
theorem y3m (hu:X.A.units+64<cLine):IxR X (y2y X.K):=ix_seq.or (zpx hu)
theorem y09:OpD K false dIx (y2y K):=od_ixS.or zu5
end
structure QE (X:Cx) (EX:XW) (fr:Bool) (e:Expr) (f:DE->R D):Prop where
 h:PE X e (TEd X.K EX fr f)
structure QT (X:Cx) (EX:XW) (e:Expr) (t:DE->R Bool):Prop where
 h:PT X e (TTd X.K EX t)
structure QW (X:Cx) (EX:XW) (e:Expr) (t:DE->R Bool):Prop where
 h:PW X e (TTd X.K EX t)
structure QA (X:Cx) (EX:XW) (es:List Expr) (f:DE->R (List D)):Prop where
 h:PA X es (TAd X.K EX f)
structure QI (X:Cx) (EX:XW) (kp:Bool) (tg e:Expr) (f:DE->R (List D)):Prop where
 h:PI X tg e (TId X.K EX kp f)
structure QG (X:Cx) (tg:Expr) (t:Tg):Prop where
 h:PG X tg (TGd X.K t)
structure QGs (X:Cx) (ts:List Expr) (is:List Nat):Prop where
 h:PGs X ts (z5s is)
structure QS (X:Cx) (EX:XW) (fr:Bool) (st:Stmt) (g:DS->SR):Prop where
 h:PS X st (TSd X.K EX fr g)
structure QB (X:Cx) (EX:XW) (fr:Bool) (sts:List Stmt) (g:DS->SR):Prop where
 h:PSs X sts (TSd X.K EX fr g)
structure QCT (X:Cx) (EX:XW) (ops:List CmpOp) (rs:List Expr) (g:D->DE->R Bool):Prop where
 h:PChT X ops rs (zgw X.K EX g)
section
variable {X:Cx} {EX:XW} {fr:Bool} {a b c e:Expr} {es rest:List Expr} {fa fb:DE->R D} {fs:DE->R (List D)} {t u:DE->R Bool} {pos p:Pos} {x:Str}
theorem PA.imp {es:List Expr} {t t':TA} (h:PA X es t) (hi:∀U H Q,t' U H Q->t U H Q):PA X es t':=fun pos pins s U H Q I q=>h pos pins s U H Q I (hi U H Q q)
theorem PW.imp {e:Expr} {t t':TT} (h:PW X e t) (hi:∀U H Q,t' U H Q->t U H Q):PW X e t':=fun wh pins s U H Q I q=>h wh pins s U H Q I (hi U H Q q)
theorem PI.imp {tg e:Expr} {t t':TI} (h:PI X tg e t) (hi:∀U H Q,t' U H Q->t U H Q):PI X tg e t':=fun pins s U H Q I q=>h pins s U H Q I (hi U H Q q)
theorem PS.imp {st:Stmt} {t t':TS} (h:PS X st t) (hi:∀D U H,t' D U H->t D U H):PS X st t':=fun pins s U H D I q=>h pins s U H D I (hi D U H q)
theorem PSs.imp {st:List Stmt} {t t':TS} (h:PSs X st t) (hi:∀D U H,t' D U H->t D U H):PSs X st t':=fun pins s U H D I q=>h pins s U H D I (hi D U H q)
theorem QE.wk {f:DE->R D} (h:QE X EX true e f):QE X EX false e f:=⟨h.h.imp fun _ _ _ q=>q.weak⟩
theorem qv (i:Nat) {x:Str} {pos:Pos} (hN:X.N[i]?=some x:=by rfl) (hv:Vis X.env.scope x:=by first | exact Or.inl rfl | exact Or.inr (Or.inl rfl) | exact Or.inr (Or.inr rfl)) (hd:(x==("__debug__":Str))=false:=by decide)
 (hcd:(x==("__classdict__":Str))=false:=by decide):QE X EX false (.Name x pos) (z02 i):=⟨(zfr hN hv hd hcd).imp fun U H Q q=>zzk q⟩
theorem z08 {i j pos}:QE X EX false (.Constant (.int i) j pos) (eC (.int i)):=⟨pe_int.imp fun U H Q q=>zgt (fun _=>.mkInt i) q⟩
theorem y2z {i j pos}:QE X EX false (.Constant (.bool i) j pos) (eC (.bl i)):=⟨pe_bl.imp fun U H Q q=>zgt (fun _=>.mkBl i) q⟩
theorem z0m {op:Operator} {r:R2} {o:D->D->Option D} (ho:OpR X (binaryOp op) r) (od:OpD X.K fr o r) (ha:QE X EX false a fa) (hb:QE X EX false b fb):QE X EX fr (.BinOp a op b pos) (eOp o fa fb):=⟨(zz2 ho ha.h hb.h).imp fun _ _ _ q=>zyo od q⟩
theorem y30 {op:UnaryOp} {r:V->Hp->VK->Prop} {o:D->Option D} (ho:UnR X (unaryOp op) r) (od:UnD X.K fr o r) (ha:QE X EX false a fa):QE X EX fr (.UnaryOp op a pos) (eUn o fa):=⟨(zz3 ho ha.h).imp fun _ _ _ q=>y3e od q⟩
theorem zpy {op:CmpOp} {r:R2} {o:D->D->Option D} (ho:OpR X (compareOp op) r) (od:OpD X.K false o r) (ha:QE X EX false a fa) (hb:QE X EX false b fb) (hm:behindInMarks op b=false) :
 QE X EX false (.Compare a [op] [b] pos) (eOp o fa fb):=⟨(zoy ho ha.h hb.h hm).imp fun _ _ _ q=>zyo od q⟩
theorem y3n {r:R2} {o:D->D->Option D} (ho:IxR X r) (od:OpD X.K false o r) (ha:QE X EX false a fa) (hb:QE X EX false b fb) (hs:zbr b:=by exact fun _ _=>rfl):QE X EX false (.Subscript a b pos) (eOp o fa fb):=⟨(zz7 ho ha.h hb.h hs).imp fun _ _ _ q=>zyo od q⟩
theorem z06:QA X EX [] z09:=⟨pa_nil.imp fun _ _ _ q=>ztm q⟩
theorem z00 (ha:QE X EX false e fa) (hr:QA X EX es fs) (hs:starEach (e::es) X.env=(false,eval e X.env)::starEach es X.env:=by rfl):QA X EX (e::es) (z01 fa fs):=⟨(z34 ha.h hr.h hs).imp fun _ _ _ q=>zgu q⟩
theorem z30 {x1} (h:QA X EX es fs):QE X EX false (.Tuple es x1 pos) (z6f fs):=⟨(zsu h.h).imp fun _ _ _ q=>zzm q⟩
theorem z8t (h:QA X EX es fs):QE X EX true (.List es pos) (zbk fs):=⟨(zsv h.h).imp fun _ _ _ q=>zzn q⟩
theorem y0a (hc:QT X EX c t) (ha:QE X EX fr a fa) (hb:QE X EX fr b fb):QE X EX fr (.IfExp c a b pos) (eIf t fa fb):=⟨(zkb hc.h ha.h hb.h).imp fun _ _ _ q=>y3f q⟩
theorem zl8 (ha:QE X EX false a fa) (hb:QE X EX false (.BoolOp .And (b::rest) pos) fb):QE X EX false (.BoolOp .And (a::b::rest) pos) (zmx fa fb):=⟨(zp9 ha.h hb.h).imp fun _ _ _ q=>zzr q⟩
theorem zu6 {op} (h:QE X EX false a fa):QE X EX false (.BoolOp op [a] pos) fa:=⟨zsr h.h⟩
noncomputable def zk8:D->Option Bool
 | .bl b=>some b
 | .int i=>some (i != 0)
 | .non=>some false
 | .str z=>if z.length<=100000 then some ((z.length:Int) != 0) else none
 | .lst ds=>some (!ds.isEmpty)
 | .tup ds=>some (!ds.isEmpty)
 | .dk ks _=>some (!ks.isEmpty)
 | _=>none
theorem z4d {α β:Type} {xs:List α} {ys:List β} (h:xs.length=ys.length):xs.isEmpty=ys.isEmpty:=by
 cases xs<;>cases ys<;>first | rfl | simp at h
theorem zn0 {K:Frag}:zzj K zk8 zai:=by
 intro H0 H x d b Q s rx ht q
 cases d<;>simp only [zk8] at ht<;>first | cases ht | skip
 . cases rx.non;exact q
 . cases rx.bl;exact q
 . cases rx.int;exact q
 . split at ht<;>cases ht
   rename_i h
   cases rx.str
   exact ⟨zpu h,q⟩
 . obtain ⟨p,xs,rfl,hp,r⟩:=rx.tup
   unfold zai
   dsimp only
   rw [zah (s _ _ hp)]
   rw [z4d r.length] at q;exact q
 . obtain ⟨p,xs,rfl,hp,r⟩:=rx.lst
   unfold zai
   dsimp only
   rw [zag (s _ _ hp)]
   rw [z4d r.length] at q;exact q
 . rename_i ks es
   obtain ⟨p,xs,rfl,hp,hl,r⟩:=rx.dk
   unfold zai
   dsimp only
   have e:z68 H p=none:=by unfold z68;rw [s _ _ hp]
   rw [e]
   dsimp only
   rw [s _ _ hp]
   dsimp only
   rw [z4d (show ks.length=(List.zip ks xs).length by rw [List.length_zip,<-hl,Nat.min_self])] at q
   exact q
theorem zu7 (ha:QE X EX false a fa):QE X EX false (.UnaryOp .Not a pos) (eUn (fun d=>(zk8 d).map fun b=>.bl (!b)) fa):=⟨(zpa ha.h).imp fun _ _ _ q=>ztp zn0 q⟩
theorem zu8 (ha:QE X EX false a fa) (he:∀whole,isTrue a X.env whole=(do let v <-whole;standAt a.pos;holding [v] (truthy v)):=by intro _;rfl):QT X EX a (z4s zk8 fa):=⟨(zt9 ha.h he).imp fun _ _ _ q=>zzs zn0 q⟩
theorem z8u {op:CmpOp} {r:R2} {o:D->D->Option D} (ho:OpR X (compareOp op) r) (od:OpD X.K false o r) (ha:QE X EX false a fa) (hb:QE X EX false b fb) (hm:behindInMarks op b=false) :
 QT X EX (.Compare a [op] [b] pos) (z4s asB (eOp o fa fb)):=⟨(zp8 ho ha.h hb.h hm).imp fun _ _ _ q=>zzt od q⟩
theorem QW.pt (h:QW X EX a t):QT X EX a t:=⟨h.h.pt⟩
theorem zl9 (ha:QT X EX a t):QT X EX (.UnaryOp .Not a pos) (zmw t):=⟨(zsq ha.h).imp fun _ _ _ q=>zto q⟩
theorem zn1 (ha:QT X EX a t):QW X EX (.BoolOp .And [a] pos) t:=⟨zou ha.h⟩
theorem zpz (ha:QT X EX a t):QW X EX (.BoolOp .Or [a] pos) t:=⟨zso ha.h⟩
theorem zq0 (ha:QT X EX a t) (hb:QW X EX (.BoolOp .And (b::rest) pos) u):QW X EX (.BoolOp .And (a::b::rest) pos) (zpi t u):=⟨(zsp ha.h hb.h).imp fun _ _ _ q=>ztn q⟩
theorem y0b (ha:QT X EX a t) (hb:QW X EX (.BoolOp .Or (b::rest) pos) u):QW X EX (.BoolOp .Or (a::b::rest) pos) (bOr t u):=⟨(zyv ha.h hb.h).imp fun _ _ _ q=>zzo q⟩
theorem PChT.imp {ops:List CmpOp} {rs:List Expr} {t t':V->TT} (h:PChT X ops rs t) (hi:∀x U H Q,t' x U H Q->t x U H Q):PChT X ops rs t':=fun pos pins s U H x v Q I r q=>h pos pins s U H x v Q I r (hi x U H Q q)
variable {gt:D->DE->R Bool} {op op':CmpOp} {ops:List CmpOp} {r:R2} {o:D->D->Option D} {r':Expr} {rs:List Expr}
theorem zh8 (ho:OpR X (compareOp op) r) (od:OpD X.K false o r) (hb:QE X EX false b fb):QCT X EX [op] [b] (z7s o fb):=⟨(zgd ho hb.h).imp fun _ _ _ _ q=>zpj od q⟩
theorem zca (ho:OpR X (compareOp op) r) (od:OpD X.K false o r) (hb:QE X EX false b fb) (hr:QCT X EX (op'::ops) (r'::rs) gt):QCT X EX (op::op'::ops) (b::r'::rs) (z6v o fb gt):=⟨(zge ho hb.h hr.h).imp fun _ _ _ _ q=>zpk od q⟩
theorem zu9 {op₁ op₂:CmpOp} {r₁ r₂:Expr} (ha:QE X EX false a fa) (hr:QCT X EX (op₁::op₂::ops) (r₁::r₂::rs) gt) (hm:lastMarks (op₁::op₂::ops) (r₁::r₂::rs)=false:=by with_unfolding_all rfl) :
 QT X EX (.Compare a (op₁::op₂::ops) (r₁::r₂::rs) pos) (zsd fa gt):=⟨(ztb ha.h hr.h hm).imp fun _ _ _ q=>ztq q⟩
theorem zq1 {id:String} {rr:List V->Hp->VK->Prop} {m:List D->Option D} (hc:CallR X (.builtin id) rr) (od:z7k X.K fr m rr) (hg:Gl X x) (hm:X.mg x=none) (hv:bootBuiltins x=some (.builtin id)) (ha:QA X EX (e::es) fs) (hn:x≠"__name__":=by decide) (hdb:(x==("__debug__":Str))=false:=by decide)
 (he:starEach (e::es) X.env=(false,eval e X.env)::starEach es X.env:=by rfl) (hpl:(backTo pos (starEach es X.env)).any (·.1)=false:=by rfl):QE X EX fr (.Call (.Name x p) (e::es) [] pos) (eCB m fs):=⟨(zda hc hg hm hv ha.h hn hdb he hpl).imp fun _ _ _ q=>zzl od q⟩
theorem z7l {T:String} {rr:List V->Hp->VK->Prop} {m:List D->Option D} (hc:CallR X (.type T) rr) (od:z7k X.K fr m rr) (hg:Gl X x) (hm:X.mg x=none) (hv:bootBuiltins x=some (.type T)) (ha:QA X EX (e::es) fs) (hn:x≠"__name__":=by decide) (hdb:(x==("__debug__":Str))=false:=by decide)
 (he:starEach (e::es) X.env=(false,eval e X.env)::starEach es X.env:=by rfl) (hpl:(backTo pos (starEach es X.env)).any (·.1)=false:=by rfl):QE X EX fr (.Call (.Name x p) (e::es) [] pos) (eCB m fs):=⟨(zfz hc hg hm hv ha.h hn hdb he hpl).imp fun _ _ _ q=>zzl od q⟩
theorem z15 {ps:List Str} {k j n kk:Nat} {gg:DS->SR} (L:Lnd X EX) (G:z6a X.prog X.w X.K X.mg X.base x ps k (spD X.K X.mg fr (mOf fr n kk gg) n)) (hr:Room j X.A) (hg:Gl X x) (ha:QA X EX (e::es) fs) (hkj:k<=j:=by omega) (hdb:(x==("__debug__":Str))=false:=by decide)
 (he:starEach (e::es) X.env=(false,eval e X.env)::starEach es X.env:=by rfl) (hpl:(backTo pos (starEach es X.env)).any (·.1)=false:=by rfl):QE X EX fr (.Call (.Name x p) (e::es) [] pos) (z0i (mOf fr n kk gg) fs):=⟨(zh1 G L.on hr hg ha.h hkj hdb he hpl).imp fun _ _ _ q=>ztw zpo (fun x H z=>by obtain ⟨C,hC⟩:=L.nm x H z;exact ⟨C,hC,fun od xf=>⟨x,z,hC,xf⟩⟩) q⟩
end
noncomputable def z5c:D->String
 | .non=>"NoneType"
 | .bl _=>"bool"
 | .int _=>"int"
 | .str _=>"str"
 | .tup _=>"tuple"
 | .lst _=>"list"
 | .dk _ _=>"dict"
 | .dt _ _=>"dict"
 | .dn _ _=>"?"
 | .scr _=>"?"
 | .exc _ _=>"?"
noncomputable def z8v (c:String):D->Option D:=fun d=>if z6r c=true/\z5c d≠"?" then some (.bl (zgf (z5c d) c)) else none
theorem zq2 {K:Frag} {H:Hp} {d:D} {v:V} (h:z5c d≠"?") (r:RD K H d v):z8i H v=some (z5c d):=by
 cases d
 . cases r.non;rfl
 . cases r.bl;rfl
 . cases r.int;rfl
 . cases r.str;rfl
 . obtain ⟨a,xs,rfl,ha,_⟩:=r.tup;simp only [z8i,ha,z5c]
 . obtain ⟨a,xs,rfl,ha,_⟩:=r.lst;simp only [z8i,ha,z5c]
 . obtain ⟨a,xs,rfl,ha,_⟩:=r.dk;simp only [z8i,ha,z5c]
 . obtain ⟨a,xs,rfl,ha,_⟩:=r.dt;simp only [z8i,ha,z5c]
 . exact absurd rfl h
 . exact absurd rfl h
 . exact absurd rfl h
theorem y0c {K:Frag} {EX:XW} {U:St} {H:Hp} {Q:VK} {c:String} {f:DE->R D} (h:TEd K EX false (eUn (z8v c) f) U H Q):tCB zym (z67 (TEd K EX false f) (z67 (tC (.ty c)) zp1)) U H Q:=by
 obtain ⟨sx,ρ,H0,s,e,h⟩:=h
 unfold eUn at h
 rw [Rk.bind] at h
 refine TEd.go sx s e h fun d h v H1 H1' s1 e1 r1=>?_
 obtain ⟨z,hz,h⟩:=h.of
 unfold z8v at hz
 split at hz<;>cases hz
 rename_i hc
 show zym [v,.ty c] H1 Q
 rw [zti]
 refine ⟨hc.1,?_⟩
 rw [zq2 hc.2 (r1.mono e1.2.1)]
 exact h _ H1 (.val s1 e1 (.mkBl _))
theorem zq3 {X:Cx} {EX:XW} {a b:Expr} {pos p:Pos} {x c:_} {f:DE->R D} (hg:Gl X x) (hm:X.mg x=none) (hv:bootBuiltins x=some (.builtin "isinstance")) (ha:QE X EX false a f) (hb:PE X b (tC (.ty c))) (hn:x≠"__name__":=by decide) (hdb:(x==("__debug__":Str))=false:=by decide)
 (he:starEach [a,b] X.env=(false,eval a X.env)::starEach [b] X.env:=by rfl) (hpl:(backTo pos (starEach [b] X.env)).any (·.1)=false:=by rfl) (hs:starEach [b] X.env=(false,eval b X.env)::starEach [] X.env:=by rfl) :
 QE X EX false (.Call (.Name x p) [a,b] [] pos) (eUn (z8v c) f):=⟨(zda zzg hg hm hv (z34 ha.h (z34 hb pa_nil hs) he) hn hdb he hpl).imp fun _ _ _ q=>y0c q⟩
noncomputable def z20:List D->Option (List Int)
 | []=>some []
 | .int i::ds=>(z20 ds).map (i::·)
 | _::_=>none
theorem z3w:∀(ns:List Int),z20 (ns.map D.int)=some ns
 | []=>rfl
 | n::ns=>by simp [z20,z3w ns]
theorem z38 {K:Frag} {H:Hp}:∀{ds:List D} {ns:List Int} {xs:List V},z20 ds=some ns->RDs K H ds xs->xs=ns.map V.int
 | [],ns,xs,h,r=>by
  simp only [z20] at h;cases h
  simp only [RDs] at r;subst r;rfl
 | d::ds,ns,xs,h,r=>by
  simp only [RDs] at r
  obtain ⟨x,xs,rfl,r1,r2⟩:=r
  cases d<;>simp only [z20] at h<;>first | cases h | skip
  cases q:z20 ds with
  | none=>rw [q] at h;cases h
  | some ms=>
   rw [q] at h;cases h
   cases r1.int
   rw [z38 q r2];rfl
noncomputable def zaq:List D->Option D
 | [.lst ds]=>some (.int ds.length)
 | [.tup ds]=>some (.int ds.length)
 | [.dk ks _]=>some (.int ks.length)
 | [.scr ns]=>some (.int ns.length)
 | [.str z]=>if z.length<=100000 then some (.int z.length) else none
 | _=>none
noncomputable def zla:List D->Option D
 | [.lst ds]=>(z20 ds).map fun ns=>.int ns.sum
 | [.tup ds]=>(z20 ds).map fun ns=>.int ns.sum
 | _=>none
noncomputable def y0d:List D->Option D
 | [.int i,.int j]=>some (.int (if j > i then j else i))
 | _=>none
noncomputable def y0e:List D->Option D
 | [.int i,.int j]=>some (.int (if j<i then j else i))
 | _=>none
noncomputable def zsf:List D->Option D
 | [.int i]=>some (.int i)
 | [.bl b]=>some (.int (if b then 1 else 0))
 | _=>none
noncomputable def zar:List D->Option D
 | [.lst ds]=>some (.lst ds)
 | [.tup ds]=>some (.lst ds)
 | [.scr ns]=>some (.lst (ns.map .int))
 | _=>none
noncomputable def z2w:List D->Option D
 | [.lst ds]=>some (.tup ds)
 | [.tup ds]=>some (.tup ds)
 | _=>none
section
variable {X:Cx} {K:Frag}
theorem RDs.uno {H:Hp} {d:D} {xs:List V} (h:RDs K H [d] xs):∃x,xs=[x]/\RD K H d x:=by
 simp only [RDs] at h
 obtain ⟨x,r,rfl,h1,rfl⟩:=h
 exact ⟨x,rfl,h1⟩
theorem RDs.duo {H:Hp} {d e:D} {xs:List V} (h:RDs K H [d,e] xs):∃x y,xs=[x,y]/\RD K H d x/\RD K H e y:=by
 simp only [RDs] at h
 obtain ⟨x,r,rfl,h1,y,r',rfl,h2,rfl⟩:=h
 exact ⟨x,y,rfl,h1,h2⟩
def zua (K:Frag):List V->Hp->VK->Prop:=fun xs H Q=>(∃p ys,xs=[.ref p]/\(SqL K H p ys\/SqT K H p ys)/\Q (.int ys.length) H)\/(∃a kvs,xs=[V.ref a]/\H a=some (.dK kvs)/\Q (.int kvs.length) H)\/∃z,xs=[.str z]/\z.length<=sizeLine/\Q (.int z.length) H
theorem zub:CallR X (.builtin "len") (zua X.K):=call_len_seq.or (call_lenD.or za9)
theorem zuc:z7k K false zaq (zua K):=by
 intro H0 H xs ds z Q s r ho k
 unfold zaq at ho
 split at ho<;>first | cases ho | skip
 . obtain ⟨x,rfl,q1⟩:=r.uno
   obtain ⟨a,ys,rfl,ha,ra⟩:=q1.lst
   exact .inl ⟨a,ys,rfl,.inl (.of (s _ _ ha)),by rw [<-ra.length];exact k _ H (.pure s (.mkInt _))⟩
 . obtain ⟨x,rfl,q1⟩:=r.uno
   obtain ⟨a,ys,rfl,ha,ra⟩:=q1.tup
   exact .inl ⟨a,ys,rfl,.inr (.of (s _ _ ha)),by rw [<-ra.length];exact k _ H (.pure s (.mkInt _))⟩
 . obtain ⟨x,rfl,q1⟩:=r.uno
   obtain ⟨a,ys,rfl,ha,hl,ra⟩:=q1.dk
   refine .inr (.inl ⟨a,_,rfl,s _ _ ha,?_⟩)
   rw [List.length_zip,<-hl,Nat.min_self]
   exact k _ H (.pure s (.mkInt _))
 . obtain ⟨x,rfl,q1⟩:=r.uno
   obtain ⟨a,rfl,ha⟩:=(q1.mono s).scr
   exact .inl ⟨a,_,rfl,.inl ha,by rw [List.length_map];exact k _ H (.pure s (.mkInt _))⟩
 . split at ho<;>cases ho
   rename_i h
   obtain ⟨x,rfl,q1⟩:=r.uno
   cases q1.str
   exact .inr (.inr ⟨_,rfl,zpu h,k _ H (.pure s (.mkInt _))⟩)
theorem zud:z7k K false zla zpf:=by
 intro H0 H xs ds z Q s r ho k
 unfold zla at ho
 split at ho<;>first | cases ho | skip
 . obtain ⟨x,rfl,q1⟩:=r.uno
   obtain ⟨a,ys,rfl,ha,ra⟩:=q1.lst
   rename_i es
   cases q:z20 es with
   | none=>rw [q] at ho;cases ho
   | some ns=>
    rw [q] at ho;cases ho
    rw [zgp]
    exact ⟨ns,by rw [<-z38 q ra];exact zag (s _ _ ha),k _ H (.pure s (.mkInt _))⟩
 . obtain ⟨x,rfl,q1⟩:=r.uno
   obtain ⟨a,ys,rfl,ha,ra⟩:=q1.tup
   rename_i es
   cases q:z20 es with
   | none=>rw [q] at ho;cases ho
   | some ns=>
    rw [q] at ho;cases ho
    rw [zgp]
    exact ⟨ns,by rw [<-z38 q ra];exact zah (s _ _ ha),k _ H (.pure s (.mkInt _))⟩
theorem zn2:z7k K false zsf zth:=by
 intro H0 H xs ds z Q s r ho k
 unfold zsf at ho
 split at ho<;>first | cases ho | skip
 . obtain ⟨x,rfl,q1⟩:=r.uno
   cases q1.int
   exact k _ H (.pure s (.mkInt _))
 . obtain ⟨x,rfl,q1⟩:=r.uno
   cases q1.bl
   exact k _ H (.pure s (.mkInt _))
def zn3 (K:Frag):List V->Hp->VK->Prop:=fun xs H Q=>∃p ys,xs=[.ref p]/\(SqL K H p ys\/SqT K H p ys)/\∀l,H l=none->Q (.ref l) (upd H l (.lst ys))
theorem zcb:CallR X (.type "list") (zn3 X.K):=zaa
theorem zcc:z7k K true zar (zn3 K):=by
 intro H0 H xs ds z Q s r ho k
 have fin:∀{p:Addr} {ys:List V} {es:List D},RDs K H0 es ys->z=.lst es->H p=none->Q (.ref p) (upd H p (.lst ys)):=fun {p ys es} re e hp=>by
  subst e
  refine k _ _ (.new s hp fun H' hH=>?_)
  simp only [OB]
  exact ⟨_,hH,re⟩
 unfold zar at ho
 split at ho<;>first | cases ho | skip
 . obtain ⟨x,rfl,q1⟩:=r.uno
   obtain ⟨a,ys,rfl,ha,ra⟩:=q1.lst
   exact ⟨a,ys,rfl,.inl (.of (s _ _ ha)),fun l hl=>fin ra rfl hl⟩
 . obtain ⟨x,rfl,q1⟩:=r.uno
   obtain ⟨a,ys,rfl,ha,ra⟩:=q1.tup
   exact ⟨a,ys,rfl,.inr (.of (s _ _ ha)),fun l hl=>fin ra rfl hl⟩
 . obtain ⟨x,rfl,q1⟩:=r.uno
   obtain ⟨a,rfl,ha⟩:=(q1.mono s).scr
   exact ⟨a,_,rfl,.inl ha,fun l hl=>fin (RDs.ofInts _) rfl hl⟩
def zh9 (K:Frag):List V->Hp->VK->Prop:=fun xs H Q=>∃p ys,xs=[.ref p]/\((SqL K H p ys/\∀l,H l=none->Q (.ref l) (upd H l (.tup ys)))\/(SqT K H p ys/\Q (.ref p) H))
theorem z4v:CallR X (.type "tuple") (zh9 X.K):=z8e
theorem z4w:z7k K false z2w (zh9 K):=by
 intro H0 H xs ds z Q s r ho k
 unfold z2w at ho
 split at ho<;>first | cases ho | skip
 . obtain ⟨x,rfl,q1⟩:=r.uno
   obtain ⟨a,ys,rfl,ha,ra⟩:=q1.lst
   refine ⟨a,ys,rfl,.inl ⟨.of (s _ _ ha),fun l hl=>k _ _ (.val (Same.upd_new hl) (.new s hl) (.mkTup z0c (ra.mono (Same.upd_new (s.none hl)))))⟩⟩
 . obtain ⟨x,rfl,q1⟩:=r.uno
   obtain ⟨a,ys,rfl,ha,ra⟩:=q1.tup
   exact ⟨a,ys,rfl,.inr ⟨.of (s _ _ ha),k _ H (.pure s (.mkTup ha ra))⟩⟩
end
noncomputable def z8w {α:Type} (xs:List α) (lo hi:Option Int):List α:=(xs.drop (HT.sIx xs.length 0 lo)).take (HT.sIx xs.length xs.length hi - HT.sIx xs.length 0 lo)
noncomputable def dSl:D->Option Int->Option Int->Option D
 | .lst ds,lo,hi=>some (.lst (z8w ds lo hi))
 | .scr ns,lo,hi=>some (.lst ((z8w ns lo hi).map .int))
 | _,_,_=>none
noncomputable def TOd (K:Frag) (EX:XW) (f:DE->R (Option Int)):TO:=fun U H Q=>Same EX.hb H/\∃ρ H0,Same H0 H/\RE K H0 ρ U/\Rk EX.at (f ρ) fun o=>∀H',Same H H'->Q o H'
noncomputable def oNo:DE->R (Option Int):=fun _=>.ok none
noncomputable def oSo (f:DE->R D):DE->R (Option Int):=fun ρ=>(f ρ).bind fun d=>R.of (match d with | .int i=>some (some i) | _=>none)
noncomputable def eSl (o:D->Option Int->Option Int->Option D) (f:DE->R D) (fl fh:DE->R (Option Int)):DE->R D:=fun ρ=>(f ρ).bind fun d=>(fl ρ).bind fun lo=>(fh ρ).bind fun hi=>R.of (o d lo hi)
def SlD (K:Frag) (fr:Bool) (o:D->Option Int->Option Int->Option D) (r:V->Option Int->Option Int->Hp->VK->Prop):Prop:=∀(H0 H:Hp) (x:V) (d z:D) (lo hi:Option Int) (Q:VK),Same H0 H->RD K H0 d x->o d lo hi=some z->(∀v H',Out K fr H0 H z v H'->Q v H')->r x lo hi H Q
section
variable {X:Cx} {K:Frag} {EX:XW} {fr:Bool} {U:St} {H:Hp} {Q:VK}
structure QO (X:Cx) (EX:XW) (e:Option Expr) (f:DE->R (Option Int)):Prop where
 h:PO X e (TOd X.K EX f)
theorem PO.imp {e:Option Expr} {t t':TO} (h:PO X e t) (hi:∀U H Q,t' U H Q->t U H Q):PO X e t':=fun pins s U H Q I q=>h pins s U H Q I (hi U H Q q)
theorem zsg {e:Expr} {f:DE->R D} (he:QE X EX false e f):QO X EX (some e) (oSo f):=⟨(zp3 he.h).imp fun U H Q ⟨sx,ρ,H0,s,e,h⟩=>by
 unfold oSo at h
 rw [Rk.bind] at h
 refine TEd.go sx s e h fun d h v H1 H1' s1 e1 r1=>?_
 obtain ⟨o,ho,h⟩:=h.of
 cases d<;>dsimp only at ho<;>first | cases ho | skip
 cases r1.int
 exact ⟨_,rfl,h H1 s1⟩⟩
theorem y3o {o:D->Option Int->Option Int->Option D} {r:V->Option Int->Option Int->Hp->VK->Prop} {f:DE->R D} {fl fh:DE->R (Option Int)} (hs:SlD K fr o r) (h:TEd K EX fr (eSl o f fl fh) U H Q):tSl r (TEd K EX false f) (TOd K EX fl) (TOd K EX fh) U H Q:=by
 obtain ⟨sx,ρ,H0,s,e,h⟩:=h
 unfold eSl at h
 rw [Rk.bind] at h
 refine TEd.go sx s e h fun d h v H1 H1' s1 e1 r1=>?_
 rw [Rk.bind] at h
 refine ⟨sx.trans s1,ρ,H1',e1.2.1,e.mono e1.1,h.mono fun lo h H2 s2=>?_⟩
 rw [Rk.bind] at h
 refine ⟨(sx.trans s1).trans s2,ρ,H1',e1.2.1.trans s2,e.mono e1.1,h.mono fun hi h H3 s3=>?_⟩
 obtain ⟨z,hz,h⟩:=h.of
 exact hs H1' H3 v d z lo hi Q (e1.2.1.trans (s2.trans s3)) r1 hz fun w H4 o=>h w H4 (o.after (s1.trans (s2.trans s3)) (e1.grow (s2.trans s3)))
theorem RDs.cut {H:Hp} {ds:List D} {xs:List V} (r:RDs K H ds xs) (lo hi:Option Int):RDs K H (z8w ds lo hi) (zsb xs lo hi):=by
 unfold z8w zsb
 rw [<-r.length]
 exact (r.drop _).take _
theorem zcd:SlD K true dSl (y2j K):=by
 intro H0 H x d z lo hi Q s r ho k
 cases d<;>simp only [dSl] at ho<;>first | cases ho | skip
 . obtain ⟨a,xs,rfl,ha,ra⟩:=r.lst
   refine ⟨a,xs,rfl,.of (s _ _ ha),fun p hp=>k _ _ (.new s hp fun H' hH=>?_)⟩
   simp only [OB]
   exact ⟨_,hH,ra.cut lo hi⟩
 . rename_i ns
   obtain ⟨a,rfl,ha⟩:=(r.mono s).scr
   refine ⟨a,_,rfl,ha,fun p hp=>k _ _ (.new s hp fun H' hH=>?_)⟩
   simp only [OB]
   have e:=(RDs.ofInts (K:=K) (H:=H0) ns).cut lo hi
   refine ⟨_,hH,?_⟩
   have e2:∀ns:List Int,z8w (ns.map D.int) lo hi=(z8w ns lo hi).map D.int:=fun ns=>by
    unfold z8w;rw [List.length_map,List.map_take,List.map_drop]
   rw [e2] at e
   exact e
theorem y0f {o:D->Option Int->Option Int->Option D} {r:V->Option Int->Option Int->Hp->VK->Prop} {e:Expr} {lo hi:Option Expr} {pos p2:Pos} {f:DE->R D} {fl fh:DE->R (Option Int)} (hr:SlR X r) (hs:SlD X.K fr o r) (he:QE X EX false e f) (hl:QO X EX lo fl) (hu:QO X EX hi fh) :
 QE X EX fr (.Subscript e (.Slice lo hi none p2) pos) (eSl o f fl fh):=⟨(zke hr he.h hl.h hu.h).imp fun _ _ _ q=>y3o hs q⟩
end
noncomputable def iL (f:DE->R D):DE->R (List D):=fun ρ=>(f ρ).bind fun d=>R.of (items d)
noncomputable def zD (lo:Int) (n:Nat):List D:=(List.range n).map fun (i:Nat)=>D.int (lo+i)
noncomputable def zsh (fs:DE->R (List D)):DE->R (List D):=fun ρ=>(fs ρ).bind fun ds=>R.of (match ds with
 | [.int j]=>if -(2 ^ 62)<=j/\j<2 ^ 62 then some (zD 0 j.toNat) else none
 | _=>none)
noncomputable def iEn (fs:DE->R (List D)):DE->R (List D):=fun ρ=>(fs ρ).bind fun ds=>R.of (match ds with
 | [.lst es]=>some (((zD 0 es.length).zip es).map fun p=>D.tup [p.1,p.2])
 | _=>none)
section
variable {X:Cx} {K:Frag} {EX:XW} {H0:Hp}
theorem zha {S:Hp->Prop} {xs:List V} {ds:List D} (hS:∀H,Same H0 H->S H) (r:RDs K H0 ds xs):zse K (ItS S xs) H0 ds:=by
 have hl:=r.length
 refine ⟨fun i d e H H1 s1 s2=>⟨⟨hS H (s1.trans s2),by rw [<-hl];exact (List.getElem?_eq_some_iff.mp e).1⟩,fun x H' ⟨e1,e2⟩=>?_⟩,fun H s=>⟨hS H s,by rw [hl];exact Nat.le_refl _⟩⟩
 subst e1
 obtain ⟨x',q1,q2⟩:=r.get' e
 rw [q1] at e2;cases e2
 exact ⟨Same.refl _,H1,.refl s2,q2.mono s1⟩
theorem zue (lo:Int) (n:Nat):RDs K H0 (zD lo n) (zfn lo n):=by
 have:∀l:List Nat,RDs K H0 (l.map fun (i:Nat)=>D.int (lo+i)) (l.map fun (i:Nat)=>V.int (lo+i)):=by
  intro l
  induction l with
  | nil=>simp [RDs]
  | cons a l ih=>exact .cons (.mkInt _) ih
 exact this _
theorem z5d {tg l:Expr} {f:DE->R D} (hl:QE X EX false l f):QI X EX false tg l (iL f):=⟨(ztd hl.h).imp fun U H Q ⟨sx,ρ,H0,s,e,h⟩=>by
 unfold iL at h
 rw [Rk.bind] at h
 refine TEd.go sx s e h fun d h v H1 H1' s1 e1 r1=>?_
 obtain ⟨ds,hd,h⟩:=h.of
 cases d<;>simp only [items] at hd<;>first | cases hd | skip
 . obtain ⟨a,xs,rfl,ha,ra⟩:=r1.tup
   exact zkq (e1.2.1 _ _ ha) (h _ H1 H1' s1 e1 (zha (fun H s=>s _ _ ha) ra))
 . obtain ⟨a,xs,rfl,ha,ra⟩:=r1.lst
   exact zkp (.inl (e1.2.1 _ _ ha)) (h _ H1 H1' s1 e1 (zha (fun H s=>.inl (s _ _ ha)) ra))⟩
theorem y31 {tg a:Expr} {p pos:Pos} {fs:DE->R (List D)} (hg:Gl X "range") (hm:X.mg "range"=none) (ha:QA X EX [a] fs) (hs:starEach [a] X.env=[(false,eval a X.env)]:=by rfl):QI X EX true tg (.Call (.Name "range" p) [a] [] pos) (zsh fs):=⟨(zzf hg hm ha.h hs).imp fun U H Q ⟨sx,ρ,H0,s,e,h⟩=>by
 unfold zsh at h
 rw [Rk.bind] at h
 refine TAd.go sx s e h fun ds h vs H1 H1' s1 e1 r1=>?_
 obtain ⟨es,hd,h⟩:=h.of
 split at hd<;>first | cases hd | skip
 obtain ⟨x,rfl,q1⟩:=r1.uno
 cases q1.int
 split at hd<;>cases hd
 rename_i hb
 exact ⟨hb,h _ H1 H1' s1 e1 (zha (fun _ _=>trivial) (zue _ _))⟩⟩
theorem zdq {S:Hp->Prop} {xs ys:List V} {ds es:List D} (hS:∀H,Same H0 H->S H) (r:RDs K H0 ds xs) (r':RDs K H0 es ys):zse K (ItP S (xs.zip ys)) H0 ((ds.zip es).map fun p=>D.tup [p.1,p.2]):=by
 have hl:=r.length
 have hl':=r'.length
 have hz:((ds.zip es).map fun p=>D.tup [p.1,p.2]).length=(xs.zip ys).length:=by rw [List.length_map,List.length_zip,List.length_zip,hl,hl']
 refine ⟨fun i d e H H1 s1 s2=>⟨⟨hS H (s1.trans s2),by rw [<-hz];exact (List.getElem?_eq_some_iff.mp e).1⟩,fun x H' y=>?_⟩,fun H s=>⟨hS H s,hz⟩⟩
 obtain ⟨T,a,b,rfl,hT,rfl,ep⟩:=y
 obtain ⟨ea,eb⟩:=List.getElem?_zip_eq_some.mp ep
 obtain ⟨da,ga,ra⟩:=r.get ea
 obtain ⟨db,gb,rb⟩:=r'.get eb
 have gz:(ds.zip es)[i]?=some (da,db):=List.getElem?_zip_eq_some.mpr ⟨ga,gb⟩
 rw [List.getElem?_map,gz] at e
 cases e
 refine ⟨Same.upd_new hT,upd H1 T (.tup [a,b]),.new s2 hT,.mkTup z0c ?_⟩
 have sm:=Same.upd_new (o:=.tup [a,b]) (s2.none hT)
 exact .cons (ra.mono (s1.trans sm)) (.cons (rb.mono (s1.trans sm)) .nil)
theorem y3p {elts:List Expr} {k:Nat} {a:Expr} {p pos tpos:Pos} {fs:DE->R (List D)} (hg:Gl X "enumerate") (hm:X.mg "enumerate"=none) (ha:QA X EX [a] fs) (hs:starEach [a] X.env=[(false,eval a X.env)]:=by rfl) :
  QI X EX false (.Tuple elts k tpos) (.Call (.Name "enumerate" p) [a] [] pos) (iEn fs):=⟨(zpc hg hm ha.h hs).imp fun U H Q ⟨sx,ρ,H0,s,e,h⟩=>by
 unfold iEn at h
 rw [Rk.bind] at h
 refine TAd.go sx s e h fun ds h vs H1 H1' s1 e1 r1=>?_
 obtain ⟨es,hd,h⟩:=h.of
 split at hd<;>first | cases hd | skip
 obtain ⟨x,rfl,q1⟩:=r1.uno
 obtain ⟨l,xs,rfl,hl,rl⟩:=q1.lst
 refine ⟨xs,.inl (e1.2.1 _ _ hl),h _ H1 H1' s1 e1 ?_⟩
 rw [rl.length]
 exact zdq (fun H s=>.inl (s _ _ hl)) (zue _ _) rl⟩
end
section
variable {X:Cx} {sc:Scope} {caps:List Str} {ix:List Nat} {elt iter:Expr} {ifs:List Expr} {pos px py tpos:Pos} {x y:Str} {kt:Nat} {kp:Bool} {EX:XW} {fi:DE->R (List D)} {t:DE->R Bool} {f:DE->R D}
noncomputable def z8x:DE->R Bool:=fun _=>.ok true
inductive PTq (X:Cx) (sc:Scope) (N:List Str):List Expr->(DE->R Bool)->Prop where
 | nil:PTq X sc N [] z8x
 | one {c:Expr} {t:DE->R Bool} (h:∀fp s H,QT (z0j X sc N fp s H) F0 c t):PTq X sc N [c] t
theorem PTq.run {N:List Str} (h:PTq X sc N ifs t):∃tt,(∀fp s H,PTs (z0j X sc N fp s H) ifs tt)/\∀U H Q,TTd X.K F0 t U H Q->tt U H Q:=by
 cases h with
 | nil=>exact ⟨_,fun _ _ _=>.nil,fun U H Q ⟨sx,ρ,H0,s,e,h⟩=>h H (Same.refl _)⟩
 | one h=>exact ⟨_,fun fp s H=>.one (h fp s H).h,fun _ _ _ q=>q⟩
theorem zuf (C:CompOk X sc caps ix) (hN:([x]++caps).Nodup) (hx:sc.names.lookup x=some .local) (hi:QI X EX kp (.Name x px) iter fi) (ht:PTq X sc ([x]++caps) ifs t) (he:∀fp s H,QE (z0j X sc ([x]++caps) fp s H) F0 false elt f)
  (hs:∀x,foldedSetIterable iter X.env x=pure x:=by intro _;rfl):QE X EX true (.ListComp elt [⟨.Name x px,iter,ifs,0⟩] sc pos) (z14 fi b1 ix t f):=by
 obtain ⟨tt,h1,h2⟩:=ht.run
 refine ⟨(zkr C hN hx hi.h h1 (fun fp s H=>(he fp s H).h) hs).imp fun _ _ _ q=>zdm y2t h2 q⟩
theorem y0g (C:CompOk X sc caps ix) (hN:([x,y]++caps).Nodup) (hx:sc.names.lookup x=some .local) (hy:sc.names.lookup y=some .local) (hi:QI X EX kp (.Tuple [.Name x px,.Name y py] kt tpos) iter fi) (ht:PTq X sc ([x,y]++caps) ifs t)
  (he:∀fp s H,QE (z0j X sc ([x,y]++caps) fp s H) F0 false elt f) (hs:∀x,foldedSetIterable iter X.env x=pure x:=by intro _;rfl):QE X EX true (.ListComp elt [⟨.Tuple [.Name x px,.Name y py] kt tpos,iter,ifs,0⟩] sc pos) (z14 fi (bT 2) ix t f):=by
 obtain ⟨tt,h1,h2⟩:=ht.run
 refine ⟨(zkt C hN hx hy hi.h h1 (fun fp s H=>(he fp s H).h) hs).imp fun _ _ _ q=>zdm y2u h2 q⟩
theorem zas {te te':TE} {g:TG} (h:∀U H Q,te' U H Q->te U H Q) {De:Ends} {U:St} {H:Hp} (q:zfm te' g De U H):zfm te g De U H:=h _ _ _ q
theorem y32 {fr:Bool} {m:List Bool} {v:Str} {k:Nat} {spos pv:Pos} (hNX:X.N.Nodup) (hk:X.N[k]?=some v) (hv:X.env.scope.names.lookup v=some .local) (C:CompOk X sc caps ix) (hN:([x]++caps).Nodup) (hx:sc.names.lookup x=some .local) (hi:QI X EX kp (.Name x px) iter fi)
  (ht:PTq X sc ([x]++caps) ifs t) (he:∀fp s H,QE (z0j X sc ([x]++caps) fp s H) F0 false elt f)
  (hsw:swapsWith (.ListComp elt [⟨.Name x px,iter,ifs,0⟩] sc pos) (some (.Name v pv)) spos.line X.env=pure true:=by rfl) (hs:∀x,foldedSetIterable iter X.env x=pure x:=by intro _;rfl) :
  QS X EX fr (.Assign [.Name v pv] (.ListComp elt [⟨.Name x px,iter,ifs,0⟩] sc pos) spos) (z2p true k m (z14 fi b1 ix t f)):=by
 obtain ⟨tt,h1,h2⟩:=ht.run
 refine ⟨(zks hNX hk hv C hN hx hi.h h1 (fun fp s H=>(he fp s H).h) hsw hs).imp fun _ _ _ q=>zas (fun _ _ _ q=>zdm y2t h2 q) (zky q)⟩
theorem y3q {fr:Bool} {m:List Bool} {v:Str} {k:Nat} {spos pv:Pos} (hNX:X.N.Nodup) (hk:X.N[k]?=some v) (hv:X.env.scope.names.lookup v=some .local) (C:CompOk X sc caps ix) (hN:([x,y]++caps).Nodup) (hx:sc.names.lookup x=some .local) (hy:sc.names.lookup y=some .local)
  (hi:QI X EX kp (.Tuple [.Name x px,.Name y py] kt tpos) iter fi) (ht:PTq X sc ([x,y]++caps) ifs t) (he:∀fp s H,QE (z0j X sc ([x,y]++caps) fp s H) F0 false elt f)
  (hsw:swapsWith (.ListComp elt [⟨.Tuple [.Name x px,.Name y py] kt tpos,iter,ifs,0⟩] sc pos) (some (.Name v pv)) spos.line X.env=pure true:=by rfl) (hs:∀x,foldedSetIterable iter X.env x=pure x:=by intro _;rfl) :
  QS X EX fr (.Assign [.Name v pv] (.ListComp elt [⟨.Tuple [.Name x px,.Name y py] kt tpos,iter,ifs,0⟩] sc pos) spos) (z2p true k m (z14 fi (bT 2) ix t f)):=by
 obtain ⟨tt,h1,h2⟩:=ht.run
 refine ⟨(zku hNX hk hv C hN hx hy hi.h h1 (fun fp s H=>(he fp s H).h) hsw hs).imp fun _ _ _ q=>zas (fun _ _ _ q=>zdm y2u h2 q) (zky q)⟩
end
section
variable {X:Cx} {EX:XW} {fr fr':Bool} {st:Stmt} {sts:List Stmt} {a b c e:Expr} {es:List Expr} {f fv fk:DE->R D} {fs:DE->R (List D)} {t:DE->R Bool} {g g1 g2:DS->SR} {pos p:Pos} {m:List Bool}
theorem zez:QB X EX fr [] sNx:=⟨pss_nil.imp fun _ _ _ q=>y3i q⟩
theorem z0t (h:QS X EX fr st g):QB X EX fr [st] g:=⟨zfs h.h⟩
theorem z07 (h1:QS X EX fr st g1) (h2:QB X EX fr sts g2):QB X EX fr (st::sts) (z1u g1 g2):=⟨(zd6 h1.h h2.h).imp fun _ _ _ q=>ztr q⟩
theorem zce:QS X EX fr st sNo:=⟨ps_never.imp fun _ _ _ q=>y3j q⟩
theorem zq4 {x y:List Stmt} (hc:QT X EX c t) (ha:QB X EX fr x g1) (hb:QB X EX fr y g2):QS X EX fr (.If c x y pos) (sIf t g1 g2):=⟨(zyy hc.h ha.h hb.h).imp fun _ _ _ q=>zzv q⟩
theorem z2q (he:QE X EX fr e f):QS X EX fr (.Return (some e) pos) (z6w m f):=⟨(zmk he.h).imp fun _ _ _ q=>zzw q⟩
theorem zn4 {i:Nat} {x:Str} {p:Pos} (hN:X.N[i]?=some x:=by rfl) (hv:Vis X.env.scope x:=by first | exact Or.inl rfl | exact Or.inr (Or.inl rfl) | exact Or.inr (Or.inr rfl)) (hd:(x==("__debug__":Str))=false:=by decide)
 (hcd:(x==("__classdict__":Str))=false:=by decide):QS X EX true (.Return (some (.Name x p)) pos) (zew i):=⟨(zmk (pw i hN hv hd hcd)).imp fun _ _ _ q=>zts q⟩
theorem zhb (he:QE X EX false e f) (hs:swapsWith e none pos.line X.env=pure false:=by rfl):QS X EX fr (.Expr e pos) (z8q f):=⟨(z89 he.h hs).imp fun _ _ _ q=>ztt q⟩
theorem y0h {i:Nat} {x:Str} {pos':Pos} (hN:X.N.Nodup) (hi:X.N[i]?=some x) (hx:Loc X.env.scope x) (he:QE X EX fr' e f) (hs:swapsWith e (some (.Name x pos')) pos.line X.env=pure false:=by rfl) (hf:X.fn x=true\/X.env.scope.names.lookup x=some .local:=by first | exact .inl rfl | exact .inr rfl | assumption) :
 QS X EX fr (.Assign [.Name x pos'] e pos) (z2p fr' i m f):=⟨(zmn hN hi hx he.h hs hf).imp fun _ _ _ q=>zky q⟩
theorem g_n {i:Nat} {x:Str} {pos:Pos} (hN:X.N.Nodup) (hi:X.N[i]?=some x) (hx:Loc X.env.scope x) (hf:X.fn x=true\/X.env.scope.names.lookup x=some .local:=by first | exact .inl rfl | exact .inr rfl | assumption):QG X (.Name x pos) (.n i):=⟨(zbo hN hi hx hf).imp fun _ _ _ _ q=>y3k q⟩
theorem z6z:QGs X [] []:=⟨zkv⟩
theorem z13 {i:Nat} {is:List Nat} {x:Str} {pos:Pos} {ts:List Expr} (hN:X.N.Nodup) (hi:X.N[i]?=some x) (hx:Loc X.env.scope x) (hr:QGs X ts is) (hf:X.fn x=true\/X.env.scope.names.lookup x=some .local:=by first | exact .inl rfl | exact .inr rfl | assumption)
 (hs:(assignEach (.Name x pos::ts) X.env).map (·.2)=assign (.Name x pos) X.env::(assignEach ts X.env).map (·.2):=by rfl):QGs X (.Name x pos::ts) (i::is):=⟨zgm (zbo hN hi hx hf) hr.h hs⟩
theorem g_t {is:List Nat} {ts:List Expr} {k:Nat} {pos:Pos} (hc:X.calm=true) (h:QGs X ts is) (hn:(assignEach ts X.env).length=is.length:=by rfl) (hst:(assignEach ts X.env).findIdx? (·.1)=none:=by rfl):QG X (.Tuple ts k pos) (.t is):=⟨(zgo hc h.h hn hst).imp fun _ _ _ _ q=>y2s q⟩
theorem zlb {tg:Expr} {tt:Tg} (he:QE X EX false e f) (hg:QG X tg tt) (hs:swapsWithSole [tg] e pos.line X.env=pure false:=by rfl) (hw:swappedStores [tg] e X.env=pure none:=by rfl)
 (h1:(assignEach [tg] X.env).map (·.2)=[assign tg X.env]:=by rfl):QS X EX fr (.Assign [tg] e pos) (zk7 tt m f):=⟨(zd7 he.h hg.h hs hw h1).imp fun _ _ _ q=>y00 q⟩
theorem zf0 {tg iter:Expr} {tt:Tg} {body:List Stmt} {kp:Bool} {fi:DE->R (List D)} (hp:PassesOwn (model X.prog X.w) X.A X.env X.xe) (hc:X.calm=true) (hi:QI X EX kp tg iter fi) (hg:QG X tg tt) (hb:QB X EX fr body g)
 (hs:∀x,foldedSetIterable iter X.env x=pure x:=by intro _;rfl):QS X EX fr (.For tg iter body [] pos) (zc2 kp m fi tt g):=⟨(zgk hp hc hi.h hg.h hb.h hs).imp fun _ _ _ q=>ztv q⟩
theorem zq5 {n:Nat} {body:List Stmt} (hp:PassesOwn (model X.prog X.w) X.A X.env X.xe) (hc:QT X EX c t) (hb:QB X EX fr body g):QS X EX fr (.While c body [] pos) (zak n t g):=⟨(zkc hp hc.h hb.h).imp fun _ _ _ q=>zpm q⟩
noncomputable def zhc:D->List D->Option D
 | .lst ds,[d]=>if ds.length<100000 then some (.lst (ds++[d])) else none
 | _,_=>none
theorem z4e {K:Frag}:TyD K "list":=fun H0 H a d ob h=>by
 cases d<;>simp [isT] at h
 simp only [OB] at ob
 obtain ⟨xs,hx,_⟩:=ob
 exact .inl ⟨rfl,xs,.of hx⟩
theorem zhd {K:Frag}:ztu K zhc zbt:=by
 intro H0 H a d d' ds vs Q s h0 ob r hm k
 unfold zhc at hm
 split at hm<;>first | cases hm | skip
 split at hm<;>cases hm
 rename_i es e hl
 simp only [OB] at ob
 obtain ⟨xs,hx,rx⟩:=ob
 obtain ⟨y,rfl,q1⟩:=r.uno
 refine ⟨a,xs,y,rfl,rfl,hx,by rw [<-rx.length];exact z1m hl,k _ _ ?_⟩
 simp only [OB]
 exact ⟨_,z0c,rx.append (.one q1)⟩
theorem zhe {T id:String} {name:Str} {i:Nat} {x:Str} {xp apos cpos:Pos} {mt:D->List D->Option D} {rr:V->List V->Hp->VK->Prop} (pa:PlainAttrs T) (slot:Slot T name id) (hty:typeOf (.builtin id)=pure (.type "method_descriptor")) (hm:MtM X id rr) (od:ztu X.K mt rr) (hT:TyD X.K T)
 (ho:PE X (.Name x xp) (z7j i)) (ha:QA X EX (e::es) fs)
 (hbase:attributeBase (.Name x xp) name X.env (eval (.Name x xp) X.env)=eval (.Name x xp) X.env:=by rfl)
 (hfew:((backTo cpos (starEach (e::es) X.env)).all (fun x=>!x.1)&&(backToKw cpos (keywordEach [] X.env)).all (fun x=>x.1.isSome)
  && decide ((e::es).length+([]:List Keyword).length+(if ([]:List Keyword).isEmpty then 0 else 1)<30))=true:=by rfl)
 (hline:(apos.endLine==cpos.line)=true:=by rfl) (hs:starEach (e::es) X.env=(false,eval e X.env)::starEach es X.env:=by rfl) (hplain:(backTo cpos (starEach es X.env)).any (·.1)=false:=by rfl)
 (hsw:swapsWith (.Call (.Attribute (.Name x xp) name apos) (e::es) [] cpos) none pos.line X.env=pure false:=by rfl) :
 QS X EX fr (.Expr (.Call (.Attribute (.Name x xp) name apos) (e::es) [] cpos) pos) (zgx T mt i m fs):=⟨(z89 (zkh pa slot hty hm ho ha.h hbase hfew hline hs hplain) hsw).imp fun _ _ _ q=>zzx od hT q⟩
noncomputable def zlc:D->D->D->Option D
 | .lst ds,.int i,v=>(ixN ds.length i).map fun j=>.lst (ds.set j v)
 | .dk ks ds,k,v=>if ks.length<100000 then (zpv k).map fun k=>.dk (z6y ks k) (z7w ks ds k v) else none
 | .dt ks ds,.tup es,v=>if ks.length<100000 then (zap es).map fun k=>.dt (z6y ks k) (z7w ks ds k v) else none
 | _,_,_=>none
noncomputable def zug:zov:=fun o i v H Q=>zt0 o i v H Q\/∃a H',o=.ref a/\DPut H a i v H'/\Q H'
theorem y0i (hu:X.A.units+64<cLine):zyi X zug:=by
 intro pins s U H o i v ov iv u Q I ro ri rv h
 rcases h with h | ⟨a,H',rfl,g,q⟩
 . exact zkg pins s U H o i v ov iv u Q I ro ri rv h
 . cases ro
   exact zg6 (by lia) I g ri rv fun s' I'=>⟨H',I',q⟩
theorem zuh {K:Frag}:zzz K zlc zug:=by
 intro H0 H a d d' dk dv y v Q s h0 ob rk rv hm k
 cases d<;>simp only [zlc] at hm<;>first | cases hm | skip
 . cases dk<;>simp only [zlc] at hm<;>first | cases hm | skip
   rename_i ds i
   simp only [OB] at ob
   obtain ⟨xs,hx,rx⟩:=ob
   cases rk.int
   cases hj:ixN ds.length i with
   | none=>rw [hj] at hm;cases hm
   | some j=>
    rw [hj] at hm;cases hm
    refine .inl ⟨a,xs,i,j,rfl,rfl,hx,by rw [<-rx.length];exact hj,k _ ?_⟩
    simp only [OB]
    exact ⟨_,z0c,rx.set j rv⟩
 . rename_i ks ds
   split at hm
   . rename_i hl
     cases hk:zpv dk with
     | none=>rw [hk] at hm;cases hm
     | some kk=>
      rw [hk] at hm
      have hm:D.dk (z6y ks kk) (z7w ks ds kk dv)=d':=by simpa using hm
      subst hm
      simp only [OB] at ob
      obtain ⟨xs,hx,hlen,rx⟩:=ob
      cases zc5 hk rk
      refine .inr ⟨a,_,rfl,DPut.k hx (by rw [List.length_zip,<-hlen,Nat.min_self];exact z1m hl),k _ ?_⟩
      obtain ⟨e1,e2⟩:=zdo kk v hlen
      simp only [OB]
      exact ⟨_,by rw [z0c,e1],e2,zc8 kk rv rx⟩
   . cases hm
 . rename_i ks ds
   cases dk<;>simp only [zlc] at hm<;>first | cases hm | skip
   rename_i es
   split at hm
   . rename_i hl
     cases hk:zap es with
     | none=>rw [hk] at hm;cases hm
     | some kk=>
      rw [hk] at hm
      have hm:D.dt (z6y ks kk) (z7w ks ds kk dv)=d':=by simpa using hm
      subst hm
      simp only [OB] at ob
      obtain ⟨xs,hx,hlen,rx⟩:=ob
      obtain ⟨b,ys,rfl,hb,rb⟩:=rk.tup
      have e:=z8s hk rb
      subst e
      refine .inr ⟨a,_,rfl,DPut.t hx (s _ _ hb) (by rw [List.length_zip,<-hlen,Nat.min_self];exact z1m hl),k _ ?_⟩
      obtain ⟨e1,e2⟩:=zdo kk v hlen
      simp only [OB]
      exact ⟨_,by rw [z0c,e1],e2,zc8 kk rv rx⟩
   . cases hm
theorem zui {i:Nat} {o ix:Expr} {tpos:Pos} (hu:X.A.units+64<cLine) (ho:PE X o (z7j i)) (hk:QE X EX false ix fk) (hv:QE X EX false e fv)
 (ha:∀v,assign (.Subscript o ix tpos) X.env v=(do
  let ov <-holding [v] (eval o X.env)
  let iv <-holding [v,ov] (eval ix X.env)
  standAt tpos
  holding [v,ov,iv] (setItem ov iv v)
  release [v,ov,iv] []):=by intro _;rfl) (hs:swapsWithSole [.Subscript o ix tpos] e pos.line X.env=pure false:=by rfl) (hw:swappedStores [.Subscript o ix tpos] e X.env=pure none:=by rfl)
 (h1:(assignEach [.Subscript o ix tpos] X.env).map (·.2)=[assign (.Subscript o ix tpos) X.env]:=by rfl):QS X EX fr (.Assign [.Subscript o ix tpos] e pos) (zk6 zlc i m fk fv):=⟨(zd7 hv.h (zfu ho hk.h (y0i hu) ha) hs hw h1).imp fun _ _ _ q=>zpl zuh q⟩
end
theorem fnD {P:Program} {w:World} {K:Frag} {mg:Str->Option Value} {base:Heap} {x qual:Str} {st:Stmt} {f:Addr} {fd:FuncData} {N ps:List Str} {k n kk:Nat} {fr:Bool} {g:DS->SR} (F:Fun K x qual st f fd) (S:FnScope N ps (z04 st)) (hps:ps.length=n) (hN:N.length=n+kk)
  (hbody:∀(cdv:Value) (A:Around) (outer:List Env) (s:Shared) (H:Hp) (E:XK),Room k (A.deeper (envOfC qual (z04 st) s.heap.objs.size f cdv)) ->
   QB (zk4 (CX1 P w) P w K mg base N qual (z04 st) f cdv A outer s H E) ⟨H,xNm K mg E⟩ fr (z1t st) g):FnOk P w K mg base (CX1 P w) (k+1) f fd ps (spD K mg fr (mOf fr n kk g) n):=by
 have hlen:∀{vs:List V} {H:Hp} {Q:VK} {E:XK},spD K mg fr (mOf fr n kk g) n vs H Q E->vs.length=n:=fun {vs H Q E} h=>by
  obtain ⟨ds,H0,s,r,hn,_⟩:=h
  rw [<-r.length];exact hn
 refine F.okX S (fun vs H Q E h=>by rw [hlen h,hps]) (fun cdv A outer s H vs Q E hr h=>⟨_,(hbody cdv A outer s H E hr).h,?_⟩)
 have e:z57 N vs=vs.map some++List.replicate kk none:=by
  unfold z57
  rw [hlen h,hN,Nat.add_sub_cancel_left]
 rw [e]
 exact ztx h
noncomputable def spL (K:Frag) (fr:Bool) (m:List D->R D) (n:Nat):Sp:=fun vs H Q _=>∃ds H0,Same H0 H/\RDs K H0 ds vs/\ds.length=n/\Rk (fun _=>False) (m ds) fun d=>∀v H',Out K fr H0 H d v H'->Q v H'
theorem spL.spD {K:Frag} {fr:Bool} {m:List D->R D} {n:Nat} {vs:List V} {H:Hp} {Q:VK} {E:XK} {mg:Str->Option Value} (h:spL K fr m n vs H Q E):L2.spD K mg fr m n vs H Q E:=by
 obtain ⟨ds,H0,s,r,hn,h⟩:=h
 refine ⟨ds,H0,s,r,hn,?_⟩
 cases q:m ds with
 | ok d=>rw [q] at h;exact h
 | er x=>rw [q] at h;exact h.elim
 | st=>rw [q] at h;exact h.elim
theorem zuj {K:Frag} {H:Hp} {a:Addr} {ns:List Int} {m:List D->R D} {fr:Bool} (hO:zyk H) (hS:SqL K H a (ns.map V.int)) (h:m [.scr ns]=.ok (.bl true)):spL K fr m 1 [.ref a] H (fun v _=>v=.bl true) fun _ _ _=>False:=by
 refine ⟨[.scr ns],H,Same.refl _,.one ?_,rfl,?_⟩
 . simp only [RD]
   refine ⟨a,rfl,?_⟩
   rcases hS with (hS | hS) | hS
   . rcases hO a with z | ⟨o,xs,z⟩<;>rw [z] at hS<;>cases hS
   . exact .inl hS
   . exact .inr hS
 . rw [h]
   exact fun v H' o=>by
    obtain ⟨_,H0',_,r⟩:=o.weak.rd
    exact r.bl
end L2
namespace L2
open PySem PySem.Spec PyProof.Rows
open PySem.W (KasT kas_sort kas_rev kas_asc kas_desc kas_tail3 kas_descPart kas_count kas_place kas_bin)
noncomputable def z17 {α:Type} (lt:Nat->Nat->Bool):KasT α->α
 | .ret a=>a
 | .ask i j k=>z17 lt (k (lt i j))
theorem z2h {α β:Type} {lt:Nat->Nat->Bool} {f:α->KasT β}:∀t:KasT α,z17 lt (t.bind f)=z17 lt (f (z17 lt t))
 | .ret a=>rfl
 | .ask i j k=>by
  show z17 lt ((k (lt i j)).bind f)=_
  exact z2h (k (lt i j))
structure Ord (lt:Nat->Nat->Bool):Prop where
 irr:∀a,lt a a=false
 tr:∀{a b c},lt b a=false->lt c b=false->lt c a=false
 asy:∀{a b},lt a b=true->lt b a=false
section
variable {lt:Nat->Nat->Bool} {p:Array Nat}
abbrev g (p:Array Nat) (i:Nat):Nat:=p.getD i 0
def z5e (lt:Nat->Nat->Bool) (p:Array Nat) (m:Nat):Prop:=∀i j,i<=j->j<m->lt (g p j) (g p i)=false
def z8y (lt:Nat->Nat->Bool) (p:Array Nat) (m:Nat):Prop:=∀i j,i<=j->j<m->lt (g p i) (g p j)=false
theorem z70 {p q:Array Nat} {i j:Nat} (h:p[i]?=q[j]?):g p i=g q j:=by
 unfold g
 rw [Array.getD_eq_getD_getElem?,Array.getD_eq_getD_getElem?,h]
theorem zat {i j:Nat} (hj:j<=p.size) (k:Nat):g (kas_rev p i j) k=if i<=k/\k<j then g p (i+j - 1 - k) else g p k:=by
 have e:=getElem?_mirror_all (i:=i) hj k
 split
 . rename_i h;rw [if_pos h] at e;exact z70 e
 . rename_i h;rw [if_neg h] at e;exact z70 e
theorem z8z {i j:Nat}:(kas_rev p i j).size=p.size:=mirror_size _ _ _ _
theorem rev_perm {i j:Nat}:(kas_rev p i j).Perm p:=mirror_perm _ _ _ _
theorem zhf (O:Ord lt):∀(f n:Nat),1<=n->z5e lt p n->n<=z17 lt (kas_asc p f n)/\z17 lt (kas_asc p f n)<=n+f/\z5e lt p (z17 lt (kas_asc p f n)) /\
  (z17 lt (kas_asc p f n)=n+f\/lt (g p (z17 lt (kas_asc p f n))) (g p (z17 lt (kas_asc p f n) - 1))=true)
 | 0,n,h1,hs=>⟨Nat.le_refl _,Nat.le_refl _,hs,.inl rfl⟩
 | f+1,n,h1,hs=>by
  unfold kas_asc
  simp only [z17]
  cases hc:lt (p.getD n 0) (p.getD (n - 1) 0) with
  | true=>simp only [if_true,z17];exact ⟨Nat.le_refl _,by lia,hs,.inr hc⟩
  | false=>
   simp only [Bool.false_eq_true,if_false]
   have hs':z5e lt p (n+1):=fun i j hij hj=>by
    by_cases hjn:j=n
    . subst hjn
      by_cases hi:i=j
      . subst hi;exact O.irr _
      . exact O.tr (hs i (j - 1) (by lia) (by lia)) hc
    . exact hs i j hij (by lia)
   obtain ⟨a,b,c,d⟩:=zhf O f (n+1) (by lia) hs'
   exact ⟨by lia,by lia,c,d.imp (fun z=>by lia) id⟩
def zuk (lt:Nat->Nat->Bool) (p:Array Nat) (n q:Nat):Prop:=∀i j,n - (q+1)<=i->i<n->n - (q+1)<=j->j<n->lt (g p i) (g p j)=false
theorem zhg (O:Ord lt) {n q:Nat} (hn:n<=p.size) (hq:q+1<=n) (hs:z8y lt p n) (he:zuk lt p n q):z8y lt (kas_rev p (n - (q+1)) n) n:=by
 intro i j hij hj
 rw [zat hn,zat hn]
 split<;>split
 . exact he _ _ (by omega) (by omega) (by omega) (by omega)
 . omega
 . exact hs _ _ (by omega) (by omega)
 . exact hs i j hij hj
theorem z90 (O:Ord lt):∀(f:Nat) (p:Array Nat) (n q:Nat),n+f<=p.size->q+1<=n->z8y lt p n->zuk lt p n q ->
  (z17 lt (kas_desc f p n q)).1.Perm p/\n<=(z17 lt (kas_desc f p n q)).2.1/\(z17 lt (kas_desc f p n q)).2.1<=n+f/\(z17 lt (kas_desc f p n q)).2.2+1<=(z17 lt (kas_desc f p n q)).2.1 /\
   z8y lt (z17 lt (kas_desc f p n q)).1 (z17 lt (kas_desc f p n q)).2.1/\zuk lt (z17 lt (kas_desc f p n q)).1 (z17 lt (kas_desc f p n q)).2.1 (z17 lt (kas_desc f p n q)).2.2
 | 0,p,n,q,hn,hq,hs,he=>⟨Array.Perm.refl _,Nat.le_refl _,Nat.le_refl _,hq,hs,he⟩
 | f+1,p,n,q,hn,hq,hs,he=>by
  unfold kas_desc
  simp only [z17]
  have eq0:∀(p':Array Nat),zuk lt p' (n+1) 0:=fun p' i j h1 h2 h3 h4=>by
   have:i=j:=by lia
   subst this;exact O.irr _
  have step:∀(p':Array Nat),p'.size=p.size->z8y lt p' n->lt (g p' n) (g p' (n - 1))=true->z8y lt p' (n+1):=fun p' _ hs' hc i j hij hj=>by
   by_cases hjn:j=n
   . subst hjn
     by_cases hi:i=j
     . subst hi;exact O.irr _
     . exact O.tr (O.asy hc) (hs' i (j - 1) (by lia) (by lia))
   . exact hs' i j hij (by lia)
  cases hc:lt (p.getD n 0) (p.getD (n - 1) 0) with
  | true=>
   simp only [if_true]
   by_cases hq0:q > 0
   . rw [if_pos hq0]
     have hr:=zhg O (by lia) hq hs he
     have hz:(kas_rev p (n - (q+1)) n).size=p.size:=z8z
     have hc':lt (g (kas_rev p (n - (q+1)) n) n) (g (kas_rev p (n - (q+1)) n) (n - 1))=true:=by
      rw [zat (by lia),zat (by lia),if_neg (by lia),if_pos (by lia)]
      have e1:lt (g p (n - (q+1)+n - 1 - (n - 1))) (g p (n - 1))=false:=he _ _ (by lia) (by lia) (by lia) (by lia)
      have e2:lt (g p (n - 1)) (g p (n - (q+1)+n - 1 - (n - 1)))=false:=he _ _ (by lia) (by lia) (by lia) (by lia)
      cases hx:lt (g p n) (g p (n - (q+1)+n - 1 - (n - 1))) with
      | true=>rfl
      | false=>
       have z:=O.tr e1 hx
       rw [show lt (g p n) (g p (n - 1))=true from hc] at z
       cases z
     obtain ⟨a1,a2,a3,a4,a5,a6⟩:=z90 O f _ (n+1) 0 (by rw [hz];lia) (by lia) (step _ hz hr hc') (eq0 _)
     exact ⟨a1.trans rev_perm,by lia,by lia,a4,a5,a6⟩
   . rw [if_neg hq0]
     obtain ⟨a1,a2,a3,a4,a5,a6⟩:=z90 O f p (n+1) 0 (by lia) (by lia) (step _ rfl hs hc) (eq0 _)
     exact ⟨a1,by lia,by lia,a4,a5,a6⟩
  | false=>
   simp only [Bool.false_eq_true,if_false,z17]
   cases hd:lt (p.getD (n - 1) 0) (p.getD n 0) with
   | true=>simp only [if_true,z17];exact ⟨Array.Perm.refl _,Nat.le_refl _,by lia,hq,hs,he⟩
   | false=>
    simp only [Bool.false_eq_true,if_false]
    have hs':z8y lt p (n+1):=fun i j hij hj=>by
     by_cases hjn:j=n
     . subst hjn
       by_cases hi:i=j
       . subst hi;exact O.irr _
       . exact O.tr hd (hs i (j - 1) (by lia) (by lia))
     . exact hs i j hij (by lia)
    have he':zuk lt p (n+1) (q+1):=fun i j h1 h2 h3 h4=>by
     by_cases hi:i=n<;>by_cases hj:j=n
     . rw [hi,hj];exact O.irr _
     . rw [hi];exact O.tr (he (n - 1) j (by lia) (by lia) (by lia) (by lia)) hc
     . rw [hj];exact O.tr hd (he i (n - 1) (by lia) (by lia) (by lia) (by lia))
     . exact he i j (by lia) (by lia) (by lia) (by lia)
    obtain ⟨a1,a2,a3,a4,a5,a6⟩:=z90 O f p (n+1) (q+1) (by lia) (by lia) hs' he'
    exact ⟨a1,by lia,by lia,a4,a5,a6⟩
theorem zdr (O:Ord lt) {n nrem:Nat} (h1:1<=n) (hn:n<=nrem) (hz:nrem<=p.size) (hs:z8y lt p n) :
  n<=(z17 lt (kas_tail3 n nrem p)).1/\(z17 lt (kas_tail3 n nrem p)).1<=nrem/\(z17 lt (kas_tail3 n nrem p)).2.Perm p/\z5e lt (z17 lt (kas_tail3 n nrem p)).2 (z17 lt (kas_tail3 n nrem p)).1:=by
 unfold kas_tail3
 rw [z2h]
 simp only [z17]
 have hs':z5e lt (kas_rev p 0 n) n:=fun i j hij hj=>by
  rw [zat (by omega),zat (by omega),if_pos (by omega),if_pos (by omega)]
  exact hs _ _ (by omega) (by omega)
 obtain ⟨a,b,c,_⟩:=zhf O (nrem - n) n h1 hs'
 exact ⟨a,by omega,rev_perm,c⟩
theorem z71 (O:Ord lt) {n nrem:Nat} (hn:n+1<=nrem) (hz:nrem<=p.size) (hs:z8y lt p (n+1)) :
  1<=(z17 lt (kas_descPart n nrem p)).1/\(z17 lt (kas_descPart n nrem p)).1<=nrem/\(z17 lt (kas_descPart n nrem p)).2.Perm p/\z5e lt (z17 lt (kas_descPart n nrem p)).2 (z17 lt (kas_descPart n nrem p)).1:=by
 unfold kas_descPart
 rw [z2h]
 obtain ⟨a1,a2,a3,a4,a5,a6⟩:=z90 O (nrem - (n+1)) p (n+1) 0 (by lia) (by lia) hs (fun i j h1 h2 h3 h4=>by
  have:i=j:=by lia
  subst this;exact O.irr _)
 generalize hr:z17 lt (kas_desc (nrem - (n+1)) p (n+1) 0)=r at *
 have hsz:r.1.size=p.size:=a1.size_eq
 split
 . rename_i hq
   obtain ⟨b1,b2,b3,b4⟩:=zdr (nrem:=nrem) O (by lia) (by lia) (by rw [z8z,hsz];exact hz) (zhg O (by rw [hsz];lia) a4 a5 a6)
   exact ⟨by lia,b2,b3.trans (rev_perm.trans a1),b4⟩
 . obtain ⟨b1,b2,b3,b4⟩:=zdr (nrem:=nrem) O (by lia) (by lia) (by rw [hsz];exact hz) a5
   exact ⟨by lia,b2,b3.trans a1,b4⟩
theorem zld (O:Ord lt) {nrem:Nat} (h1:1<=nrem) (hz:nrem<=p.size) :
  1<=(z17 lt (kas_count nrem p)).1/\(z17 lt (kas_count nrem p)).1<=nrem/\(z17 lt (kas_count nrem p)).2.Perm p/\z5e lt (z17 lt (kas_count nrem p)).2 (z17 lt (kas_count nrem p)).1:=by
 unfold kas_count
 rw [z2h]
 have h0:z5e lt p 1:=fun i j hij hj=>by
  have:i=j:=by lia
  subst this;exact O.irr _
 obtain ⟨a,b,c,d⟩:=zhf O (nrem - 1) 1 (Nat.le_refl _) h0
 generalize hm:z17 lt (kas_asc p (nrem - 1) 1)=m at *
 by_cases he:m=nrem
 . rw [if_pos (by simpa using he)]
   exact ⟨a,by show m<=nrem;lia,Array.Perm.refl _,c⟩
 . rw [if_neg (by simpa using he)]
   have hlt:lt (g p m) (g p (m - 1))=true:=d.resolve_left (by lia)
   by_cases hg:m > 1
   . rw [if_pos hg]
     simp only [z17]
     cases hc:lt (p.getD 0 0) (p.getD (m - 1) 0) with
     | true=>simp only [if_true,z17];exact ⟨a,by lia,Array.Perm.refl _,c⟩
     | false=>
      simp only [Bool.false_eq_true,if_false]
      have al:∀i j,i<m->j<m->lt (g p i) (g p j)=false:=fun i j hi hj=>
       O.tr (O.tr (c j (m - 1) (by lia) (by lia)) hc) (c 0 i (by lia) hi)
      obtain ⟨b1,b2,b3,b4⟩:=z71 (p:=kas_rev p 0 m) (n:=m) (nrem:=nrem) O (by lia) (by rw [z8z];exact hz) (fun i j hij hj=>by
       rw [zat (by lia),zat (by lia)]
       by_cases hjm:j<m
       . rw [if_pos (by lia),if_pos (by lia)];exact al _ _ (by lia) (by lia)
       . have hj':j=m:=by lia
         subst hj'
         by_cases hi:i=j
         . subst hi;rw [if_neg (by lia)];exact O.irr _
         . rw [if_pos (by lia),if_neg (by lia)]
           exact O.tr (O.asy hlt) (al _ _ (by lia) (by lia)))
      exact ⟨b1,b2,b3.trans rev_perm,b4⟩
   . rw [if_neg hg]
     have hm1:m=1:=by lia
     exact z71 O (by lia) hz fun i j hij hj=>by
      by_cases hi:i=j
      . subst hi;exact O.irr _
      . have hi0:i=0:=by lia
        have hj1:j=1:=by lia
        subst hi0;subst hj1
        rw [hm1] at hlt
        exact O.asy hlt
theorem z91 (O:Ord lt) {k:Nat} (hs:z5e lt p k):∀(f l r:Nat),l<=r->r<=k->r - l<=f->(∀i,i<l->lt (g p k) (g p i)=false)->(∀i,r<=i->i<k->lt (g p k) (g p i)=true) ->
  z17 lt (kas_place p k f l r)<=k/\(∀i,i<z17 lt (kas_place p k f l r)->lt (g p k) (g p i)=false)/\∀i,z17 lt (kas_place p k f l r)<=i->i<k->lt (g p k) (g p i)=true
 | 0,l,r,h1,h2,h3,hl,hr=>by
  have:l=r:=by omega
  subst this
  exact ⟨h2,hl,hr⟩
 | f+1,l,r,h1,h2,h3,hl,hr=>by
  unfold kas_place
  by_cases hlr:l ≥ r
  . rw [if_pos hlr]
    have:l=r:=by omega
    subst this
    exact ⟨h2,hl,hr⟩
  . rw [if_neg hlr]
    simp only [z17]
    cases hc:lt (p.getD k 0) (p.getD ((l+r) / 2) 0) with
    | true=>
     simp only [if_true]
     refine z91 O hs f l ((l+r) / 2) (by omega) (by omega) (by omega) hl fun i hi hik=>?_
     cases hx:lt (g p k) (g p i) with
     | true=>rfl
     | false=>
      have:=O.tr (hs ((l+r) / 2) i hi hik) hx
      rw [show lt (g p k) (g p ((l+r) / 2))=true from hc] at this;cases this
    | false=>
     simp only [Bool.false_eq_true,if_false]
     exact z91 O hs f ((l+r) / 2+1) r (by omega) h2 (by omega) (fun i hi=>O.tr (hs i ((l+r) / 2) (by omega) (by omega)) hc) hr
theorem zds {k d:Nat} (hk:k<p.size) (hd:d<=k) (i:Nat):g (bubble p k d) i=if i=k - d then g p k else if k - d<i/\i<=k then g p (i - 1) else g p i:=by
 have e:=getElem?_bubble hk d hd i
 by_cases h:i=k - d
 . rw [if_pos h] at e ⊢;exact z70 e
 . rw [if_neg h] at e ⊢
   by_cases h2:k - d<i/\i<=k
   . rw [if_pos h2] at e ⊢;exact z70 e
   . rw [if_neg h2] at e ⊢;exact z70 e
theorem zn5 (O:Ord lt):∀(f:Nat) (p:Array Nat) (k:Nat),k+f<=p.size->z5e lt p k->(z17 lt (kas_bin f p k)).Perm p/\z5e lt (z17 lt (kas_bin f p k)) (k+f)
 | 0,p,k,h,hs=>⟨Array.Perm.refl _,hs⟩
 | f+1,p,k,h,hs=>by
  unfold kas_bin
  rw [z2h]
  obtain ⟨a,b,c⟩:=z91 O hs k 0 k (Nat.zero_le _) (Nat.le_refl _) (by lia) (fun i hi=>absurd hi (Nat.not_lt_zero _)) (fun i h1 h2=>absurd h2 (by lia))
  generalize hl:z17 lt (kas_place p k k 0 k)=l at *
  have hs':z5e lt (bubble p k (k - l)) (k+1):=fun i j hij hj=>by
   rw [zds (by lia) (by lia),zds (by lia) (by lia)]
   have hkl:k - (k - l)=l:=by lia
   rw [hkl]
   by_cases hj1:j=l
   . rw [if_pos hj1]
     by_cases hi1:i=l
     . rw [if_pos hi1];exact O.irr _
     . rw [if_neg hi1,if_neg (by lia)];exact b i (by lia)
   . rw [if_neg hj1]
     by_cases hj2:l<j/\j<=k
     . rw [if_pos hj2]
       by_cases hi1:i=l
       . rw [if_pos hi1];exact O.asy (c (j - 1) (by lia) (by lia))
       . rw [if_neg hi1]
         by_cases hi2:l<i/\i<=k
         . rw [if_pos hi2];exact hs _ _ (by lia) (by lia)
         . rw [if_neg hi2];exact hs _ _ (by lia) (by lia)
     . rw [if_neg hj2,if_neg (by lia),if_neg (by lia)]
       exact hs _ _ hij (by lia)
  obtain ⟨a1,a2⟩:=zn5 O f (bubble p k (k - l)) (k+1) (by rw [bubble_size];lia) hs'
  exact ⟨a1.trans (bubble_perm _ _ _),by rw [show k+(f+1)=k+1+f by lia];exact a2⟩
theorem zhh (O:Ord lt) {n:Nat} (h1:1<=n):(z17 lt (kas_sort n)).Perm (List.toArray (List.range n))/\z5e lt (z17 lt (kas_sort n)) n:=by
 unfold kas_sort
 rw [z2h]
 obtain ⟨a,b,c,d⟩:=zld (p:=List.toArray (List.range n)) O h1 (by simp)
 generalize z17 lt (kas_count n (List.toArray (List.range n)))=r at *
 have hsz:r.2.size=n:=by rw [c.size_eq];simp
 split
 . rename_i hr
   obtain ⟨a1,a2⟩:=zn5 O (n - max r.1 1) r.2 (max r.1 1) (by lia) (by rw [show max r.1 1=r.1 by lia];exact d)
   exact ⟨a1.trans c,by rw [show max r.1 1+(n - max r.1 1)=n by lia] at a2;exact a2⟩
 . rename_i hr
   have:r.1=n:=by lia
   exact ⟨c,by rw [this] at d;exact d⟩
end
end L2
namespace L2
open PySem PySem.Spec PyProof.Rows
open PySem.W (KasT kas_sort)
mutual
noncomputable def D.oi:D->Bool
 | .int _=>true
 | .tup ds=>ois ds
 | _=>false
noncomputable def ois:List D->Bool
 | []=>true
 | d::ds=>d.oi&&ois ds
end
mutual
noncomputable def ltT:D->D->Bool
 | .int i,.int j=>decide (i<j)
 | .int _,.tup _=>true
 | .tup ds,.tup es=>ltTs ds es
 | _,_=>false
noncomputable def ltTs:List D->List D->Bool
 | [],[]=>false
 | [],_::_=>true
 | _::_,[]=>false
 | d::ds,e::es=>if eqD d e=true then ltTs ds es else ltT d e
end
mutual
noncomputable def z1s:D->D->Option Bool
 | .int i,.int j=>some (decide (i<j))
 | .tup ds,.tup es=>z1n ds es
 | _,_=>none
noncomputable def z1n:List D->List D->Option Bool
 | [],[]=>some false
 | [],_::_=>some true
 | _::_,[]=>some false
 | d::ds,e::es=>if eqD d e=true then z1n ds es else z1s d e
end
mutual
theorem zn6:∀{d e:D} {b:Bool},z1s d e=some b->b=ltT d e
 | .int i,.int j,b,h=>by simp only [z1s,Option.some.injEq] at h;simp only [ltT];exact h.symm
 | .tup ds,.tup es,b,h=>by simp only [z1s] at h;simp only [ltT];exact zhi h
 | .non,e,b,h=>by simp [z1s] at h
 | .bl _,e,b,h=>by simp [z1s] at h
 | .str _,e,b,h=>by simp [z1s] at h
 | .lst _,e,b,h=>by simp [z1s] at h
 | .dk _ _,e,b,h=>by simp [z1s] at h
 | .dt _ _,e,b,h=>by simp [z1s] at h
 | .dn _ _,e,b,h=>by simp [z1s] at h
 | .scr _,e,b,h=>by simp [z1s] at h
 | .exc _ _,e,b,h=>by simp [z1s] at h
 | .int _,.non,b,h=>by simp [z1s] at h
 | .int _,.bl _,b,h=>by simp [z1s] at h
 | .int _,.str _,b,h=>by simp [z1s] at h
 | .int _,.lst _,b,h=>by simp [z1s] at h
 | .int _,.tup _,b,h=>by simp [z1s] at h
 | .int _,.dk _ _,b,h=>by simp [z1s] at h
 | .int _,.dt _ _,b,h=>by simp [z1s] at h
 | .int _,.dn _ _,b,h=>by simp [z1s] at h
 | .int _,.scr _,b,h=>by simp [z1s] at h
 | .int _,.exc _ _,b,h=>by simp [z1s] at h
 | .tup _,.non,b,h=>by simp [z1s] at h
 | .tup _,.bl _,b,h=>by simp [z1s] at h
 | .tup _,.int _,b,h=>by simp [z1s] at h
 | .tup _,.str _,b,h=>by simp [z1s] at h
 | .tup _,.lst _,b,h=>by simp [z1s] at h
 | .tup _,.dk _ _,b,h=>by simp [z1s] at h
 | .tup _,.dt _ _,b,h=>by simp [z1s] at h
 | .tup _,.dn _ _,b,h=>by simp [z1s] at h
 | .tup _,.scr _,b,h=>by simp [z1s] at h
 | .tup _,.exc _ _,b,h=>by simp [z1s] at h
theorem zhi:∀{ds es:List D} {b:Bool},z1n ds es=some b->b=ltTs ds es
 | [],[],b,h=>by simp only [z1n,Option.some.injEq] at h;simp only [ltTs];exact h.symm
 | [],_::_,b,h=>by simp only [z1n,Option.some.injEq] at h;simp only [ltTs];exact h.symm
 | _::_,[],b,h=>by simp only [z1n,Option.some.injEq] at h;simp only [ltTs];exact h.symm
 | d::ds,e::es,b,h=>by
  simp only [z1n] at h
  simp only [ltTs]
  split at h
  . rename_i q;rw [if_pos q];exact zhi h
  . rename_i q;rw [if_neg q];exact zn6 h
end
mutual
theorem zf1:∀{d e:D},d.oi=true->eqD d e=true->e.oi=true->d=e
 | .int i,.int j,_,h,_=>by simp only [eqD,beq_iff_eq] at h;rw [h]
 | .tup ds,.tup es,p,h,q=>by
  simp only [eqD] at h
  simp only [D.oi] at p q
  rw [zn7 p h q]
 | .int i,.tup _,_,h,_=>by simp [eqD] at h
 | .tup _,.int _,_,h,_=>by simp [eqD] at h
 | .int _,.non,_,_,q=>by simp [D.oi] at q
 | .int _,.bl _,_,_,q=>by simp [D.oi] at q
 | .int _,.str _,_,_,q=>by simp [D.oi] at q
 | .int _,.lst _,_,_,q=>by simp [D.oi] at q
 | .int _,.dk _ _,_,_,q=>by simp [D.oi] at q
 | .int _,.dt _ _,_,_,q=>by simp [D.oi] at q
 | .int _,.dn _ _,_,_,q=>by simp [D.oi] at q
 | .int _,.scr _,_,_,q=>by simp [D.oi] at q
 | .int _,.exc _ _,_,_,q=>by simp [D.oi] at q
 | .tup _,.non,_,_,q=>by simp [D.oi] at q
 | .tup _,.bl _,_,_,q=>by simp [D.oi] at q
 | .tup _,.str _,_,_,q=>by simp [D.oi] at q
 | .tup _,.lst _,_,_,q=>by simp [D.oi] at q
 | .tup _,.dk _ _,_,_,q=>by simp [D.oi] at q
 | .tup _,.dt _ _,_,_,q=>by simp [D.oi] at q
 | .tup _,.dn _ _,_,_,q=>by simp [D.oi] at q
 | .tup _,.scr _,_,_,q=>by simp [D.oi] at q
 | .tup _,.exc _ _,_,_,q=>by simp [D.oi] at q
 | .non,_,p,_,_=>by simp [D.oi] at p
 | .bl _,_,p,_,_=>by simp [D.oi] at p
 | .str _,_,p,_,_=>by simp [D.oi] at p
 | .lst _,_,p,_,_=>by simp [D.oi] at p
 | .dk _ _,_,p,_,_=>by simp [D.oi] at p
 | .dt _ _,_,p,_,_=>by simp [D.oi] at p
 | .dn _ _,_,p,_,_=>by simp [D.oi] at p
 | .scr _,_,p,_,_=>by simp [D.oi] at p
 | .exc _ _,_,p,_,_=>by simp [D.oi] at p
theorem zn7:∀{ds es:List D},ois ds=true->z69 ds es=true->ois es=true->ds=es
 | [],[],_,_,_=>rfl
 | [],_::_,_,h,_=>by simp [z69] at h
 | _::_,[],_,h,_=>by simp [z69] at h
 | d::ds,e::es,p,h,q=>by
  simp only [z69,Bool.and_eq_true] at h
  simp only [ois,Bool.and_eq_true] at p q
  rw [zf1 p.1 h.1 q.1,zn7 p.2 h.2 q.2]
end
mutual
theorem z92:∀{d:D},d.oi=true->eqD d d=true
 | .int i,_=>by simp [eqD]
 | .tup ds,p=>by simp only [eqD];exact zdt (by simpa only [D.oi] using p)
 | .non,p=>by simp [D.oi] at p
 | .bl _,p=>by simp [D.oi] at p
 | .str _,p=>by simp [D.oi] at p
 | .lst _,p=>by simp [D.oi] at p
 | .dk _ _,p=>by simp [D.oi] at p
 | .dt _ _,p=>by simp [D.oi] at p
 | .dn _ _,p=>by simp [D.oi] at p
 | .scr _,p=>by simp [D.oi] at p
 | .exc _ _,p=>by simp [D.oi] at p
theorem zdt:∀{ds:List D},ois ds=true->z69 ds ds=true
 | [],_=>rfl
 | d::ds,p=>by
  simp only [ois,Bool.and_eq_true] at p
  simp only [z69,z92 p.1,zdt p.2,Bool.and_self]
end
mutual
theorem zdu:∀{d e:D},d.oi=true->e.oi=true->ltT d e=false->ltT e d=false->d=e
 | .int i,.int j,_,_,h,h'=>by
  simp only [ltT,decide_eq_false_iff_not] at h h'
  have:i=j:=by lia
  rw [this]
 | .tup ds,.tup es,p,q,h,h'=>by
  simp only [ltT] at h h'
  simp only [D.oi] at p q
  rw [zhj p q h h']
 | .int _,.tup _,_,_,h,_=>by simp [ltT] at h
 | .tup _,.int _,_,_,_,h=>by simp [ltT] at h
 | .int _,.non,_,q,_,_=>by simp [D.oi] at q
 | .int _,.bl _,_,q,_,_=>by simp [D.oi] at q
 | .int _,.str _,_,q,_,_=>by simp [D.oi] at q
 | .int _,.lst _,_,q,_,_=>by simp [D.oi] at q
 | .int _,.dk _ _,_,q,_,_=>by simp [D.oi] at q
 | .int _,.dt _ _,_,q,_,_=>by simp [D.oi] at q
 | .int _,.dn _ _,_,q,_,_=>by simp [D.oi] at q
 | .int _,.scr _,_,q,_,_=>by simp [D.oi] at q
 | .int _,.exc _ _,_,q,_,_=>by simp [D.oi] at q
 | .tup _,.non,_,q,_,_=>by simp [D.oi] at q
 | .tup _,.bl _,_,q,_,_=>by simp [D.oi] at q
 | .tup _,.str _,_,q,_,_=>by simp [D.oi] at q
 | .tup _,.lst _,_,q,_,_=>by simp [D.oi] at q
 | .tup _,.dk _ _,_,q,_,_=>by simp [D.oi] at q
 | .tup _,.dt _ _,_,q,_,_=>by simp [D.oi] at q
 | .tup _,.dn _ _,_,q,_,_=>by simp [D.oi] at q
 | .tup _,.scr _,_,q,_,_=>by simp [D.oi] at q
 | .tup _,.exc _ _,_,q,_,_=>by simp [D.oi] at q
 | .non,_,p,_,_,_=>by simp [D.oi] at p
 | .bl _,_,p,_,_,_=>by simp [D.oi] at p
 | .str _,_,p,_,_,_=>by simp [D.oi] at p
 | .lst _,_,p,_,_,_=>by simp [D.oi] at p
 | .dk _ _,_,p,_,_,_=>by simp [D.oi] at p
 | .dt _ _,_,p,_,_,_=>by simp [D.oi] at p
 | .dn _ _,_,p,_,_,_=>by simp [D.oi] at p
 | .scr _,_,p,_,_,_=>by simp [D.oi] at p
 | .exc _ _,_,p,_,_,_=>by simp [D.oi] at p
theorem zhj:∀{ds es:List D},ois ds=true->ois es=true->ltTs ds es=false->ltTs es ds=false->ds=es
 | [],[],_,_,_,_=>rfl
 | [],_::_,_,_,h,_=>by simp [ltTs] at h
 | _::_,[],_,_,_,h=>by simp [ltTs] at h
 | d::ds,e::es,p,q,h,h'=>by
  simp only [ois,Bool.and_eq_true] at p q
  simp only [ltTs] at h h'
  by_cases w:eqD d e=true
  . have:=zf1 p.1 w q.1
    subst this
    rw [if_pos w] at h
    rw [if_pos w] at h'
    rw [zhj p.2 q.2 h h']
  . have w':¬eqD e d=true:=fun z=>w (by rw [zf1 q.1 z p.1];exact z92 p.1)
    rw [if_neg w] at h
    rw [if_neg w'] at h'
    have:=zdu p.1 q.1 h h'
    subst this
    exact absurd (z92 p.1) w
end
mutual
theorem zdv:∀{d:D},d.oi=true->ltT d d=false
 | .int i,_=>by simp [ltT]
 | .tup ds,p=>by simp only [ltT];exact zhk (by simpa only [D.oi] using p)
 | .non,p=>by simp [D.oi] at p
 | .bl _,p=>by simp [D.oi] at p
 | .str _,p=>by simp [D.oi] at p
 | .lst _,p=>by simp [D.oi] at p
 | .dk _ _,p=>by simp [D.oi] at p
 | .dt _ _,p=>by simp [D.oi] at p
 | .dn _ _,p=>by simp [D.oi] at p
 | .scr _,p=>by simp [D.oi] at p
 | .exc _ _,p=>by simp [D.oi] at p
theorem zhk:∀{ds:List D},ois ds=true->ltTs ds ds=false
 | [],_=>rfl
 | d::ds,p=>by
  simp only [ois,Bool.and_eq_true] at p
  simp only [ltTs]
  rw [if_pos (z92 p.1)]
  exact zhk p.2
end
mutual
theorem zhl:∀{d e f:D},d.oi=true->e.oi=true->f.oi=true->ltT d e=true->ltT e f=true->ltT d f=true
 | .int i,.int j,.int k,_,_,_,h,h'=>by
  simp only [ltT,decide_eq_true_eq] at h h' ⊢
  lia
 | .int i,.int j,.tup _,_,_,_,h,h'=>by simp only [ltT]
 | .int i,.tup _,.tup _,_,_,_,h,h'=>by simp only [ltT]
 | .tup ds,.tup es,.tup fs,p,q,r,h,h'=>by
  simp only [ltT] at h h' ⊢
  simp only [D.oi] at p q r
  exact zn8 p q r h h'
 | .int i,.tup _,.int _,_,_,_,h,h'=>by simp [ltT] at h'
 | .tup _,.int _,_,_,_,_,h,h'=>by simp [ltT] at h
 | .tup _,.tup _,.int _,_,_,_,h,h'=>by simp [ltT] at h'
 | .non,_,_,p,_,_,_,_=>by simp [D.oi] at p
 | .bl _,_,_,p,_,_,_,_=>by simp [D.oi] at p
 | .str _,_,_,p,_,_,_,_=>by simp [D.oi] at p
 | .lst _,_,_,p,_,_,_,_=>by simp [D.oi] at p
 | .dk _ _,_,_,p,_,_,_,_=>by simp [D.oi] at p
 | .dt _ _,_,_,p,_,_,_,_=>by simp [D.oi] at p
 | .dn _ _,_,_,p,_,_,_,_=>by simp [D.oi] at p
 | .scr _,_,_,p,_,_,_,_=>by simp [D.oi] at p
 | .exc _ _,_,_,p,_,_,_,_=>by simp [D.oi] at p
 | _,.non,_,_,p,_,_,_=>by simp [D.oi] at p
 | _,.bl _,_,_,p,_,_,_=>by simp [D.oi] at p
 | _,.str _,_,_,p,_,_,_=>by simp [D.oi] at p
 | _,.lst _,_,_,p,_,_,_=>by simp [D.oi] at p
 | _,.dk _ _,_,_,p,_,_,_=>by simp [D.oi] at p
 | _,.dt _ _,_,_,p,_,_,_=>by simp [D.oi] at p
 | _,.dn _ _,_,_,p,_,_,_=>by simp [D.oi] at p
 | _,.scr _,_,_,p,_,_,_=>by simp [D.oi] at p
 | _,.exc _ _,_,_,p,_,_,_=>by simp [D.oi] at p
 | _,_,.non,_,_,p,_,_=>by simp [D.oi] at p
 | _,_,.bl _,_,_,p,_,_=>by simp [D.oi] at p
 | _,_,.str _,_,_,p,_,_=>by simp [D.oi] at p
 | _,_,.lst _,_,_,p,_,_=>by simp [D.oi] at p
 | _,_,.dk _ _,_,_,p,_,_=>by simp [D.oi] at p
 | _,_,.dt _ _,_,_,p,_,_=>by simp [D.oi] at p
 | _,_,.dn _ _,_,_,p,_,_=>by simp [D.oi] at p
 | _,_,.scr _,_,_,p,_,_=>by simp [D.oi] at p
 | _,_,.exc _ _,_,_,p,_,_=>by simp [D.oi] at p
theorem zn8:∀{ds es fs:List D},ois ds=true->ois es=true->ois fs=true->ltTs ds es=true->ltTs es fs=true->ltTs ds fs=true
 | [],_,_::_,_,_,_,_,_=>by simp only [ltTs]
 | _,[],[],_,_,_,_,h=>by simp [ltTs] at h
 | _::_,[],_,_,_,_,h,_=>by simp [ltTs] at h
 | _,_::_,[],_,_,_,_,h=>by simp [ltTs] at h
 | d::ds,e::es,f::fs,p,q,r,h,h'=>by
  simp only [ois,Bool.and_eq_true] at p q r
  simp only [ltTs] at h h' ⊢
  by_cases w:eqD d e=true
  . have:=zf1 p.1 w q.1
    subst this
    rw [if_pos w] at h
    by_cases w2:eqD d f=true
    . rw [if_pos w2] at h' ⊢;exact zn8 p.2 q.2 r.2 h h'
    . rw [if_neg w2] at h' ⊢;exact h'
  . rw [if_neg w] at h
    by_cases w2:eqD e f=true
    . have:=zf1 q.1 w2 r.1
      subst this
      rw [if_neg w];exact h
    . rw [if_neg w2] at h'
      have h3:=zhl p.1 q.1 r.1 h h'
      by_cases w3:eqD d f=true
      . have:=zf1 p.1 w3 r.1
        subst this
        rw [zdv p.1] at h3;cases h3
      . rw [if_neg w3];exact h3
end
theorem z21:∀{ds:List D} {i:Nat},ois ds=true->(ds.getD i (.int 0)).oi=true
 | [],i,_=>by simp [D.oi]
 | d::ds,0,h=>by simp only [ois,Bool.and_eq_true] at h;simpa using h.1
 | d::ds,i+1,h=>by
  simp only [ois,Bool.and_eq_true] at h
  simpa using z21 (i:=i) h.2
noncomputable def ltI (ds:List D) (i j:Nat):Bool:=ltT (ds.getD i (.int 0)) (ds.getD j (.int 0))
theorem zhm {ds:List D} (h:ois ds=true):Ord (ltI ds):=by
 refine ⟨fun a=>zdv (z21 h),fun {a b c} h1 h2=>?_,fun {a b} h1=>?_⟩
 . unfold ltI at h1 h2 ⊢
   cases hx:ltT (ds.getD c (.int 0)) (ds.getD a (.int 0)) with
   | false=>rfl
   | true=>
    cases hy:ltT (ds.getD a (.int 0)) (ds.getD b (.int 0)) with
    | true=>rw [zhl (z21 h) (z21 h) (z21 h) hx hy] at h2;cases h2
    | false=>
     rw [zdu (z21 h) (z21 h) hy h1] at hx
     rw [hx] at h2;cases h2
 . unfold ltI at h1 ⊢
   cases hx:ltT (ds.getD b (.int 0)) (ds.getD a (.int 0)) with
   | false=>rfl
   | true=>
    have:=zhl (z21 h) (z21 h) (z21 h) h1 hx
    rw [zdv (z21 h)] at this;cases this
noncomputable def zle (d:D):List D->List D
 | []=>[d]
 | e::r=>if ltT e d=true then e::zle d r else d::e::r
noncomputable def z2r:List D->List D
 | []=>[]
 | d::r=>zle d (z2r r)
theorem z72 (d:D):∀l:List D,(zle d l).Perm (d::l)
 | []=>.refl _
 | e::r=>by
  unfold zle
  split
  . exact ((z72 d r).cons e).trans (.swap d e r)
  . exact .refl _
theorem z11:∀l:List D,(z2r l).Perm l
 | []=>.refl _
 | d::r=>(z72 d (z2r r)).trans ((z11 r).cons d)
theorem ois_mem:∀{ds:List D},ois ds=true↔∀d∈ds,d.oi=true
 | []=>by simp [ois]
 | d::ds=>by simp [ois,ois_mem (ds:=ds)]
def Srt (l:List D):Prop:=l.Pairwise fun a b=>ltT b a=false
theorem zdw {d:D}:∀{l:List D},d.oi=true->ois l=true->Srt l->Srt (zle d l)
 | [],_,_,_=>by simp [zle,Srt]
 | e::r,hd,hl,hs=>by
  simp only [ois,Bool.and_eq_true] at hl
  obtain ⟨h1,h2⟩:=List.pairwise_cons.mp hs
  unfold zle
  split
  . rename_i hlt
    refine List.pairwise_cons.mpr ⟨fun x hx=>?_,zdw hd hl.2 h2⟩
    rcases List.mem_cons.mp ((z72 d r).mem_iff.mp hx) with rfl | hx
    . cases hq:ltT x e with
      | false=>rfl
      | true=>
       have:=zhl hl.1 hd hl.1 hlt hq
       rw [zdv hl.1] at this;cases this
    . exact h1 x hx
  . rename_i hlt
    have hlt:ltT e d=false:=by simpa using hlt
    refine List.pairwise_cons.mpr ⟨fun x hx=>?_,hs⟩
    rcases List.mem_cons.mp hx with rfl | hx
    . exact hlt
    . have hxo:=(ois_mem.mp hl.2) x hx
      cases hq:ltT x d with
      | false=>rfl
      | true=>
       have h3:=h1 x hx
       cases hy:ltT d e with
       | true=>rw [zhl hxo hd hl.1 hq hy] at h3;cases h3
       | false=>
        rw [zdu hd hl.1 hy hlt] at hq
        rw [hq] at h3;cases h3
theorem z4x {l l':List D} (p:l.Perm l') (h:ois l'=true):ois l=true:=ois_mem.mpr fun d hd=>(ois_mem.mp h) d (p.mem_iff.mp hd)
theorem z1b:∀{l:List D},ois l=true->Srt (z2r l)
 | [],_=>.nil
 | d::r,h=>by
  simp only [ois,Bool.and_eq_true] at h
  exact zdw h.1 (z4x (z11 r) h.2) (z1b h.2)
theorem z2s:∀{l l':List D},ois l=true->l.Perm l'->Srt l->Srt l'->l=l'
 | [],l',_,p,_,_=>by rw [p.nil_eq]
 | a::r,[],_,p,_,_=>by have:=p.length_eq;simp at this
 | a::r,b::r',h,p,s,s'=>by
  have h':=h
  simp only [ois,Bool.and_eq_true] at h
  obtain ⟨h1,h2⟩:=List.pairwise_cons.mp s
  obtain ⟨h3,h4⟩:=List.pairwise_cons.mp s'
  have hb:b∈a::r:=p.mem_iff.mpr List.mem_cons_self
  have ha:a∈b::r':=p.mem_iff.mp List.mem_cons_self
  have hbo:=(ois_mem.mp h') b hb
  have e:a=b:=by
   rcases List.mem_cons.mp hb with z | z
   . exact z.symm
   . rcases List.mem_cons.mp ha with w | w
     . exact w
     . exact zdu h.1 hbo (h3 a w) (h1 b z)
  subst e
  rw [z2s h.2 (List.perm_cons a |>.mp p) h2 h4]
theorem zf2 {ds:List D} (h:ois ds=true) (h1:1<=ds.length):(z17 (ltI ds) (kas_sort ds.length)).toList.map (fun i=>ds.getD i (.int 0))=z2r ds:=by
 obtain ⟨p,s⟩:=zhh (zhm h) h1
 generalize z17 (ltI ds) (kas_sort ds.length)=a at *
 have hsz:a.size=ds.length:=by rw [p.size_eq];simp
 have pl:a.toList.Perm (List.range ds.length):=by
  have:=p.toList
  simpa using this
 have pm:(a.toList.map fun i=>ds.getD i (.int 0)).Perm ds:=by
  refine (pl.map _).trans ?_
  rw [show (List.range ds.length).map (fun i=>ds.getD i (.int 0))=ds from ?_]
  apply List.ext_getElem?
  intro i
  rw [List.getElem?_map]
  by_cases hi:i<ds.length
  . rw [List.getElem?_range hi]
    simp [hi]
  . rw [List.getElem?_eq_none (by simpa using hi),List.getElem?_eq_none (by simpa using hi)];rfl
 refine z2s (z4x pm h) (pm.trans (z11 ds).symm) ?_ (z1b h)
 refine List.pairwise_iff_getElem.mpr fun i j hi hj hij=>?_
 simp only [List.length_map,Array.length_toList] at hi hj
 have:=s i j (Nat.le_of_lt hij) (by lia)
 unfold ltI g at this
 rw [Array.getD_eq_getD_getElem?,Array.getD_eq_getD_getElem?,Array.getElem?_eq_getElem hi,Array.getElem?_eq_getElem hj] at this
 simpa using this
end L2
namespace L2
open PySem PySem.Spec PyProof.Rows
open PySem.W (KasT kas_sort kas_rev kas_asc kas_desc kas_tail3 kas_descPart kas_count kas_place kas_bin)
def InP {α:Type} (n:Nat) (P:α->Prop):KasT α->Prop
 | .ret a=>P a
 | .ask i j k=>i<n/\j<n/\∀b,InP n P (k b)
theorem InP.bind {α β:Type} {n:Nat} {P:α->Prop} {P':β->Prop} {f:α->KasT β}:∀{t:KasT α},InP n P t->(∀a,P a->InP n P' (f a))->InP n P' (t.bind f)
 | .ret a,h,hf=>hf a h
 | .ask i j k,h,hf=>⟨h.1,h.2.1,fun b=>InP.bind (h.2.2 b) hf⟩
def Al (n:Nat) (p:Array Nat):Prop:=∀i,p.getD i 0<n
theorem Al.perm {n:Nat} {p q:Array Nat} (h0:0<n) (h:q.Perm p) (a:Al n p):Al n q:=fun i=>by
 by_cases hi:i<q.size
 . have hm:q[i]∈p.toList:=h.toList.mem_iff.mp (by simp)
   obtain ⟨j,hj,e⟩:=List.mem_iff_getElem.mp hm
   have:=a j
   rw [Array.getD_eq_getD_getElem?,Array.getElem?_eq_getElem (by simpa using hj)] at this
   rw [Array.getD_eq_getD_getElem?,Array.getElem?_eq_getElem hi]
   simp only [Option.getD_some] at this ⊢
   rw [<-e]
   simpa using this
 . rw [Array.getD_eq_getD_getElem?,Array.getElem?_eq_none (by lia)];exact h0
section
variable {n:Nat} {p:Array Nat}
theorem zhn (a:Al n p):∀f k,InP n (fun _=>True) (kas_asc p f k)
 | 0,k=>trivial
 | f+1,k=>⟨a _,a _,fun b=>by cases b<;>first | exact trivial | exact zhn a f (k+1)⟩
theorem z93 (h0:0<n):∀(f:Nat) (p:Array Nat) (k q:Nat),Al n p->InP n (fun r=>Al n r.1) (kas_desc f p k q)
 | 0,p,k,q,a=>a
 | f+1,p,k,q,a=>by
  refine ⟨a _,a _,fun b=>?_⟩
  cases b with
  | true=>
   dsimp only
   rw [if_pos rfl]
   split
   . exact z93 h0 f _ _ _ (a.perm h0 rev_perm)
   . exact z93 h0 f _ _ _ a
  | false=>
   dsimp only
   rw [if_neg Bool.false_ne_true]
   refine ⟨a _,a _,fun c=>?_⟩
   cases c with
   | true=>exact a
   | false=>exact z93 h0 f _ _ _ a
theorem zdx (h0:0<n) (a:Al n p) (k m:Nat):InP n (fun r=>Al n r.2) (kas_tail3 k m p):=
 InP.bind (zhn (a.perm h0 rev_perm) _ _) fun _ _=>a.perm h0 rev_perm
theorem z73 (h0:0<n) (a:Al n p) (k m:Nat):InP n (fun r=>Al n r.2) (kas_descPart k m p):=
 InP.bind (z93 h0 _ _ _ _ a) fun r hr=>by
  split
  . exact zdx h0 (hr.perm h0 rev_perm) _ _
  . exact zdx h0 hr _ _
theorem zlf (h0:0<n) (a:Al n p) (m:Nat):InP n (fun r=>Al n r.2) (kas_count m p):=
 InP.bind (zhn a _ _) fun k _=>by
  split
  . exact a
  . split
    . refine ⟨a _,a _,fun b=>?_⟩
      cases b with
      | true=>exact a
      | false=>exact z73 h0 (a.perm h0 rev_perm) _ _
    . exact z73 h0 a _ _
theorem z94 (a:Al n p) (k:Nat):∀f l r,InP n (fun _=>True) (kas_place p k f l r)
 | 0,l,r=>trivial
 | f+1,l,r=>by
  unfold kas_place
  split
  . exact trivial
  . refine ⟨a _,a _,fun b=>?_⟩
    cases b with
    | true=>exact z94 a k f _ _
    | false=>exact z94 a k f _ _
theorem zn9 (h0:0<n):∀(f:Nat) (p:Array Nat) (k:Nat),Al n p->InP n (Al n) (kas_bin f p k)
 | 0,p,k,a=>a
 | f+1,p,k,a=>InP.bind (z94 a k _ _ _) fun l _=>zn9 h0 f _ _ (a.perm h0 (bubble_perm _ _ _))
theorem zq6 (h0:0<n):InP n (Al n) (kas_sort n):=by
 have a:Al n (List.toArray (List.range n)):=fun i=>by
  rw [Array.getD_eq_getD_getElem?]
  by_cases hi:i<n
  . simp [hi]
  . rw [Array.getElem?_eq_none (by simpa using hi)];exact h0
 exact InP.bind (zlf h0 a _) fun r hr=>by
  split
  . exact zn9 h0 _ _ _ hr
  . exact hr
end
theorem zna {α:Type} {n:Nat} {P:α->Prop} {lt:Nat->Nat->Bool} {cmp:Nat->Nat->(Bool->Shared->Prop)->Shared->Prop} {Q:α->Shared->Prop} {s:Shared} (hc:∀i j C,i<n->j<n->C (lt i j) s->cmp i j C s) :
  ∀{t:KasT α},InP n P t->Q (z17 lt t) s->t.kasWp cmp Q s
 | .ret a,_,q=>q
 | .ask i j k,h,q=>hc i j _ h.1 h.2.1 (zna hc (h.2.2 _) q)
def RcLt (A:Around) (s:Shared) (x y:Value) (b:Bool):Prop:=∀(prog:Program) (w:World) (E:Value->Shared->Prop) (Q:Value->Shared->Prop),Q (.bool b) s->wpAny (model prog w) A (richCompare .Lt x y) Q E s
inductive LexR (A:Around) (s:Shared):List Value->List Value->Bool->Prop
 | nn:LexR A s [] [] false
 | nc {w ws}:LexR A s [] (w::ws) true
 | cn {v vs}:LexR A s (v::vs) [] false
 | eq {v w vs ws b} (h:SeqAt.EqAt A s v w true) (r:LexR A s vs ws b):LexR A s (v::vs) (w::ws) b
 | lt {v w vs ws b} (h:SeqAt.EqAt A s v w false) (r:RcLt A s v w b):LexR A s (v::vs) (w::ws) b
section
open PySem.SeqAt
open PySem.AutoSeq1 (wpAny_loadPart')
open PySem.MeetsSeq PySem.MeetsSeq2 PySem.MeetsSeq3
theorem zf3 (l b:Addr) (items items2:Array Value) (n n2:Nat) (dd dd2:Option Addr) (sl sl2:Array (Option Value)) (r:Bool) :
  Meets (Builtin.«tuple.__lt__» ⟨[.ref l,.ref b],[]⟩)
   (fun A R s=>s.heap.get? l=some { cls:=.type "tuple",dict:=dd,data:=.seq items n,slots:=sl }/\s.heap.get? b=some { cls:=.type "tuple",dict:=dd2,data:=.seq items2 n2,slots:=sl2 } /\
    LexR A.in1 s items.toList items2.toList r/\R (.ok (.ret (.bool r))) s):=
 .of_wp fun prog w A R s h=>by
  obtain ⟨hp,g,d,tk,os⟩:=s;obtain ⟨hl,hb,hL,h⟩:=h
  have f2:=AutoSeq1.sub_tuple_tuple
  wp_walk using wpAny_loadPart' hl,wpAny_loadPart' hb,wpAny_forIn_list _ (fun rest b s'=>b.1=none/\s'=⟨hp,g,d,tk,os⟩/\∃(vs ws:List Value) (r':Bool),rest=vs.zip ws /\
   LexR A.in1 ⟨hp,g,d,tk,os⟩ vs ws r'/\vs.length+items2.size=ws.length+items.size/\R (.ok (.ret (.bool r'))) ⟨hp,g,d,tk,os⟩) _
  case turn=>
   rintro ⟨y,x⟩ rest b s' ⟨hb',rfl,vs,ws,r',hz,hL',hlen,hR⟩
   cases hL' with
   | nn=>rw [List.zip_nil_left] at hz;cases hz
   | nc=>rw [List.zip_nil_left] at hz;cases hz
   | cn=>rw [List.zip_nil_right] at hz;cases hz
   | eq he hr=>
    rw [List.zip_cons_cons] at hz
    injection hz with hyx hrest
    injection hyx with hy hx
    subst hy hx
    simp only [List.length_cons] at hlen
    refine wpAny_bind (he prog w _ _ ?_)
    wp_walk
    exact ⟨rfl,rfl,_,_,_,hrest,hr,by lia,hR⟩
   | lt he hr=>
    rw [List.zip_cons_cons] at hz
    injection hz with hyx hrest
    injection hyx with hy hx
    subst hy hx
    refine wpAny_bind (he prog w _ _ ?_)
    have hri:=hr prog w
    wp_walk using hri
    exact ⟨_,rfl,by simpa using hR⟩
  case fin=>
   rintro ⟨b1,b2⟩ s' ⟨hb',rfl,vs,ws,r',hz,hL',hlen,hR⟩
   simp only at hb'
   subst hb'
   have hv:r'=decide (items.size<items2.size):=by
    cases hL' with
    | nn=>simp only [List.length_nil] at hlen;exact (decide_eq_false (by lia)).symm
    | nc=>simp only [List.length_nil,List.length_cons] at hlen;exact (decide_eq_true (by lia)).symm
    | cn=>simp only [List.length_nil,List.length_cons] at hlen;exact (decide_eq_false (by lia)).symm
    | eq _ _=>rw [List.zip_cons_cons] at hz;cases hz
    | lt _ _=>rw [List.zip_cons_cons] at hz;cases hz
   rw [hv] at hR
   wp_walk
   exact ⟨_,rfl,by simpa [Builtin.Tuple.tupleCompareSizes] using hR⟩
  case h=>exact ⟨rfl,rfl,items.toList,items2.toList,r,rfl,hL,by simp;lia,h⟩
theorem RcLt.tuples {A:Around} {s:Shared} {l b:Addr} {items items2:Array Value} {r:Bool} (hl:s.heap.IsTuple l items) (hb:s.heap.IsTuple b items2) (hL:LexR A.in1 s items.toList items2.toList r) (hu:A.units<cLine):RcLt A s (.ref l) (.ref b) r:=fun prog w E Q h=>by
 obtain ⟨⟨cls,dd,data,sl⟩,ho,hc,n,hd⟩:=id hl
 obtain ⟨⟨cls2,dd2,data2,sl2⟩,ho2,hc2,n2,hd2⟩:=id hb
 simp only at hc hd hc2 hd2
 subst hc hd hc2 hd2
 exact richCompare_meets_room (op:=.Lt) ⟨_,ho,rfl⟩ ⟨_,ho2,rfl⟩ PySem.F.slot_tuple_lt PySem.F.entry_tuple_lt (PySem.F.args_tuple_lt_2 _ _) (zf3 l b items items2 n n2 dd dd2 sl sl2 r)
  ⟨ho,ho2,hL,show Value.bool r≠Value.notImplemented/\Q (.bool r) s from ⟨(fun x=>nomatch x),h⟩⟩ hu
end
mutual
theorem zho:∀{d:D},d.oi=true->d.pl=true
 | .int _,_=>rfl
 | .tup ds,h=>by simp only [D.pl];exact znb (by simpa only [D.oi] using h)
 | .non,p=>by simp [D.oi] at p
 | .bl _,p=>by simp [D.oi] at p
 | .str _,p=>by simp [D.oi] at p
 | .lst _,p=>by simp [D.oi] at p
 | .dk _ _,p=>by simp [D.oi] at p
 | .dt _ _,p=>by simp [D.oi] at p
 | .dn _ _,p=>by simp [D.oi] at p
 | .scr _,p=>by simp [D.oi] at p
 | .exc _ _,p=>by simp [D.oi] at p
theorem znb:∀{ds:List D},ois ds=true->pls ds=true
 | [],_=>rfl
 | d::ds,h=>by
  simp only [ois,Bool.and_eq_true] at h
  simp only [pls,zho h.1,znb h.2,Bool.and_self]
end
section
variable {X:Cx} {pins:List (Addr×Obj)} {U:St} {H:Hp} {s:Shared}
theorem znc (I:Inv X pins U H s) {A:Around} {n:Nat} (hu:A.units+n<cLine) (lt:∀{d e:D} {x y:V} {u v:Value} {b:Bool},d.oi=true->e.oi=true->d.dep<=n->RD X.K H d x->RD X.K H e y->RelV x u->RelV y v->z1s d e=some b->RcLt A s u v b) :
  ∀{ds es:List D} {xs ys:List V} {us vs:List Value} {b:Bool},ois ds=true->ois es=true->z4a ds<=n->RDs X.K H ds xs->RDs X.K H es ys->Vals xs us->Vals ys vs->z1n ds es=some b->LexR A s us vs b
 | [],[],_,_,_,_,b,_,_,_,r1,r2,q1,q2,h=>by
  simp only [RDs] at r1 r2;subst r1;subst r2
  cases q1;cases q2
  simp only [z1n,Option.some.injEq] at h;subst h
  exact .nn
 | [],e::es,_,_,_,_,b,_,_,_,r1,r2,q1,q2,h=>by
  simp only [RDs] at r1 r2;subst r1
  obtain ⟨y,ys,rfl,_,_⟩:=r2
  cases q1;cases q2
  simp only [z1n,Option.some.injEq] at h;subst h
  exact .nc
 | d::ds,[],_,_,_,_,b,_,_,_,r1,r2,q1,q2,h=>by
  simp only [RDs] at r1 r2;subst r2
  obtain ⟨y,ys,rfl,_,_⟩:=r1
  cases q1;cases q2
  simp only [z1n,Option.some.injEq] at h;subst h
  exact .cn
 | d::ds,e::es,_,_,_,_,b,p1,p2,hd,r1,r2,q1,q2,h=>by
  simp only [RDs] at r1 r2
  obtain ⟨x,xs,rfl,rx,rxs⟩:=r1
  obtain ⟨y,ys,rfl,ry,rys⟩:=r2
  simp only [ois,Bool.and_eq_true] at p1 p2
  simp only [z4a] at hd
  cases q1 with
  | cons a1 a2=>
   cases q2 with
   | cons b1 b2=>
    have eq:=zdk (A:=A) I n (zho p1.1) (zho p2.1) (by lia) hu rx ry a1 b1
    simp only [z1n] at h
    split at h
    . rename_i w
      rw [w] at eq
      exact .eq eq (znc I hu lt p1.2 p2.2 (by lia) rxs rys a2 b2 h)
    . rename_i w
      rw [show eqD d e=false by simpa using w] at eq
      exact .lt eq (lt p1.1 p2.1 (by lia) rx ry a1 b1 h)
theorem zau {d e:D} {b:Bool} (h:z1s d e=some b):(∃i j,d=.int i/\e=.int j/\b=decide (i<j))\/∃ds es,d=.tup ds/\e=.tup es/\z1n ds es=some b:=by
 cases d with
 | int i=>cases e with
  | int j=>exact .inl ⟨_,_,rfl,rfl,(Option.some.inj h).symm⟩
  | _=>exact nomatch h
 | tup ds=>cases e with
  | tup es=>exact .inr ⟨_,_,rfl,rfl,h⟩
  | _=>exact nomatch h
 | _=>exact nomatch h
theorem zul (I:Inv X pins U H s):∀(n:Nat) {A:Around} {d e:D} {x y:V} {u v:Value} {b:Bool},A.units+n<cLine->d.oi=true->e.oi=true->d.dep<=n->RD X.K H d x->RD X.K H e y->RelV x u->RelV y v->z1s d e=some b->RcLt A s u v b:=by
 intro n
 induction n with
 | zero=>
  intro A d e x y u v b hu p1 p2 hd rx ry ru rv h
  rcases zau h with ⟨i,j,rfl,rfl,rfl⟩ | ⟨ds,es,rfl,rfl,h⟩
  . cases rx.int;cases ry.int
    obtain ⟨t,rfl⟩:=ru;obtain ⟨t',rfl⟩:=rv
    exact fun prog w E Q q=>HT.rcLt_int A s _ _ _ _ prog w E Q q
  . simp only [D.dep] at hd;lia
 | succ n ih=>
  intro A d e x y u v b hu p1 p2 hd rx ry ru rv h
  rcases zau h with ⟨i,j,rfl,rfl,rfl⟩ | ⟨ds,es,rfl,rfl,h⟩
  . cases rx.int;cases ry.int
    obtain ⟨t,rfl⟩:=ru;obtain ⟨t',rfl⟩:=rv
    exact fun prog w E Q q=>HT.rcLt_int A s _ _ _ _ prog w E Q q
  . obtain ⟨a,xs,rfl,ha,ra⟩:=rx.tup
    obtain ⟨c,ys,rfl,hc,rc⟩:=ry.tup
    cases ru;cases rv
    obtain ⟨its,r1,t1⟩:=I.tupA ha
    obtain ⟨its2,r2,t2⟩:=I.tupA hc
    simp only [D.dep] at hd
    simp only [D.oi] at p1 p2
    have hu1:A.in1.units+n<cLine:=by show A.units+1+n<cLine;lia
    exact RcLt.tuples t1 t2 (znc I hu1 (fun {d e x y u v b} q1 q2 q3 q4 q5 q6 q7 q8=>ih hu1 q1 q2 q3 q4 q5 q6 q7 q8) p1 p2 (by lia) ra rc r1 r2 h) (by lia)
end
end L2
namespace L2
open PySem PySem.Spec PyProof.Rows
section
variable {prog:Program} {w:World} {A:Around} {E:Value->Shared->Prop} {s:Shared}
theorem zf4 {a:Addr} {vs:List Value} {n:Nat} {P:PySem.Fin->Shared->Prop} (ho:s.heap.get? a=some (seqObj "list" vs.toArray n)) (hs:vs.length<2)
  (h:P (.done (.ret .none)) { s with heap:=sortedHeap s.heap a vs ((pairsOf vs).map (·.2)) }):wpAny (model prog w) A (Builtin.«list.sort» ⟨[.ref a],[]⟩) P E s:=by
 rw [list_sort_plain]
 have ha:a<s.heap.objs.size:=Heap.lt_size ho
 refine wpAny_bind (listItems_at ho rfl ?_)
 refine wpAny_bind (listUpdate_at ho rfl ?_)
 obtain ⟨e1,ho1⟩:∃e1,(s.heap.update a (Obj.mapSeq fun _=>#[])).get? a=some (seqObj "list" #[] e1):=⟨_,get?_update_seq ho (fun _=>#[])⟩
 refine wpAny_bind (seqEpoch_at ho1 rfl ?_)
 refine wpAny_bind (wpAny_newTuple ?_)
 refine wpAny_bind (wpAny_newList ?_)
 refine wpAny_holding ?_
 have ho6:(((s.heap.update a (Obj.mapSeq fun _=>#[])).push (seqObj "tuple" vs.toArray 0)).push (seqObj "list" #[] 0)).get? a=some (seqObj "list" #[] e1):=by
  rw [Heap.get?_push_ne _ _ _ (by rw [size_push',Heap.size_update];exact Nat.ne_of_lt (Nat.lt_succ_of_lt ha)),Heap.get?_push_ne _ _ _ (by rw [Heap.size_update];exact Nat.ne_of_lt ha)]
  exact ho1
 show wpAny (model prog w) A _ P E { s with heap:=((s.heap.update a (Obj.mapSeq fun _=>#[])).push (seqObj "tuple" vs.toArray 0)).push (seqObj "list" #[] 0) }
 dsimp only
 have hsz:vs.toArray.size=vs.length:=by simp
 have h2:vs.toArray.size<2:=by rw [hsz];exact hs
 rw [if_pos h2,if_pos h2]
 refine wpAny_bind (wpAny_pure ?_)
 rw [StateT.run_pure]
 refine wpAny_bind (wpAny_pure ?_)
 dsimp only
 refine wpAny_bind (seqEpoch_at ho6 rfl ?_)
 refine wpAny_bind (listUpdate_at ho6 rfl ?_ (hsz2:=by rw [Array.size_map];show (pairsOf vs).size<=_;rw [pairsOf_size,sizeLine_eq];lia))
 simp only [bne_self_eq_false,Bool.false_eq_true,if_false]
 exact wpAny_pure h
theorem zav {l:Addr} {vs:List Value} {Q:Value->Shared->Prop} (hl:s.heap.IsList l vs.toArray) (hs:vs.length<2)
  (h:Q (.ref (s.heap.objs.size+1)) { s with heap:=sortedAll s.heap vs ((pairsOf vs).map (·.2)) }):wpAny (model prog w) A (call (.builtin "sorted") [.ref l]) Q E s:=by
 refine Calls.call_function_entry kind_sorted plain_sorted entry_sorted (args_sorted1 _) ?_
 unfold Builtin.«sorted»
 refine wpAny_bind (m:=checkCount "sorted" 1 1 _) (wpAny_pure ?_)
 refine wpAny_bind (collect_list hl ?_ (by rw [sizeLine_eq];omega))
 refine wpAny_bind (wpAny_newList ?_ (by rw [sizeLine_eq];omega))
 have hsz:((s.heap.push (seqObj "list" #[] 0)).update s.heap.objs.size (Obj.mapSeq (·++vs.toArray))).objs.size=s.heap.objs.size+1:=by
  rw [Heap.size_update,size_push']
 have hoL:(((s.heap.push (seqObj "list" #[] 0)).update s.heap.objs.size (Obj.mapSeq (·++vs.toArray))).push (seqObj "list" vs.toArray 0)).get? (s.heap.objs.size+1)=some (seqObj "list" vs.toArray 0):=by
  rw [<-hsz];exact Heap.get?_push_size _ rfl
 show wpAny _ _ _ _ _ { s with heap:=((s.heap.push (seqObj "list" #[] 0)).update s.heap.objs.size (Obj.mapSeq (·++vs.toArray))).push (seqObj "list" vs.toArray 0) }
 rw [hsz]
 refine wpAny_bind (wpAny_holding (wpAny_call_entry slot_list_sort ⟨_,hoL,rfl⟩ entry_list_sort (zf4 hoL hs ⟨_,rfl,?_⟩) (args_list_sort _)))
 exact wpAny_pure ⟨_,rfl,h⟩
end
noncomputable def isI:D->Bool
 | .int _=>true
 | _=>false
noncomputable def znd:D->Bool
 | .tup (.int _::_)=>true
 | _=>false
noncomputable def zq7:D->Bool
 | .tup (.tup _::_)=>true
 | _=>false
noncomputable def z39 (ds:List D):Bool:=decide (ds.length<64)&&ois ds&&decide (z4a ds<=20)&&ds.all (fun d=>ds.all fun e=>(z1s d e).isSome)&&(ds.all isI||ds.all znd||ds.all zq7)
noncomputable def z0w:List D->Option D
 | [.lst ds]=>if z39 ds=true then some (.lst (z2r ds)) else none
 | _=>none
def zhp (K:Frag):List V->Hp->VK->Prop:=fun xs H Q=>∃p ys ds,xs=[.ref p]/\H p=some (.lst ys)/\RDs K H ds ys/\z39 ds=true/\(∀(l:Addr) (is:List Nat),H l=none->(∀i∈is,i<ys.length)->z2r ds=is.map (fun i=>ds.getD i (.int 0))->Q (.ref l) (upd H l (.lst (is.map fun i=>ys.getD i .non))))/\∀(l:Addr) (ns:List Int),H l=none->z2r ds=ns.map D.int->Q (.ref l) (upd H l (.lst (ns.map V.int)))
theorem RDs.pick {K:Frag} {H:Hp} {ds:List D} {ys:List V} (r:RDs K H ds ys):∀{is:List Nat},(∀i∈is,i<ys.length)->RDs K H (is.map fun i=>ds.getD i (.int 0)) (is.map fun i=>ys.getD i .non)
 | [],_=>by simp [RDs]
 | i::is,h=>by
  have hi:=h i List.mem_cons_self
  have hy:ys[i]?=some ys[i]:=by simp [hi]
  obtain ⟨d,h1,h2⟩:=r.get hy
  simp only [List.map_cons]
  refine .cons ?_ (RDs.pick r fun j hj=>h j (List.mem_cons_of_mem _ hj))
  rw [List.getD_eq_getElem?_getD,List.getD_eq_getElem?_getD,h1,hy]
  exact h2
theorem z3a {K:Frag}:z7k K true z0w (zhp K):=by
 intro H0 H xs ds z Q s r ho k
 unfold z0w at ho
 split at ho<;>first | cases ho | skip
 split at ho<;>cases ho
 rename_i es hok
 obtain ⟨x,rfl,q1⟩:=r.uno
 obtain ⟨p,ys,rfl,hp,ry⟩:=q1.lst
 refine ⟨p,ys,es,rfl,s _ _ hp,ry.mono s,hok,fun l is hl hi he=>k _ _ (.new s hl fun H' hH=>?_),fun l ns hl he=>k _ _ (.new s hl fun H' hH=>?_)⟩
 . simp only [OB]
   refine ⟨_,hH,?_⟩
   rw [he]
   exact ry.pick hi
 . simp only [OB]
   refine ⟨_,hH,?_⟩
   rw [he]
   exact .ofInts _
section
variable {X:Cx} {pins:List (Addr×Obj)} {U:St} {H:Hp} {s:Shared}
theorem Vals.pick {ys:List V} {its:List Value} (r:Vals ys its):∀{is:List Nat},(∀i∈is,i<ys.length)->Vals (is.map fun i=>ys.getD i .non) (is.map fun i=>its.getD i Value.none)
 | [],_=>.nil
 | i::is,h=>by
  have hi:=h i List.mem_cons_self
  have hy:ys[i]?=some ys[i]:=by simp [hi]
  obtain ⟨u,h1,h2⟩:=r.get hy
  simp only [List.map_cons]
  refine .cons ?_ (Vals.pick r fun j hj=>h j (List.mem_cons_of_mem _ hj))
  rw [List.getD_eq_getElem?_getD,List.getD_eq_getElem?_getD,h1,hy]
  exact h2
theorem zhq (I:Inv X pins U H s) {A:Around} (hu:A.units+20<cLine) {b:Bool} {fin:Bool} {Q:Bool->Shared->Prop} {r:Bool} (q:Q r s) :
  ∀{ds es:List D} {xs ys:List V} {us vs:List Value} (i:Nat),(b=true->i=0->(∃k r,ds=.int k::r)/\∃k r,es=.int k::r)->ois ds=true->ois es=true->z4a ds<=20->RDs X.K H ds xs->RDs X.K H es ys->Vals xs us->Vals ys vs->z1n ds es=some r ->
   fin=decide (us.length<vs.length)->PySem.W.KatLex X.prog X.w A b fin Q (us.zip vs) i s
 | [],[],_,_,_,_,i,_,_,_,_,r1,r2,q1,q2,h,hf=>by
  simp only [RDs] at r1 r2;subst r1;subst r2
  cases q1;cases q2
  simp only [z1n,Option.some.injEq] at h;subst h
  simp at hf;subst hf
  exact q
 | [],e::es,_,_,_,_,i,_,_,_,_,r1,r2,q1,q2,h,hf=>by
  simp only [RDs] at r1 r2;subst r1
  obtain ⟨y,ys,rfl,_,_⟩:=r2
  cases q1;cases q2
  simp only [z1n,Option.some.injEq] at h;subst h
  simp at hf;subst hf
  exact q
 | d::ds,[],_,_,_,_,i,_,_,_,_,r1,r2,q1,q2,h,hf=>by
  simp only [RDs] at r1 r2;subst r2
  obtain ⟨y,ys,rfl,_,_⟩:=r1
  cases q1;cases q2
  simp only [z1n,Option.some.injEq] at h;subst h
  simp at hf;subst hf
  exact q
 | d::ds,e::es,_,_,_,_,i,hb,p1,p2,hd,r1,r2,q1,q2,h,hf=>by
  simp only [RDs] at r1 r2
  obtain ⟨x,xs,rfl,rx,rxs⟩:=r1
  obtain ⟨y,ys,rfl,ry,rys⟩:=r2
  simp only [ois,Bool.and_eq_true] at p1 p2
  simp only [z4a] at hd
  cases q1 with
  | cons a1 a2=>
   cases q2 with
   | cons b1 b2=>
    have eq:=zdk (A:=A) I 20 (zho p1.1) (zho p2.1) (by lia) hu rx ry a1 b1
    rw [List.zip_cons_cons]
    refine PySem.W.kat_cons (eq X.prog X.w _ _ ?_)
    simp only [z1n] at h
    simp only [List.length_cons,Nat.add_lt_add_iff_right] at hf
    split at h
    . rename_i w
      rw [w]
      exact PySem.W.kat_yes (zhq I hu q (i+1) (fun _ z=>by lia) p1.2 p2.2 (by lia) rxs rys a2 b2 h hf)
    . rename_i w
      rw [show eqD d e=false by simpa using w]
      refine PySem.W.kat_no ?_
      by_cases hbi:(b&&i==0)=true
      . rw [hbi]
        simp only [Bool.and_eq_true,beq_iff_eq] at hbi
        obtain ⟨⟨k1,s1,e1⟩,k2,s2,e2⟩:=hb hbi.1 hbi.2
        cases e1;cases e2
        cases rx.int;cases ry.int
        obtain ⟨t,rfl⟩:=a1;obtain ⟨t',rfl⟩:=b1
        refine oneLt_int ?_
        simp only [z1s,Option.some.injEq] at h
        rw [h];exact q
      . rw [show (b&&i==0)=false by simpa using hbi]
        exact PySem.W.kat_one _ _ (zul I 20 hu p1.1 p2.1 (by lia) rx ry a1 b1 h X.prog X.w _ _ q)
theorem zne {M:Model} (I:Inv X pins U H s) (T:Bool):∀{ds:List D} {xs:List V} {us:List Value},(∀d∈ds,(if T=true then zq7 d else znd d)=true)->RDs X.K H ds xs->Vals xs us ->
  ∃fs:List Value,PySem.W.KatTups s.heap us fs/\fs.length=ds.length/\∀v∈fs,PySem.W.Looks M s.heap (typeOf v) (.type (if T=true then "tuple" else "int"))
 | [],_,_,_,r,q=>by
  simp only [RDs] at r;subst r;cases q
  exact ⟨[],trivial,rfl,fun v hv=>by cases hv⟩
 | d::ds,_,_,h,r,q=>by
  simp only [RDs] at r
  obtain ⟨x,xs,rfl,rx,rxs⟩:=r
  cases q with
  | cons q1 q2=>
   obtain ⟨fs,h1,h2,h3⟩:=zne (M:=M) I T (fun d hd=>h d (List.mem_cons_of_mem _ hd)) rxs q2
   have hd:=h d List.mem_cons_self
   cases T with
   | false=>
    rw [if_neg Bool.false_ne_true] at hd
    cases d<;>simp only [znd] at hd<;>first | cases hd | skip
    rename_i es
    cases es with
    | nil=>simp at hd
    | cons e es=>
     cases e<;>simp at hd
     obtain ⟨a,ys,rfl,ha,ra⟩:=rx.tup
     cases q1
     obtain ⟨its,rv,t⟩:=I.tupA ha
     simp only [RDs] at ra
     obtain ⟨y,ys,rfl,ry,rys⟩:=ra
     cases ry.int
     cases rv with
     | cons v1 v2=>
      obtain ⟨tk,rfl⟩:=v1
      obtain ⟨o,ho,hc,n,hdt⟩:=t
      refine ⟨_::fs,PySem.W.KatTups.cons ho hc hdt rfl h1,by simp [h2],fun v hv=>?_⟩
      rcases List.mem_cons.mp hv with rfl | hv
      . exact .now
      . exact h3 v hv
   | true=>
    rw [if_pos rfl] at hd
    cases d<;>simp only [zq7] at hd<;>first | cases hd | skip
    rename_i es
    cases es with
    | nil=>simp at hd
    | cons e es=>
     cases e<;>simp at hd
     obtain ⟨a,ys,rfl,ha,ra⟩:=rx.tup
     cases q1
     obtain ⟨its,rv,t⟩:=I.tupA ha
     simp only [RDs] at ra
     obtain ⟨y,ys,rfl,ry,rys⟩:=ra
     obtain ⟨a2,ys2,rfl,ha2,ra2⟩:=ry.tup
     cases rv with
     | cons v1 v2=>
      cases v1
      obtain ⟨its2,rv2,o2,ho2,hc2,_⟩:=I.tupA ha2
      obtain ⟨o,ho,hc,n,hdt⟩:=t
      refine ⟨_::fs,PySem.W.KatTups.cons ho hc hdt rfl h1,by simp [h2],fun v hv=>?_⟩
      rcases List.mem_cons.mp hv with rfl | hv
      . have lk:PySem.W.Looks M s.heap (typeOf (.ref a2)) o2.cls:=(PySem.W.Looks.ld ho2).andThen .now
        rw [hc2] at lk
        exact lk
      . exact h3 v hv
theorem Vals.getD {ys:List V} {its:List Value} (r:Vals ys its) {i:Nat} (h:i<ys.length):RelV (ys.getD i .non) (its.getD i Value.none):=by
 have hy:ys[i]?=some ys[i]:=by simp [h]
 obtain ⟨u,h1,h2⟩:=r.get hy
 rw [List.getD_eq_getElem?_getD,List.getD_eq_getElem?_getD,h1,hy]
 exact h2
theorem RDs.getD {ds:List D} {ys:List V} (r:RDs X.K H ds ys) {i:Nat} (h:i<ys.length):RD X.K H (ds.getD i (.int 0)) (ys.getD i .non):=by
 have hy:ys[i]?=some ys[i]:=by simp [h]
 obtain ⟨d,h1,h2⟩:=r.get hy
 rw [List.getD_eq_getElem?_getD,List.getD_eq_getElem?_getD,h1,hy]
 exact h2
theorem z95 {α:Type} {l:List α} {i:Nat} {d:α} (h:i<l.length):l.getD i d∈l:=by
 rw [List.getD_eq_getElem?_getD,List.getElem?_eq_getElem h]
 exact List.getElem_mem h
theorem z3b (hc:X.calm=true) (hu:X.A.units+64<cLine):CallR X (.builtin "sorted") (zhp X.K):=by
 intro pins s U H xs us Q I r h
 obtain ⟨p,ys,ds,rfl,hp,rd,hok,k,kI⟩:=h
 obtain ⟨u,rfl,ru⟩:=z66 r
 cases ru
 obtain ⟨its,rv,pl,hz⟩:=I.list (.of hp)
 obtain ⟨m,hn,_⟩:=id I.loc
 have F:=Att.fr_all hn
 have N:=zd3 (g:=Att.noObjs s.heap) (h:=s.heap) (L:=X.env.locals)
 unfold z39 at hok
 simp only [Bool.and_eq_true,Bool.or_eq_true,decide_eq_true_eq] at hok
 obtain ⟨⟨⟨⟨h64,hoi⟩,hdep⟩,hcmp⟩,hkind⟩:=hok
 have hl1:=rd.length
 have hl2:=rv.length
 have fin:∀{D:Addr} {h':Heap} {tk:Nat} {e:Nat} {is:List Nat},(∀i∈is,i<ys.length)->z2r ds=is.map (fun i=>ds.getD i (.int 0))->Fr (Att.noObjs s.heap) X.env.locals h' m->News (Att.noObjs s.heap) X.env.locals h' ((D,seqObj "list" (is.map fun i=>its.getD i Value.none).toArray e)::zgh s X.env.locals)->s.heap.get? D=none ->
   EP X pins U Q (.ref D) { s with heap:=h',toks:=tk }:=fun {D h' tk e is} hi he F' N' hD=>by
  have hlen:(is.map fun i=>ys.getD i .non).length<=sizeLine:=by
   have e1:is.length=ds.length:=by have:=congrArg List.length he;rw [List.length_map,(z11 ds).length_eq] at this;exact this.symm
   rw [List.length_map,e1,hl1];exact hz
  obtain ⟨HD,I'⟩:=I.frnew (tk:=tk) (o:=.lst (is.map fun i=>ys.getD i .non)) hn F' N' hD ⟨hlen,_,e,rv.pick hi,(N' _ (.head _)).1⟩
  exact ⟨.ref D,_,I',rfl,k D is HD hi he⟩
 by_cases hI:ds.all isI=true
 . -- ints
   have asInts:∀ds:List D,ds.all isI=true->∃ns:List Int,ds=ns.map D.int:=by
    intro ds hI
    induction ds with
    | nil=>exact ⟨[],rfl⟩
    | cons d ds ih=>
     simp only [List.all_cons,Bool.and_eq_true] at hI
     obtain ⟨ns,e⟩:=ih hI.2
     cases d<;>simp [isI] at hI
     exact ⟨_::ns,by rw [e];rfl⟩
   obtain ⟨ns,hns⟩:=asInts ds hI
   subst hns
   have ey:ys=ns.map V.int:=z38 (z3w ns) rd
   subst ey
   refine sorted_N F N pl.isList (z58 rv) (by simp at hl1 hl2 h64;lia) fun h' vs' ns' e F' N' hi' hp' hs'=>?_
   have hsame:z2r (ns.map D.int)=ns'.map D.int:=by
    refine z2s (z4x (z11 _) hoi) ((z11 _).trans (hp'.symm.map _)) (z1b hoi) ?_
    refine List.pairwise_map.mpr (hs'.imp fun {a b} hab=>?_)
    simp only [ltT,decide_eq_false_iff_not];lia
   have hlen:(ns'.map V.int).length<=sizeLine:=by
    rw [List.length_map,hp'.length_eq];simpa using hz
   have hD:s.heap.get? (s.heap.objs.size+1)=none:=Heap.get?_none_of_le (Nat.le_succ _)
   obtain ⟨HD,I'⟩:=I.frnew (tk:=s.toks) (o:=.lst (ns'.map V.int)) hn F' N' hD ⟨hlen,vs',e,z6q hi',(N' _ (.head _)).1⟩
   exact ⟨.ref _,_,I',rfl,kI _ ns' HD hsame⟩
 . by_cases h2:2<=its.length
   . obtain ⟨T,hT⟩:∃T:Bool,∀d∈ds,(if T=true then zq7 d else znd d)=true:=by
      rcases hkind with (z | z) | z
      . exact absurd z hI
      . exact ⟨false,fun d hd=>by rw [if_neg Bool.false_ne_true];exact List.all_eq_true.mp z d hd⟩
      . exact ⟨true,fun d hd=>by rw [if_pos rfl];exact List.all_eq_true.mp z d hd⟩
     refine PySem.W.kat_sorted F N pl.isList h2 (by lia) fun D e1 h' F' N' hlt=>?_
     have N'':News (Att.noObjs s.heap) X.env.locals h' (zgh s X.env.locals):=fun p hp=>N' p (.tail _ hp)
     have I':Inv X pins U H { s with heap:=h' }:=I.frn (tk:=s.toks) hn F' N''
     have hDL:D≠X.env.locals:=(N' _ (.head _)).2.1
     have hD:s.heap.get? D=none:=by
      cases q:s.heap.get? D with
      | none=>rfl
      | some o=>exact absurd (hlt (D,o) (z6m hDL (Att.noObjs_get _ _) q)) (Nat.lt_irrefl _)
     obtain ⟨fs,t1,t2,t3⟩:=zne (M:=model X.prog X.w) I' T hT rd rv
     have huu:X.A.in1.in1.units+20<cLine:=by show X.A.units+1+1+20<cLine;lia
     refine PySem.W.kat_kind t1 (by lia) t3 (by cases T<;>rfl) ?_
     have h0:0<its.length:=by lia
     refine zna (n:=its.length) (lt:=ltI ds) ?_ (zq6 h0) ?_
     . intro i j C hi hj hC
       show wpAny (model X.prog X.w) X.A.in1.in1 (keyLt' _ (its.getD i Value.none) (its.getD j Value.none)) C _ _
       have hi':i<ys.length:=by lia
       have hj':j<ys.length:=by lia
       have r1:=rd.getD hi'
       have r2:=rd.getD hj'
       have v1:=rv.getD hi'
       have v2:=rv.getD hj'
       have m1:ds.getD i (.int 0)∈ds:=z95 (by lia)
       have m2:ds.getD j (.int 0)∈ds:=z95 (by lia)
       have o1:=(ois_mem.mp hoi) _ m1
       have o2:=(ois_mem.mp hoi) _ m2
       have d1:=z8j m1
       have f1:=hT _ m1
       have f2:=hT _ m2
       have hc2:(z1s (ds.getD i (.int 0)) (ds.getD j (.int 0))).isSome=true:=List.all_eq_true.mp (List.all_eq_true.mp hcmp _ m1) _ m2
       obtain ⟨b,hb⟩:=Option.isSome_iff_exists.mp hc2
       have hbl:b=ltI ds i j:=zn6 hb
       rw [<-hbl] at hC
       generalize ds.getD i (.int 0)=da at *
       generalize ds.getD j (.int 0)=db at *
       have tp:∀{d:L2.D},(if T=true then zq7 d else znd d)=true->∃es,d=.tup es/\(T=false->∃k r,es=.int k::r):=fun {d} h=>by
        cases T with
        | false=>
         rw [if_neg Bool.false_ne_true] at h
         cases d<;>simp only [znd] at h<;>first | cases h | skip
         rename_i es
         cases es with
         | nil=>simp at h
         | cons e es=>cases e<;>simp at h;exact ⟨_,rfl,fun _=>⟨_,_,rfl⟩⟩
        | true=>
         rw [if_pos rfl] at h
         cases d<;>simp only [zq7] at h<;>first | cases h | skip
         exact ⟨_,rfl,fun z=>nomatch z⟩
       obtain ⟨ea,rfl,ka⟩:=tp f1
       obtain ⟨eb,rfl,kb⟩:=tp f2
       obtain ⟨a,xa,e1,ha,ra⟩:=r1.tup
       obtain ⟨c,xc,e2,hcc,rc⟩:=r2.tup
       rw [e1] at v1;rw [e2] at v2
       rw [show its.getD i Value.none=Value.ref a from v1,show its.getD j Value.none=Value.ref c from v2]
       obtain ⟨ia,va,oa,hoa,_,na,hda⟩:=I'.tupA ha
       obtain ⟨ic,vc,oc,hoc,_,nc,hdc⟩:=I'.tupA hcc
       simp only [L2.D.oi] at o1 o2
       simp only [L2.D.dep] at d1
       simp only [z1s] at hb
       refine PySem.W.kat_lt hoa hda hoc hdc ?_
       refine zhq I' huu hC 0 (fun hb0 _=>?_) o1 o2 (by lia) ra rc va vc hb (by simp)
       cases T with
       | false=>exact ⟨ka rfl,kb rfl⟩
       | true=>exact absurd hb0 (by simp)
     . refine PySem.W.KasFin.intro F' N' (.head fun p hp=>Nat.ne_of_lt (hlt p hp)) fun h'' c F3 N3=>?_
       have hl3:its.length=ds.length:=by lia
       rw [hl3] at N3
       have pm:=(zhh (zhm hoi) (n:=ds.length) (by lia)).1
       refine fin (is:=(z17 (ltI ds) (PySem.W.kas_sort ds.length)).toList) (fun i hi=>?_) (zf2 hoi (by lia)).symm F3 N3 hD
       have:=pm.toList.mem_iff.mp hi
       simp at this
       lia
   . -- at most one
     have hs1:z2r ds=ds:=by
      match ds,hl1,hl2 with
      | [],_,_=>rfl
      | [d],_,_=>rfl
      | _::_::_,a,b=>simp at a;lia
     refine zav pl.isList (by lia) ?_
     obtain ⟨e,he⟩:=sortedAll_at s.heap its ((pairsOf its).map (·.2))
     have kp:∀b o,s.heap.get? b=some o->(sortedAll s.heap its ((pairsOf its).map (·.2))).get? b=some o:=fun b o q=>sortedAll_old q
     have hout:(pairsOf its).map (·.2)=(List.map (fun i=>its.getD i Value.none) (List.range its.length)).toArray:=by
      have pz:∀l:List Value,l.length<2->(pairsOf l).map (·.2)=(List.map (fun i=>l.getD i Value.none) (List.range l.length)).toArray:=fun l hl=>by
       match l,hl with
       | [],_=>simp [pairsOf]
       | [v],_=>simp [pairsOf]
       | _::_::_,z=>simp at z;lia
      exact pz its (by lia)
     rw [hout] at he kp ⊢
     have hN:=N.kept_cons F kp (Nat.le_succ _) he
     refine fin (is:=List.range its.length) (fun i hi=>by simp at hi;lia) ?_ (F.kept kp) hN (Heap.get?_none_of_le (Nat.le_succ _))
     rw [hs1]
     apply List.ext_getElem?
     intro i
     rw [List.getElem?_map]
     by_cases hi:i<its.length
     . rw [List.getElem?_range hi]
       simp [show i<ds.length by lia]
     . rw [List.getElem?_eq_none (show (List.range its.length).length<=i by simpa using hi),List.getElem?_eq_none (by lia)];rfl
end
noncomputable def zum (n:Nat) (x:Int):Nat:=if x<0 then (x+(n:Int)).toNat else min x.toNat n
noncomputable def z4y {α:Type} (xs:List α) (x:Int) (y:α):List α:=xs.take (zum xs.length x)++y::xs.drop (zum xs.length x)
def zhr:V->List V->Hp->VK->Prop:=fun o vs H Q=>∃l xs i y,o=.ref l/\vs=[.int i,y]/\H l=some (.lst xs)/\-(2 ^ 63)<=i/\i<2 ^ 63/\xs.length<sizeLine/\Q .non (upd H l (.lst (z4y xs i y)))
theorem Vals.ins {xs:List V} {its:List Value} {y:V} {u:Value} (r:Vals xs its) (ru:RelV y u) (i:Int):Vals (z4y xs i y) (z4y its i u):=by
 unfold z4y
 rw [r.length]
 exact (r.take _).append (.cons ru (r.drop _))
theorem zaw {α:Type} (xs:List α) (i:Int) (y:α):(z4y xs i y).length=xs.length+1:=by
 unfold z4y
 rw [List.length_append,List.length_take,List.length_cons,List.length_drop]
 omega
section
variable {X:Cx} {K:Frag}
theorem zhs:MtM X "list.insert" zhr:=by
 intro pins s U H x vs v us Q I rx rv h
 obtain ⟨l,xs,i,y,rfl,rfl,hH,h1,h2,hz,q⟩:=h
 cases rx
 obtain ⟨u,w,rfl,ru,rw'⟩:=rv.two
 obtain ⟨t,rfl⟩:=ru
 obtain ⟨z,its,n,r,hl,e⟩:=I.lstM hH
 refine call_meets PySem.F.slot_list_insert ⟨_,e,rfl⟩ PySem.F.entry_list_insert (PySem.F.args_list_insert_3 _ _ _) (PySem.AutoSeq1.list_insert_list_int_val_1 l its.toArray n i t w (by simp [fitsIndex_both h1 h2]) (by rw [List.size_toArray];lia)) ⟨e,?_⟩
 refine ⟨.non,_,I.lset (its':=z4y its i w) hH e ?_ (r.ins rw' i) (by rw [zaw];lia),rfl,q⟩
 show ((its.toArray.extract 0 (zum its.toArray.size i)).push w++its.toArray.extract (zum its.toArray.size i))=(z4y its i w).toArray
 unfold z4y
 apply Array.toList_inj.mp
 simp
 exact List.take_of_length_le (by simp)
noncomputable def zun:D->List D->Option D
 | .lst ds,[.int i,d]=>if -(2 ^ 63)<=i/\i<2 ^ 63/\ds.length<100000 then some (.lst (z4y ds i d)) else none
 | _,_=>none
theorem RDs.ins {H:Hp} {ds:List D} {xs:List V} {d:D} {y:V} (r:RDs K H ds xs) (ry:RD K H d y) (i:Int):RDs K H (z4y ds i d) (z4y xs i y):=by
 unfold z4y
 rw [<-r.length]
 exact (r.take _).append (.cons ry (r.drop _))
theorem zuo:ztu K zun zhr:=by
 intro H0 H a d d' ds vs Q s h0 ob r hm k
 unfold zun at hm
 split at hm<;>first | cases hm | skip
 split at hm<;>cases hm
 rename_i es i e hl
 simp only [OB] at ob
 obtain ⟨xs,hx,rx⟩:=ob
 obtain ⟨y,z,rfl,q1,q2⟩:=r.duo
 cases q1.int
 refine ⟨a,xs,_,z,rfl,rfl,hx,hl.1,hl.2.1,by rw [<-rx.length];exact z1m hl.2.2,k _ _ ?_⟩
 simp only [OB]
 exact ⟨_,z0c,rx.ins q2 _⟩
noncomputable def zup:D->List D->Option D
 | .lst ds,[.lst es]=>if ds.length+es.length<=100000 then some (.lst (ds++es)) else none
 | _,_=>none
theorem zuq:ztu K zup zg1:=by
 intro H0 H a d d' ds vs Q s h0 ob r hm k
 unfold zup at hm
 split at hm<;>first | cases hm | skip
 split at hm<;>cases hm
 rename_i es gs hl
 simp only [OB] at ob
 obtain ⟨xs,hx,rx⟩:=ob
 obtain ⟨y,rfl,q1⟩:=r.uno
 obtain ⟨b,ys,rfl,hb,rb⟩:=q1.lst
 refine ⟨a,b,xs,ys,rfl,rfl,hx,s _ _ hb,by rw [<-rx.length,<-rb.length];exact zpu hl,k _ _ ?_⟩
 simp only [OB]
 exact ⟨_,z0c,rx.append rb⟩
noncomputable def znf (n:Int) (ns:List Int):Int:=ns.foldl (fun a b=>if b > a then b else a) n
theorem zcf:∀(ns:List Int) (n:Int),znf n ns∈n::ns/\∀a∈n::ns,a<=znf n ns
 | [],n=>by simp [znf]
 | b::ns,n=>by
  have ih:=zcf ns (if b > n then b else n)
  show znf (if b > n then b else n) ns∈_/\∀a∈_,a<=znf (if b > n then b else n) ns
  generalize znf (if b > n then b else n) ns=M at ih
  obtain ⟨h1,h2⟩:=ih
  constructor
  . rcases List.mem_cons.mp h1 with z | z
    . rw [z];split<;>simp
    . simp [z]
  . intro a ha
    have h3:=h2 _ List.mem_cons_self
    rcases List.mem_cons.mp ha with rfl | ha
    . split at h3<;>lia
    . rcases List.mem_cons.mp ha with rfl | ha
      . split at h3<;>lia
      . exact h2 a (List.mem_cons_of_mem _ ha)
end
section
abbrev HD:=Ex->DS->SR
end
theorem SK.ex {K:Frag} {EX EX':XW} {fr:Bool} {Hc Hb:Hp} {De:Ends} {r:SR} (h:SK K EX fr Hc Hb De r) (he:∀x,EX.at x->EX'.at x):SK K EX' fr Hc Hb De r:=by
 cases r with
 | er x=>exact he x h
 | nx ρ=>exact h
 | bk ρ=>exact h
 | ct ρ=>exact h
 | rt d=>exact h
 | st=>exact h
noncomputable def SR.noE:SR->SR
 | .er _=>.st
 | r=>r
theorem SK.noE {K:Frag} {EX:XW} {fr:Bool} {Hc Hb:Hp} {De:Ends} {r:SR} (h:SK K EX fr Hc Hb De r.noE):SK K F0 fr Hc Hb De r:=by
 cases r with
 | nx ρ=>exact h
 | bk ρ=>exact h
 | ct ρ=>exact h
 | rt d=>exact h
 | er x=>exact h.elim
 | st=>exact h.elim
end L2
namespace L2
open PySem PySem.Spec PyProof.Rows
open PySem.Calls
end L2
namespace L2
open PySem PySem.Spec PyProof.Rows
section
open PySem.AutoSeq1 (wpAny_loadPart')
end
end L2
namespace L2
open PySem PySem.Spec PyProof.Rows
section
open PySem.AutoSeq1 (wpAny_loadPart')
end
end L2
namespace L2
open PySem PySem.Spec PyProof.Rows
theorem Un.drop {fs:List Addr} {H H':Hp} {h h':Heap} {e:Addr} (u:Un fs [] H H' h h') (hn:h.get? e=none) (he:H e=none):Un fs [] H (fun b=>if b=e then none else H' b) h h' where
 keep:=u.keep
 slot:=u.slot
 free:=fun b o q n hx=>by
  show (if b=e then none else H' b)=none
  split
  . rfl
  . exact u.free b o q n hx
 there:=u.there
 tups:=fun b xs q=>by
  show (if b=e then none else H' b)=_
  rw [if_neg (fun z=>by rw [z,he] at q;cases q)];exact u.tups b xs q
 frzs:=fun b o v q=>by
  show (if b=e then none else H' b)=_
  rw [if_neg (fun z=>by rw [z,he] at q;cases q)];exact u.frzs b o v q
 tbls:=fun b ps q=>by
  obtain ⟨m,z⟩:=u.tbls b ps q
  refine ⟨m,?_⟩
  show (if b=e then none else H' b)=_
  rw [if_neg (fun y=>by rw [y,he] at q;cases q)];exact z
end L2
namespace L2
open PySem PySem.Spec PyProof.Rows
open PySem.Calls
open Builtin Builtin.ObjectAttr
section
open PySem.AutoSeq1 (wpAny_loadPart')
end
end L2
namespace L2
open PySem PySem.Spec PyProof.Rows
section
variable {prog:Program} {w:World} {A:Around} {R:Result->Shared->Prop} {I:Addr} {fp wr:List Addr} {n:Nat} {P:Nat->Value->Prop} {St:Nat->Heap->Prop}
theorem y0j (kw:List (Str×Value)) (W:Walks prog w A.in1 I fp wr n P St) (bt:Nat->Nat->Bool) (cm:CmpOf prog w A.in1 .Gt P bt) (S:Addr) (nf:S∉fp) :
  ∀(k j:Nat) (s:Shared) (vb:Value) (c:Nat),n - (j+1)=k->j+1<=n->St (j+1) s.heap->P (argBest bt j) vb->s.heap.get? S=some { cls:=.type "list",dict:=none,data:=.seq #[vb,vb] c,slots:=#[] } ->
  (∀v h' tk,P (argBest bt (n - 1)) v->(∀b o,b∉wr->b≠S->s.heap.get? b=some o->h'.get? b=some o)->R (.ok (.ret v)) { s with heap:=h',toks:=tk })->codeAny (model prog w) A (.builtin "max.loop" ⟨[.ref I,.none,.ref S],kw⟩) R s:=by
 have nw:S∉wr:=fun h=>nf (W.sub _ h)
 have nm:(toString "max"++toString ".loop":String)="max.loop":=by decide
 intro k
 induction k with
 | zero=>
  intro j s vb c ek ej st pb eS fin
  have jn:j+1=n:=by omega
  refine codeAny_builtin PySem.F.entry_max_loop ?_
  rw [Around.under_plainId PySem.F.plain_max_loop _]
  show wpAny _ A.in1 (seqItems? (.ref S) >>= _) _ _ _
  refine wpAny_bind (wpAny_seqItems eS rfl ?_)
  show wpAny _ A.in1 (tryCatch (pyNext (.ref I)) _ >>= _) _ _ _
  refine wpAny_bind (wpAny_tryCatch (W.done s _ _ (jn ▸ st) fun h' tk kp=>?_))
  have eS':=kp S _ nw eS
  show wpAny _ A.in1 (updateSeq S (fun _=>#[]) >>= _) _ _ _
  refine wpAny_bind ?_
  refine wpAny_updateSeq eS' rfl (wpAny_bind (wpAny_letGo (wpAny_pure ?_)))
  exact fin vb _ tk (by rw [<-jn];exact pb) fun b o hbw hbS e=>(Heap.get?_update_other _ _ (Ne.symm hbS)).trans (kp b o hbw e)
 | succ k ih=>
  intro j s vb c ek ej st pb eS fin
  have jl:j+1<n:=by omega
  refine codeAny_builtin PySem.F.entry_max_loop ?_
  rw [Around.under_plainId PySem.F.plain_max_loop _]
  show wpAny _ A.in1 (seqItems? (.ref S) >>= _) _ _ _
  refine wpAny_bind (wpAny_seqItems eS rfl ?_)
  show wpAny _ A.in1 (tryCatch (pyNext (.ref I)) _ >>= _) _ _ _
  refine wpAny_bind (wpAny_tryCatch (W.item (j+1) s _ _ jl st fun v h' tk pv st' kp=>?_))
  have eS':=kp S _ nw eS
  show wpAny _ A.in1 (tryCatch (holding [v,v] (richCompare .Gt v vb >>= _)) _ >>= _) _ _ _
  refine wpAny_bind (wpAny_tryCatch (wpAny_holding (wpAny_bind (cm (j+1) (argBest bt j) v vb _ _ _ pv pb ?_))))
  refine wpAny_bind (wpAny_holding (wpAny_truthy_bool ?_))
  refine wpAny_bind (wpAny_letGo (wpAny_pure ?_))
  cases hb:bt (j+1) (argBest bt j) with
  | true=>
   rw [if_pos rfl]
   refine wpAny_bind ?_
   refine wpAny_updateSeq eS' rfl (wpAny_bind (wpAny_letGo ?_))
   rw [nm]
   refine wpAny_pure ⟨plainId_quiet PySem.F.plain_max_loop _,ih (j+1) _ v _ (by omega) jl (W.frame _ _ _ st' fun b hbf o e=>?_) (by simp only [argBest,hb,if_true];exact pv) (Heap.get?_update_self _ eS' rfl) fun v' h'' tk'' pv' kp'=>?_⟩
   . exact (Heap.get?_update_other _ _ (fun z:S=b=>nf (by rw [z];exact hbf))).trans e
   . exact fin v' h'' tk'' pv' fun b o hbw hbS e=>kp' b o hbw hbS ((Heap.get?_update_other _ _ (Ne.symm hbS)).trans (kp b o hbw e))
  | false=>
   rw [if_neg Bool.false_ne_true]
   refine wpAny_bind (wpAny_letGo ?_)
   rw [nm]
   exact wpAny_pure ⟨plainId_quiet PySem.F.plain_max_loop _,ih (j+1) _ vb c (by omega) jl st' (by simp only [argBest,hb,Bool.false_eq_true,if_false];exact pb) eS' fun v' h'' tk'' pv' kp'=>fin v' h'' tk'' pv' fun b o hbw hbS e=>kp' b o hbw hbS (kp b o hbw e)⟩
theorem zlg (kw:List (Str×Value)) (W:Walks prog w A.in1 I fp wr n P St) (bt:Nat->Nat->Bool) (cm:CmpOf prog w A.in1 .Gt P bt) (S:Addr) (nf:S∉fp) (n0:0<n) {s:Shared} {c:Nat} (st:St 0 s.heap)
  (eS:s.heap.get? S=some { cls:=.type "list",dict:=none,data:=.seq #[] c,slots:=#[] }) (fin:∀v h' tk,P (argBest bt (n - 1)) v->(∀b o,b∉wr->b≠S->s.heap.get? b=some o->h'.get? b=some o)->R (.ok (.ret v)) { s with heap:=h',toks:=tk }) :
  codeAny (model prog w) A (.builtin "max.loop" ⟨[.ref I,.none,.ref S],kw⟩) R s:=by
 have nw:S∉wr:=fun h=>nf (W.sub _ h)
 have nm:(toString "max"++toString ".loop":String)="max.loop":=by decide
 refine codeAny_builtin PySem.F.entry_max_loop ?_
 rw [Around.under_plainId PySem.F.plain_max_loop _]
 show wpAny _ A.in1 (seqItems? (.ref S) >>= _) _ _ _
 refine wpAny_bind (wpAny_seqItems eS rfl ?_)
 show wpAny _ A.in1 (tryCatch (pyNext (.ref I)) _ >>= _) _ _ _
 refine wpAny_bind (wpAny_tryCatch (W.item 0 s _ _ n0 st fun v h' tk pv st' kp=>?_))
 have eS':=kp S _ nw eS
 show wpAny _ A.in1 (updateSeq S (fun _=>#[v,v]) >>= _) _ _ _
 refine wpAny_bind ?_
 refine wpAny_updateSeq eS' rfl ?_
 rw [nm]
 refine wpAny_pure ⟨plainId_quiet PySem.F.plain_max_loop _,y0j kw W bt cm S nf _ 0 _ v _ rfl n0 (W.frame _ _ _ st' fun b hbf o e=>?_) pv (Heap.get?_update_self _ eS' rfl) fun v' h'' tk'' pv' kp'=>?_⟩
 . exact (Heap.get?_update_other _ _ (fun z:S=b=>nf (by rw [z];exact hbf))).trans e
 . exact fin v' h'' tk'' pv' fun b o hbw hbS e=>kp' b o hbw hbS ((Heap.get?_update_other _ _ (Ne.symm hbS)).trans (kp b o hbw e))
theorem zq8 (q:Str) (dv:Value) (W:Walks prog w A.in1 I fp wr n P St) (S:Addr) (nf:S∉fp) (n0:n=0) {s:Shared} {c:Nat} (st:St 0 s.heap)
  (eS:s.heap.get? S=some { cls:=.type "list",dict:=none,data:=.seq #[] c,slots:=#[] }) (fin:∀h' tk,(∀b o,b∉wr->b≠S->s.heap.get? b=some o->h'.get? b=some o)->R (.ok (.ret dv)) { s with heap:=h',toks:=tk }) :
  codeAny (model prog w) A (.builtin "max.loop" ⟨[.ref I,.none,.ref S],[(q,dv)]⟩) R s:=by
 refine codeAny_builtin PySem.F.entry_max_loop ?_
 rw [Around.under_plainId PySem.F.plain_max_loop _]
 show wpAny _ A.in1 (seqItems? (.ref S) >>= _) _ _ _
 refine wpAny_bind (wpAny_seqItems eS rfl ?_)
 show wpAny _ A.in1 (tryCatch (pyNext (.ref I)) _ >>= _) _ _ _
 refine wpAny_bind (wpAny_tryCatch (W.done s _ _ (n0 ▸ st) fun h' tk kp=>?_))
 show wpAny _ A.in1 (rule _ >>= _) _ _ _
 exact wpAny_bind (wpAny_rule (wpAny_pure (fin h' tk fun b o hb _ e=>kp b o hb e)))
end
theorem zq9 (a v:Value):argsOk "max" ⟨[a],[(Str.ofString "default",v)]⟩:=by unfold argsOk;kernel_rfl
section
variable {prog:Program} {w:World} {A:Around} {E:Value->Shared->Prop} {s:Shared}
theorem zqa {x dv:Value} {Q:Value->Shared->Prop}
  (h:wpAny (model prog w) A.in1 (pyIter x) (fun it s₂=>∃I fp wr n P St bt,it=.ref I/\Walks prog w A.in1 I fp wr n P St/\St 0 s₂.heap/\(∀b∈fp,b<s₂.heap.objs.size)/\CmpOf prog w A.in1 .Gt P bt /\
   ∀v h' tk,((0<n/\P (argBest bt (n - 1)) v)\/(n=0/\v=dv))->(∀b o,b∉wr->s₂.heap.get? b=some o->h'.get? b=some o)->Q v { s₂ with heap:=h',toks:=tk }) E s) :
  wpAny (model prog w) A (call (.builtin "max") [x] [(Str.ofString "default",dv)]) Q E s:=by
 have nm:(toString "max"++toString ".loop":String)="max.loop":=by decide
 refine kmk_tree PySem.F.kind_max PySem.F.plain_max PySem.F.entry_max (zq9 _ _) ?_
 show wpAny _ A.in1 (Builtin.Builtins.bindParams "max" ["key","default"] 0 ⟨[],[(Str.ofString "default",dv)]⟩ >>= _) _ _ s
 refine wpAny_bind (wpAny_of_eq (show Builtin.Builtins.bindParams "max" ["key","default"] 0 ⟨[],[(Str.ofString "default",dv)]⟩=pure [none,some dv] from rfl) ?_)
 refine wpAny_bind (wpAny_pure ?_)
 refine wpAny_bind (wpAny_mono h (fun it s₂ g=>?_) fun _ _ e=>e)
 obtain ⟨I,fp,wr,n,P,St,bt,rfl,W,st,bd,cm,hQ⟩:=g
 refine wpAny_bind (wpAny_newObj_type ?_)
 have nf:s₂.heap.objs.size∉fp:=fun hm=>Nat.lt_irrefl _ (bd _ hm)
 rw [nm]
 refine wpAny_pure ⟨plainId_quiet PySem.F.plain_max_loop _,?_⟩
 by_cases n0:0<n
 . exact zlg _ W bt cm s₂.heap.objs.size nf n0 (W.frame _ _ _ st fun b _ o e=>Heap.get?_push_of_some _ e) (Heap.get?_push_size _ rfl) fun v h' tk pv kp=>
    hQ v h' tk (.inl ⟨n0,pv⟩) fun b o hbw e=>kp b o hbw (Nat.ne_of_lt (Heap.lt_size e)) (Heap.get?_push_of_some _ e)
 . exact zq8 _ dv W s₂.heap.objs.size nf (by lia) (W.frame _ _ _ st fun b _ o e=>Heap.get?_push_of_some _ e) (Heap.get?_push_size _ rfl) fun h' tk kp=>
    hQ dv h' tk (.inr ⟨by lia,rfl⟩) fun b o hbw e=>kp b o hbw (Nat.ne_of_lt (Heap.lt_size e)) (Heap.get?_push_of_some _ e)
variable {h₀:Heap} {L:Addr} {m:Str->Option Value} {news:List (Addr×Obj)}
theorem zqb {l:Addr} {vs:List Value} {ns:List Int} {dv:Value} {Q:Value->Shared->Prop} (hh:A.handled=none) (F:Fr h₀ L s.heap m) (N:News h₀ L s.heap news) (hl:s.heap.IsList l vs.toArray) (hi:IntsAre vs ns)
  (h:∀v h' tk,Fr h₀ L h' m->News h₀ L h' news->((ns=[]/\v=dv)\/∃M t,v=.int M t/\M∈ns/\∀a,a∈ns->a<=M)->Q v { s with heap:=h',toks:=tk }) :
  wpAny (model prog w) A (call (.builtin "max") [.ref l] [(Str.ofString "default",dv)]) Q E s:=by
 obtain ⟨xs,e⟩:=hi.allInts.items
 have en:ns=xs.toList.map (·.1):=by rw [<-hi.numsOf,<-nums_intItems,<-e]
 have el:ns.length=xs.size:=by rw [en,List.length_map,Array.length_toList]
 rw [e] at hl
 refine zqa (iter_intList hl fun s₂ e st bd lI=>?_)
 subst e
 refine ⟨_,_,_,_,_,_,_,rfl,Walks.list (A:=A.in1) hh _ l lI (intItems xs),st,bd,CmpOf.ints_gt (numAt xs) (fun _ _=>intItems_at),fun v h' tk pv kp=>?_⟩
 have kp':=old_kept kp
 refine h v h' tk (F.grownK kp') (N.grown kp') ?_
 rcases pv with ⟨n0,pv⟩ | ⟨n0,rfl⟩
 . right
   have n0':0<xs.size:=by simpa [intItems] using n0
   have pv':(intItems xs)[argBest (fun i j=>decide (numAt xs i > numAt xs j)) (xs.size - 1)]?=some v:=by simpa [intItems] using pv
   obtain ⟨t,rfl⟩:=intItems_at pv'
   obtain ⟨h1,h2⟩:=argBest_gt (numAt xs) (xs.size - 1)
   refine ⟨_,t,rfl,?_,fun a ha=>?_⟩
   . rw [en,numAt_eq];exact z95 (by rw [List.length_map,Array.length_toList];lia)
   . rw [en] at ha
     obtain ⟨j,hj,rfl⟩:=mem_getD ha
     rw [List.length_map,Array.length_toList] at hj
     rw [<-numAt_eq];exact h2 j (by lia)
 . left
   have:xs.size=0:=by simpa [intItems] using n0
   exact ⟨List.length_eq_zero_iff.mp (by lia),rfl⟩
end
noncomputable def mxD (d:Int):List Int->Int
 | []=>d
 | n::ns=>znf n ns
noncomputable def zf5:List D->Option D
 | [.lst ds,.int d]=>(z20 ds).map fun ns=>.int (mxD d ns)
 | _=>none
def zqc:List V->Hp->VK->Prop:=fun xs H Q=>∃p ns d,xs=[.ref p,.int d]/\H p=some (.lst (ns.map V.int))/\Q (.int (mxD d ns)) H
theorem TEd.mono' {K:Frag} {EX:XW} {fr:Bool} {f:DE->R D} {U:St} {H:Hp} {Q Q':VK} (h:TEd K EX fr f U H Q) (hq:∀v H',Q v H'->Q' v H'):TEd K EX fr f U H Q':=by
 obtain ⟨sx,ρ,H0,s,e,h⟩:=h
 exact ⟨sx,ρ,H0,s,e,h.mono fun a k v H' o=>hq _ _ (k v H' o)⟩
section
variable {X:Cx} {EX:XW} {e d:Expr} {p kp pos:Pos} {x:Str} {t1 t2:TE} {f1 f2:DE->R D}
theorem zqd (hc:X.calm=true) (hg:Gl X x) (hm:X.mg x=none) (hv:bootBuiltins x=some (.builtin "max")) (ha:PE X e t1) (hd:PE X d t2) (hn:x≠"__name__":=by decide) (hdb:(x==("__debug__":Str))=false:=by decide)
  (hs:starEach [e] X.env=(false,eval e X.env)::starEach [] X.env:=by rfl) :
  PE X (.Call (.Name x p) [e] [⟨some (Str.ofString "default"),d,kp⟩] pos) (tCB zqc (z67 t1 (z67 t2 zp1))):=by
 intro pins s U H Q I h
 refine wpAny_Call_Name_kw (z3y I hg hm hv ?_ hn hdb)
 refine callWith_kw ?_ (by rw [hs];rfl) (by rw [hs];rfl)
 refine thn (z34 ha pa_nil hs pos pins s U H (fun vs H1=>t2 U H1 fun u H2=>zqc (vs++[u]) H2 Q) I h) fun us s1 ⟨vs,H1,I1,r1,q1⟩=>?_
 refine kws_cons (thn (hd pins s1 U H1 _ I1 q1) fun u s2 ⟨y,H2,I2,r2,q2⟩=>kws_nil ?_)
 obtain ⟨a,ns,i,e1,ea,q⟩:=q2
 obtain ⟨rfl,rfl⟩:vs=[.ref a]/\y=.int i:=by
  cases vs with
  | nil=>cases e1
  | cons b r=>
   cases r with
   | nil=>cases e1;exact ⟨rfl,rfl⟩
   | cons c r=>cases r<;>cases e1
 obtain ⟨u1,rfl,ru⟩:=z66 r1
 cases ru
 obtain ⟨t,rfl⟩:=r2
 obtain ⟨its,rv,pl,_⟩:=I2.list (.of ea)
 obtain ⟨m,hnn,_⟩:=id I2.loc
 refine zqb (I2.ok.hd hc) (Att.fr_all hnn) (zd3 (g:=Att.noObjs s2.heap) (L:=X.env.locals)) pl.isList (z58 rv) fun v h' tk F N hM=>?_
 rcases hM with ⟨rfl,rfl⟩ | ⟨M,t,rfl,hM,hle⟩
 . exact ⟨.int i,H2,I2.frn hnn F N,⟨_,rfl⟩,q⟩
 . cases ns with
   | nil=>cases hM
   | cons n ns=>
    obtain ⟨a1,a2⟩:=zcf ns n
    have e:M=znf n ns:=Int.le_antisymm (a2 M hM) (hle _ a1)
    exact ⟨.int M,H2,I2.frn hnn F N,⟨t,rfl⟩,by rw [e];exact q⟩
theorem zqe {K:Frag}:z7k K false zf5 zqc:=by
 intro H0 H xs ds z Q s r ho k
 unfold zf5 at ho
 split at ho<;>first | cases ho | skip
 rename_i es i
 cases hq:z20 es with
 | none=>rw [hq] at ho;cases ho
 | some ns=>
  rw [hq] at ho
  cases ho
  simp only [RDs] at r
  obtain ⟨x1,r1,rfl,q1,x2,r2,rfl,q2,rfl⟩:=r
  obtain ⟨a,ys,rfl,ha,ra⟩:=q1.lst
  have e:=z38 hq ra
  subst e
  cases q2.int
  exact ⟨a,ns,i,rfl,s _ _ ha,k _ H (.pure s (.mkInt _))⟩
theorem zur (hc:X.calm=true) (hg:Gl X x) (hm:X.mg x=none) (hv:bootBuiltins x=some (.builtin "max")) (ha:QE X EX false e f1) (hd:QE X EX false d f2) (hn:x≠"__name__":=by decide) (hdb:(x==("__debug__":Str))=false:=by decide)
  (hs:starEach [e] X.env=(false,eval e X.env)::starEach [] X.env:=by rfl) :
  QE X EX false (.Call (.Name x p) [e] [⟨some (Str.ofString "default"),d,kp⟩] pos) (eCB zf5 (z01 f1 (z01 f2 z09))):=
 ⟨(zqd hc hg hm hv ha.h hd.h hn hdb hs).imp fun _ _ _ q=>(zgu (zzl zqe q)).mono' fun _ _ q=>(zgu q).mono' fun _ _ q=>ztm q⟩
end
noncomputable def SR.thn (r:SR) (g:DS->SR):SR:=match r with
 | .nx ρ'=>g ρ'
 | r=>r
noncomputable def SR.out (fr:Bool) (r:SR):R D:=match r with
 | .rt d=>.ok d
 | .nx _=>if fr=true then .st else .ok .non
 | .er x=>.er x
 | _=>.st
theorem zng (g1 g2:DS->SR) (ρ:DS):z1u g1 g2 ρ=(g1 ρ).thn g2:=rfl
theorem znh (ρ:DS) (g:DS->SR):(SR.nx ρ).thn g=g ρ:=rfl
theorem zus (d:D) (g:DS->SR):(SR.rt d).thn g=.rt d:=rfl
theorem zut (x:Ex) (g:DS->SR):(SR.er x).thn g=.er x:=rfl
theorem zuu (ρ:DS) (g:DS->SR):(SR.bk ρ).thn g=.bk ρ:=rfl
theorem zuv (ρ:DS) (g:DS->SR):(SR.ct ρ).thn g=.ct ρ:=rfl
theorem zuw (g:DS->SR):(SR.st).thn g=.st:=rfl
theorem zqf (c:Prop) [Decidable c] (a b:SR) (g:DS->SR):(if c then a else b).thn g=if c then a.thn g else b.thn g:=by split<;>rfl
theorem z96 (fr:Bool) (n k:Nat) (g:DS->SR) (ds:List D):mOf fr n k g ds=if ds.length=n then (g (ds.map .im++List.replicate k .em)).out fr else .st:=rfl
theorem zux (fr:Bool) (d:D):(SR.rt d).out fr=.ok d:=rfl
theorem zuy (ρ:DS):(SR.nx ρ).out false=.ok .non:=rfl
theorem zuz (fr:Bool) (x:Ex):(SR.er x).out fr=.er x:=rfl
theorem zv0 (fr:Bool):(SR.st).out fr=.st:=rfl
theorem zqg (fr:Bool) (c:Prop) [Decidable c] (a b:SR):(if c then a else b).out fr=if c then a.out fr else b.out fr:=by split<;>rfl
theorem z7x (m:List Bool) (f:DE->R D) (ρ:DS):z6w m f ρ=(f (vis m ρ)).toS fun d=>.rt d:=rfl
theorem zni (fr:Bool) (i:Nat) (m:List Bool) (f:DE->R D) (ρ:DS):z2p fr i m f ρ=(f (vis m ρ)).toS fun d=>.nx (zkx fr i d (z4b (keeps fr d) m ρ)):=rfl
theorem y0k (t:DE->R Bool) (g1 g2:DS->SR) (ρ:DS):sIf t g1 g2 ρ=(t (see ρ)).toS fun b=>if b=true then g1 ρ else g2 ρ:=rfl
theorem z2x {α:Type} (a:α) (k:α->SR):R.toS (.ok a) k=k a:=rfl
theorem zv1 {α:Type} (x:Ex) (k:α->SR):R.toS (.er x:R α) k=.er x:=rfl
theorem zv2 {α:Type} (k:α->SR):R.toS (.st:R α) k=.st:=rfl
theorem zqh {α:Type} (c:Prop) [Decidable c] (a b:R α) (k:α->SR):R.toS (if c then a else b) k=if c then R.toS a k else R.toS b k:=by split<;>rfl
theorem zqi {α β:Type} (x:Ex) (k:α->R β):R.bind (.er x:R α) k=.er x:=rfl
theorem zdy {α:Type} (a:α):(R.ok a).noE=.ok a:=rfl
theorem y0l (m:List Bool):vis m []=[]:=by cases m<;>rfl
theorem y0m (s:Sl) (r:DS):vis [] (s::r)=s.see false::vis [] r:=rfl
theorem y0n (b:Bool) (m:List Bool) (s:Sl) (r:DS):vis (b::m) (s::r)=s.see b::vis m r:=rfl
theorem zlh:see []=[]:=rfl
theorem zli (s:Sl) (r:DS):see (s::r)=s.see true::see r:=rfl
theorem zv3 (b:Bool):Sl.see b .em=none:=rfl
theorem zdz (b:Bool) (d:D):Sl.see b (.im d)=some d:=rfl
theorem z97 (d:D):Sl.see true (.ow d)=some d:=rfl
theorem zqj (d:D):Sl.see false (.ow d)=none:=rfl
theorem zv4 (m:List Bool) (ρ:DS):z4b true m ρ=ρ:=rfl
theorem zlj (fr:Bool) (i:Int):keeps fr (.int i)=true:=by cases fr<;>rfl
theorem zqk (fr:Bool) (i:Bool):keeps fr (.bl i)=true:=by cases fr<;>rfl
theorem zlk (fr:Bool):keeps fr .non=true:=by cases fr<;>rfl
theorem zll (fr:Bool) (x:PySem.Str):keeps fr (.str x)=true:=by cases fr<;>rfl
theorem z6h (fr:Bool) (ds:List D):keeps fr (.tup ds)=z2g ds:=by cases fr<;>simp only [keeps,D.noL,D.shal,if_true,Bool.false_eq_true,if_false]
theorem z4z (ds:List D):keeps true (.lst ds)=z2g ds:=rfl
theorem zv5:z2g []=true:=by simp only [z2g]
theorem ze0 (d:D) (r:List D):z2g (d::r)=(d.noL&&z2g r):=by simp only [z2g]
theorem z4f (i:Int):(D.int i).noL=true:=by simp only [D.noL]
theorem zv6 (i:Bool):(D.bl i).noL=true:=by simp only [D.noL]
theorem zql (i:PySem.Str):(D.str i).noL=true:=by simp only [D.noL]
theorem zqm:(D.non).noL=true:=by simp only [D.noL]
theorem zqn (ds:List D):(D.tup ds).noL=z2g ds:=by simp only [D.noL]
theorem z98 (ds:List D):(D.lst ds).noL=false:=by simp only [D.noL]
theorem y0o (i:Nat) (d:D) (ρ:DS):zkx false i d ρ=ρ.set i (.im d):=rfl
theorem y0p (i:Nat) (d:D) (ρ:DS):zkx true i d ρ=ρ.set i (.ow d):=rfl
theorem y0q (ρ:DE):sel [] ρ=[]:=rfl
theorem y0r (j:Nat) (r:List Nat) (ρ:DE):sel (j::r) ρ=(ρ[j]?).getD none::sel r ρ:=rfl
theorem y3r (d:D) (r:DE):z02 0 (some d::r)=.ok d:=rfl
theorem y3s (i:Nat) (d:Option D) (r:DE):z02 (i+1) (d::r)=z02 i r:=rfl
theorem y0s (g:Int->Int->D) (i j:Int):dI g (.int i) (.int j)=some (g i j):=rfl
theorem zht (C:Int->Int->Prop) [∀i j,Decidable (C i j)] (g:Int->Int->D) (i j:Int):dIC C g (.int i) (.int j)=if C i j then some (g i j) else none:=rfl
theorem y0t (b:Bool):asB (.bl b)=some b:=rfl
theorem znj (b:Bool):zk8 (.bl b)=some b:=rfl
theorem zv7 (ds:List D):zk8 (.lst ds)=some (!ds.isEmpty):=rfl
theorem zv8 (i:Int):zk8 (.int i)=some (i != 0):=rfl
theorem z5f (i j:Int):(i==j)=decide (i=j):=by rw [Bool.eq_iff_iff];simp
theorem zv9 (i j:Int):dEq (.int i) (.int j)=some (.bl (decide (i=j))):=by
 unfold dEq
 rw [if_pos (by simp [D.pl,D.dep])]
 simp only [eqD,z5f]
theorem zva (i j:Int):dNe (.int i) (.int j)=some (.bl (!decide (i=j))):=by
 unfold dNe
 rw [if_pos (by simp [D.pl,D.dep])]
 simp only [eqD,z5f]
theorem zvb (i j:Bool):dEq (.bl i) (.bl j)=some (.bl (i==j)):=by
 unfold dEq
 rw [if_pos (by simp [D.pl,D.dep])]
 simp only [eqD]
theorem zvc (a b c e:Int):dEq (.tup [.int a,.int b]) (.tup [.int c,.int e])=some (.bl (decide (a=c)&&decide (b=e))):=by
 unfold dEq
 rw [if_pos (by simp [D.pl,D.dep,pls,z4a])]
 simp only [eqD,z69,z5f,Bool.and_true]
theorem zvd (a b c e:Int):dNe (.tup [.int a,.int b]) (.tup [.int c,.int e])=some (.bl (!(decide (a=c)&&decide (b=e)))):=by
 unfold dNe
 rw [if_pos (by simp [D.pl,D.dep,pls,z4a])]
 simp only [eqD,z69,z5f,Bool.and_true]
theorem ze1 (a:D) (r:List D):dIx (.tup (a::r)) (.int 0)=some a:=by simp only [dIx,dOr,zdp,y2o]
theorem zhu (a b:D) (r:List D):dIx (.tup (a::b::r)) (.int 1)=some b:=by simp only [dIx,dOr,zdp,y2p]
theorem zve (a b c:D) (r:List D):dIx (.tup (a::b::c::r)) (.int 2)=some c:=by simp only [dIx,dOr,zdp,show atI (a::b::c::r) 2=some c from z8c (j:=2) rfl]
theorem zvf (a:D) (r:List D):dIx (.lst (a::r)) (.int 0)=some a:=by simp only [dIx,dOr,zdp,y2o]
theorem zvg (a b:D) (r:List D):dIx (.lst (a::b::r)) (.int 1)=some b:=by simp only [dIx,dOr,zdp,y2p]
theorem zvh {ds:List D} {j:Nat} {d:D} (h:ds[j]?=some d):dIx (.lst ds) (.int (j:Int))=some d:=by simp only [dIx,dOr,zdp,z8c h]
theorem zvi (ns:List Int):zaq [.scr ns]=some (.int ns.length):=rfl
theorem znk (ns:List D):zaq [.lst ns]=some (.int ns.length):=rfl
theorem zvj (ns:List D):zaq [.tup ns]=some (.int ns.length):=rfl
theorem y0u (b c:Bool):(if b=true then R.ok true else R.ok c)=R.ok (b||c):=by cases b<;>rfl
theorem zvk (b c:Bool):(if b=true then R.ok c else R.ok false)=R.ok (b&&c):=by cases b<;>rfl
theorem zvl (b c:Bool):(if b=true then R.ok (D.bl true) else R.ok (D.bl c))=R.ok (D.bl (b||c)):=by cases b<;>rfl
theorem zqo (b c:Bool):(if b=true then R.ok (D.bl c) else R.ok (D.bl false))=R.ok (D.bl (b&&c)):=by cases b<;>rfl
theorem zvm (i:Int):z8v "int" (.int i)=some (.bl true):=by simp [z8v,z5c,z6r,zgf]
theorem zvn (i:Int):z8v "bool" (.int i)=some (.bl false):=by simp [z8v,z5c,z6r,zgf]
theorem zvo (i:Bool):z8v "bool" (.bl i)=some (.bl true):=by simp [z8v,z5c,z6r,zgf]
theorem zhv (ds:List D):z8v "tuple" (.tup ds)=some (.bl true):=by simp [z8v,z5c,z6r,zgf]
theorem znl (ds:List D):z8v "list" (.lst ds)=some (.bl true):=by simp [z8v,z5c,z6r,zgf]
theorem zvp (tg:Tg) (g:DS->SR) (ρ:DS):zex tg g [] ρ=.nx ρ:=rfl
noncomputable def SR.itr (r:SR) (k:DS->SR):SR:=match r with
 | .nx ρ2=>k ρ2
 | .ct ρ2=>k ρ2
 | .bk ρ2=>.nx ρ2
 | .rt d=>.rt d
 | .er x=>.er x
 | .st=>.st
theorem zhw (ρ:DS) (k:DS->SR):(SR.nx ρ).itr k=k ρ:=rfl
theorem zvq (ρ:DS) (k:DS->SR):(SR.ct ρ).itr k=k ρ:=rfl
theorem zvr (ρ:DS) (k:DS->SR):(SR.bk ρ).itr k=.nx ρ:=rfl
theorem zvs (d:D) (k:DS->SR):(SR.rt d).itr k=.rt d:=rfl
theorem zqp (c:Prop) [Decidable c] (a b:SR) (g:DS->SR):(if c then a else b).itr g=if c then a.itr g else b.itr g:=by split<;>rfl
theorem zqq (bn:D->Option (List D)) (t:DE->R Bool) (f:DE->R D) (cs:DE):z4c bn t f cs []=.ok []:=rfl
theorem zqr (f:DE->R D) (cs:DE) (d:D) (ds:List D):z4c b1 z8x f cs (d::ds)=(f (some d::cs)).noE.bind fun y=>(z4c b1 z8x f cs ds).bind fun ys=>.ok (y::ys):=rfl
theorem z2i {bn:D->Option (List D)} {f:DE->R D} {cs:DE} {α:Type} {en:α->D} {bs:α->List D} {g:α->D} (xs:List α) (hb:∀x∈xs,bn (en x)=some (bs x)) (hf:∀x∈xs,f ((bs x).map some++cs)=.ok (g x)):z4c bn z8x f cs (xs.map en)=.ok (xs.map g):=by
 induction xs with
 | nil=>rfl
 | cons x xs ih=>
  simp only [List.map_cons,z4c,hb x (by simp),z8x,R.of_some,R.bind_ok,zdy,if_true,hf x (by simp),ih (fun y hy=>hb y (by simp [hy])) (fun y hy=>hf y (by simp [hy]))]
theorem z3c {bn:D->Option (List D)} {t:DE->R Bool} {f:DE->R D} {cs:DE} {α:Type} {en:α->D} {bs:α->List D} {p:α->Bool} {g:α->D} (xs:List α) (hb:∀x∈xs,bn (en x)=some (bs x)) (ht:∀x∈xs,t ((bs x).map some++cs)=.ok (p x)) (hf:∀x∈xs,p x=true->f ((bs x).map some++cs)=.ok (g x)):z4c bn t f cs (xs.map en)=.ok ((xs.filter p).map g):=by
 induction xs with
 | nil=>rfl
 | cons x xs ih=>
  have ih':=ih (fun y hy=>hb y (by simp [hy])) (fun y hy=>ht y (by simp [hy])) (fun y hy=>hf y (by simp [hy]))
  simp only [List.map_cons,z4c,hb x (by simp),ht x (by simp),R.of_some,R.bind_ok,zdy,ih']
  cases e:p x with
  | true=>simp only [if_true,hf x (by simp) e,zdy,R.bind_ok,List.filter_cons,e,List.map_cons]
  | false=>simp only [Bool.false_eq_true,if_false,List.filter_cons,e]
theorem z3x {tg:Tg} {g:DS->SR} {α:Type} {en:α->D} (P:List α->DS->Prop) (xs:List α) (ρ:DS) (h0:P xs ρ) (hs:∀x r ρ,P (x::r) ρ->∃ρ1 ρ2,zmy tg (en x) ρ=some ρ1/\(g ρ1=.nx ρ2\/g ρ1=.ct ρ2)/\P r ρ2):∃ρ',zex tg g (xs.map en) ρ=.nx ρ'/\P [] ρ':=by
 induction xs generalizing ρ with
 | nil=>exact ⟨ρ,rfl,h0⟩
 | cons x r ih=>
  obtain ⟨ρ1,ρ2,e1,e2,q⟩:=hs x r ρ h0
  obtain ⟨ρ',e',p'⟩:=ih ρ2 q
  refine ⟨ρ',?_,p'⟩
  rcases e2 with e2 | e2<;>simp only [List.map_cons,zex,e1,e2,e']
noncomputable def L (ns:List Int):D:=.lst (ns.map .int)
theorem z12 {α:Type} (f:α->D) (xs:List α) (h:∀x∈xs,(f x).noL=true):z2g (xs.map f)=true:=by
 induction xs with
 | nil=>simp only [List.map_nil,z2g]
 | cons a r ih=>simp only [List.map_cons,z2g,h a (by simp),ih fun x hx=>h x (by simp [hx]),Bool.and_self]
theorem zvt (ns:List Int):keeps true (L ns)=true:=by
 unfold L;rw [z4z];exact z12 _ _ fun x _=>z4f x
theorem y0v (ns:List Int):zaq [L ns]=some (.int ns.length):=by unfold L;rw [znk,List.length_map]
theorem zvu (ns:List Int):zar [L ns]=some (L ns):=rfl
theorem y0w (ns:List Int):z8v "list" (L ns)=some (.bl true):=znl _
theorem zqs (ns:List Int):items (L ns)=some (ns.map .int):=rfl
theorem y33 {ns:List Int} {x:Int} (h0:0<=x) (h1:x.toNat<ns.length):dIx (L ns) (.int x)=some (.int (ns.getD x.toNat 0)):=by
 have e:(ns.map D.int)[x.toNat]?=some (.int (ns.getD x.toNat 0)):=by
  rw [List.getElem?_map,List.getElem?_eq_getElem h1,List.getD_eq_getElem?_getD,List.getElem?_eq_getElem h1];rfl
 have:=zvh e
 rwa [show ((x.toNat:Nat):Int)=x by lia] at this
theorem y0x {ns:List Int} {x:Int} (h:ns.length<100000):zhc (L ns) [.int x]=some (L (ns++[x])):=by
 simp only [L,zhc,List.length_map,h,if_true,List.map_append,List.map_cons,List.map_nil]
theorem zvv {n:Nat} {x:Int} (h0:0<=x) (h1:x<n):ixN n x=some x.toNat:=by
 unfold ixN;rw [if_pos h0,if_pos h1]
theorem map_set {α β:Type} (f:α->β) (xs:List α) (j:Nat) (a:α):(xs.map f).set j (f a)=(xs.set j a).map f:=by
 rw [List.map_set]
theorem zvw {ns:List Int} {x y:Int} (h0:0<=x) (h1:x<ns.length):zlc (L ns) (.int x) (.int y)=some (L (ns.set x.toNat y)):=by
 simp only [L,zlc,List.length_map,zvv h0 h1,Option.map_some,map_set]
theorem y0y {ns:List Int} {x y:Int} (h0:0<=x) (h1:x<=ns.length) (h:ns.length<100000):zun (L ns) [.int x,.int y]=some (L (ns.take x.toNat++y::ns.drop x.toNat)):=by
 simp only [L,zun,List.length_map]
 rw [if_pos (by refine ⟨by lia,?_,h⟩;have:ns.length<2 ^ 63:=(by lia);lia)]
 congr 2
 simp only [z4y,zum,List.length_map,if_neg (show ¬x<0 by lia),List.map_append,List.map_take,List.map_cons,List.map_drop]
 rw [Nat.min_eq_left (by lia)]
theorem y3t (ns:List Int) (lo hi:Option Int):dSl (L ns) lo hi=some (L (z8w ns lo hi)):=by
 simp only [L,dSl,z8w,List.length_map,List.map_take,List.map_drop]
theorem zvx (ns:List Int) (lo hi:Option Int):dSl (.scr ns) lo hi=some (L (z8w ns lo hi)):=rfl
theorem y0z (ns:List Int):zla [L ns]=some (.int ns.sum):=by simp only [L,zla,z3w,Option.map_some]
theorem zf6 (ns:List Int):(L ns).dep<=1/\(L ns).pl=true:=by
 have:∀ns:List Int,z4a (ns.map D.int)=0/\pls (ns.map D.int)=true:=fun ns=>by
  induction ns with
  | nil=>simp only [List.map_nil,z4a,pls,and_self]
  | cons a r ih=>simp only [List.map_cons,z4a,pls,D.dep,D.pl,ih.1,ih.2,Bool.and_self,Nat.max_self,and_self]
 simp only [L,D.dep,D.pl,this];exact ⟨by lia,trivial⟩
theorem zhx:∀(a b:List Int),z69 (a.map D.int) (b.map D.int)=decide (a=b)
 | [],[]=>by simp [z69]
 | [],_::_=>by simp [z69]
 | _::_,[]=>by simp [z69]
 | x::a,y::b=>by
  simp only [List.map_cons,z69,eqD,zhx a b,List.cons.injEq,Bool.decide_and,z5f]
theorem y3u (a b:List Int):dEq (L a) (L b)=some (.bl (decide (a=b))):=by
 unfold dEq
 rw [if_pos ⟨(zf6 a).2,(zf6 b).2,by have:=(zf6 a).1;lia⟩]
 simp only [L,eqD,zhx]
theorem y3v (a b:List Int):dNe (L a) (L b)=some (.bl (!decide (a=b))):=by
 unfold dNe
 rw [if_pos ⟨(zf6 a).2,(zf6 b).2,by have:=(zf6 a).1;lia⟩]
 simp only [L,eqD,zhx]
theorem ze2 {tg:Tg} {g:DS->SR} (n:Nat) (en:Nat->D) (P:Nat->DS->Prop) (ρ:DS) (h0:P 0 ρ)
  (hs:∀i,i<n->∀ρ,P i ρ->∃ρ1 ρ2,zmy tg (en i) ρ=some ρ1/\(g ρ1=.nx ρ2\/g ρ1=.ct ρ2)/\P (i+1) ρ2) :
  ∃ρ',zex tg g ((List.range n).map en) ρ=.nx ρ'/\P n ρ':=by
 have key:∀k s ρ,s+k=n->P s ρ->∃ρ',zex tg g ((List.range' s k).map en) ρ=.nx ρ'/\P n ρ':=by
  intro k
  induction k with
  | zero=>intro s ρ e h;exact ⟨ρ,rfl,by rwa [<-e]⟩
  | succ k ih=>
   intro s ρ e h
   obtain ⟨ρ1,ρ2,e1,e2,q⟩:=hs s (by lia) ρ h
   obtain ⟨ρ',e',p'⟩:=ih (s+1) ρ2 (by lia) q
   refine ⟨ρ',?_,p'⟩
   rw [List.range'_succ,List.map_cons]
   rcases e2 with e2 | e2<;>simp only [zex,e1,e2,e']
 rw [List.range_eq_range']
 exact key n 0 ρ (by lia) h0
theorem zlm (n:Nat) (g:Nat->D):((zD 0 ((List.range n).map g).length).zip ((List.range n).map g)).map (fun p=>D.tup [p.1,p.2])=(List.range n).map fun (i:Nat)=>D.tup [.int (i:Int),g i]:=by
 simp only [zD,List.length_map,List.length_range]
 have:∀(l:List Nat),((l.map fun (i:Nat)=>D.int (0+i)).zip (l.map g)).map (fun p=>D.tup [p.1,p.2])=l.map fun (i:Nat)=>D.tup [.int (i:Int),g i]:=fun l=>by
  induction l with
  | nil=>rfl
  | cons a r ih=>simp only [Int.zero_add] at ih ⊢;simp only [List.map_cons,List.zip_cons_cons,ih]
 exact this _
theorem zvy {α:Type} (xs:List α) (d:α):xs=(List.range xs.length).map fun i=>xs.getD i d:=by
 apply List.ext_getElem?
 intro i
 by_cases h:i<xs.length
 . rw [List.getElem?_map,List.getElem?_range h,Option.map_some,List.getD_eq_getElem?_getD,List.getElem?_eq_getElem h];rfl
 . rw [List.getElem?_eq_none (by lia),List.getElem?_eq_none (by simp;lia)]
theorem y10 (ns:List Int):isT "list" (L ns)=true:=by simp only [L,isT,beq_self_eq_true]
theorem zvz (m:List Bool) (ρ:DS):z4b false m ρ=frz m ρ:=rfl
theorem y11 (ρ:DS):frz [] ρ=ρ:=by cases ρ<;>rfl
theorem y12 (m:List Bool):frz m []=[]:=by cases m<;>rfl
theorem y13 (b:Bool) (m:List Bool) (s:Sl) (r:DS):frz (b::m) (s::r)=s.frz b::frz m r:=rfl
theorem zw0 (b:Bool) (d:D):Sl.frz b (.im d)=.im d:=rfl
theorem zw1 (b:Bool):Sl.frz b .em=.em:=rfl
theorem zqt (d:D):Sl.frz false (.ow d)=.ow d:=rfl
theorem zqu (d:D):Sl.frz true (.ow d)=.im d:=rfl
theorem zln {i j:Int} (h:-(2 ^ 64)<i/\i<2 ^ 64):zh2 (.int i) (.int j)=some (.int (i * j)):=by
 unfold zh2;rw [zht,if_pos (show CMul i j from Or.inl h)]
theorem z99 {i j:Int} (h:0<j):zan (.int i) (.int j)=some (.int (i % j)):=by
 unfold zan;rw [zht,if_pos h]
theorem zqv {i j:Int} (h:0<j/\j<1073741824):zl4 (.int i) (.int j)=some (.int (i / j)):=by
 unfold zl4;rw [zht,if_pos (show zox i j from h)]
theorem zw2 (i:Int):R.of (match D.int i with | .int i=>some (some i) | _=>none)=R.ok (some i):=rfl
theorem zqw {j:Int} (hj:-100000<=j/\j<=100000):-(2 ^ 62)<=j/\j<2 ^ 62:=by lia
theorem y14 {fs:DE->R (List D)} {ρ:DE} (j:Int) (hj:-100000<=j/\j<=100000) (h:fs ρ=.ok [.int j]):zsh fs ρ=.ok (zD 0 j.toNat):=by
 unfold zsh;rw [h,R.bind_ok]
 show R.of (if _ then _ else _)=_
 rw [if_pos (zqw hj)];rfl
theorem zqx (ds:List D):items (.lst ds)=some ds:=rfl
theorem zqy (ds:List D):items (.tup ds)=some ds:=rfl
theorem zax (ds:List D):keeps false (.lst ds)=false:=by simp only [keeps,D.noL,Bool.false_eq_true,if_false]
theorem zqz (ns:List Int):keeps false (L ns)=false:=zax _
noncomputable def T2 (p:Int×Int):D:=.tup [.int p.1,.int p.2]
noncomputable def T3 (p:Int×Int×Int):D:=.tup [.int p.1,.int p.2.1,.int p.2.2]
theorem z74 {l l':List D} (h:ois l'=true) (p:l.Perm l'):z2r l=z2r l':=
 z2s (z4x ((z11 l).trans p) h) (((z11 l).trans p).trans (z11 l').symm) (z1b (z4x p h)) (z1b h)
noncomputable def zsi {α:Type} (lt:α->α->Bool) (d:α):List α->List α
 | []=>[d]
 | e::r=>if lt e d=true then e::zsi lt d r else d::e::r
noncomputable def z9a {α:Type} (lt:α->α->Bool):List α->List α
 | []=>[]
 | d::r=>zsi lt d (z9a lt r)
section
variable {α:Type} (f:α->D)
theorem ze3 (d:α):∀l:List α,zle (f d) (l.map f)=(zsi (fun a b=>ltT (f a) (f b)) d l).map f
 | []=>rfl
 | e::r=>by
  simp only [List.map_cons,zle,zsi]
  split
  . rw [List.map_cons,ze3 d r]
  . rfl
theorem z3d:∀l:List α,z2r (l.map f)=(z9a (fun a b=>ltT (f a) (f b)) l).map f
 | []=>rfl
 | d::r=>by simp only [List.map_cons,z2r,z9a,z3d r,ze3]
variable (lt:α->α->Bool)
theorem zay (d:α):∀l:List α,(zsi lt d l).Perm (d::l)
 | []=>.refl _
 | e::r=>by
  unfold zsi
  split
  . exact ((zay d r).cons e).trans (.swap d e r)
  . exact .refl _
theorem z2j:∀l:List α,(z9a lt l).Perm l
 | []=>.refl _
 | d::r=>(zay lt d (z9a lt r)).trans ((z2j r).cons d)
end
noncomputable def so2 (ls:List (Int×Int)):List (Int×Int):=z9a (fun a b=>ltT (T2 a) (T2 b)) ls
noncomputable def so3 (ls:List (Int×Int×Int)):List (Int×Int×Int):=z9a (fun a b=>ltT (T3 a) (T3 b)) ls
noncomputable def soI (ls:List Int):List Int:=z9a (fun a b=>ltT (.int a) (.int b)) ls
theorem z9b (ls:List (Int×Int)):z2r (ls.map T2)=(so2 ls).map T2:=z3d _ _
theorem z75 (ls:List (Int×Int×Int)):z2r (ls.map T3)=(so3 ls).map T3:=z3d _ _
theorem zcg (ls:List Int):z2r (ls.map D.int)=(soI ls).map D.int:=z3d _ _
theorem z27 (ls:List (Int×Int)):(so2 ls).Perm ls:=z2j _ _
theorem z0s (ls:List (Int×Int×Int)):(so3 ls).Perm ls:=z2j _ _
theorem ze4 (ls:List Int):(soI ls).Perm ls:=z2j _ _
theorem z2y {α:Type} (xs:List α) (f:α->D) (p:D->Bool) (h:∀x,p (f x)=true):(xs.map f).all p=true:=by
 rw [List.all_eq_true];intro d hd;obtain ⟨x,_,rfl⟩:=List.mem_map.mp hd;exact h x
theorem z2k {α:Type} (xs:List α) (f:α->D) (h:∀x,(f x).oi=true):ois (xs.map f)=true:=
 ois_mem.mpr fun d hd=>by obtain ⟨x,_,rfl⟩:=List.mem_map.mp hd;exact h x
theorem z4g {α:Type} (xs:List α) (f:α->D) (n:Nat) (h:∀x,(f x).dep<=n):z4a (xs.map f)<=n:=by
 induction xs with
 | nil=>simp only [List.map_nil,z4a,Nat.zero_le]
 | cons a r ih=>simp only [List.map_cons,z4a];have:=h a;lia
theorem pls_of {α:Type} (xs:List α) (f:α->D) (h:∀x,(f x).pl=true):pls (xs.map f)=true:=by
 induction xs with
 | nil=>simp only [List.map_nil,pls]
 | cons a r ih=>simp only [List.map_cons,pls,h a,ih,Bool.and_self]
theorem zr0 (p:Int×Int):(T2 p).oi=true:=by simp [T2,D.oi,ois]
theorem zhy (p:Int×Int×Int):(T3 p).oi=true:=by simp [T3,D.oi,ois]
theorem zyr (p:Int):(D.int p).oi=true:=by simp [D.oi]
theorem znm (p:Int×Int):(T2 p).dep<=1:=by simp [T2,D.dep,z4a]
theorem zw3 (p:Int×Int×Int):(T3 p).dep<=1:=by simp [T3,D.dep,z4a]
theorem zw4 (p:Int×Int):(T2 p).pl=true:=by simp [T2,D.pl,pls]
theorem zaz (p:Int×Int):(T2 p).noL=true:=by simp [T2,D.noL,z2g]
theorem znn (p:Int×Int×Int):(T3 p).noL=true:=by simp [T3,D.noL,z2g]
theorem zw5 (p q:Int×Int):(z1s (T2 p) (T2 q)).isSome=true:=by
 simp only [T2,z1s,z1n];repeat (first | rfl | split)
theorem zw6 (p q:Int×Int×Int):(z1s (T3 p) (T3 q)).isSome=true:=by
 simp only [T3,z1s,z1n];repeat (first | rfl | split)
theorem zw7 (p q:Int):(z1s (.int p) (.int q)).isSome=true:=by simp only [z1s];rfl
theorem zhz (ls:List (Int×Int)) (h:ls.length<64):z39 (ls.map T2)=true:=by
 unfold z39
 rw [List.length_map,decide_eq_true h,z2k _ _ zr0,decide_eq_true (Nat.le_trans (z4g ls T2 1 znm) (by decide)),z2y ls T2 (fun d=>(ls.map T2).all fun e=>(z1s d e).isSome) (fun x=>z2y _ _ _ fun y=>zw5 x y),z2y ls T2 znd (fun x=>rfl)]
 simp
theorem zi0 (ls:List (Int×Int×Int)) (h:ls.length<64):z39 (ls.map T3)=true:=by
 unfold z39
 rw [List.length_map,decide_eq_true h,z2k _ _ zhy,decide_eq_true (Nat.le_trans (z4g ls T3 1 zw3) (by decide)),z2y ls T3 (fun d=>(ls.map T3).all fun e=>(z1s d e).isSome) (fun x=>z2y _ _ _ fun y=>zw6 x y),z2y ls T3 znd (fun x=>rfl)]
 simp
theorem zlo (ls:List Int) (h:ls.length<64):z39 (ls.map D.int)=true:=by
 unfold z39
 rw [List.length_map,decide_eq_true h,z2k _ _ zyr,decide_eq_true (Nat.le_trans (z4g ls D.int 1 (fun x=>by simp [D.dep])) (by decide)),z2y ls D.int (fun d=>(ls.map D.int).all fun e=>(z1s d e).isSome) (fun x=>z2y _ _ _ fun y=>zw7 x y),z2y ls D.int isI (fun x=>rfl)]
 simp
theorem zb0 (ls:List (Int×Int)) (h:ls.length<64):z0w [.lst (ls.map T2)]=some (.lst ((so2 ls).map T2)):=by
 simp only [z0w,zhz ls h,if_true,z9b]
theorem zi1 (ls:List (Int×Int×Int)) (h:ls.length<64):z0w [.lst (ls.map T3)]=some (.lst ((so3 ls).map T3)):=by
 simp only [z0w,zi0 ls h,if_true,z75]
theorem zlp (ls:List Int) (h:ls.length<64):z0w [L ls]=some (L (soI ls)):=by
 simp only [L,z0w,zlo ls h,if_true,zcg]
theorem zi2 {p q:Int×Int×Int} (h:T3 p=T3 q):p=q:=by
 obtain ⟨a,b,c⟩:=p;obtain ⟨a',b',c'⟩:=q
 simp only [T3,D.tup.injEq,List.cons.injEq,D.int.injEq,and_true] at h
 simp only [Prod.mk.injEq];exact h
theorem zno {p q:Int×Int} (h:T2 p=T2 q):p=q:=by
 obtain ⟨a,b⟩:=p;obtain ⟨a',b'⟩:=q
 simp only [T2,D.tup.injEq,List.cons.injEq,D.int.injEq,and_true] at h
 simp only [Prod.mk.injEq];exact h
theorem z2t {α β:Type} {f:α->β} (hf:∀x y,f x=f y->x=y):∀{a b:List α},a.map f=b.map f->a=b
 | [],[],_=>rfl
 | [],_::_,h=>by simp at h
 | _::_,[],h=>by simp at h
 | x::a,y::b,h=>by
  simp only [List.map_cons,List.cons.injEq] at h
  rw [hf _ _ h.1,z2t hf h.2]
theorem z9c {a b:List (Int×Int×Int)} (p:a.Perm b):so3 a=so3 b:=by
 have:=z74 (z2k b T3 zhy) (p.map T3)
 rw [z75,z75] at this
 exact z2t (fun _ _=>zi2) this
theorem ze5 {a b:List (Int×Int)} (p:a.Perm b):so2 a=so2 b:=by
 have:=z74 (z2k b T2 zr0) (p.map T2)
 rw [z9b,z9b] at this
 exact z2t (fun _ _=>zno) this
theorem zi3 {d m:Int} {ys:List Int} (h1:∀y∈ys,y<=m) (h2:m∈ys\/(ys=[]/\d=m)):mxD d ys=m:=by
 cases ys with
 | nil=>
  rcases h2 with h2 | h2
  . cases h2
  . exact h2.2
 | cons n ns=>
  rcases h2 with h2 | h2
  . obtain ⟨a,b⟩:=zcf ns n
    exact Int.le_antisymm (h1 _ a) (b _ h2)
  . cases h2.1
theorem y15 (ds:List D):isT "list" (.lst ds)=true:=by simp only [isT,beq_self_eq_true]
theorem y16 (b:Bool):zsf [.bl b]=some (.int (if b then 1 else 0)):=rfl
theorem y17 (i:Int):zsf [.int i]=some (.int i):=rfl
theorem zw8 (ds:List D):zar [.tup ds]=some (.lst ds):=rfl
theorem zw9 (ds:List D):zar [.lst ds]=some (.lst ds):=rfl
theorem zr1 (ds:List D):z2w [.lst ds]=some (.tup ds):=rfl
theorem zr2 (ds:List D):z2w [.tup ds]=some (.tup ds):=rfl
theorem zlq (ls:List (Int×Int)):z2g (ls.map T2)=true:=z12 _ _ fun x _=>zaz x
theorem zlr (ls:List (Int×Int×Int)):z2g (ls.map T3)=true:=z12 _ _ fun x _=>znn x
theorem znp {ls:List (Int×Int)} {a b:Int} (h:ls.length<100000):zhc (.lst (ls.map T2)) [.tup [.int a,.int b]]=some (.lst ((ls++[(a,b)]).map T2)):=by
 simp only [zhc,List.length_map,h,if_true,List.map_append,List.map_cons,List.map_nil];rfl
theorem zwa (p q:Int×Int):eqD (T2 p) (T2 q)=decide (p=q):=by
 obtain ⟨a,b⟩:=p;obtain ⟨c,d⟩:=q
 simp only [T2,eqD,z69,z5f,Bool.and_true,Prod.mk.injEq,Bool.decide_and]
theorem zwb (t:Int×Int×Int):zla [T3 t]=some (.int (t.1+(t.2.1+(t.2.2+0)))):=by
 simp only [T3,zla,z20,Option.map_some,List.sum_cons,List.sum_nil]
theorem zwc (t:Int×Int):zla [T2 t]=some (.int (t.1+(t.2+0))):=by
 simp only [T2,zla,z20,Option.map_some,List.sum_cons,List.sum_nil]
theorem zwd (t:Int×Int×Int):z8v "tuple" (T3 t)=some (.bl true):=zhv _
theorem zwe (t:Int×Int):z8v "tuple" (T2 t)=some (.bl true):=zhv _
theorem zwf (t:Int×Int):zaq [T2 t]=some (.int 2):=rfl
theorem y18 (t:Int×Int):dIx (T2 t) (.int 0)=some (.int t.1):=ze1 _ _
theorem y19 (t:Int×Int):dIx (T2 t) (.int 1)=some (.int t.2):=zhu _ _ _
theorem zls (t:Int×Int×Int):items (T3 t)=some [.int t.1,.int t.2.1,.int t.2.2]:=rfl
theorem cat_T2 (a b:List (Int×Int)) (h:a.length+b.length<=100000):zc4 (.lst (a.map T2)) (.lst (b.map T2))=some (.lst ((a++b).map T2)):=by
 simp only [zc4,List.length_map,h,if_true,List.map_append]
theorem zi4:∀{xs:List V} {us:List Value},xs.length=us.length->(∀(i:Nat) x u,xs[i]?=some x->us[i]?=some u->RelV x u)->Vals xs us
 | [],[],_,_=>.nil
 | [],_::_,h,_=>by simp at h
 | _::_,[],h,_=>by simp at h
 | x::xs,u::us,h,k=>.cons (k 0 x u rfl rfl) (zi4 (by simpa using h) fun i y v a b=>k (i+1) y v (by simpa using a) (by simpa using b))
noncomputable def tLR (ta:TA):TE:=fun U H Q=>ta U H fun vs H1=>∃j:Int,vs=[.int j]/\0<=j/\j<=100000/\∀l,H1 l=none->Q (.ref l) (upd H1 l (.lst ((List.range j.toNat).map fun (k:Nat)=>V.int (k:Int))))
section
variable {X:Cx} {U:St} {H:Hp} {Q:VK}
theorem zb1 {a:Expr} {ta:TA} {p p' pos pos':Pos} (hc:X.calm=true) (hgl:Gl X "list") (hml:X.mg "list"=none) (hg:Gl X "range") (hm:X.mg "range"=none) (ha:PA X [a] ta) (hs:starEach [a] X.env=[(false,eval a X.env)]:=by rfl)
  (hs2:starEach [.Call (.Name "range" p') [a] [] pos'] X.env=(false,eval (.Call (.Name "range" p') [a] [] pos') X.env)::starEach [] X.env:=by rfl) (hpl:(backTo pos (starEach [] X.env)).any (·.1)=false:=by rfl) :
  PE X (.Call (.Name "list" p) [.Call (.Name "range" p') [a] [] pos'] [] pos) (tLR ta):=by
 intro pins s U H Q I h
 refine wpAny_Call_Name_kw (z3y I hgl hml boot_list ?_)
 refine PyProof.Rows.callWith_type1 ?_ hs2 hpl
 rw [hs2]
 show wpAny _ _ (spliced ((false,eval (.Call (.Name "range" p') [a] [] pos') X.env)::backTo pos (starEach [] X.env))) _ _ s
 refine Calls.spliced_cons ?_
 refine Call_ (z3y I hg hm boot_range (PyProof.Rows.callWith_type1 (thn (ha pos' pins s U H _ I h) fun us s1 ⟨vs,H1,I1,r1,q1⟩=>?_) hs rfl))
 obtain ⟨j,e,j0,j1,q⟩:=q1
 subst e
 cases r1 with
 | cons r rr=>
  cases rr
  obtain ⟨t,rfl⟩:=r
  refine call_range_1 ?_
  refine Calls.spliced_nil ?_
  obtain ⟨hp,hhp⟩:∃hp,hp=s1.heap.push { cls:=.type "range",data:=.fields #[.int 0 s1.toks,.int j t,.int 1 (s1.toks+1)] }:=⟨_,rfl⟩
  have I2:Inv X pins U H1 { s1 with heap:=hp,toks:=s1.toks+1+1 }:=I1.kept fun b o e=>by rw [hhp];exact Heap.get?_push_of_some _ e
  have hr:IsRange hp s1.heap.objs.size 0 j 1 s1.toks t (s1.toks+1):=by rw [hhp];exact IsRange.new ..
  rw [<-hhp]
  refine call_list_range (n:=j.toNat) (I2.ok.hd hc) hr (small_one (by lia) (by lia) (by lia) (by lia)) (by rw [rangeSize_one];split<;>lia) (by lia) fun h' tk acc c' kp hl hit=>?_
  have hz:((List.range j.toNat).map fun (k:Nat)=>V.int (k:Int)).length<=sizeLine:=by rw [List.length_map,List.length_range];exact zpu (by lia)
  have rv:Vals ((List.range j.toNat).map fun (k:Nat)=>V.int (k:Int)) acc.toList:=by
   refine zi4 (by rw [List.length_map,List.length_range,Array.length_toList];exact hit.1.symm) fun i x u hx hu=>?_
   rw [Array.getElem?_toList] at hu
   obtain ⟨t',rfl⟩:=hit.2 i u hu
   rw [List.getElem?_map] at hx
   cases hr:(List.range j.toNat)[i]? with
   | none=>rw [hr] at hx;cases hx
   | some k=>
    rw [hr] at hx
    cases hx
    have:=List.getElem?_range (i:=i) (n:=j.toNat) (by
     apply Classical.byContradiction;intro hn
     rw [List.getElem?_eq_none (by rw [List.length_range];lia)] at hr;cases hr)
    rw [this] at hr;cases hr
    exact ⟨t',by simp⟩
  exact ⟨.ref hp.objs.size,_,I2.laid (t':=tk) kp (Nat.le_refl _) (show ObjOk X.prog X.w _ h' _ (.lst _) from ⟨hz,acc.toList,c',rv,by simpa using hl⟩),rfl,q _ (I2.hok.fresh (Nat.le_refl _))⟩
end
noncomputable def eLR (fs:DE->R (List D)):DE->R D:=fun ρ=>(fs ρ).bind fun ds=>match ds with
 | [.int j]=>if 0<=j/\j<=100000 then .ok (L ((List.range j.toNat).map fun (k:Nat)=>(k:Int))) else .st
 | _=>.st
section
variable {X:Cx} {EX:XW} {U:St} {H:Hp} {Q:VK}
theorem y3w {K:Frag} {fs:DE->R (List D)} (h:TEd K EX true (eLR fs) U H Q):tLR (TAd K EX fs) U H Q:=by
 obtain ⟨sx,ρ,H0,s,e,h⟩:=h
 unfold eLR at h
 rw [Rk.bind] at h
 refine TAd.go sx s e h fun ds h vs H1 H1' s1 e1 r1=>?_
 split at h
 . rename_i j
   split at h
   . rename_i hj
     obtain ⟨x,rfl,q1⟩:=r1.uno
     cases q1.int
     refine ⟨j,rfl,hj.1,hj.2,fun l hl=>h _ _ (Out.after s1 e1 (.new e1.2.1 hl fun H' hH=>?_))⟩
     simp only [OB,L]
     refine ⟨_,hH,?_⟩
     rw [show (List.range j.toNat).map (fun (k:Nat)=>V.int (k:Int))=((List.range j.toNat).map fun (k:Nat)=>(k:Int)).map V.int by rw [List.map_map];rfl]
     exact RDs.ofInts _
   . exact h.elim
 . exact h.elim
theorem y3x {a:Expr} {fs:DE->R (List D)} {p p' pos pos':Pos} (hc:X.calm=true) (hgl:Gl X "list") (hml:X.mg "list"=none) (hg:Gl X "range") (hm:X.mg "range"=none) (ha:QA X EX [a] fs) (hs:starEach [a] X.env=[(false,eval a X.env)]:=by rfl)
 (hs2:starEach [.Call (.Name "range" p') [a] [] pos'] X.env=(false,eval (.Call (.Name "range" p') [a] [] pos') X.env)::starEach [] X.env:=by rfl) (hpl:(backTo pos (starEach [] X.env)).any (·.1)=false:=by rfl) :
 QE X EX true (.Call (.Name "list" p) [.Call (.Name "range" p') [a] [] pos'] [] pos) (eLR fs):=⟨(zb1 hc hgl hml hg hm ha.h hs hs2 hpl).imp fun _ _ _ q=>y3w q⟩
end
def zwg (i j:Int):Prop:=0<j/\j<2 ^ 200
instance (i j:Int):Decidable (zwg i j):=by unfold zwg;infer_instance
noncomputable def hid (as:List Addr) (H:Hp):Hp:=fun b=>if b∈as then none else H b
theorem zwh {as:List Addr} {H:Hp} {a:Addr} (h:a∈as):hid as H a=none:=if_pos h
theorem zi5 {as:List Addr} {H:Hp} {a:Addr} (h:a∉as):hid as H a=H a:=if_neg h
theorem zch {α:Type} {l:List α} {i j:Nat} {x y:α} (h:(l.set i x)[j]?=some y):(i=j/\x=y)\/(i≠j/\l[j]?=some y):=by
 by_cases e:i=j
 . subst e
   by_cases hl:i<l.length
   . rw [List.getElem?_set_self hl] at h;exact .inl ⟨rfl,Option.some.inj h⟩
   . rw [List.getElem?_eq_none (by rw [List.length_set];lia)] at h;cases h
 . rw [List.getElem?_set_ne e] at h;exact .inr ⟨e,h⟩
mutual
noncomputable def nkD:D->Option NK
 | .int n=>some (.i n)
 | .tup ds=>(znq ds).map .t
 | _=>none
noncomputable def znq:List D->Option (List NK)
 | []=>some []
 | d::ds=>match nkD d,znq ds with
  | some k,some ks=>some (k::ks)
  | _,_=>none
end
mutual
theorem zi6 {K:Frag} {H:Hp}:∀{d:D} {k:NK} {x:V},nkD d=some k->RD K H d x->NKr H k x
 | .int n,k,x,e,r=>by
  simp only [nkD,Option.some.injEq] at e;subst e
  cases r.int;simp only [NKr]
 | .tup ds,k,x,e,r=>by
  simp only [nkD,Option.map_eq_some_iff] at e
  obtain ⟨ks,e,rfl⟩:=e
  obtain ⟨a,xs,rfl,ha,ra⟩:=r.tup
  simp only [NKr]
  exact ⟨a,xs,rfl,ha,zi7 e ra⟩
 | .non,_,_,e,_=>by simp [nkD] at e
 | .bl _,_,_,e,_=>by simp [nkD] at e
 | .str _,_,_,e,_=>by simp [nkD] at e
 | .lst _,_,_,e,_=>by simp [nkD] at e
 | .dk _ _,_,_,e,_=>by simp [nkD] at e
 | .dt _ _,_,_,e,_=>by simp [nkD] at e
 | .dn _ _,_,_,e,_=>by simp [nkD] at e
 | .scr _,_,_,e,_=>by simp [nkD] at e
 | .exc _ _,_,_,e,_=>by simp [nkD] at e
theorem zi7 {K:Frag} {H:Hp}:∀{ds:List D} {ks:List NK} {xs:List V},znq ds=some ks->RDs K H ds xs->NKrs H ks xs
 | [],ks,xs,e,r=>by
  simp only [znq,Option.some.injEq] at e;subst e
  simp only [RDs] at r;subst r;simp only [NKrs]
 | d::ds,ks,xs,e,r=>by
  simp only [RDs] at r
  obtain ⟨x,r,rfl,r1,r2⟩:=r
  simp only [znq] at e
  split at e
  . rename_i k ks' e1 e2
    cases e
    simp only [NKrs]
    exact ⟨x,_,rfl,zi6 e1 r1,zi7 e2 r2⟩
  . cases e
end
noncomputable def putQ (qs:List (NK×Addr)) (k:NK) (b:Addr):List (NK×Addr):=if k∈qs.map (·.1) then qs else qs++[(k,b)]
noncomputable def z3 (qs:List (NK×Addr)) (vs:List Value):List (NK×Addr×Value):=(qs.zip vs).map fun q=>(q.1.1,q.1.2,q.2)
theorem ze6:∀(qs:List (NK×Addr)) (vs:List Value),qs.length=vs.length->(z3 qs vs).map (·.1)=qs.map (·.1)
 | [],_,_=>rfl
 | q::qs,[],h=>by simp at h
 | q::qs,v::vs,h=>by
  have:=ze6 qs vs (by simpa using h)
  simp only [z3,List.zip_cons_cons,List.map_cons] at this ⊢
  rw [this]
theorem z7y (qs:List (NK×Addr)) (vs:List Value) (h:qs.length=vs.length):(z3 qs vs).length=qs.length:=by
 simp only [z3,List.length_map,List.length_zip];lia
theorem zi8 {α:Type} (xs:List (NK×Addr×α)) (k:NK):((xs.find? fun x=>decide (x.1=k)).map (·.2)).isSome=decide (k∈xs.map (·.1)):=by
 rw [Option.isSome_map,Bool.eq_iff_iff,List.find?_isSome,decide_eq_true_eq,List.mem_map]
 constructor
 . rintro ⟨x,hx,e⟩;exact ⟨x,hx,by simpa using e⟩
 . rintro ⟨x,hx,e⟩;exact ⟨x,hx,by simpa using e⟩
theorem zwi (qs:List (NK×Addr)) (vs:List Value) (h:qs.length=vs.length) (k:NK) (b:Addr) (u:Value):storedH (z3 qs vs) k b u=z3 (putQ qs k b) (z7w (qs.map (·.1)) vs k u)/\(putQ qs k b).length=(z7w (qs.map (·.1)) vs k u).length:=by
 unfold storedH putQ z7w
 have e:=zi8 (z3 qs vs) k
 rw [ze6 qs vs h] at e
 rw [show (atKey (z3 qs vs) k).isSome=decide (k∈qs.map (·.1)) from e]
 by_cases hk:k∈qs.map (·.1)
 . rw [if_pos (decide_eq_true hk),if_pos hk,if_pos hk]
   have go:∀(qs:List (NK×Addr)) (vs:List Value),qs.length=vs.length->(z3 qs vs).map (putAt k u)=z3 qs (List.zipWith (fun k' d'=>if k'=k then u else d') (qs.map (·.1)) vs)/\qs.length=(List.zipWith (fun k' d'=>if k'=k then u else d') (qs.map (·.1)) vs).length:=by
    intro qs
    induction qs with
    | nil=>intro vs _;exact ⟨rfl,rfl⟩
    | cons q qs ih=>
     intro vs h
     cases vs with
     | nil=>simp at h
     | cons v vs=>
      obtain ⟨i1,i2⟩:=ih vs (by simpa using h)
      simp only [z3,List.zip_cons_cons,List.map_cons,List.zipWith_cons_cons,List.length_cons] at i1 i2 ⊢
      refine ⟨?_,by lia⟩
      rw [i1]
      congr 1
      unfold putAt
      by_cases z:q.1=k
      . simp only [if_pos z]
      . simp only [if_neg z]
   exact go qs vs h
 . rw [if_neg (by simpa using hk),if_neg hk,if_neg hk]
   refine ⟨?_,by simp;lia⟩
   unfold z3
   rw [List.zip_append h,List.map_append];rfl
section
variable {X:Cx} {pins:List (Addr×Obj)} {U:St} {H:Hp} {s:Shared}
theorem zi9 {ks:List NK} {k:NK} {v:V} {u:Value} (ru:RelV v u) {xs:List V} {vs:List Value} (r:Vals xs vs):Vals (z7w ks xs k v) (z7w ks vs k u):=by
 unfold z7w
 split
 . have go:∀(ks:List NK) (xs:List V) (vs:List Value),Vals xs vs->Vals (List.zipWith (fun k' d'=>if k'=k then v else d') ks xs) (List.zipWith (fun k' d'=>if k'=k then u else d') ks vs):=by
    intro ks
    induction ks with
    | nil=>intro xs vs _;exact .nil
    | cons k' ks ih=>
     intro xs vs r
     cases r with
     | nil=>exact .nil
     | cons a1 a2=>
      simp only [List.zipWith_cons_cons]
      refine .cons ?_ (ih _ _ a2)
      split
      . exact ru
      . exact a1
   exact go ks xs vs r
 . exact r.append (.cons ru .nil)
theorem z4h (I:Inv X pins U H s) {a:Addr} {qs:List (NK×Addr)} {xs:List V} {ob:Obj} (e:H a=some (.ext (dnP a qs xs ob))) (n:DN H a qs):s.heap.get? a=some ob/\∃vs,Vals xs vs/\qs.length=vs.length/\Heap.DictOfH (deepKind X.prog X.w) s.heap a (z3 qs vs):=by
 obtain ⟨p,_,_⟩:=(show ObjOk X.prog X.w H s.heap a (.ext (dnP a qs xs ob)) from I.hok a _ e)
 obtain ⟨p3,vs,es,ep,p1,p2,p4,p5,p6⟩:=p
 refine ⟨p3,vs,p1,p2,ob,es,ep,p3,p4,p5,p6,fun x hx=>?_,by rw [ze6 qs vs p2];exact n.1⟩
 obtain ⟨q,hq,rfl⟩:=List.mem_map.mp hx
 have hq':=(List.of_mem_zip hq).1
 exact ⟨zkw I (n.2.1 _ hq').1 rfl,(n.2.1 _ hq').2⟩
end
noncomputable def zwj:zov:=fun o i v H Q=>∃(a:Addr) (qs:List (NK×Addr)) (xs:List V) (k:NK) (b:Addr) (ob:Obj),o=.ref a/\i=.ref b/\H a=some (.ext (dnP a qs xs ob))/\DN H a qs/\NKr H k (.ref b)/\k.dep<=8/\qs.length<sizeLine/\∀ob',Q (upd H a (.ext (dnP a (putQ qs k b) (z7w (qs.map (·.1)) xs k v) ob')))
theorem zwk {X:Cx} (hu:X.A.units+64<cLine):zyi X zwj:=by
 intro pins s U H o i v ov iv u Q I ro ri rv h
 obtain ⟨a,qs,xs,k,b,ob,rfl,rfl,e,n,hk,hd,hl,q⟩:=h
 cases ro;cases ri
 obtain ⟨_,vs,p1,p2,dd⟩:=z4h I e n
 have hz:(z3 qs vs).length<=sizeLine:=by rw [z7y qs vs p2];lia
 refine wpAny_setItem_heap (knd:=deepKind X.prog X.w) (hsz:=hz) (by show X.A.units+1+8<cLine;lia) ⟨zkw I hk rfl,hd⟩ dd fun h' dd' hs=>?_
 obtain ⟨e1,e2⟩:=zwi qs vs p2 k b u
 rw [e1] at dd'
 obtain ⟨o',es,ep,d1,d2,d3,d4,_⟩:=dd'
 refine ⟨_,?_,q o'⟩
 exact zbv I (by rw [e];exact True.intro) hs ⟨o',d1⟩ ⟨⟨d1,_,es,ep,zi9 rv p1,e2,d2,d3,d4⟩,⟨o',d1⟩,dnP.stay⟩
noncomputable def dSetN:D->D->D->Option D
 | .dn ks ds,.tup es,v=>match nkD (.tup es) with
  | some k=>if ks.length<100000/\k.dep<=8 then some (.dn (z6y ks k) (z7w ks ds k v)) else none
  | none=>none
 | _,_,_=>none
theorem zia {K:Frag}:zzz K dSetN zwj:=by
 intro H0 H a d d' dk dv y v Q s h0 ob rk rv hm k
 cases d<;>simp only [dSetN] at hm<;>first | cases hm | skip
 cases dk<;>simp only [dSetN] at hm<;>first | cases hm | skip
 rename_i ks ds es
 split at hm
 . rename_i kk hkk
   split at hm
   . rename_i hl
     cases hm
     simp only [OB] at ob
     obtain ⟨qs,xs,ob0,hx,hk,n,rx⟩:=ob
     have rk':=rk
     obtain ⟨b,ys,rfl,hb,rb⟩:=rk.tup
     have nk:=zi6 hkk rk'
     have hlen:qs.length=ks.length:=by rw [<-hk,List.length_map]
     have mono:∀a ys,H0 a=some (.tup ys)->H a=some (.tup ys):=fun c ys q=>s _ _ q
     refine ⟨a,qs,xs,kk,b,ob0,rfl,rfl,hx,n.tk mono,NKr.mono mono nk,hl.2,by rw [hlen];exact z1m hl.1,fun ob'=>k _ ?_⟩
     simp only [OB]
     refine ⟨_,_,ob',z0c,?_,?_,by rw [hk];exact zc8 kk rv rx⟩
     . unfold putQ z6y
       rw [hk]
       split
       . exact hk
       . rw [List.map_append,hk];rfl
     . obtain ⟨n1,n2,n3,n4⟩:=n
       unfold putQ
       split
       . exact ⟨n1,n2,n3,n4⟩
       . rename_i hn
         refine ⟨?_,fun q hq=>?_,n3,?_⟩
         . rw [List.map_append,List.map_cons,List.map_nil]
           exact List.nodup_append.mpr ⟨n1,by simp,fun x hx y hy e=>hn (by rw [List.mem_singleton.mp hy] at e;have e':x=kk:=e;rw [<-e'];exact hx)⟩
         . rcases List.mem_append.mp hq with z | z
           . exact n2 q z
           . rw [List.mem_singleton.mp z];exact ⟨nk,hl.2⟩
         . have:=z1m hl.1
           rw [List.length_append,List.length_singleton];lia
   . cases hm
 . cases hm
section
variable {X:Cx} {EX:XW} {fr:Bool} {m:List Bool} {pos:Pos} {e:Expr} {fk fv:DE->R D}
theorem zwl {i:Nat} {o ix:Expr} {tpos:Pos} (hu:X.A.units+64<cLine) (ho:PE X o (z7j i)) (hk:QE X EX false ix fk) (hv:QE X EX false e fv)
 (ha:∀v,assign (.Subscript o ix tpos) X.env v=(do
  let ov <-holding [v] (eval o X.env)
  let iv <-holding [v,ov] (eval ix X.env)
  standAt tpos
  holding [v,ov,iv] (setItem ov iv v)
  release [v,ov,iv] []):=by intro _;rfl) (hs:swapsWithSole [.Subscript o ix tpos] e pos.line X.env=pure false:=by rfl) (hw:swappedStores [.Subscript o ix tpos] e X.env=pure none:=by rfl)
 (h1:(assignEach [.Subscript o ix tpos] X.env).map (·.2)=[assign (.Subscript o ix tpos) X.env]:=by rfl):QS X EX fr (.Assign [.Subscript o ix tpos] e pos) (zk6 dSetN i m fk fv):=⟨(zd7 hv.h (zfu ho hk.h (zwk hu) ha) hs hw h1).imp fun _ _ _ q=>zpl zia q⟩
noncomputable def z9d:DE->R D:=fun _=>.ok (.dn [] [])
theorem pe_dnewN:PE X (.Dict [] [] pos) (fun _ H Q=>∀p ob,H p=none->(p==sysModules)=false->Q (.ref p) (upd H p (.ext (dnP p [] [] ob)))):=fun pins s U H Q I h=>
 wpAny_Dict_empty ⟨.ref s.heap.objs.size,_,I.laid (a:=s.heap.objs.size) (o:=.ext (dnP s.heap.objs.size [] [] { cls:=.type "dict",data:=.dict #[] })) (t':=s.toks) (fun _ _ q=>Heap.get?_push_of_some _ q) (Nat.le_refl _) ⟨⟨Heap.get?_push_size _ rfl,[],#[],0,.nil,rfl,⟨rfl,rfl,rfl⟩,rfl,rfl⟩,⟨_,Heap.get?_push_size _ rfl⟩,dnP.stay⟩,rfl,h _ _ (I.hok.fresh (Nat.le_refl _)) (beq_eq_false_iff_ne.mpr (Ne.symm (Nat.ne_of_lt I.big)))⟩
theorem ze7:QE X EX true (.Dict [] [] pos) z9d:=⟨pe_dnewN.imp fun U H Q ⟨sx,ρ,H0,s,e,h⟩ p ob hp hq=>h _ _ (.new s hp fun H' hH=>by simp only [OB];exact ⟨[],[],ob,hH,rfl,⟨List.nodup_nil,fun q hq=>(by simp at hq),hq,Nat.zero_le _⟩,.nil⟩)⟩
end
def zwm (i j:Int):Prop:=Builtin.Int.intBits i<=2 ^ 20/\Builtin.Int.intBits j<=2 ^ 20
instance (i j:Int):Decidable (zwm i j):=by unfold zwm;infer_instance
section
open PySem.SeqAt
open PySem.AutoSeq1 (wpAny_loadPart')
open PySem.MeetsSeq PySem.MeetsSeq2 PySem.MeetsSeq3
end
noncomputable def TuI (ns:List Int):D:=.tup (ns.map .int)
end L2
namespace L2
open PySem PySem.Spec PyProof.Rows
section
variable {X:Cx}
noncomputable def zf7:D->D->Option D
 | .tup ds,.tup es=>if ds.length+es.length<=100000 then some (.tup (ds++es)) else none
 | _,_=>none
noncomputable def zwn (K:Frag):R2:=fun x y H Q=>∃a b xs ys,x=.ref a/\y=.ref b/\SqT K H a xs/\SqT K H b ys/\xs.length+ys.length<=sizeLine /\
 (xs=[]->Q (.ref b) H)/\(xs≠[]->ys=[]->Q (.ref a) H)/\(xs≠[]->ys≠[]->∀p,H p=none->Q (.ref p) (upd H p (.tup (xs++ys))))
theorem zr3:OpR X (binaryOp .Add) (zwn X.K):=by
 intro pins s U H x y v u Q I rx ry h
 obtain ⟨a,b,xs,ys,rfl,rfl,ha,hb,hz,q0,q1,q2⟩:=h
 by_cases hx:xs=[]
 . cases rx
   cases ry
   obtain ⟨its,r1,p1,_⟩:=I.tuple ha
   obtain ⟨its2,r2,p2,_⟩:=I.tuple hb
   obtain ⟨⟨cls,dd,data,sl⟩,ho,hc,n,hd⟩:=id p1
   obtain ⟨⟨cls2,dd2,data2,sl2⟩,ho2,hc2,n2,hd2⟩:=id p2
   simp only at hc hd hc2 hd2
   subst hc hd hc2 hd2
   have he:its=[]:=r1.nil_iff.mpr hx
   exact concat_meets ⟨_,ho,rfl⟩ ⟨_,ho2,rfl⟩ noFill_tuple_add seq_tuple_add PySem.F.slot_tuple_add PySem.F.entry_tuple_add (PySem.F.args_tuple_add_2 _ _)
    (tuple_addW0 a b its.toArray its2.toArray n n2 dd dd2 sl sl2 (by simp [he])) ⟨ho,ho2,⟨.ref b,H,I,rfl,q0 hx⟩⟩
 . exact zp4 pins s U H _ _ v u Q I rx ry ⟨a,b,xs,ys,rfl,rfl,ha,hb,hx,hz,q1 hx,q2 hx⟩
theorem zr4 {K:Frag}:OpD K false zf7 (zwn K):=by
 intro H0 H x y d e z Q s rx ry ho k
 cases d<;>simp only [zf7] at ho<;>first | cases ho | skip
 cases e<;>simp only [zf7] at ho<;>first | cases ho | skip
 rename_i ds es
 split at ho<;>cases ho
 rename_i hl
 obtain ⟨a,xs,rfl,ha,ra⟩:=rx.tup
 obtain ⟨b,ys,rfl,hb,rb⟩:=ry.tup
 refine ⟨a,b,xs,ys,rfl,rfl,.of (s _ _ ha),.of (s _ _ hb),by rw [<-ra.length,<-rb.length];exact zpu hl,fun e=>?_,fun _ e=>?_,fun _ _ p hp=>?_⟩
 . have:ds=[]:=by have:=ra.length;rw [e] at this;exact List.eq_nil_of_length_eq_zero this
   subst this
   refine k _ _ (.pure s ?_)
   simp only [RD,List.nil_append]
   exact ⟨b,ys,rfl,hb,rb⟩
 . have:es=[]:=by have:=rb.length;rw [e] at this;exact List.eq_nil_of_length_eq_zero this
   subst this
   refine k _ _ (.pure s ?_)
   simp only [RD,List.append_nil]
   exact ⟨a,xs,rfl,ha,ra⟩
 . refine k _ _ (.val (Same.upd_new hp) (.new s hp) ?_)
   simp only [RD]
   have s0:Same H0 (upd H0 p (.tup (xs++ys))):=Same.upd_new (s.none hp)
   exact ⟨p,xs++ys,rfl,z0c,(ra.append rb).mono s0⟩
end
noncomputable def y1a (T:String) (mt:D->List D->Option D) (i:Nat) (m:List Bool) (f:DE->R D):DS->SR:=fun ρ=>match ρ[i]? with
 | some (.ow d0)=>if isT T d0=true then (f (vis m ρ)).toS fun d=>match (z4b (keeps true d) m ρ)[i]? with
  | some (.ow dx)=>(R.of (mt dx [d])).toS fun d'=>.nx ((z4b (keeps true d) m ρ).set i (.ow d'))
  | _=>.st
  else .st
 | _=>.st
noncomputable def z31 (es:Array DictEntry) (ep:Nat):Obj:={ cls:=.type "dict",data:=.dict es ep }
section
open PySem.SeqAt
open PySem.AutoSeq1 (wpAny_loadPart')
end
mutual
noncomputable def z50:NK->D
 | .i n=>.int n
 | .t ks=>.tup (z5t ks)
noncomputable def z5t:List NK->List D
 | []=>[]
 | k::ks=>z50 k::z5t ks
end
mutual
theorem zwo {K:Frag} {H:Hp}:∀{k:NK} {x:V},NKr H k x->RD K H (z50 k) x
 | .i n,x,h=>by simp only [NKr] at h;subst h;simp only [z50,RD]
 | .t ks,x,h=>by
  simp only [NKr] at h
  obtain ⟨a,xs,rfl,ha,hs⟩:=h
  simp only [z50,RD]
  exact ⟨a,xs,rfl,ha,znr hs⟩
theorem znr {K:Frag} {H:Hp}:∀{ks:List NK} {xs:List V},NKrs H ks xs->RDs K H (z5t ks) xs
 | [],xs,h=>by simp only [NKrs] at h;subst h;simp only [z5t,RDs]
 | k::ks,xs,h=>by
  simp only [NKrs] at h
  obtain ⟨x,r,rfl,h1,h2⟩:=h
  simp only [z5t,RDs]
  exact ⟨x,r,rfl,zwo h1,znr h2⟩
end
end L2
namespace L2
open PySem PySem.Spec PyProof.Rows
noncomputable def z32 (TI TO:Addr) (f0:Value):Obj:={ cls:=.type "zip",data:=.fields #[f0,.bool false,.bool false,.ref TI,.ref TO] }
noncomputable def z05 (a b:Value):Obj:={ cls:=.type "tuple",data:=.seq #[a,b] }
noncomputable def z03 (l:Addr) (i:Nat):Obj:={ cls:=.type "tuple_iterator",data:=.fields #[.ref l,.int i 0] }
noncomputable def z0d (l:Addr) (i:Nat):Obj:={ cls:=.type "list_iterator",data:=.fields #[.ref l,.int i 0] }
abbrev up1 (i:Nat):Obj->Obj:=Obj.mapFields (·.setIfInBounds 1 (rawInt ((i:Int)+1)))
def zb2 (i:Addr) (x:Value) (f:Obj->Obj) (A:Around) (s:Shared):Prop:=∀(prog:Program) (w:World) (E:Value->Shared->Prop) (Q:Value->Shared->Prop),Q x { s with heap:=s.heap.update i f }->wpAny (model prog w) A (Builtin.SmallTypes.nextOf (.ref i)) Q E s
def zib (i:Addr) (A:Around) (s:Shared):Prop:=∀(prog:Program) (w:World) (E:Value->Shared->Prop) (Q:Value->Shared->Prop),
 (∀h' e,(∀c o,c≠i->s.heap.get? c=some o->h'.get? c=some o)->(∃o,h'.get? e=some o/\o.cls=.type "StopIteration")->E (.ref e) { s with heap:=h' })->wpAny (model prog w) A (Builtin.SmallTypes.nextOf (.ref i)) Q E s
section
open PySem.SeqAt
open PySem.AutoSeq1 (wpAny_loadPart')
theorem zic (it l:Addr) (items:Array Value) (i n:Nat) (dd:Option Addr) (sl:Array (Option Value)) (x:Value) (hx:items[i]?=some x) :
  Meets (Builtin.«tuple_iterator.__next__» ⟨[.ref it],[]⟩) (fun _ R s=>s.heap.get? it=some (z03 l i)/\s.heap.get? l=some { cls:=.type "tuple",dict:=dd,data:=.seq items n,slots:=sl }/\R (.ok (.ret x)) { s with heap:=s.heap.update it (up1 i) }):=
 .of_wp fun prog w A R s h=>by
  obtain ⟨hp,g,dr,tk,os⟩:=s;obtain ⟨hl,hd,h⟩:=h
  unfold z03 at hl
  have hat:items[((i:Nat):Int).toNat]?=some x:=by simpa using hx
  wp_walk using wpAny_loadPart' hl,wpAny_loadPart' hd
  rw [hat]
  wp_walk using wpAny_loadPart' hl,wpAny_loadPart' hd
  exact ⟨_,rfl,h⟩
theorem zid (it l:Addr) (items:Array Value) (i n:Nat) (dd:Option Addr) (sl:Array (Option Value)) (x:Value) (hx:items[i]?=some x) :
  Meets (Builtin.«list_iterator.__next__» ⟨[.ref it],[]⟩) (fun _ R s=>s.heap.get? it=some (z0d l i)/\s.heap.get? l=some { cls:=.type "list",dict:=dd,data:=.seq items n,slots:=sl }/\R (.ok (.ret x)) { s with heap:=s.heap.update it (up1 i) }):=
 .of_wp fun prog w A R s h=>by
  obtain ⟨hp,g,dr,tk,os⟩:=s;obtain ⟨hl,hd,h⟩:=h
  unfold z0d at hl
  have hat:items[((i:Nat):Int).toNat]?=some x:=by simpa using hx
  wp_walk using wpAny_loadPart' hl,wpAny_loadPart' hd
  rw [hat]
  wp_walk using wpAny_loadPart' hl,wpAny_loadPart' hd
  exact ⟨_,rfl,h⟩
theorem zlt (it l:Addr) (items:Array Value) (i n:Nat) (dd:Option Addr) (sl:Array (Option Value)) (hx:items[i]?=none) :
  Meets (Builtin.«tuple_iterator.__next__» ⟨[.ref it],[]⟩) (fun A R s=>s.heap.get? it=some (z03 l i)/\s.heap.get? l=some { cls:=.type "tuple",dict:=dd,data:=.seq items n,slots:=sl }/\A.in1.handled=none /\
   ∀h' e,(∀c o,c≠it->s.heap.get? c=some o->h'.get? c=some o)->(∃o,h'.get? e=some o/\o.cls=.type "StopIteration")->R (.error (.ref e)) { s with heap:=h' }):=
 .of_wp fun prog w A R s h=>by
  obtain ⟨hp,g,dr,tk,os⟩:=s;obtain ⟨hl,hd,hh,h⟩:=h
  unfold z03 at hl
  have hat:items[((i:Nat):Int).toNat]?=none:=by simpa using hx
  wp_walk using wpAny_loadPart' hl,wpAny_loadPart' hd
  rw [hat]
  wp_walk using wpAny_loadPart' hl,wpAny_loadPart' hd
  unfold raiseNew
  refine wpAny_bind (wpAny_handled ?_)
  rw [hh]
  refine wpAny_bind (wpAny_pure (wpAny_throw (h _ _ (fun c o hc e=>?_) ⟨_,Heap.get?_push_size _ rfl,rfl⟩)))
  refine Heap.get?_push_of_some _ (Heap.get?_push_of_some _ ?_)
  rw [Heap.get?_update_ne _ _ _ _ hc]
  exact e
theorem z76 {it l:Addr} {items:Array Value} {i:Nat} {x:Value} {A:Around} {s:Shared} (hit:s.heap.get? it=some (z03 l i)) (hl:s.heap.IsTuple l items) (hx:items[i]?=some x):zb2 it x (up1 i) A s:=fun prog w E Q q=>by
 obtain ⟨⟨cl,dd,da,sl⟩,ho,hc,n,hd⟩:=hl
 simp only at hc hd
 subst hc hd
 unfold Builtin.SmallTypes.nextOf
 exact wpAny_bind (wpAny_callSpecial?_slot (name:=Str.ofString "__next__") ⟨_,hit,rfl⟩ F.slot_tuple_iterator_next (call_meets F.slot_tuple_iterator_next ⟨_,hit,rfl⟩ F.entry_tuple_iterator_next (F.args_tuple_iterator_next_1 _) (zic it l items i n dd sl x hx) ⟨hit,ho,wpAny_pure q⟩))
theorem zie {it l:Addr} {items:Array Value} {i:Nat} {x:Value} {A:Around} {s:Shared} (hit:s.heap.get? it=some (z0d l i)) (hl:s.heap.IsList l items) (hx:items[i]?=some x):zb2 it x (up1 i) A s:=fun prog w E Q q=>by
 obtain ⟨⟨cl,dd,da,sl⟩,ho,hc,n,hd⟩:=hl
 simp only at hc hd
 subst hc hd
 unfold Builtin.SmallTypes.nextOf
 exact wpAny_bind (wpAny_callSpecial?_slot (name:=Str.ofString "__next__") ⟨_,hit,rfl⟩ slot_listiter_next (call_meets slot_listiter_next ⟨_,hit,rfl⟩ entry_listiter_next (args_listiter_next _) (zid it l items i n dd sl x hx) ⟨hit,ho,wpAny_pure q⟩))
theorem zlu {it l:Addr} {items:Array Value} {i:Nat} {A:Around} {s:Shared} (hh:A.handled=none) (hit:s.heap.get? it=some (z03 l i)) (hl:s.heap.IsTuple l items) (hx:items[i]?=none):zib it A s:=fun prog w E Q q=>by
 obtain ⟨⟨cl,dd,da,sl⟩,ho,hc,n,hd⟩:=hl
 simp only at hc hd
 subst hc hd
 unfold Builtin.SmallTypes.nextOf
 exact wpAny_bind (wpAny_callSpecial?_slot (name:=Str.ofString "__next__") ⟨_,hit,rfl⟩ F.slot_tuple_iterator_next (call_meets F.slot_tuple_iterator_next ⟨_,hit,rfl⟩ F.entry_tuple_iterator_next (F.args_tuple_iterator_next_1 _) (zlt it l items i n dd sl hx) ⟨hit,ho,hh,q⟩))
noncomputable def zH1 (hp:Heap) (z:Addr):Heap:=hp.update z (Obj.mapFields (·.setIfInBounds 0 .ellipsis))
noncomputable def zH4 (hp:Heap) (z TO i1 i2:Addr) (x:Value) (f1 f2:Obj->Obj):Heap:=(((zH1 hp z).update i1 f1).update TO (Obj.mapSeq (·.setIfInBounds 0 x))).update i2 f2
noncomputable def zHF (hp:Heap) (z TO i1 i2:Addr) (x y:Value) (f1 f2:Obj->Obj):Heap:=((((zH4 hp z TO i1 i2 x f1 f2).update TO (Obj.mapSeq (·.setIfInBounds 1 y))).push (z05 x y)).update z (Obj.mapFields (·.setIfInBounds 0 (rawInt hp.objs.size)))).update z (Obj.mapFields (·.setIfInBounds 1 (.bool false)))
def zsj (p:Prop):Prop:=p
theorem zb3 (z TI TO i1 i2:Addr) (a b x y:Value) (f1 f2:Obj->Obj) (n2:TO≠z) (n3:TO≠i1) (n4:TO≠i2) (n5:i1≠z) (n6:i2≠z) :
  Meets (Builtin.«zip.__next__» ⟨[.ref z],[]⟩) (fun A R s=>s.heap.get? z=some (z32 TI TO .none)/\s.heap.get? TI=some (z05 (.ref i1) (.ref i2))/\s.heap.get? TO=some (z05 a b) /\
   zb2 i1 x f1 A.in1 { s with heap:=zH1 s.heap z }/\zb2 i2 y f2 A.in1 { s with heap:=((zH1 s.heap z).update i1 f1).update TO (Obj.mapSeq (·.setIfInBounds 0 x)) } /\
   R (.ok (.ret (.ref s.heap.objs.size))) { s with heap:=zHF s.heap z TO i1 i2 x y f1 f2 }):=
 .of_wp fun prog w A R s h=>by
  obtain ⟨hp,g,dr,tk,os⟩:=s;obtain ⟨hz,hTI,hTO,g1,g2,h⟩:=h
  unfold z32 at hz
  unfold z05 at hTI hTO
  have g1':=g1 prog w
  have g2':=g2 prog w
  simp only [zH1] at g1' g2'
  have g1s:∀(E:Value->Shared->Prop) (Q:Value->Shared->Prop),zsj (Q x { heap:=(hp.update z (Obj.mapFields (·.setIfInBounds 0 .ellipsis))).update i1 f1,gens:=g,drawn:=dr,toks:=tk,os:=os })->wpAny (model prog w) A.in1 (Builtin.SmallTypes.nextOf (.ref i1)) Q E { heap:=hp.update z (Obj.mapFields (·.setIfInBounds 0 .ellipsis)),gens:=g,drawn:=dr,toks:=tk,os:=os }:=fun E Q h=>g1' E Q h
  wp_walk using wpAny_onRaise,wpAny_loadPart' hz,wpAny_loadPart' hTI,wpAny_loadPart' hTO,(g1s _ _)
  unfold zsj
  have hTO2:((hp.update z (Obj.mapFields (·.setIfInBounds 0 .ellipsis))).update i1 f1).get? TO=some { cls:=.type "tuple",data:=.seq #[a,b] }:=by
   rw [Heap.get?_update_ne _ _ _ _ n3,Heap.get?_update_ne _ _ _ _ n2];exact hTO
  have hTO3:(((hp.update z (Obj.mapFields (·.setIfInBounds 0 .ellipsis))).update i1 f1).update TO (Obj.mapSeq (·.setIfInBounds 0 x))).get? TO=some { cls:=.type "tuple",data:=.seq #[x,b] }:=by
   rw [Heap.get?_update_self _ hTO2 rfl];rfl
  have g2s:∀(E:Value->Shared->Prop) (Q:Value->Shared->Prop),zsj (Q y { heap:=(((hp.update z (Obj.mapFields (·.setIfInBounds 0 .ellipsis))).update i1 f1).update TO (Obj.mapSeq (·.setIfInBounds 0 x))).update i2 f2,gens:=g,drawn:=dr,toks:=tk,os:=os })->wpAny (model prog w) A.in1 (Builtin.SmallTypes.nextOf (.ref i2)) Q E { heap:=((hp.update z (Obj.mapFields (·.setIfInBounds 0 .ellipsis))).update i1 f1).update TO (Obj.mapSeq (·.setIfInBounds 0 x)),gens:=g,drawn:=dr,toks:=tk,os:=os }:=fun E Q h=>g2' E Q h
  wp_walk using wpAny_onRaise,(g2s _ _),wpAny_loadPart' (s:={ heap:=(hp.update z (Obj.mapFields (·.setIfInBounds 0 .ellipsis))).update i1 f1,gens:=g,drawn:=dr,toks:=tk,os:=os }) hTO2,(wpAny_updateSeq (s:={ heap:=(hp.update z (Obj.mapFields (·.setIfInBounds 0 .ellipsis))).update i1 f1,gens:=g,drawn:=dr,toks:=tk,os:=os }) hTO2 rfl)
  unfold zsj
  have e4:zH4 hp z TO i1 i2 x f1 f2=((((hp.update z (Obj.mapFields (·.setIfInBounds 0 .ellipsis))).update i1 f1).update TO (Obj.mapSeq (·.setIfInBounds 0 x))).update i2 f2):=rfl
  unfold zHF at h
  rw [e4] at h
  generalize hH4:((((hp.update z (Obj.mapFields (·.setIfInBounds 0 .ellipsis))).update i1 f1).update TO (Obj.mapSeq (·.setIfInBounds 0 x))).update i2 f2)=H4 at h
  have hTO4:H4.get? TO=some { cls:=.type "tuple",data:=.seq #[x,b] }:=by
   rw [<-hH4,Heap.get?_update_ne _ _ _ _ n4];exact hTO3
  have hTO5:(H4.update TO (Obj.mapSeq (·.setIfInBounds 1 y))).get? TO=some { cls:=.type "tuple",data:=.seq #[x,y] }:=by
   rw [Heap.get?_update_self _ hTO4 rfl];rfl
  have hz5:(H4.update TO (Obj.mapSeq (·.setIfInBounds 1 y))).get? z=some { cls:=.type "zip",data:=.fields #[.ellipsis,.bool false,.bool false,.ref TI,.ref TO] }:=by
   rw [Heap.get?_update_ne _ _ _ _ n2.symm,<-hH4,Heap.get?_update_ne _ _ _ _ n6.symm,Heap.get?_update_ne _ _ _ _ n2.symm,Heap.get?_update_ne _ _ _ _ n5.symm,Heap.get?_update_self _ hz rfl];rfl
  wp_walk using wpAny_loadPart' (s:={ heap:=H4,gens:=g,drawn:=dr,toks:=tk,os:=os }) hTO4,(wpAny_updateSeq (s:={ heap:=H4,gens:=g,drawn:=dr,toks:=tk,os:=os }) hTO4 rfl),wpAny_loadPart' (s:={ heap:=H4.update TO (Obj.mapSeq (·.setIfInBounds 1 y)),gens:=g,drawn:=dr,toks:=tk,os:=os }) hTO5
  have hsz:(H4.update TO (Obj.mapSeq (·.setIfInBounds (0+1) y))).objs.size=hp.objs.size:=by
   rw [Heap.size_update,<-hH4,Heap.size_update,Heap.size_update,Heap.size_update,Heap.size_update]
  refine ⟨_,rfl,?_⟩
  show R (.ok (.ret (.ref (H4.update TO (Obj.mapSeq (·.setIfInBounds (0+1) y))).objs.size))) { heap:=(((H4.update TO (Obj.mapSeq (·.setIfInBounds (0+1) y))).push { cls:=.type "tuple",data:=.seq #[x,y].toList.toArray }).update z (Obj.mapFields (·.setIfInBounds 0 (rawInt ((H4.update TO (Obj.mapSeq (·.setIfInBounds (0+1) y))).objs.size:Nat))))).update z (Obj.mapFields (·.setIfInBounds 1 (.bool false))),gens:=g,drawn:=dr,toks:=tk,os:=os }
  rw [hsz]
  exact h
theorem ze8 (z TI TO i1 i2:Addr) (a b:Value) (n5:i1≠z) :
  Meets (Builtin.«zip.__next__» ⟨[.ref z],[]⟩) (fun A R s=>s.heap.get? z=some (z32 TI TO .none)/\s.heap.get? TI=some (z05 (.ref i1) (.ref i2))/\s.heap.get? TO=some (z05 a b) /\
   zib i1 A.in1 { s with heap:=zH1 s.heap z }/\∀h' e,(∀c o,c≠z->c≠i1->s.heap.get? c=some o->h'.get? c=some o)->(∃o,h'.get? e=some o/\o.cls=.type "StopIteration")->R (.error (.ref e)) { s with heap:=h' }):=
 .of_wp fun prog w A R s h=>by
  obtain ⟨hp,g,dr,tk,os⟩:=s;obtain ⟨hz,hTI,hTO,g1,h⟩:=h
  unfold z32 at hz
  unfold z05 at hTI hTO
  have g1':=g1 prog w
  simp only [zH1] at g1'
  have g1s:∀(E:Value->Shared->Prop) (Q:Value->Shared->Prop),zsj (∀h' e,(∀c o,c≠i1->(hp.update z (Obj.mapFields (·.setIfInBounds 0 .ellipsis))).get? c=some o->h'.get? c=some o)->(∃o,h'.get? e=some o/\o.cls=.type "StopIteration")->E (.ref e) { heap:=h',gens:=g,drawn:=dr,toks:=tk,os:=os })->wpAny (model prog w) A.in1 (Builtin.SmallTypes.nextOf (.ref i1)) Q E { heap:=hp.update z (Obj.mapFields (·.setIfInBounds 0 .ellipsis)),gens:=g,drawn:=dr,toks:=tk,os:=os }:=fun E Q h=>g1' E Q h
  wp_walk using wpAny_onRaise,wpAny_loadPart' hz,wpAny_loadPart' hTI,wpAny_loadPart' hTO,(g1s _ _)
  unfold zsj
  intro h' e kp he
  obtain ⟨oe,hoe,hce⟩:=he
  have hz':h'.get? z=some { cls:=.type "zip",data:=.fields #[.ellipsis,.bool false,.bool false,.ref TI,.ref TO] }:=kp z _ n5.symm (by rw [Heap.get?_update_self _ hz rfl];rfl)
  have hez:e≠z:=fun q=>by rw [q,hz'] at hoe;cases hoe;simp at hce
  refine wpAny_setField hz' rfl (by simp) (h _ e (fun c o c1 c2 q=>?_) ⟨oe,by rw [Heap.get?_update_ne _ _ _ _ hez];exact hoe,hce⟩)
  rw [Heap.get?_update_ne _ _ _ _ c1]
  exact kp c o c2 (by rw [Heap.get?_update_ne _ _ _ _ c1];exact q)
end
end L2
namespace L2
open PySem PySem.Spec PyProof.Rows
section
variable {hp:Heap} {z TI TO i1 i2 l1 l2:Addr} {b x y:Value}
theorem z0g {h:Heap} {c e:Addr} {f:Obj->Obj} (n:c≠e):(h.update e f).get? c=h.get? c:=Heap.get?_update_ne _ _ _ _ n
theorem zwp {H4:Heap} {o1 o2:Obj} (D:ZipApart z TI TO i1 i2 l1 l2) (u1:H4.get? i1=some o1) (u2:H4.get? i2=some o2) (u3:H4.get? TO=some (z05 x b)) (u4:H4.get? z=some (z32 TI TO .ellipsis))
  (u5:∀c o,c≠z->c≠TO->c≠i1->c≠i2->hp.get? c=some o->H4.get? c=some o) (sz:(H4.update TO (Obj.mapSeq (·.setIfInBounds 1 y))).objs.size=hp.objs.size) (nz:hp.objs.size≠z) :
  (((((H4.update TO (Obj.mapSeq (·.setIfInBounds 1 y))).push (z05 x y)).update z (Obj.mapFields (·.setIfInBounds 0 (rawInt hp.objs.size)))).update z (Obj.mapFields (·.setIfInBounds 1 (.bool false)))).get? z=some (z32 TI TO (rawInt hp.objs.size))) /\
  (((((H4.update TO (Obj.mapSeq (·.setIfInBounds 1 y))).push (z05 x y)).update z (Obj.mapFields (·.setIfInBounds 0 (rawInt hp.objs.size)))).update z (Obj.mapFields (·.setIfInBounds 1 (.bool false)))).get? TO=some (z05 x y)) /\
  (((((H4.update TO (Obj.mapSeq (·.setIfInBounds 1 y))).push (z05 x y)).update z (Obj.mapFields (·.setIfInBounds 0 (rawInt hp.objs.size)))).update z (Obj.mapFields (·.setIfInBounds 1 (.bool false)))).get? hp.objs.size=some (z05 x y)) /\
  (((((H4.update TO (Obj.mapSeq (·.setIfInBounds 1 y))).push (z05 x y)).update z (Obj.mapFields (·.setIfInBounds 0 (rawInt hp.objs.size)))).update z (Obj.mapFields (·.setIfInBounds 1 (.bool false)))).get? i1=some o1) /\
  (((((H4.update TO (Obj.mapSeq (·.setIfInBounds 1 y))).push (z05 x y)).update z (Obj.mapFields (·.setIfInBounds 0 (rawInt hp.objs.size)))).update z (Obj.mapFields (·.setIfInBounds 1 (.bool false)))).get? i2=some o2) /\
  ∀c o,c≠z->c≠TO->c≠i1->c≠i2->hp.get? c=some o->((((H4.update TO (Obj.mapSeq (·.setIfInBounds 1 y))).push (z05 x y)).update z (Obj.mapFields (·.setIfInBounds 0 (rawInt hp.objs.size)))).update z (Obj.mapFields (·.setIfInBounds 1 (.bool false)))).get? c=some o:=by
 have t5:(H4.update TO (Obj.mapSeq (·.setIfInBounds 1 y))).get? TO=some (z05 x y):=by rw [Heap.get?_update_self _ u3 rfl];rfl
 have z5:(H4.update TO (Obj.mapSeq (·.setIfInBounds 1 y))).get? z=some (z32 TI TO .ellipsis):=by rw [z0g D.TOz.symm];exact u4
 have a5:(H4.update TO (Obj.mapSeq (·.setIfInBounds 1 y))).get? i1=some o1:=by rw [z0g D.TOi1.symm];exact u1
 have b5:(H4.update TO (Obj.mapSeq (·.setIfInBounds 1 y))).get? i2=some o2:=by rw [z0g D.TOi2.symm];exact u2
 have c5:∀c o,c≠z->c≠TO->c≠i1->c≠i2->hp.get? c=some o->(H4.update TO (Obj.mapSeq (·.setIfInBounds 1 y))).get? c=some o:=fun c o c1 c2 c3 c4 e=>by rw [z0g c2];exact u5 c o c1 c2 c3 c4 e
 generalize H4.update TO (Obj.mapSeq (·.setIfInBounds 1 y))=H5 at *
 have z6:(H5.push (z05 x y)).get? z=some (z32 TI TO .ellipsis):=Heap.get?_push_of_some _ z5
 have z7:((H5.push (z05 x y)).update z (Obj.mapFields (·.setIfInBounds 0 (rawInt hp.objs.size)))).get? z=some (z32 TI TO (rawInt hp.objs.size)):=by rw [Heap.get?_update_self _ z6 rfl];rfl
 have two:∀{c:Addr},c≠z->(((H5.push (z05 x y)).update z (Obj.mapFields (·.setIfInBounds 0 (rawInt hp.objs.size)))).update z (Obj.mapFields (·.setIfInBounds 1 (.bool false)))).get? c=(H5.push (z05 x y)).get? c:=fun n=>by rw [z0g n,z0g n]
 refine ⟨?_,?_,?_,?_,?_,fun c o c1 c2 c3 c4 e=>?_⟩
 . rw [Heap.get?_update_self _ z7 rfl];rfl
 . rw [two D.TOz];exact Heap.get?_push_of_some _ t5
 . rw [two nz,<-sz];exact Heap.get?_push_size _ rfl
 . rw [two D.i1z];exact Heap.get?_push_of_some _ a5
 . rw [two D.i2z];exact Heap.get?_push_of_some _ b5
 . rw [two c1];exact Heap.get?_push_of_some _ (c5 c o c1 c2 c3 c4 e)
end
noncomputable def zN (h:Heap) (os:List Obj):Heap:=os.foldl Heap.push h
theorem zif:∀(os:List Obj) (h:Heap),(zN h os).objs.size=h.objs.size+os.length
 | [],h=>rfl
 | o::os,h=>by
  show (zN (h.push o) os).objs.size=_
  rw [zif os,Heap.size_push,List.length_cons];lia
theorem z9e:∀(os:List Obj) {h:Heap} {c:Addr} {o:Obj},h.get? c=some o->(zN h os).get? c=some o
 | [],_,_,_,e=>e
 | o::os,h,c,u,e=>z9e os (h:=h.push o) (Heap.get?_push_of_some _ e)
theorem z7m (os:List Obj) (o:Obj) (rest:List Obj) (h:Heap) (hf:o.isFreed=false):(zN h (os++o::rest)).get? (h.objs.size+os.length)=some o:=by
 have e:zN h (os++o::rest)=zN ((zN h os).push o) rest:=by unfold zN;rw [List.foldl_append];rfl
 rw [e,<-zif]
 exact z9e rest (Heap.get?_push_size _ hf)
section
open PySem.SeqAt
open PySem.AutoSeq1 (wpAny_loadPart')
end
end L2
namespace L2
open PySem PySem.Spec PyProof.Rows
section
open PySem.SeqAt
open PySem.AutoSeq1 (wpAny_loadPart')
theorem zlv (it l:Addr) (items:Array Value) (i n:Nat) (dd:Option Addr) (sl:Array (Option Value)) (hx:items[i]?=none) :
  Meets (Builtin.«list_iterator.__next__» ⟨[.ref it],[]⟩) (fun A R s=>s.heap.get? it=some (z0d l i)/\s.heap.get? l=some { cls:=.type "list",dict:=dd,data:=.seq items n,slots:=sl }/\A.in1.handled=none /\
   ∀h' e,(∀c o,c≠it->s.heap.get? c=some o->h'.get? c=some o)->(∃o,h'.get? e=some o/\o.cls=.type "StopIteration")->R (.error (.ref e)) { s with heap:=h' }):=
 .of_wp fun prog w A R s h=>by
  obtain ⟨hp,g,dr,tk,os⟩:=s;obtain ⟨hl,hd,hh,h⟩:=h
  unfold z0d at hl
  have hat:items[((i:Nat):Int).toNat]?=none:=by simpa using hx
  wp_walk using wpAny_loadPart' hl,wpAny_loadPart' hd
  rw [hat]
  wp_walk using wpAny_loadPart' hl,wpAny_loadPart' hd
  unfold raiseNew
  refine wpAny_bind (wpAny_handled ?_)
  rw [hh]
  refine wpAny_bind (wpAny_pure (wpAny_throw (h _ _ (fun c o hc e=>?_) ⟨_,Heap.get?_push_size _ rfl,rfl⟩)))
  refine Heap.get?_push_of_some _ (Heap.get?_push_of_some _ ?_)
  rw [Heap.get?_update_ne _ _ _ _ hc]
  exact e
theorem zlw {it l:Addr} {items:Array Value} {i:Nat} {A:Around} {s:Shared} (hh:A.handled=none) (hit:s.heap.get? it=some (z0d l i)) (hl:s.heap.IsList l items) (hx:items[i]?=none):zib it A s:=fun prog w E Q q=>by
 obtain ⟨⟨cl,dd,da,sl⟩,ho,hc,n,hd⟩:=hl
 simp only at hc hd
 subst hc hd
 unfold Builtin.SmallTypes.nextOf
 exact wpAny_bind (wpAny_callSpecial?_slot (name:=Str.ofString "__next__") ⟨_,hit,rfl⟩ slot_listiter_next (call_meets slot_listiter_next ⟨_,hit,rfl⟩ entry_listiter_next (args_listiter_next _) (zlv it l items i n dd sl hx) ⟨hit,ho,hh,q⟩))
end
section
variable {hp:Heap} {z TI TO i1 i2 l1 l2:Addr} {a b x y:Value} {k:Nat}
theorem zr5 (D:ZipApart z TI TO i1 i2 l1 l2) (hz:hp.get? z=some (z32 TI TO .none)) (hTO:hp.get? TO=some (z05 a b)) (h1:hp.get? i1=some (z0d l1 k)) (h2:hp.get? i2=some (z03 l2 k)) :
  (zHF hp z TO i1 i2 x y (up1 k) (up1 k)).get? z=some (z32 TI TO (rawInt hp.objs.size))/\(zHF hp z TO i1 i2 x y (up1 k) (up1 k)).get? TO=some (z05 x y)/\(zHF hp z TO i1 i2 x y (up1 k) (up1 k)).get? hp.objs.size=some (z05 x y) /\
  (zHF hp z TO i1 i2 x y (up1 k) (up1 k)).get? i1=some (z0d l1 (k+1))/\(zHF hp z TO i1 i2 x y (up1 k) (up1 k)).get? i2=some (z03 l2 (k+1)) /\
  ∀c o,c≠z->c≠TO->c≠i1->c≠i2->hp.get? c=some o->(zHF hp z TO i1 i2 x y (up1 k) (up1 k)).get? c=some o:=by
 have z1:(zH1 hp z).get? z=some (z32 TI TO .ellipsis):=by unfold zH1;rw [Heap.get?_update_self _ hz rfl];rfl
 have zn:∀{c},c≠z->(zH1 hp z).get? c=hp.get? c:=fun n=>z0g n
 have t2:((zH1 hp z).update i1 (up1 k)).get? TO=some (z05 a b):=by rw [z0g D.TOi1,zn D.TOz];exact hTO
 have t3:(((zH1 hp z).update i1 (up1 k)).update TO (Obj.mapSeq (·.setIfInBounds 0 x))).get? TO=some (z05 x b):=by rw [Heap.get?_update_self _ t2 rfl];rfl
 have i2':(((zH1 hp z).update i1 (up1 k)).update TO (Obj.mapSeq (·.setIfInBounds 0 x))).get? i2=some (z03 l2 k):=by rw [z0g D.TOi2.symm,z0g D.i12.symm,zn D.i2z];exact h2
 have u2:(zH4 hp z TO i1 i2 x (up1 k) (up1 k)).get? i2=some (z03 l2 (k+1)):=by
  unfold zH4;rw [Heap.get?_update_self _ i2' rfl];simp [z03,Obj.mapFields,rawInt]
 have u1:(zH4 hp z TO i1 i2 x (up1 k) (up1 k)).get? i1=some (z0d l1 (k+1)):=by
  unfold zH4
  rw [z0g D.i12,z0g D.TOi1.symm,Heap.get?_update_self _ (show (zH1 hp z).get? i1=some (z0d l1 k) by rw [zn D.i1z];exact h1) rfl]
  simp [z0d,Obj.mapFields,rawInt]
 have u3:(zH4 hp z TO i1 i2 x (up1 k) (up1 k)).get? TO=some (z05 x b):=by unfold zH4;rw [z0g D.TOi2];exact t3
 have u4:(zH4 hp z TO i1 i2 x (up1 k) (up1 k)).get? z=some (z32 TI TO .ellipsis):=by unfold zH4;rw [z0g D.i2z.symm,z0g D.TOz.symm,z0g D.i1z.symm];exact z1
 have u5:∀c o,c≠z->c≠TO->c≠i1->c≠i2->hp.get? c=some o->(zH4 hp z TO i1 i2 x (up1 k) (up1 k)).get? c=some o:=fun c o c1 c2 c3 c4 e=>by
  unfold zH4;rw [z0g c4,z0g c2,z0g c3,zn c1];exact e
 have sz:((zH4 hp z TO i1 i2 x (up1 k) (up1 k)).update TO (Obj.mapSeq (·.setIfInBounds 1 y))).objs.size=hp.objs.size:=by
  unfold zH4 zH1;rw [Heap.size_update,Heap.size_update,Heap.size_update,Heap.size_update,Heap.size_update]
 have nz:hp.objs.size≠z:=Nat.ne_of_gt (Heap.lt_size hz)
 exact zwp D u1 u2 u3 u4 u5 sz nz
end
section
variable {prog:Program} {w:World} {A:Around} {E:Value->Shared->Prop} {s:Shared} {z TI TO i1 i2 l1 l2:Addr} {a b x y:Value} {k:Nat} {xs ys:Array Value}
theorem zig {Q:Option Value->Shared->Prop} (D:ZipApart z TI TO i1 i2 l1 l2) (hz:s.heap.get? z=some (z32 TI TO .none)) (hTI:s.heap.get? TI=some (z05 (.ref i1) (.ref i2))) (hTO:s.heap.get? TO=some (z05 a b))
  (h1:s.heap.get? i1=some (z0d l1 k)) (h2:s.heap.get? i2=some (z03 l2 k)) (hl1:s.heap.IsList l1 xs) (hl2:s.heap.IsTuple l2 ys) (hx:xs[k]?=some x) (hy:ys[k]?=some y)
  (hQ:Q (some (.ref s.heap.objs.size)) { s with heap:=zHF s.heap z TO i1 i2 x y (up1 k) (up1 k) }):wpAny (model prog w) A (pyNext (.ref z)) Q E s:=by
 have hT:s.TypeIs (.ref z) "zip":=⟨_,hz,rfl⟩
 have k1:∀{c o},c≠z->s.heap.get? c=some o->(zH1 s.heap z).get? c=some o:=fun n e=>by unfold zH1;rw [z0g n];exact e
 have g1:zb2 i1 x (up1 k) A.in1 { s with heap:=zH1 s.heap z }:=zie (k1 D.i1z h1) (let ⟨o,ho,r⟩:=hl1;⟨o,k1 D.l1z ho,r⟩) hx
 have k3:∀{c o},c≠z->c≠i1->c≠TO->s.heap.get? c=some o->(((zH1 s.heap z).update i1 (up1 k)).update TO (Obj.mapSeq (·.setIfInBounds 0 x))).get? c=some o:=fun n1 n2 n3 e=>by rw [z0g n3,z0g n2];exact k1 n1 e
 have g2:zb2 i2 y (up1 k) A.in1 { s with heap:=((zH1 s.heap z).update i1 (up1 k)).update TO (Obj.mapSeq (·.setIfInBounds 0 x)) }:=z76 (k3 D.i2z D.i12.symm D.TOi2.symm h2) (let ⟨o,ho,r⟩:=hl2;⟨o,k3 D.l2z D.l2i1 D.l2TO ho,r⟩) hy
 unfold pyNext
 exact wpAny_bind (wpAny_attempt (wpAny_callSpecial?_slot (name:=Str.ofString "__next__") hT F.slot_zip_next
  (call_meets F.slot_zip_next hT F.entry_zip_next (F.args_zip_next_1 _) (zb3 z TI TO i1 i2 a b x y (up1 k) (up1 k) D.TOz D.TOi1 D.TOi2 D.i1z D.i2z) ⟨hz,hTI,hTO,g1,g2,wpAny_pure hQ⟩)))
theorem zlx {Q:Option Value->Shared->Prop} (hh:A.handled=none) (D:ZipApart z TI TO i1 i2 l1 l2) (hz:s.heap.get? z=some (z32 TI TO .none)) (hTI:s.heap.get? TI=some (z05 (.ref i1) (.ref i2))) (hTO:s.heap.get? TO=some (z05 a b))
  (h1:s.heap.get? i1=some (z0d l1 k)) (hl1:s.heap.IsList l1 xs) (hx:xs[k]?=none) (hQ:∀h',(∀c o,c≠z->c≠i1->s.heap.get? c=some o->h'.get? c=some o)->Q none { s with heap:=h' }):wpAny (model prog w) A (pyNext (.ref z)) Q E s:=by
 have hT:s.TypeIs (.ref z) "zip":=⟨_,hz,rfl⟩
 have k1:∀{c o},c≠z->s.heap.get? c=some o->(zH1 s.heap z).get? c=some o:=fun n e=>by unfold zH1;rw [z0g n];exact e
 have g1:zib i1 A.in1 { s with heap:=zH1 s.heap z }:=zlw hh (k1 D.i1z h1) (let ⟨o,ho,r⟩:=hl1;⟨o,k1 D.l1z ho,r⟩) hx
 unfold pyNext
 refine wpAny_bind (wpAny_attempt (wpAny_callSpecial?_slot (name:=Str.ofString "__next__") hT F.slot_zip_next
  (call_meets F.slot_zip_next hT F.entry_zip_next (F.args_zip_next_1 _) (ze8 z TI TO i1 i2 a b D.i1z) ⟨hz,hTI,hTO,g1,fun h' e kp he=>?_⟩)))
 obtain ⟨o,ho,hc⟩:=he
 exact wpAny_bind (wpAny_isInstance (T:="StopIteration") (b:=true) ⟨o,ho,hc⟩ isSubtype_stop (wpAny_pure (hQ h' kp)))
end
theorem zf8 {P:Program} {w:World} {K:Frag} {elts:List Expr} {k:Nat} {pos:Pos} {z TI TO i1 i2 l1 l2:Addr} {xs ys:List V} (D:ZipApart z TI TO i1 i2 l1 l2) (hlen:xs.length=ys.length) :
  Turn P w K (.Tuple elts k pos) (ItP (fun H=>Rd H l1 (.lst xs)/\Rd H l2 (.tup ys)) (xs.zip ys)) [z,TI,TO,i1,i2] z
   (fun i h=>h.get? z=some (z32 TI TO .none)/\h.get? TI=some (z05 (.ref i1) (.ref i2))/\(∃a b,h.get? TO=some (z05 a b))/\h.get? i1=some (z0d l1 i)/\h.get? i2=some (z03 l2 i)) where
 mem:=by simp
 obj:=fun i h ⟨hz,hTI,⟨a,b,hTO⟩,h1,h2⟩ c hc=>by
  have hc':c=z\/c=TI\/c=TO\/c=i1\/c=i2:=by simpa using hc
  rcases hc' with rfl | rfl | rfl | rfl | rfl
  . exact ⟨_,hz,fun v e=>by cases e⟩
  . exact ⟨_,hTI,fun v e=>by cases e⟩
  . exact ⟨_,hTO,fun v e=>by cases e⟩
  . exact ⟨_,h1,fun v e=>by cases e⟩
  . exact ⟨_,h2,fun v e=>by cases e⟩
 keep:=fun i h h' ⟨hz,hTI,⟨a,b,hTO⟩,h1,h2⟩ kp=>⟨kp z (by simp) _ hz,kp TI (by simp) _ hTI,⟨a,b,kp TO (by simp) _ hTO⟩,kp i1 (by simp) _ h1,kp i2 (by simp) _ h2⟩
 item:=by
  intro X hP hw hK hc i pins s U H E I hf st hg
  subst hP hw hK
  obtain ⟨⟨hS1,hS2⟩,hlt⟩:=hg
  obtain ⟨hz,hTI,⟨a0,b0,hTO⟩,h1,h2⟩:=st
  obtain ⟨its1,r1,p1,z1⟩:=I.list (.inl hS1)
  obtain ⟨its2,r2,p2,z2⟩:=I.tuple (.inl hS2)
  have le1:=r1.length
  have le2:=r2.length
  rw [List.length_zip] at hlt
  obtain ⟨a,ea⟩:∃a,xs[i]?=some a:=⟨xs[i]'(by lia),by simp⟩
  obtain ⟨b,eb⟩:∃b,ys[i]?=some b:=⟨ys[i]'(by lia),by simp⟩
  obtain ⟨x,q1,ru1⟩:=r1.get ea
  obtain ⟨y,q2,ru2⟩:=r2.get eb
  obtain ⟨f1,f2,f3,f4,f5,f6⟩:=zr5 (x:=x) (y:=y) D hz hTO h1 h2
  refine zig D hz hTI hTO h1 h2 p1.isList p2 (by simpa using q1) (by simpa using q2) ⟨.ref s.heap.objs.size,rfl,?_⟩
  generalize zHF s.heap z TO i1 i2 x y (up1 i) (up1 i)=HF at f1 f2 f3 f4 f5 f6
  refine wpAny_letOwnedTupleGo_zip (TI:=TI) (TO:=TO) f1 fun h' hz' hs'=>?_
  have nT:∀{c o},s.heap.get? c=some o->s.heap.objs.size≠c:=fun e=>Nat.ne_of_gt (Heap.lt_size e)
  have up:∀{c o},c≠z->HF.get? c=some o->h'.get? c=some o:=fun n e=>hs'.extBut _ _ n e
  have ht:IsTp h' s.heap.objs.size ([x,y]:List Value).toArray:=.mk' (up (nT hz) f3)
  have sub:∀c∈[z,TO,i1,i2],z8b X pins H c:=fun c hc'=>hf c (by
   have:c=z\/c=TO\/c=i1\/c=i2:=by simpa using hc'
   rcases this with rfl | rfl | rfl | rfl<;>simp)
  have I2:=I.turnedT (tk:=s.toks) (h':=h') (xs:=[a,b]) (its:=[x,y]) sub (fun c o hcw e=>by
   have hc':c≠z/\c≠TO/\c≠i1/\c≠i2:=by simpa using hcw
   exact up hc'.1 (f6 c o hc'.1 hc'.2.1 hc'.2.2.1 hc'.2.2.2 e)) (Nat.le_refl _) ht (.cons ru1 (.cons ru2 .nil)) zdg
  have HT:H s.heap.objs.size=none:=I.hok.fresh (Nat.le_refl _)
  refine ⟨.ref s.heap.objs.size,upd H s.heap.objs.size (.tup [a,b]),I2,rfl,⟨s.heap.objs.size,a,b,rfl,HT,rfl,?_⟩,⟨hz',up D.TIz (f6 _ _ D.TIz D.TITO D.TIi1 D.TIi2 hTI),⟨x,y,up D.TOz f2⟩,up D.i1z f4,up D.i2z f5⟩,fun c hc'=>?_⟩
  . rw [List.getElem?_zip_eq_some];exact ⟨ea,eb⟩
  . rw [z0a]
    . exact (hf c hc').1
    . intro e
      have hc'':c=z\/c=TI\/c=TO\/c=i1\/c=i2:=by simpa using hc'
      rcases hc'' with q | q | q | q | q<;>rw [q] at e
      . exact nT hz e.symm
      . exact nT hTI e.symm
      . exact nT hTO e.symm
      . exact nT h1 e.symm
      . exact nT h2 e.symm
 done:=by
  intro X hP hw hK hc i pins s U H E I hf st hg
  subst hP hw hK
  obtain ⟨⟨hS1,hS2⟩,hle⟩:=hg
  obtain ⟨hz,hTI,⟨a0,b0,hTO⟩,h1,h2⟩:=st
  obtain ⟨its1,r1,p1,z1⟩:=I.list (.inl hS1)
  have le1:=r1.length
  rw [List.length_zip] at hle
  have sub:∀c∈[z,i1],z8b X pins H c:=fun c hc'=>hf c (by
   have:c=z\/c=i1:=by simpa using hc'
   rcases this with rfl | rfl<;>simp)
  refine zlx (I.ok.hd hc) D hz hTI hTO h1 p1.isList (by simp;lia) fun h' kp=>⟨rfl,?_⟩
  exact I.turnedN (tk:=s.toks) sub fun c o hcw e=>by
   have hc':c≠z/\c≠i1:=by simpa using hcw
   exact kp c o hc'.1 hc'.2 e
 self:=fun A i s Q E st h=>wpAny_pyIter_zip (TI:=TI) (TO:=TO) (f0:=.none) st.1 h
noncomputable def y34 (n:Nat) (l1 l2:Addr):List Obj:=[z0d l1 0,z03 l2 0,z05 (.ref n) (.ref (n+1)),z05 .none .none,z32 (n+2) (n+3) .none]
section
open PySem.SeqAt
open PySem.AutoSeq1 (wpAny_loadPart')
theorem zih (l1 l2:Addr) (xs ys:Array Value) :
  Meets (Builtin.«zip.__new__» ⟨[.type "zip",.ref l1,.ref l2],[]⟩) (fun _ R s=>s.heap.IsList l1 xs/\s.heap.IsTuple l2 ys/\R (.ok (.ret (.ref (s.heap.objs.size+4)))) { s with heap:=zN s.heap (y34 s.heap.objs.size l1 l2) }):=
 .of_wp fun prog w A R s h=>by
  obtain ⟨hp,g,dr,tk,os⟩:=s;obtain ⟨q1,q2,h⟩:=h
  have f0:=sub_zip
  have a1:Heap.IsList (Shared.heap ⟨hp,g,dr,tk,os⟩) l1 xs:=q1
  have a2:Heap.IsTuple (Shared.heap ⟨hp.push { cls:=.type "list_iterator",data:=.fields #[.ref l1,.int 0 0] },g,dr,tk,os⟩) l2 ys:=Heap.IsTuple.push q2 _
  wp_walk using wpAny_pyIter_list a1,wpAny_pyIter_tuple a2
  refine ⟨_,rfl,?_⟩
  have s1:(hp.push (z0d l1 0)).objs.size=hp.objs.size+1:=Heap.size_push ..
  have s2:((hp.push (z0d l1 0)).push (z03 l2 0)).objs.size=hp.objs.size+2:=by rw [Heap.size_push,s1]
  have s3:(((hp.push (z0d l1 0)).push (z03 l2 0)).push (z05 (.ref hp.objs.size) (.ref (hp.push (z0d l1 0)).objs.size))).objs.size=hp.objs.size+3:=by rw [Heap.size_push,s2]
  have s4:((((hp.push (z0d l1 0)).push (z03 l2 0)).push (z05 (.ref hp.objs.size) (.ref (hp.push (z0d l1 0)).objs.size))).push (z05 .none .none)).objs.size=hp.objs.size+4:=by rw [Heap.size_push,s3]
  show R (.ok (.ret (.ref ((((hp.push (z0d l1 0)).push (z03 l2 0)).push (z05 (.ref hp.objs.size) (.ref (hp.push (z0d l1 0)).objs.size))).push (z05 .none .none)).objs.size))) { heap:=((((hp.push (z0d l1 0)).push (z03 l2 0)).push (z05 (.ref hp.objs.size) (.ref (hp.push (z0d l1 0)).objs.size))).push (z05 .none .none)).push (z32 ((hp.push (z0d l1 0)).push (z03 l2 0)).objs.size (((hp.push (z0d l1 0)).push (z03 l2 0)).push (z05 (.ref hp.objs.size) (.ref (hp.push (z0d l1 0)).objs.size))).objs.size .none),gens:=g,drawn:=dr,toks:=tk,os:=os }
  rw [s4,s3,s2,s1]
  exact h
end
noncomputable def zwq (ta:TA):TI:=fun U H R=>ta U H fun vs H1=>match vs with
 | [.ref l1,.ref l2]=>∃xs ys,Rd H1 l1 (.lst xs)/\Rd H1 l2 (.tup ys)/\xs.length=ys.length/\R (ItP (fun H=>Rd H l1 (.lst xs)/\Rd H l2 (.tup ys)) (xs.zip ys)) H1
 | _=>False
section
variable {X:Cx} {a b:Expr} {ta:TA} {p pos tpos:Pos} {elts:List Expr} {k:Nat}
theorem zly (hg:Gl X "zip") (hm:X.mg "zip"=none) (ha:PA X [a,b] ta) (hs:starEach [a,b] X.env=[(false,eval a X.env),(false,eval b X.env)]:=by rfl) (hs2:starEach [b] X.env=[(false,eval b X.env)]:=by rfl) :
  PI X (.Tuple elts k tpos) (.Call (.Name "zip" p) [a,b] [] pos) (zwq ta):=by
 intro pins s U H R I h
 refine Call_ (z3y I hg hm boot_zip (PyProof.Rows.callWith_type1 (thn (ha pos pins s U H _ I h) fun us s1 ⟨vs,H1,I1,r1,q1⟩=>?_) (by rw [hs,hs2]) (by rw [hs2];rfl)))
 dsimp only at q1
 split at q1
 . rename_i l1 l2
   obtain ⟨xs,ys,e1,e2,hlen,q⟩:=q1
   obtain ⟨u,w',rfl,ru,rw'⟩:=zoz r1
   cases ru;cases rw'
   obtain ⟨its1,rr1,p1,_⟩:=I1.list (.inl e1)
   obtain ⟨its2,rr2,p2,_⟩:=I1.tuple (.inl e2)
   have lt1:l1<s1.heap.objs.size:=by obtain ⟨o,ho,_⟩:=p1.isList;exact Heap.lt_size ho
   have lt2:l2<s1.heap.objs.size:=by obtain ⟨o,ho,_⟩:=p2;exact Heap.lt_size ho
   refine callType_new F.called_zip (by decide) (F.typeCall_zip_2 _ _) (F.newCall_zip_2 _ _) (fun obj=>F.args_object_init_3 obj _ _) F.entry_zip_new (zih l1 l2 its1.toArray its2.toArray) ⟨p1.isList,p2,?_⟩
   have g4:=z7m [z0d l1 0,z03 l2 0,z05 (.ref s1.heap.objs.size) (.ref (s1.heap.objs.size+1)),z05 .none .none] (z32 (s1.heap.objs.size+2) (s1.heap.objs.size+3) .none) [] s1.heap rfl
   have g3:=z7m [z0d l1 0,z03 l2 0,z05 (.ref s1.heap.objs.size) (.ref (s1.heap.objs.size+1))] (z05 .none .none) [z32 (s1.heap.objs.size+2) (s1.heap.objs.size+3) .none] s1.heap rfl
   have g2:=z7m [z0d l1 0,z03 l2 0] (z05 (.ref s1.heap.objs.size) (.ref (s1.heap.objs.size+1))) [z05 .none .none,z32 (s1.heap.objs.size+2) (s1.heap.objs.size+3) .none] s1.heap rfl
   have g1:=z7m [z0d l1 0] (z03 l2 0) [z05 (.ref s1.heap.objs.size) (.ref (s1.heap.objs.size+1)),z05 .none .none,z32 (s1.heap.objs.size+2) (s1.heap.objs.size+3) .none] s1.heap rfl
   have g0:=z7m [] (z0d l1 0) [z03 l2 0,z05 (.ref s1.heap.objs.size) (.ref (s1.heap.objs.size+1)),z05 .none .none,z32 (s1.heap.objs.size+2) (s1.heap.objs.size+3) .none] s1.heap rfl
   have kp:∀c o,s1.heap.get? c=some o->(zN s1.heap (y34 s1.heap.objs.size l1 l2)).get? c=some o:=fun c o e=>z9e _ e
   refine ⟨⟨_,g4,rfl⟩,?_⟩
   refine wpAny_pyIter_zip (TI:=s1.heap.objs.size+2) (TO:=s1.heap.objs.size+3) (f0:=.none) g4 ⟨s1.heap.objs.size+4,[s1.heap.objs.size+4,s1.heap.objs.size+2,s1.heap.objs.size+3,s1.heap.objs.size,s1.heap.objs.size+1],_,_,H1,rfl,I1.kept (t':=s1.toks) kp,zf8 (zaj lt1 lt2) hlen,⟨g4,g2,⟨_,_,g3⟩,g0,g1⟩,fun c hc=>?_,q⟩
   have hc':s1.heap.objs.size<=c:=by
    have:c=s1.heap.objs.size+4\/c=s1.heap.objs.size+2\/c=s1.heap.objs.size+3\/c=s1.heap.objs.size\/c=s1.heap.objs.size+1:=by simpa using hc
    rcases this with q | q | q | q | q<;>rw [q]<;>first | exact Nat.le_add_right _ _ | exact Nat.le_refl _
   exact I1.fpOk hc' (I1.hok.fresh hc')
 . exact q1.elim
end
noncomputable def zf9 (fs:DE->R (List D)):DE->R (List D):=fun ρ=>(fs ρ).bind fun ds=>R.of (match ds with
 | [.lst es,.tup gs]=>if es.length=gs.length then some ((es.zip gs).map fun p=>D.tup [p.1,p.2]) else none
 | _=>none)
theorem zwr {X:Cx} {EX:XW} {elts:List Expr} {k:Nat} {a b:Expr} {p pos tpos:Pos} {fs:DE->R (List D)} (hg:Gl X "zip") (hm:X.mg "zip"=none) (ha:QA X EX [a,b] fs) (hs:starEach [a,b] X.env=[(false,eval a X.env),(false,eval b X.env)]:=by rfl) (hs2:starEach [b] X.env=[(false,eval b X.env)]:=by rfl) :
  QI X EX false (.Tuple elts k tpos) (.Call (.Name "zip" p) [a,b] [] pos) (zf9 fs):=⟨(zly hg hm ha.h hs hs2).imp fun U H Q ⟨sx,ρ,H0,s,e,h⟩=>by
 unfold zf9 at h
 rw [Rk.bind] at h
 refine TAd.go sx s e h fun ds h vs H1 H1' s1 e1 r1=>?_
 obtain ⟨es,hd,h⟩:=h.of
 split at hd<;>first | cases hd | skip
 split at hd<;>cases hd
 rename_i hl0
 obtain ⟨x,y,rfl,q1,q2⟩:=r1.duo
 obtain ⟨l,xs,rfl,hl,rl⟩:=q1.lst
 obtain ⟨l',ys,rfl,hl',rl'⟩:=q2.tup
 exact ⟨xs,ys,.inl (e1.2.1 _ _ hl),.inl (e1.2.1 _ _ hl'),by rw [<-rl.length,<-rl'.length];exact hl0,h _ H1 H1' s1 e1 (zdq (fun H s=>⟨.inl (s _ _ hl),.inl (s _ _ hl')⟩) rl rl')⟩⟩
end L2
namespace L2
open PySem PySem.Spec PyProof.Rows
def y1b (i j:Int):Prop:=0<j/\j.natAbs<2 ^ 9000
noncomputable instance (i j:Int):Decidable (y1b i j):=Classical.propDecidable _
noncomputable def z1w (d:Addr):Obj:={ cls:=.type "dict_items",data:=.fields #[.ref d] }
noncomputable def z0q (f0:Value) (d:Addr) (i n ep:Nat) (ok ov:Value):Obj:={ cls:=.type "dict_itemiterator",data:=.fields #[f0,.bool false,.ref d,.int i 0,.int n 0,.int ep 0,ok,ov] }
noncomputable def itH (hp:Heap) (it:Addr) (i:Nat) (k v:Value):Heap:=
 (((((hp.update it (Obj.mapFields (·.setIfInBounds (2+1) (rawInt ((i:Int)+1))))).push (z05 k v)).update it (Obj.mapFields (·.setIfInBounds 6 k))).update it (Obj.mapFields (·.setIfInBounds (6+1) v))).update it (Obj.mapFields (·.setIfInBounds 0 (rawInt hp.objs.size)))).update it (Obj.mapFields (·.setIfInBounds 1 (.bool false)))
theorem zws {hp:Heap} {it d:Addr} {i n ep:Nat} {ok ov k v:Value} (hl:hp.get? it=some (z0q .none d i n ep ok ov)) :
  (itH hp it i k v).get? it=some (z0q (rawInt hp.objs.size) d (i+1) n ep k v)/\(itH hp it i k v).get? hp.objs.size=some (z05 k v)/\∀c o,c≠it->hp.get? c=some o->(itH hp it i k v).get? c=some o:=by
 have e1:(hp.update it (Obj.mapFields (·.setIfInBounds (2+1) (rawInt ((i:Int)+1))))).get? it=some (z0q .none d (i+1) n ep ok ov):=by
  rw [Heap.get?_update_self _ hl rfl]
  simp [z0q,Obj.mapFields,rawInt]
 have s1:(hp.update it (Obj.mapFields (·.setIfInBounds (2+1) (rawInt ((i:Int)+1))))).objs.size=hp.objs.size:=Heap.size_update ..
 have k1:∀c o,c≠it->hp.get? c=some o->(hp.update it (Obj.mapFields (·.setIfInBounds (2+1) (rawInt ((i:Int)+1))))).get? c=some o:=fun c o n e=>by rw [z0g n];exact e
 have ne:hp.objs.size≠it:=Nat.ne_of_gt (Heap.lt_size hl)
 unfold itH
 generalize hp.update it (Obj.mapFields (·.setIfInBounds (2+1) (rawInt ((i:Int)+1))))=H1 at *
 have e2:(H1.push (z05 k v)).get? it=some (z0q .none d (i+1) n ep ok ov):=Heap.get?_push_of_some _ e1
 have t2:(H1.push (z05 k v)).get? hp.objs.size=some (z05 k v):=by rw [<-s1];exact Heap.get?_push_size _ rfl
 have e3:((H1.push (z05 k v)).update it (Obj.mapFields (·.setIfInBounds 6 k))).get? it=some (z0q .none d (i+1) n ep k ov):=by rw [Heap.get?_update_self _ e2 rfl];rfl
 have e4:(((H1.push (z05 k v)).update it (Obj.mapFields (·.setIfInBounds 6 k))).update it (Obj.mapFields (·.setIfInBounds (6+1) v))).get? it=some (z0q .none d (i+1) n ep k v):=by rw [Heap.get?_update_self _ e3 rfl];rfl
 have e5:((((H1.push (z05 k v)).update it (Obj.mapFields (·.setIfInBounds 6 k))).update it (Obj.mapFields (·.setIfInBounds (6+1) v))).update it (Obj.mapFields (·.setIfInBounds 0 (rawInt hp.objs.size)))).get? it=some (z0q (rawInt hp.objs.size) d (i+1) n ep k v):=by rw [Heap.get?_update_self _ e4 rfl];rfl
 refine ⟨by rw [Heap.get?_update_self _ e5 rfl];rfl,by rw [z0g ne,z0g ne,z0g ne,z0g ne];exact t2,fun c o n e=>?_⟩
 rw [z0g n,z0g n,z0g n,z0g n]
 exact Heap.get?_push_of_some _ (k1 c o n e)
section
open PySem.SeqAt
open PySem.AutoSeq1 (wpAny_loadPart')
theorem zr6 (d:Addr) (es:Array DictEntry) (ep:Nat) (hd:(d==sysModules)=false) :
  Meets (Builtin.«dict.items» ⟨[.ref d],[]⟩) (fun _ R s=>s.heap.get? d=some (z31 es ep)/\R (.ok (.ret (.ref s.heap.objs.size))) { s with heap:=s.heap.push (z1w d) }):=
 .of_wp fun prog w A R s h=>by
  obtain ⟨hp,g,dr,tk,os⟩:=s;obtain ⟨hl,h⟩:=h
  unfold z31 at hl
  wp_walk using wpAny_loadPart' hl
  exact ⟨_,rfl,h⟩
theorem zlz (v d:Addr) (es:Array DictEntry) (ep:Nat) :
  Meets (Builtin.«dict_items.__iter__» ⟨[.ref v],[]⟩) (fun _ R s=>s.heap.get? v=some (z1w d)/\s.heap.get? d=some (z31 es ep)/\R (.ok (.ret (.ref s.heap.objs.size))) { s with heap:=s.heap.push (z0q .none d 0 es.size ep .none .none) }):=
 .of_wp fun prog w A R s h=>by
  obtain ⟨hp,g,dr,tk,os⟩:=s;obtain ⟨hl,hd,h⟩:=h
  unfold z31 at hd
  unfold z1w at hl
  wp_walk using wpAny_loadPart' hl,wpAny_loadPart' hd
  exact ⟨_,rfl,h⟩
theorem zm0 (it d:Addr) (es:Array DictEntry) (ep i:Nat) (ok ov:Value) (hi:i<es.size) :
  Meets (Builtin.«dict_itemiterator.__next__» ⟨[.ref it],[]⟩) (fun _ R s=>s.heap.get? it=some (z0q .none d i es.size ep ok ov)/\s.heap.get? d=some (z31 es ep) /\
   R (.ok (.ret (.ref s.heap.objs.size))) { s with heap:=itH s.heap it i es[i].key es[i].val }):=
 .of_wp fun prog w A R s h=>by
  obtain ⟨hp,g,dr,tk,os⟩:=s;obtain ⟨hl,hd,h⟩:=h
  unfold z31 at hd
  unfold z0q at hl
  have hsz:(((es.size:Int) != (es.size:Int))=true)=False:=by simp
  have hep:(((ep:Int) != (ep:Int))=true)=False:=by simp
  have hat:(if (i:Int)<0 then none else es[((i:Nat):Int).toNat]?)=some es[i]:=by rw [if_neg (by lia)];simp [hi]
  wp_walk using wpAny_loadPart' hl,wpAny_loadPart' hd
  rw [hat]
  wp_walk using wpAny_loadPart' hl,wpAny_loadPart' hd
  have hown:Builtin.Dict_items.ownsTuple ((Manifest.find? "dict_itemiterator").elim "dict_itemiterator" fun x=>x.tpName)=true:=by decide +kernel
  refine ⟨_,rfl,?_⟩
  rw [if_pos hown,if_neg (by decide +kernel),Heap.size_update]
  exact h
theorem zr7 (it d:Addr) (es:Array DictEntry) (ep i:Nat) (ok ov:Value) (hi:es.size<=i) :
  Meets (Builtin.«dict_itemiterator.__next__» ⟨[.ref it],[]⟩) (fun A R s=>s.heap.get? it=some (z0q .none d i es.size ep ok ov)/\s.heap.get? d=some (z31 es ep)/\A.in1.handled=none /\
   ∀h' e,(∀c o,c≠it->s.heap.get? c=some o->h'.get? c=some o)->(∃o,h'.get? e=some o/\o.cls=.type "StopIteration")->R (.error (.ref e)) { s with heap:=h' }):=
 .of_wp fun prog w A R s h=>by
  obtain ⟨hp,g,dr,tk,os⟩:=s;obtain ⟨hl,hd,hh,h⟩:=h
  unfold z31 at hd
  unfold z0q at hl
  have hsz:(((es.size:Int) != (es.size:Int))=true)=False:=by simp
  have hep:(((ep:Int) != (ep:Int))=true)=False:=by simp
  have hat:(if (i:Int)<0 then none else es[((i:Nat):Int).toNat]?)=none:=by rw [if_neg (by omega)];simp [hi]
  wp_walk using wpAny_loadPart' hl,wpAny_loadPart' hd
  rw [hat]
  wp_walk using wpAny_loadPart' hl,wpAny_loadPart' hd
  unfold raiseNew
  refine wpAny_bind (wpAny_handled ?_)
  rw [hh]
  refine wpAny_bind (wpAny_pure (wpAny_throw (h _ _ (fun c o hc e=>?_) ⟨_,Heap.get?_push_size _ rfl,rfl⟩)))
  refine Heap.get?_push_of_some _ (Heap.get?_push_of_some _ ?_)
  rw [Heap.get?_update_ne _ _ _ _ hc]
  exact e
end
end L2
namespace L2
open PySem PySem.Spec PyProof.Rows
section
variable {prog:Program} {w:World} {A:Around} {E:Value->Shared->Prop} {s:Shared} {d it v:Addr} {es:Array DictEntry} {ep i:Nat} {ok ov:Value}
theorem zb4:entryFor table "dict_itemiterator.__iter__"=some Builtin.«dict_keyiterator.__iter__»:=entryFor_alias (id':="dict_keyiterator.__iter__") (by kernel_rfl) rfl (by decide +kernel) (by kernel_rfl)
theorem zfa {Q:Value->Shared->Prop} (hit:s.heap.get? it=some (z0q .none d i es.size ep ok ov)) (h:Q (.ref it) s):wpAny (model prog w) A (pyIter (.ref it)) Q E s:=by
 refine wpAny_pyIter_slot ⟨_,hit,rfl⟩ F.slot_dict_itemiterator_iter (wpAny_call_entry F.slot_dict_itemiterator_iter ⟨_,hit,rfl⟩ zb4 ?_ (F.args_dict_itemiterator_iter_1 _))
 show wpAny _ _ (ret (.ref it)) _ _ s
 exact wpAny_pure ⟨_,rfl,"dict_itemiterator",_,⟨_,hit,rfl⟩,F.slot_dict_itemiterator_next.lookup,h⟩
theorem zfb {Q:Value->Shared->Prop} (hv:s.heap.get? v=some (z1w d)) (hm:s.heap.get? d=some (z31 es ep)) (hQ:Q (.ref s.heap.objs.size) { s with heap:=s.heap.push (z0q .none d 0 es.size ep .none .none) }) :
  wpAny (model prog w) A (pyIter (.ref v)) Q E s:=
 wpAny_pyIter_slot ⟨_,hv,rfl⟩ F.slot_dict_items_iter (call_meets F.slot_dict_items_iter ⟨_,hv,rfl⟩ F.entry_dict_items_iter (F.args_dict_items_iter_1 _) (zlz v d es ep)
  ⟨hv,hm,⟨"dict_itemiterator",_,⟨_,Heap.get?_push_size _ rfl,rfl⟩,F.slot_dict_itemiterator_next.lookup,hQ⟩⟩)
theorem zfc {Q:Option Value->Shared->Prop} (hit:s.heap.get? it=some (z0q .none d i es.size ep ok ov)) (hm:s.heap.get? d=some (z31 es ep)) (hi:i<es.size)
  (hQ:Q (some (.ref s.heap.objs.size)) { s with heap:=itH s.heap it i es[i].key es[i].val }):wpAny (model prog w) A (pyNext (.ref it)) Q E s:=by
 unfold pyNext
 exact wpAny_bind (wpAny_attempt (wpAny_callSpecial?_slot (name:=Str.ofString "__next__") ⟨_,hit,rfl⟩ F.slot_dict_itemiterator_next
  (call_meets F.slot_dict_itemiterator_next ⟨_,hit,rfl⟩ F.entry_dict_itemiterator_next (F.args_dict_itemiterator_next_1 _) (zm0 it d es ep i ok ov hi) ⟨hit,hm,wpAny_pure hQ⟩)))
theorem zii {Q:Option Value->Shared->Prop} (hh:A.handled=none) (hit:s.heap.get? it=some (z0q .none d i es.size ep ok ov)) (hm:s.heap.get? d=some (z31 es ep)) (hi:es.size<=i)
  (hQ:∀h',(∀c o,c≠it->s.heap.get? c=some o->h'.get? c=some o)->Q none { s with heap:=h' }):wpAny (model prog w) A (pyNext (.ref it)) Q E s:=by
 unfold pyNext
 refine wpAny_bind (wpAny_attempt (wpAny_callSpecial?_slot (name:=Str.ofString "__next__") ⟨_,hit,rfl⟩ F.slot_dict_itemiterator_next
  (call_meets F.slot_dict_itemiterator_next ⟨_,hit,rfl⟩ F.entry_dict_itemiterator_next (F.args_dict_itemiterator_next_1 _) (zr7 it d es ep i ok ov hi) ⟨hit,hm,hh,fun h' e kp he=>?_⟩)))
 obtain ⟨o,ho,hc⟩:=he
 exact wpAny_bind (wpAny_isInstance (T:="StopIteration") (b:=true) ⟨o,ho,hc⟩ isSubtype_stop (wpAny_pure (hQ h' kp)))
end
theorem ze9 {X:Cx} {pins:List (Addr×Obj)} {U:St} {H:Hp} {s:Shared} (I:Inv X pins U H s) {a:Addr} {qs:List (NK×Addr)} {xs:List V} {ob:Obj} (e:H a=some (.ext (dnP a qs xs ob))) (n:DN H a qs) :
  ∃vs es ep,ob=z31 es ep/\s.heap.get? a=some (z31 es ep)/\Vals xs vs/\qs.length=vs.length/\es.toList=(z3 qs vs).map dnE:=by
 obtain ⟨g0,vs,p1,p2,o,es,ep,d1,d2,d3,d4,_⟩:=z4h I e n
 rw [g0] at d1;cases d1
 have eo:ob=z31 es ep:=by
  obtain ⟨cl,di,da,sl⟩:=ob
  obtain ⟨q1,q2,q3⟩:=d2
  simp only at q1 q2 q3 d3
  subst q1 q2 q3 d3
  rfl
 exact ⟨vs,es,ep,eo,by rw [g0,eo],p1,p2,d4⟩
theorem zea {es es':Array DictEntry} {ep ep':Nat} (h:z31 es ep=z31 es' ep'):es=es'/\ep=ep':=by
 unfold z31 at h
 injection h with _ _ h
 injection h with h1 h2
 exact ⟨h1,h2⟩
theorem zfd {P:Program} {w:World} {K:Frag} {elts:List Expr} {k:Nat} {pos:Pos} {it d:Addr} {qs:List (NK×Addr)} {ys:List V} {es:Array DictEntry} {ep:Nat} (hl:qs.length=ys.length) (hes:es.size=qs.length) :
  Turn P w K (.Tuple elts k pos) (ItP (fun H=>H d=some (.ext (dnP d qs ys (z31 es ep)))/\DN H d qs) ((qs.map fun q=>V.ref q.2).zip ys)) [it] it
   (fun i h=>∃ok ov,h.get? it=some (z0q .none d i es.size ep ok ov)) where
 mem:=by simp
 obj:=fun i h ⟨ok,ov,hz⟩ c hc=>by
  have hc':c=it:=by simpa using hc
  subst hc';exact ⟨_,hz,fun v e=>by cases e⟩
 keep:=fun i h h' ⟨ok,ov,hz⟩ kp=>⟨ok,ov,kp it (by simp) _ hz⟩
 item:=by
  intro X hP hw hK hc i pins s U H E I hf st hg
  subst hP hw hK
  obtain ⟨⟨hS,n⟩,hlt⟩:=hg
  obtain ⟨ok,ov,hz⟩:=st
  obtain ⟨vs,es',ep',eo,ed,p1,p2,d4⟩:=ze9 I hS n
  obtain ⟨rfl,rfl⟩:=zea eo
  rw [List.length_zip,List.length_map] at hlt
  have hi:i<es.size:=by lia
  have hiq:i<qs.length:=by lia
  obtain ⟨y,ey⟩:∃y,ys[i]?=some y:=⟨ys[i]'(by lia),by simp⟩
  obtain ⟨u,hu,ru⟩:=p1.get ey
  have hz3:(z3 qs vs)[i]?=some (qs[i].1,qs[i].2,u):=by
   unfold z3
   have hzz:(qs.zip vs)[i]?=some (qs[i],u):=List.getElem?_zip_eq_some.mpr ⟨List.getElem?_eq_getElem hiq,hu⟩
   rw [List.getElem?_map,hzz];rfl
  have he:es[i]=dnE (qs[i].1,qs[i].2,u):=by
   have h1:es.toList[i]?=some (dnE (qs[i].1,qs[i].2,u)):=by rw [d4,List.getElem?_map,hz3];rfl
   rw [Array.getElem?_toList,Array.getElem?_eq_getElem hi] at h1
   exact Option.some.inj h1
  obtain ⟨f1,f2,f3⟩:=zws (k:=es[i].key) (v:=es[i].val) hz
  refine zfc hz ed hi ⟨.ref s.heap.objs.size,rfl,?_⟩
  generalize itH s.heap it i es[i].key es[i].val=HF at f1 f2 f3
  rw [he] at f1 f2
  refine wpAny_letOwnedTupleGo_items f1 fun h' hz' hs'=>?_
  have nT:s.heap.objs.size≠it:=Nat.ne_of_gt (Heap.lt_size hz)
  have up:∀{c o},c≠it->HF.get? c=some o->h'.get? c=some o:=fun n e=>hs'.extBut _ _ n e
  have ht:IsTp h' s.heap.objs.size ([Value.ref qs[i].2,u]:List Value).toArray:=.mk' (up nT f2)
  have sub:∀c∈[it],z8b X pins H c:=hf
  have I2:=I.turnedT (tk:=s.toks) (h':=h') (xs:=[V.ref qs[i].2,y]) (its:=[Value.ref qs[i].2,u]) sub (fun c o hcw e=>by
   have hc':c≠it:=by simpa using hcw
   exact up hc' (f3 c o hc' e)) (Nat.le_refl _) ht (.cons rfl (.cons ru .nil)) zdg
  have HT:H s.heap.objs.size=none:=I.hok.fresh (Nat.le_refl _)
  refine ⟨.ref s.heap.objs.size,upd H s.heap.objs.size (.tup [V.ref qs[i].2,y]),I2,rfl,⟨s.heap.objs.size,_,_,rfl,HT,rfl,?_⟩,⟨_,_,hz'⟩,fun c hc'=>?_⟩
  . rw [List.getElem?_zip_eq_some]
    exact ⟨by rw [List.getElem?_map,List.getElem?_eq_getElem hiq];rfl,ey⟩
  . rw [z0a]
    . exact (hf c hc').1
    . intro e
      have hc'':c=it:=by simpa using hc'
      rw [hc''] at e
      exact nT e.symm
 done:=by
  intro X hP hw hK hc i pins s U H E I hf st hg
  subst hP hw hK
  obtain ⟨⟨hS,n⟩,hle⟩:=hg
  obtain ⟨ok,ov,hz⟩:=st
  obtain ⟨vs,es',ep',eo,ed,p1,p2,d4⟩:=ze9 I hS n
  obtain ⟨rfl,rfl⟩:=zea eo
  rw [List.length_zip,List.length_map] at hle
  refine zii (I.ok.hd hc) hz ed (by lia) fun h' kp=>⟨rfl,?_⟩
  exact I.turnedN (tk:=s.toks) (wr:=[it]) hf fun c o hcw e=>kp c o (by simpa using hcw) e
 self:=fun A i s Q E ⟨ok,ov,st⟩ h=>zfa st h
noncomputable def zwt (td:TE):TI:=fun U H R=>td U H fun x H1=>∃(a:Addr) (qs:List (NK×Addr)) (ys:List V) (ob:Obj),x=.ref a/\H1 a=some (.ext (dnP a qs ys ob))/\DN H1 a qs/\qs.length=ys.length /\
 R (ItP (fun H=>H a=some (.ext (dnP a qs ys ob))/\DN H a qs) ((qs.map fun q=>V.ref q.2).zip ys)) H1
section
variable {X:Cx} {o:Expr} {td:TE} {apos cpos tpos:Pos} {elts:List Expr} {k:Nat}
theorem zm1 (ho:PE X o td) (hbase:attributeBase o "items" X.env (eval o X.env)=eval o X.env:=by rfl) (hline:(apos.endLine==cpos.line)=true:=by rfl) :
  PI X (.Tuple elts k tpos) (.Call (.Attribute o "items" apos) [] [] cpos) (zwt td):=by
 intro pins s U H R I h
 refine wpAny_Call_method0_late hbase hline (thn (ho pins s U H _ I h) fun u s1 ⟨x,H1,I1,r1,a,qs,ys,ob,ex,e,n,hlq,q⟩=>?_)
 subst ex
 cases r1
 obtain ⟨vs,es,ep,rfl,ed,p1,p2,d4⟩:=ze9 I1 e n
 have hsz:es.size=qs.length:=by rw [<-Array.length_toList,d4,List.length_map,z7y qs vs p2]
 refine ⟨"dict","dict.items",PySem.F.plainAttrs_dict,PySem.F.slot_dict_items,PySem.F.type_dict_items,⟨_,ed,rfl⟩,fun b eb=>?_,Calls.callWith_builtin rfl (PySem.evalArgs_none ?_)⟩
 . cases eb;exact ⟨_,ed,rfl⟩
 . refine call_meets F.slot_dict_items ⟨_,ed,rfl⟩ F.entry_dict_items (F.args_dict_items_1 _) (zr6 a es ep n.2.2.1) ⟨ed,?_⟩
   have kp:∀c o,s1.heap.get? c=some o->(s1.heap.push (z1w a)).get? c=some o:=fun c o e=>Heap.get?_push_of_some _ e
   refine zfb (s:={ s1 with heap:=s1.heap.push (z1w a) }) (Heap.get?_push_size _ rfl) (kp _ _ ed) ?_
   have I2:Inv X pins U H1 { s1 with heap:=s1.heap.push (z1w a) }:=I1.kept (t':=s1.toks) kp
   have kp2:∀c o,(s1.heap.push (z1w a)).get? c=some o->((s1.heap.push (z1w a)).push (z0q .none a 0 es.size ep .none .none)).get? c=some o:=fun c o e=>Heap.get?_push_of_some _ e
   have I3:=I2.kept (t':=s1.toks) kp2
   refine ⟨(s1.heap.push (z1w a)).objs.size,[(s1.heap.push (z1w a)).objs.size],_,_,H1,rfl,I3,zfd hlq hsz,⟨_,_,Heap.get?_push_size _ rfl⟩,fun c hc=>?_,q⟩
   have hc':c=(s1.heap.push (z1w a)).objs.size:=by simpa using hc
   rw [hc']
   exact I2.fpOk (Nat.le_refl _) (I2.hok.fresh (Nat.le_refl _))
end
noncomputable def zr8 (f:DE->R D):DE->R (List D):=fun ρ=>(f ρ).bind fun d=>match d with
 | .dn ks ds=>if ks.length=ds.length then .ok ((ks.zip ds).map fun p=>D.tup [z50 p.1,p.2]) else .st
 | _=>.st
theorem zij {K:Frag} {H0:Hp}:∀{qs:List (NK×Addr)},(∀q∈qs,NKr H0 q.1 (.ref q.2))->RDs K H0 (qs.map fun q=>z50 q.1) (qs.map fun q=>V.ref q.2)
 | [],_=>.nil
 | q::qs,h=>.cons (zwo (h q (by simp))) (zij fun p hp=>h p (by simp [hp]))
theorem zr9 {X:Cx} {EX:XW} {elts:List Expr} {k:Nat} {o:Expr} {apos cpos tpos:Pos} {f:DE->R D} (ho:QE X EX false o f) (hbase:attributeBase o "items" X.env (eval o X.env)=eval o X.env:=by rfl) (hline:(apos.endLine==cpos.line)=true:=by rfl) :
  QI X EX false (.Tuple elts k tpos) (.Call (.Attribute o "items" apos) [] [] cpos) (zr8 f):=⟨(zm1 ho.h hbase hline).imp fun U H Q ⟨sx,ρ,H0,s,e,h⟩=>by
 unfold zr8 at h
 rw [Rk.bind] at h
 refine TEd.go sx s e h fun d h v H1 H1' s1 e1 r1=>?_
 split at h
 . rename_i ks ds
   split at h
   . rename_i hl
     simp only [RD] at r1
     obtain ⟨a,qs,ys,ob,rfl,h1,hk,n,ra⟩:=r1
     have mono:∀b zs,H1' b=some (.tup zs)->H1 b=some (.tup zs):=fun b zs q=>e1.2.1 _ _ q
     have hq:qs.length=ys.length:=by rw [<-ra.length,<-hl,<-hk,List.length_map]
     refine ⟨a,qs,ys,ob,rfl,e1.2.1 _ _ h1,n.tk mono,hq,h _ H1 H1' s1 e1 ?_⟩
     rw [show (ks.zip ds).map (fun p=>D.tup [z50 p.1,p.2])=((qs.map fun q=>z50 q.1).zip ds).map fun p=>D.tup [p.1,p.2] by
      rw [<-hk,List.zip_map_left,List.zip_map_left,List.map_map,List.map_map];rfl]
     exact zdq (fun H s=>⟨s _ _ h1,n.tk fun b zs q=>s _ _ q⟩) (zij fun q hq=>(n.2.1 q hq).1) ra
   . exact h.elim
 . exact h.elim⟩
noncomputable def valN {α:Type} (ks:List NK) (xs:List α) (k:NK):Option α:=((ks.zip xs).find? fun p=>decide (p.1=k)).map (·.2)
theorem zeb {k:NK} {z:V} {u:Value} (rz:RelV z u):∀{qs:List (NK×Addr)} {xs:List V} {vs:List Value},Vals xs vs->qs.length=vs.length->RelV ((valN (qs.map (·.1)) xs k).getD z) (((atKey (z3 qs vs) k).map (·.2)).getD u)
 | [],xs,vs,r,hl=>by
  have:vs=[]:=List.eq_nil_of_length_eq_zero (by simpa using hl.symm)
  subst this
  exact rz
 | q::qs,_,_,.nil,hl=>by simp at hl
 | q::qs,_,_,.cons (a:=x) (b:=v) (l₁:=xs) (l₂:=vs) r rr,hl=>by
  have ih:=zeb (k:=k) rz (qs:=qs) rr (by simpa using hl)
  by_cases h:q.1=k
  . have e1:valN ((q::qs).map (·.1)) (x::xs) k=some x:=by
     unfold valN
     rw [List.map_cons,List.zip_cons_cons,List.find?_cons_of_pos (by simpa using h)];rfl
    have e2:atKey (z3 (q::qs) (v::vs)) k=some (q.2,v):=by
     show ((z3 (q::qs) (v::vs)).find? fun x=>decide (x.1=k)).map (·.2)=_
     unfold z3
     rw [List.zip_cons_cons,List.map_cons,List.find?_cons_of_pos (by simpa using h)];rfl
    rw [e1,e2];exact r
  . have e1:valN ((q::qs).map (·.1)) (x::xs) k=valN (qs.map (·.1)) xs k:=by
     unfold valN
     rw [List.map_cons,List.zip_cons_cons,List.find?_cons_of_neg (by simpa using h)]
    have e2:atKey (z3 (q::qs) (v::vs)) k=atKey (z3 qs vs) k:=by
     show ((z3 (q::qs) (v::vs)).find? fun x=>decide (x.1=k)).map (·.2)=((z3 qs vs).find? fun x=>decide (x.1=k)).map (·.2)
     unfold z3
     rw [List.zip_cons_cons,List.map_cons,List.find?_cons_of_neg (by simpa using h)]
    rw [e1,e2];exact ih
noncomputable def zwu (td ty tx:TE):TE:=fun U H Q=>td U H fun x H1=>∃(a:Addr) (qs:List (NK×Addr)) (xs:List V) (ob:Obj),x=.ref a/\H1 a=some (.ext (dnP a qs xs ob))/\DN H1 a qs/\ty U H1 fun y H2=>tx U H2 fun z H3=>
 ∃(k:NK) (b:Addr),y=.ref b/\H3 a=some (.ext (dnP a qs xs ob))/\DN H3 a qs/\NKr H3 k (.ref b)/\k.dep<=8/\Q ((valN (qs.map (·.1)) xs k).getD z) H3
section
variable {X:Cx} {o e f:Expr} {td ty tx:TE} {apos cpos:Pos}
theorem zra (hu:X.A.units+64<cLine) (ho:PE X o td) (he:PE X e ty) (hf:PE X f tx) (m:M2 X o "get" apos e f cpos):PE X (.Call (.Attribute o "get" apos) [e,f] [] cpos) (zwu td ty tx):=by
 intro pins s U H Q I h
 refine wpAny_Call_method m.base m.few m.line PySem.F.plainAttrs_dict PySem.F.slot_dict_get PySem.F.type_dict_get (thn (ho pins s U H _ I h) fun u s1 ⟨x,H1,I1,rx,a,qs,xs,ob,ex,e1,n1,q1⟩=>?_)
 subst ex
 obtain rfl:u=Value.ref a:=rx
 obtain ⟨_,es,ep,_,ed,_⟩:=ze9 I1 e1 n1
 refine ⟨⟨_,ed,rfl⟩,fun b eb=>?_,?_⟩
 . cases eb;exact ⟨_,ed,rfl⟩
 rw [m.trees]
 refine Calls.callWith_builtin rfl (Calls.evalArgs_plain (Calls.spliced_cons (thn (he pins s1 U H1 _ I1 q1) fun iv s2 ⟨y,H2,I2,ry,q2⟩=>
  Calls.spliced_cons (thn (hf pins s2 U H2 _ I2 q2) fun fv s3 ⟨z,H3,I3,rz,k,b,ey,e3,n3,hk,hd,q3⟩=>Calls.spliced_nil ?_))))
 subst ey
 cases ry
 obtain ⟨_,vs,p1,p2,dd⟩:=z4h I3 e3 n3
 exact call_meetsIn PySem.F.slot_dict_get dd.typeIs PySem.F.entry_dict_get (PySem.F.args_dict_get_3 _ _ _) (meetsH_dict_get_default (deepKind X.prog X.w) a b n3.2.2.1 fv)
  ⟨by show X.A.units+1+8<cLine;lia,k,z3 qs vs,⟨zkw I3 hk rfl,hd⟩,dd,_,H3,I3.tok _,zeb (qs:=qs) rz p1 p2,q3⟩
end
noncomputable def dGetN:D->D->D->Option D
 | .dn ks ds,.tup es,z=>match nkD (.tup es) with
  | some k=>if k.dep<=8 then some ((valN ks ds k).getD z) else none
  | none=>none
 | _,_,_=>none
noncomputable def eGetN (fd fk fz:DE->R D):DE->R D:=fun ρ=>(fd ρ).bind fun d=>match d with
 | .dn ks ds=>(fk ρ).bind fun k=>(fz ρ).bind fun z=>R.of (dGetN (.dn ks ds) k z)
 | _=>.st
theorem zik {K:Frag} {H:Hp} {k:NK} {z:D} {zv:V} (rz:RD K H z zv):∀{ks:List NK} {ds:List D} {xs:List V},RDs K H ds xs->RD K H ((valN ks ds k).getD z) ((valN ks xs k).getD zv)
 | [],ds,xs,r=>by
  unfold valN;rw [List.zip_nil_left,List.zip_nil_left];exact rz
 | k'::ks,[],xs,r=>by
  simp only [RDs] at r;subst r
  exact rz
 | k'::ks,d::ds,xs,r=>by
  simp only [RDs] at r
  obtain ⟨x,r',rfl,r1,r2⟩:=r
  by_cases h:k'=k
  . have e1:∀{α:Type} (a:α) (as:List α),valN (k'::ks) (a::as) k=some a:=fun a as=>by
     unfold valN
     rw [List.zip_cons_cons,List.find?_cons_of_pos (by simpa using h)];rfl
    rw [e1,e1];exact r1
  . have e1:∀{α:Type} (a:α) (as:List α),valN (k'::ks) (a::as) k=valN ks as k:=fun a as=>by
     unfold valN
     rw [List.zip_cons_cons,List.find?_cons_of_neg (by simpa using h)]
    rw [e1,e1];exact zik rz r2
section
variable {X:Cx} {EX:XW} {U:St} {H:Hp} {Q:VK}
theorem zwv {K:Frag} {fd fk fz:DE->R D} (h:TEd K EX false (eGetN fd fk fz) U H Q):zwu (TEd K EX false fd) (TEd K EX false fk) (TEd K EX false fz) U H Q:=by
 obtain ⟨sx,ρ,H0,s,e,h⟩:=h
 unfold eGetN at h
 rw [Rk.bind] at h
 refine TEd.go sx s e h fun d h v H1 H1' s1 e1 r1=>?_
 cases d<;>first | (exact h.elim) | skip
 rename_i ks ds
 simp only at h
 have r1':=r1
 simp only [RD] at r1
 obtain ⟨a,qs,xs,ob,rfl,h1,hk,n,ra⟩:=r1
 refine ⟨a,qs,xs,ob,rfl,e1.2.1 _ _ h1,n.tk fun b zs q=>e1.2.1 _ _ q,?_⟩
 rw [Rk.bind] at h
 refine TEd.go (sx.trans s1) e1.2.1 (e.mono e1.1) h fun d2 h v2 H2 H2' s2 e2 r2=>?_
 rw [Rk.bind] at h
 refine TEd.go ((sx.trans s1).trans s2) e2.2.1 (e.mono (e1.1.trans e2.1)) h fun d3 h v3 H3 H3' s3 e3 r3=>?_
 obtain ⟨w,hw,h⟩:=h.of
 cases d2<;>simp only [dGetN] at hw<;>first | (cases hw;done) | skip
 rename_i es
 split at hw<;>first | (cases hw;done) | skip
 rename_i kk hkk
 split at hw<;>first | (cases hw;done) | skip
 rename_i hd
 cases hw
 have nk:=zi6 hkk r2
 obtain ⟨b,ys,rfl,hb,rb⟩:=r2.tup
 refine ⟨kk,b,rfl,e3.2.1 _ _ (e3.1 _ _ (e2.1 _ _ h1)),n.tk fun b zs q=>e3.2.1 _ _ (e3.1 _ _ (e2.1 _ _ q)),NKr.mono (fun b zs q=>e3.2.1 _ _ (e3.1 _ _ q)) nk,hd,h _ H3 ?_⟩
 refine .val ((s1.trans s2).trans s3) ((e1.trans s1 e2).trans (s1.trans s2) e3) ?_
 rw [hk]
 exact zik r3 (ra.mono (e2.1.trans e3.1))
variable {o e f:Expr} {apos cpos:Pos} {fd fk fz:DE->R D}
theorem zns (hu:X.A.units+64<cLine) (ho:QE X EX false o fd) (he:QE X EX false e fk) (hf:QE X EX false f fz) (m:M2 X o "get" apos e f cpos:=by exact ⟨rfl,rfl,rfl,rfl⟩):QE X EX false (.Call (.Attribute o "get" apos) [e,f] [] cpos) (eGetN fd fk fz):=
 ⟨(zra hu ho.h he.h hf.h m).imp fun _ _ _ q=>zwv q⟩
end
def Keep (h h':Heap):Prop:=∀b o,h.get? b=some o->h'.get? b=some o
theorem Keep.trans {a b c:Heap} (x:Keep a b) (y:Keep b c):Keep a c:=fun q o e=>y q o (x q o e)
theorem Keep.tuple {h h':Heap} (x:Keep h h') {a:Addr} {its:Array Value} (t:h.IsTuple a its):h'.IsTuple a its:=let ⟨o,e,c⟩:=t;⟨o,x a o e,c⟩
theorem Keep.list {h h':Heap} (x:Keep h h') {a:Addr} {its:Array Value} (t:h.IsList a its):h'.IsList a its:=let ⟨o,e,c⟩:=t;⟨o,x a o e,c⟩
section
open HT
open PySem.SeqAt
open PySem.AutoSeq1 (wpAny_loadPart')
open PySem.MeetsSeq PySem.MeetsSeq2 PySem.MeetsSeq3
end
end L2
namespace L2
open PySem PySem.Spec PyProof.Rows
structure FnAt (K:Frag) (x:Str) (st:Stmt) (f:Addr):Prop where
 ns:PySem.W.nsIn K mainGlobals x=some (some (.ref f))
 fn:∃fd,Fun K x x st f fd
section
variable {P:Program} {w:World} {K:Frag} {mg:Str->Option Value} {base h:Heap} {x:Str} {st:Stmt} {f:Addr} {ps:List Str} {k:Nat} {sp:Sp}
theorem fat {oc:Value} {od an:Option Addr} {osl:Array (Option Value)} {kV doc pm cdv ct:Value} (a:PySem.W.nsIn K mainGlobals x=some (some (.ref f))) (l:K.lookup f=some ⟨oc,od,.func (PySem.W.fnOf x x (z36 st) (z1t st) (z04 st) .none kV doc pm an cdv ct),osl⟩)
 (c:codeIn K cdv x=true) (k:keepIn K (.ref f)=true):FnAt K x st f:=⟨a,_,zt5 l c k⟩
theorem y1c {us:List Value} (h:us.length=1):∃a,us=[a]:=match us,h with | [a],_=>⟨a,rfl⟩
theorem y1d {us:List Value} (h:us.length=2):∃a b,us=[a,b]:=match us,h with | [a,b],_=>⟨a,b,rfl⟩
theorem y1e {us:List Value} (h:us.length=3):∃a b c,us=[a,b,c]:=match us,h with | [a,b,c],_=>⟨a,b,c,rfl⟩
theorem y1f {us:List Value} (h:us.length=4):∃a b c d,us=[a,b,c,d]:=match us,h with | [a,b,c,d],_=>⟨a,b,c,d,rfl⟩
theorem got (X:K.In h) (G:h.Ns mainGlobals mg) (A:FnAt K x st f) (ok:∀{fd},Fun K x x st f fd->FnOk P w K mg base (CX1 P w) k f fd ps sp)
  (hb:∀(kV doc pm:Value) (an:Option Addr) (cdv ct:Value) (us:List Value),us.length=ps.length->bindArgs (PySem.W.fnOf x x (z36 st) (z1t st) (z04 st) .none kV doc pm an cdv ct) ⟨us,[]⟩=pure (ps.zip us):=by
   intro _ _ _ _ _ _ us hl
   first | (obtain ⟨_,rfl⟩:=y1c hl;rfl) | (obtain ⟨_,_,rfl⟩:=y1d hl;rfl) | (obtain ⟨_,_,_,rfl⟩:=y1e hl;rfl) | (obtain ⟨_,_,_,_,rfl⟩:=y1f hl;rfl)):z6a P w K mg base x ps k sp:=by
 obtain ⟨fd,F⟩:=A.fn
 exact ⟨f,fd,ok F,F.binds hb,PySem.W.mg_of X G A.ns,F.kp⟩
theorem zww {fa:Addr} {z:Str} (X:K.In h) (G:h.Ns mainGlobals mg) (hfa:mg x=some (.ref fa)) (A:FnAt K x st f) (hb:∀(s:Shared) (v kV doc pm:Value) (an:Option Addr) (cdv ct:Value),BindsTo s (PySem.W.fnOf x x (z36 st) (z1t st) (z04 st) .none kV doc pm an cdv ct) ⟨[v],[]⟩ [(z,v)])
  (ok:∀base:Heap,K.In base->base.Ns mainGlobals mg->∀{fd},Fun K x x st f fd->FnOk P w K mg base (CX1 P w) k f fd ps sp) :
  ∃fd:FuncData,(∀(s:Shared) (v:Value),BindsTo s fd ⟨[v],[]⟩ [(z,v)])/\∀base:Heap,K.In base->base.Ns mainGlobals mg->FnOk P w K mg base (CX1 P w) k fa fd ps sp:=by
 have e:=hfa.symm.trans (PySem.W.mg_of X G A.ns)
 cases e
 obtain ⟨fd,F⟩:=A.fn
 have F':=F
 obtain ⟨oc,od,kV,doc,pm,an,cdv,ct,osl,rfl,lk,hcd⟩:=F'.ex
 exact ⟨_,fun s v=>hb s v _ _ _ _ _ _,fun base kb nb=>ok base kb nb F⟩
theorem fsc {N ps:List Str} {sc:Scope} (a:sc.kind=.function:=by rfl) (b:sc.isCoroutine=false:=by rfl) (c:sc.isGenerator=false:=by rfl) (d:N.Nodup:=by decide +kernel) (e:N.take ps.length=ps:=by rfl)
 (f:∀x∈ps,sc.names.lookup x=some .local\/sc.names.lookup x=some .cell:=by decide +kernel) (g:∀y∈sc.names,y.2≠.free:=by decide +kernel):FnScope N ps sc:=⟨a,b,c,d,e,f,g⟩
end
section
variable {X:Cx} {EX:XW} {fr fr':Bool} {a b e:Expr} {f g:DE->R D} {pos p:Pos} {m:List Bool} {j:Nat}
theorem qI (hr:Room j X.A) (ha:QE X EX false a f) (hb:QE X EX false b g) (hs:zbr b:=by exact fun _ _=>rfl):QE X EX false (.Subscript a b pos) (eOp dIx f g):=y3n (y3m hr.units) y09 ha hb hs
theorem qL (hm:X.mg "len"=none) (ha:QE X EX false e f) (hg:Gl X "len":=by rfl) (he:starEach [e] X.env=(false,eval e X.env)::starEach [] X.env:=by rfl) (hpl:(backTo pos (starEach [] X.env)).any (·.1)=false:=by rfl) :
 QE X EX false (.Call (.Name "len" p) [e] [] pos) (eCB zaq (z01 f z09)):=zq1 zub zuc hg hm PySem.boot_len (z00 ha z06 he) (he:=he) (hpl:=hpl)
theorem sA (i:Nat) {x:Str} {pos':Pos} (hN:X.N.Nodup) (he:QE X EX fr' e f) (hi:X.N[i]?=some x:=by rfl) (hx:Loc X.env.scope x:=by first | exact .inl rfl | exact .inr rfl) (hs:swapsWith e (some (.Name x pos')) pos.line X.env=pure false:=by rfl) (hf:X.fn x=true\/X.env.scope.names.lookup x=some .local:=by first | exact .inl rfl | exact .inr rfl | assumption) :
 QS X EX fr (.Assign [.Name x pos'] e pos) (z2p fr' i m f):=y0h hN hi hx he hs hf
theorem tE (hr:Room j X.A) (ha:QE X EX false a f) (hb:QE X EX false b g) (hm:behindInMarks .Eq b=false):QT X EX (.Compare a [.Eq] [b] pos) (z4s asB (eOp dEq f g)):=z8u (zu2 hr.units) zu3 ha hb hm
theorem tN (hr:Room j X.A) (ha:QE X EX false a f) (hb:QE X EX false b g) (hm:behindInMarks .NotEq b=false):QT X EX (.Compare a [.NotEq] [b] pos) (z4s asB (eOp dNe f g)):=z8u (y02 hr.units) y03 ha hb hm
end
end L2
set_option maxHeartbeats 1000000
namespace L2
open PySem PySem.Spec PyProof.Rows
noncomputable def znt (ds:List D) (d:D):Option D:=if pls ds=true/\d.pl=true/\z4a ds<=20 then some (.int ((ds.countP (fun e=>eqD e d):Nat):Int)) else none
def zm2 (K:Frag) (tp:Bool):V->List V->Hp->VK->Prop:=fun x vs H Q=>∃(l:Addr) (xs:List V) (ds:List D) (y:V) (d:D),x=.ref l/\vs=[y]/\H l=some (if tp=true then .tup xs else .lst xs)/\RDs K H ds xs/\RD K H d y/\pls ds=true/\d.pl=true/\z4a ds<=20/\Q (.int ((ds.countP (fun e=>eqD e d):Nat):Int)) H
theorem zci {K:Frag} {H:Hp} {d:D}:∀{ds:List D} {xs:List V} {its:List Value},pls ds=true->RDs K H ds xs->Vals xs its->its.countP (hitD K H d)=ds.countP (fun e=>eqD e d)
 | [],_,_,_,h,r=>by simp only [RDs] at h;subst h;cases r;rfl
 | e::ds,_,_,p,h,r=>by
  simp only [RDs] at h
  obtain ⟨x,xs,rfl,h1,h2⟩:=h
  cases r with
  | cons r1 r2=>
   have pe:e.pl=true/\pls ds=true:=by simpa [pls] using p
   rw [List.countP_cons,List.countP_cons,zci pe.2 h2 r2,zby pe.1 r1 h1]
theorem zrb {X:Cx} (hu:X.A.units+64<cLine):MtM X "list.count" (zm2 X.K false):=by
 intro pins s U H x vs v us Q I rx rv h
 obtain ⟨l,xs,ds,y,d,rfl,rfl,hH,rds,rd,pl,pd,hd,q⟩:=h
 cases rx
 obtain ⟨u,rfl,ru⟩:=rv.one
 obtain ⟨z,its,n,r,hl,e⟩:=I.lstM hH
 refine call_meets F.slot_list_count ⟨_,e,rfl⟩ F.entry_list_count (F.args_list_count_2 _ _)
  (SeqAt.list_countAt l its.toArray n none #[] u (hitD X.K H d)) ⟨e,fun y hy=>z6t (A:=X.A) I (by omega) pd rd ru pl rds r hd y (by simpa using hy),?_⟩
 rw [show its.toArray.toList.countP (hitD X.K H d)=ds.countP (fun e=>eqD e d) from zci pl rds r]
 exact ⟨.int _,H,I.tok _,⟨_,rfl⟩,q⟩
theorem zrc {X:Cx} (hu:X.A.units+64<cLine):MtM X "tuple.count" (zm2 X.K true):=by
 intro pins s U H x vs v us Q I rx rv h
 obtain ⟨l,xs,ds,y,d,rfl,rfl,hH,rds,rd,pl,pd,hd,q⟩:=h
 cases rx
 obtain ⟨u,rfl,ru⟩:=rv.one
 obtain ⟨_,its,r,o,e,hc,⟨n,hdat⟩,_⟩:=(show ObjOk X.prog X.w H s.heap l (.tup xs) from I.hok l _ hH)
 obtain ⟨cls,dct,dat,sl⟩:=o
 dsimp only at hc hdat
 subst hc hdat
 refine call_meets F.slot_tuple_count ⟨_,e,rfl⟩ F.entry_tuple_count (F.args_tuple_count_2 _ _)
  (SeqAt.tuple_countAt l its.toArray n dct sl u (hitD X.K H d)) ⟨e,fun y hy=>z6t (A:=X.A) I (by omega) pd rd ru pl rds r hd y (by simpa using hy),?_⟩
 rw [show its.toArray.toList.countP (hitD X.K H d)=ds.countP (fun e=>eqD e d) from zci pl rds r]
 exact ⟨.int _,H,I.tok _,⟨_,rfl⟩,q⟩
noncomputable def tTM (r:V->List V->Hp->VK->Prop) (to:TE) (t:TA):TE:=fun U H Q=>to U H fun x H1=>(∃a xs,x=.ref a/\H1 a=some (.tup xs))/\t U H1 fun xs H2=>r x xs H2 Q
theorem y1g {X:Cx} {o e:Expr} {es:List Expr} {to:TE} {t:TA} {name:Str} {apos cpos:Pos} {id:String} {r:V->List V->Hp->VK->Prop} (slot:Slot "tuple" name id) (hty:typeOf (.builtin id)=pure (.type "method_descriptor")) (hm:MtM X id r) (ho:PE X o to) (ha:PA X (e::es) t)
  (hbase:attributeBase o name X.env (eval o X.env)=eval o X.env:=by rfl)
  (hfew:((backTo cpos (starEach (e::es) X.env)).all (fun x=>!x.1)&&(backToKw cpos (keywordEach [] X.env)).all (fun x=>x.1.isSome)
   && decide ((e::es).length+([]:List Keyword).length+(if ([]:List Keyword).isEmpty then 0 else 1)<30))=true:=by rfl)
  (hline:(apos.endLine==cpos.line)=true:=by rfl) (hs:starEach (e::es) X.env=(false,eval e X.env)::starEach es X.env:=by rfl) (hplain:(backTo cpos (starEach es X.env)).any (·.1)=false:=by rfl) :
  PE X (.Call (.Attribute o name apos) (e::es) [] cpos) (tTM r to t):=by
 intro pins s U H Q I h
 refine wpAny_Call_method_late hbase hfew hline rfl (thn (ho pins s U H _ I h) fun v s1 ⟨x,H1,I1,r1,ty,q1⟩=>?_)
 obtain ⟨a,xs,rfl,hH⟩:=ty
 cases r1
 obtain ⟨_,its,_,ob,e1,hc,_,hd⟩:=(show ObjOk X.prog X.w H1 s1.heap a (.tup xs) from I1.hok a _ hH)
 refine ⟨"tuple",id,PySem.F.plainAttrs_tuple,slot,hty,⟨ob,e1,hc⟩,fun b z=>by cases z;exact ⟨ob,e1,hd⟩,?_⟩
 have hA:=ha cpos pins s1 U H1 _ I1 q1
 rw [hs] at hA ⊢
 refine Calls.callWith_builtin (by show (false||(backTo cpos (starEach es X.env)).any (·.1))=false;rw [hplain]<;>rfl) (Calls.evalArgs_plain ?_)
 exact thn hA fun us s2 ⟨vs,H2,I2,r2,q2⟩=>hm pins s2 U H2 (.ref a) vs (.ref a) us Q I2 rfl r2 q2
noncomputable def z9f (fa fb:DE->R D):DE->R D:=fun ρ=>(fa ρ).bind fun x=>match x with
 | .lst ds=>(fb ρ).bind fun y=>R.of (znt ds y)
 | _=>.st
noncomputable def z9g (fa fb:DE->R D):DE->R D:=fun ρ=>(fa ρ).bind fun x=>match x with
 | .tup ds=>(fb ρ).bind fun y=>R.of (znt ds y)
 | _=>.st
section
variable {X:Cx} {EX:XW} {U:St} {H:Hp} {Q:VK}
theorem zwx {K:Frag} {fa fb:DE->R D} (h:TEd K EX false (z9f fa fb) U H Q):tBM K "list" (zm2 K false) (TEd K EX false fa) (z67 (TEd K EX false fb) zp1) U H Q:=by
 obtain ⟨sx,ρ,H0,s,e,h⟩:=h
 unfold z9f at h
 rw [Rk.bind] at h
 refine TEd.go sx s e h fun d h v H1 H1' s1 e1 r1=>?_
 cases d<;>first | (exact h.elim) | skip
 rename_i ds
 simp only at h
 obtain ⟨a,xs,rfl,ha,rs⟩:=r1.lst
 refine ⟨.inl ⟨rfl,xs,.of (e1.2.1 _ _ ha)⟩,?_⟩
 rw [Rk.bind] at h
 refine TEd.go (sx.trans s1) e1.2.1 (e.mono e1.1) h fun d2 h v2 H2 H2' s2 e2 r2=>?_
 obtain ⟨z,hz,h⟩:=h.of
 simp only [znt] at hz
 split at hz<;>first | (cases hz;done) | skip
 rename_i hc
 cases hz
 refine ⟨a,xs,ds,v2,d2,rfl,rfl,s2 _ _ (e1.2.1 _ _ ha),rs.mono (e2.1.trans e2.2.1),r2.mono e2.2.1,hc.1,hc.2.1,hc.2.2,h _ H2 ?_⟩
 exact .val (s1.trans s2) (e1.trans s1 e2) (.mkInt _)
theorem zwy {K:Frag} {fa fb:DE->R D} (h:TEd K EX false (z9g fa fb) U H Q):tTM (zm2 K true) (TEd K EX false fa) (z67 (TEd K EX false fb) zp1) U H Q:=by
 obtain ⟨sx,ρ,H0,s,e,h⟩:=h
 unfold z9g at h
 rw [Rk.bind] at h
 refine TEd.go sx s e h fun d h v H1 H1' s1 e1 r1=>?_
 cases d<;>first | (exact h.elim) | skip
 rename_i ds
 simp only at h
 obtain ⟨a,xs,rfl,ha,rs⟩:=r1.tup
 refine ⟨⟨a,xs,rfl,e1.2.1 _ _ ha⟩,?_⟩
 rw [Rk.bind] at h
 refine TEd.go (sx.trans s1) e1.2.1 (e.mono e1.1) h fun d2 h v2 H2 H2' s2 e2 r2=>?_
 obtain ⟨z,hz,h⟩:=h.of
 simp only [znt] at hz
 split at hz<;>first | (cases hz;done) | skip
 rename_i hc
 cases hz
 refine ⟨a,xs,ds,v2,d2,rfl,rfl,s2 _ _ (e1.2.1 _ _ ha),rs.mono (e2.1.trans e2.2.1),r2.mono e2.2.1,hc.1,hc.2.1,hc.2.2,h _ H2 ?_⟩
 exact .val (s1.trans s2) (e1.trans s1 e2) (.mkInt _)
variable {o e:Expr} {apos cpos:Pos} {fa fb:DE->R D}
theorem zwz (hu:X.A.units+64<cLine) (ho:QE X EX false o fa) (ha:QE X EX false e fb) (hbase:attributeBase o "count" X.env (eval o X.env)=eval o X.env:=by rfl)
  (hfew:((backTo cpos (starEach [e] X.env)).all (fun x=>!x.1)&&(backToKw cpos (keywordEach [] X.env)).all (fun x=>x.1.isSome)
   && decide ([e].length+([]:List Keyword).length+(if ([]:List Keyword).isEmpty then 0 else 1)<30))=true:=by rfl)
  (hline:(apos.endLine==cpos.line)=true:=by rfl) (hs:starEach [e] X.env=(false,eval e X.env)::starEach [] X.env:=by rfl) (hplain:(backTo cpos (starEach [] X.env)).any (·.1)=false:=by rfl) :
  QE X EX false (.Call (.Attribute o "count" apos) [e] [] cpos) (z9f fa fb):=
 ⟨(zkh PySem.F.plainAttrs_list PySem.F.slot_list_count PySem.F.type_list_count (zrb hu) ho.h (z34 ha.h pa_nil hs) hbase hfew hline hs hplain).imp fun _ _ _ q=>zwx q⟩
theorem zx0 (hu:X.A.units+64<cLine) (ho:QE X EX false o fa) (ha:QE X EX false e fb) (hbase:attributeBase o "count" X.env (eval o X.env)=eval o X.env:=by rfl)
  (hfew:((backTo cpos (starEach [e] X.env)).all (fun x=>!x.1)&&(backToKw cpos (keywordEach [] X.env)).all (fun x=>x.1.isSome)
   && decide ([e].length+([]:List Keyword).length+(if ([]:List Keyword).isEmpty then 0 else 1)<30))=true:=by rfl)
  (hline:(apos.endLine==cpos.line)=true:=by rfl) (hs:starEach [e] X.env=(false,eval e X.env)::starEach [] X.env:=by rfl) (hplain:(backTo cpos (starEach [] X.env)).any (·.1)=false:=by rfl) :
  QE X EX false (.Call (.Attribute o "count" apos) [e] [] cpos) (z9g fa fb):=
 ⟨(y1g PySem.F.slot_tuple_count PySem.F.type_tuple_count (zrc hu) ho.h (z34 ha.h pa_nil hs) hbase hfew hline hs hplain).imp fun _ _ _ q=>zwy q⟩
end
abbrev Kp (is:List Nat) (U σ':St):Prop:=∀i∈is,σ'[i]?=U[i]?
noncomputable def zx1 (is:List Nat) (De:Ends) (U:St):Ends:={ De with nx:=fun σ' H'=>Kp is U σ'->De.nx σ' H',bk:=fun σ' H'=>Kp is U σ'->De.bk σ' H',ct:=fun σ' H'=>Kp is U σ'->De.ct σ' H' }
noncomputable def TSk (K:Frag) (EX:XW) (is:List Nat) (g:DS->SR):TS:=fun De U H=>TSd K EX false g (zx1 is De U) U H
structure QK (X:Cx) (EX:XW) (is:List Nat) (st:Stmt) (g:DS->SR):Prop where
 h:PS X st (TSk X.K EX is g)
structure QKB (X:Cx) (EX:XW) (is:List Nat) (sts:List Stmt) (g:DS->SR):Prop where
 h:PSs X sts (TSk X.K EX is g)
noncomputable def TGk (K:Frag) (is:List Nat) (tt:Tg):TG:=fun v U H Q=>TGd K tt v U H fun σ' H'=>Kp is U σ'->Q σ' H'
structure QGk (X:Cx) (is:List Nat) (tg:Expr) (tt:Tg):Prop where
 h:PG X tg (TGk X.K is tt)
theorem SK.mon {K:Frag} {EX:XW} {fr:Bool} {Hc Hb:Hp} {D1 D2:Ends} {r:SR} (h:SK K EX fr Hc Hb D1 r) (hn:∀U H,D1.nx U H->D2.nx U H) (hb:∀U H,D1.bk U H->D2.bk U H) (hc:∀U H,D1.ct U H->D2.ct U H) (hr:∀v H,D1.rt v H->D2.rt v H):SK K EX fr Hc Hb D2 r:=by
 cases r with
 | nx ρ=>exact fun U H H0 R=>hn U H (h U H H0 R)
 | bk ρ=>exact fun U H H0 R=>hb U H (h U H H0 R)
 | ct ρ=>exact fun U H H0 R=>hc U H (h U H H0 R)
 | rt d=>exact fun v H o=>hr v H (h v H o)
 | er x=>exact h
 | st=>exact h
theorem TSd.mon {K:Frag} {EX:XW} {fr:Bool} {D1 D2:Ends} {g:DS->SR} {U:St} {H:Hp} (h:TSd K EX fr g D1 U H) (hn:∀U H,D1.nx U H->D2.nx U H) (hb:∀U H,D1.bk U H->D2.bk U H) (hc:∀U H,D1.ct U H->D2.ct U H) (hr:∀v H,D1.rt v H->D2.rt v H):TSd K EX fr g D2 U H:=by
 obtain ⟨Hc,Hb,H0,ρ,sb,R,h⟩:=h
 exact ⟨Hc,Hb,H0,ρ,sb,R,h.mon hn hb hc hr⟩
theorem Kp.trans {is:List Nat} {a b c:St} (h:Kp is a b) (k:Kp is b c):Kp is a c:=fun i hi=>(k i hi).trans (h i hi)
theorem Kp.set {is:List Nat} {U:St} {i:Nat} {v:Option V} (h:i∉is):Kp is U (U.set i v):=fun j hj=>List.getElem?_set_ne (fun e:i=j=>h (by rw [e];exact hj))
theorem z9h {is:List Nat}:∀{js:List Nat} {xs:List V} {U:St} {H:Hp} {Q:St->Hp->Prop},(∀j∈js,j∉is)->z5s js xs U H (fun σ' H'=>Kp is U σ'->Q σ' H')->z5s js xs U H Q
 | [],xs,U,H,Q,_,h=>by
  cases xs with
  | nil=>exact h fun _ _=>rfl
  | cons _ _=>exact h
 | j::js,xs,U,H,Q,hd,h=>by
  cases xs with
  | nil=>exact h
  | cons x xs=>
   refine z9h (js:=js) (xs:=xs) (U:=U.set j (some x)) (fun k hk=>hd k (List.mem_cons_of_mem _ hk)) ?_
   have up:∀(js:List Nat) (xs:List V) (U:St) (A B:St->Hp->Prop),(∀σ' H',A σ' H'->B σ' H')->z5s js xs U H A->z5s js xs U H B:=by
    intro js
    induction js with
    | nil=>intro xs U A B i h;cases xs with
     | nil=>exact i _ _ h
     | cons _ _=>exact h
    | cons k ks ih=>intro xs U A B i h;cases xs with
     | nil=>exact h
     | cons y ys=>exact ih ys _ A B i h
   exact up js xs _ _ _ (fun σ' H' q k=>q (Kp.trans (Kp.set (hd j List.mem_cons_self)) k)) h
section
variable {X:Cx} {EX:XW} {is:List Nat} {st:Stmt} {sts:List Stmt} {e:Expr} {f fv fk:DE->R D} {t:DE->R Bool} {g g1 g2:DS->SR} {pos:Pos} {m:List Bool}
theorem zil (h:QK X EX is st g):QKB X EX is [st] g:=⟨zfs h.h⟩
theorem zrd (h1:QK X EX is st g1) (h2:QKB X EX is sts g2):QKB X EX is (st::sts) (z1u g1 g2):=⟨(zd6 h1.h h2.h).imp fun De U H q=>by
 have q:=ztr q
 unfold zyw at q ⊢
 refine TSd.mon q (fun σ1 H1 n k=>?_) (fun _ _ b=>b) (fun _ _ b=>b) fun _ _ b=>b
 exact TSd.mon n (fun σ2 H2 n2 k2=>n2 (k.trans k2)) (fun σ2 H2 n2 k2=>n2 (k.trans k2)) (fun σ2 H2 n2 k2=>n2 (k.trans k2)) fun _ _ b=>b⟩
theorem y1h {i:Nat} {x:Str} {pos':Pos} {fr':Bool} (hni:i∉is) (hN:X.N.Nodup) (hi:X.N[i]?=some x) (hx:Loc X.env.scope x) (he:QE X EX fr' e f) (hs:swapsWith e (some (.Name x pos')) pos.line X.env=pure false:=by rfl) (hf:X.fn x=true\/X.env.scope.names.lookup x=some .local:=by first | exact .inl rfl | exact .inr rfl | assumption) :
  QK X EX is (.Assign [.Name x pos'] e pos) (z2p fr' i m f):=⟨(zmn hN hi hx he.h hs hf).imp fun De U H q=>by
 have q:=zky q
 unfold zfm z48 at q ⊢
 exact TEd.mono' q fun v H' n=>n (Kp.set hni)⟩
theorem zx2 {i:Nat} {o ix:Expr} {tpos:Pos} (hu:X.A.units+64<cLine) (ho:PE X o (z7j i)) (hk:QE X EX false ix fk) (hv:QE X EX false e fv)
  (ha:∀v,assign (.Subscript o ix tpos) X.env v=(do
   let ov <-holding [v] (eval o X.env)
   let iv <-holding [v,ov] (eval ix X.env)
   standAt tpos
   holding [v,ov,iv] (setItem ov iv v)
   release [v,ov,iv] []):=by intro _;rfl) (hs:swapsWithSole [.Subscript o ix tpos] e pos.line X.env=pure false:=by rfl) (hw:swappedStores [.Subscript o ix tpos] e X.env=pure none:=by rfl)
  (h1:(assignEach [.Subscript o ix tpos] X.env).map (·.2)=[assign (.Subscript o ix tpos) X.env]:=by rfl):QK X EX is (.Assign [.Subscript o ix tpos] e pos) (zk6 dSetN i m fk fv):=⟨(zd7 hv.h (zfu ho hk.h (zwk hu) ha) hs hw h1).imp fun De U H q=>by
 have q:=zpl zia q
 unfold zfm zyj zx1 Kp at q
 simp only [implies_true,true_implies] at q
 exact q⟩
theorem y35 {js:List Nat} {ts:List Expr} {k:Nat} {pos:Pos} (hni:∀j∈js,j∉is) (hc:X.calm=true) (h:QGs X ts js) (hn:(assignEach ts X.env).length=js.length:=by rfl) (hst:(assignEach ts X.env).findIdx? (·.1)=none:=by rfl):QGk X is (.Tuple ts k pos) (.t js):=⟨(zgo hc h.h hn hst).imp fun v U H Q q=>by
 have q:=y2s q
 unfold zev at q ⊢
 cases v<;>simp only at q ⊢
 split at q
 . exact ⟨q.1,z9h hni q.2⟩
 . exact ⟨q.1,z9h hni q.2⟩
 . exact q⟩
theorem zx3 {tg iter:Expr} {tt:Tg} {body:List Stmt} {kp:Bool} {fi:DE->R (List D)} (hp:PassesOwn (model X.prog X.w) X.A X.env X.xe) (hc:X.calm=true) (hi:QI X EX kp tg iter fi) (hg:QGk X is tg tt) (hb:QKB X EX is body g)
  (hs:∀x,foldedSetIterable iter X.env x=pure x:=by intro _;rfl):QK X EX is (.For tg iter body [] pos) (zc2 kp m fi tt g):=⟨(zgk hp hc hi.h hg.h hb.h hs).imp fun De U H q=>by
 obtain ⟨sx,ρ,H0,s,e,h⟩:=ztv q
 refine ⟨sx,ρ,H0,s,e,h.mono fun ds z J H' H0' s' e' it=>?_⟩
 obtain ⟨W,⟨n,w0⟩,turn⟩:=z J H' H0' s' e' it
 refine ⟨fun i n σ1 H1=>W i n σ1 H1/\Kp is U σ1,⟨n,w0,fun _ _=>rfl⟩,fun i n σ1 H1 ⟨w,k⟩=>?_⟩
 rcases turn i n σ1 H1 w with ⟨a,b⟩ | ⟨go,N,hN,step⟩
 . exact .inl ⟨a,b k⟩
 . refine .inr ⟨go,fun σ' H'=>N σ' H'/\Kp is U σ',fun σ' H' ⟨a,b⟩=>?_,fun x H2 y=>?_⟩
   . obtain ⟨n',hl,w'⟩:=hN σ' H' a
     exact ⟨n',hl,w',b⟩
   . obtain ⟨Hc,Hb,H3,ρ3,d,ρ4,I,r,e3,q3⟩:=step x H2 y
     refine ⟨Hc,Hb,H3,ρ3,d,ρ4,I,r,e3,fun σ' I' k2=>?_⟩
     have kk:=k.trans k2
     exact TSd.mon (q3 σ' I') (fun σ5 H5 a k5=>⟨a,kk.trans k5⟩) (fun σ5 H5 a k5=>a (kk.trans k5)) (fun σ5 H5 a k5=>⟨a,kk.trans k5⟩) fun _ _ a=>a⟩
end
noncomputable def spU (K:Frag) (mU:List D->R D) (n:Nat):Sp:=fun vs H Q _=>∃(d:D) (ds:List D) (a:Addr) (ws:List V) (H0:Hp),vs=.ref a::ws/\ds.length+1=n/\Same H0 H/\H0 a=none/\OB K H0 H a d/\RDs K H0 ds ws /\
 Rk (fun _=>False) (mU (d::ds)) fun d'=>∀H' H0',Same (hid [a] H) H'->Ext H0 (hid [a] H) H0' H'->H0' a=none->OB K H0' H' a d'->Q .non H'
noncomputable def zys (n k:Nat) (g:DS->SR):List D->R D
 | d::r=>if r.length+1=n then (match g (.ow d::(r.map .im++List.replicate k .em)) with
  | .nx (.ow d'::_)=>.ok d'
  | _=>.st) else .st
 | []=>.st
theorem RDs.atR {K:Frag} {H:Hp}:∀{ds:List D} {ws:List V},RDs K H ds ws->∀(i:Nat) d,ds[i]?=some d->∃w,ws[i]?=some w/\RD K H d w
 | [],_,_,i,d,q=>by simp at q
 | e::es,_,r,i,d,q=>by
  simp only [RDs] at r
  obtain ⟨y,ys,rfl,r1,r2⟩:=r
  cases i with
  | zero=>cases q;exact ⟨y,rfl,r1⟩
  | succ i=>exact RDs.atR r2 i d q
theorem zx4 {K:Frag} {H0 H:Hp} {d:D} {ds:List D} {a:Addr} {ws:List V} (s:Same H0 H) (h0:H0 a=none) (ob:OB K H0 H a d) (r:RDs K H0 ds ws) (k:Nat) :
  RS K H0 (hid [a] H) H0 (.ow d::(ds.map .im++List.replicate k .em)) (some (.ref a)::(ws.map some++List.replicate k none)) H:=by
 have hl:=r.length
 have tail:∀(i:Nat) (s:Sl),(ds.map Sl.im++List.replicate k Sl.em)[i]?=some s->s=.em\/∃e,s=.im e/\ds[i]?=some e:=fun i s q=>by
  by_cases hi:i<ds.length
  . rw [List.getElem?_append_left (by simpa using hi),List.getElem?_map,List.getElem?_eq_getElem hi] at q
    exact .inr ⟨ds[i],(Option.some.inj q).symm,List.getElem?_eq_getElem hi⟩
  . rw [List.getElem?_append_right (by simpa using hi)] at q
    exact .inl (List.mem_replicate.mp (List.mem_of_getElem? q)).2
 have zero:∀(i:Nat) e,(Sl.ow d::(ds.map Sl.im++List.replicate k Sl.em))[i]?=some (.ow e)->i=0/\d=e:=fun i e q=>by
  cases i with
  | zero=>cases q;exact ⟨rfl,rfl⟩
  | succ i=>rcases tail i _ q with z | ⟨_,z,_⟩<;>cases z
 refine ⟨fun b o h=>?_,⟨Same.refl _,s,fun a ha e=>e⟩,by simp [hl],fun i e q=>?_,fun i e q=>?_,fun i j e e' b qi qj si sj=>?_⟩
 . unfold hid at h;split at h
   . cases h
   . exact h
 . cases i with
   | zero=>cases q
   | succ i=>
    rcases tail i _ q with z | ⟨e',z,q'⟩
    . cases z
    . cases z
      obtain ⟨w,hw,rw'⟩:=r.atR i e q'
      refine ⟨w,?_,rw'⟩
      have hi:i<ws.length:=by
       apply Classical.byContradiction;intro hn
       rw [List.getElem?_eq_none (by lia)] at hw;cases hw
      show (ws.map some++List.replicate k none)[i]?=_
      rw [List.getElem?_append_left (by simpa using hi),List.getElem?_map,hw];rfl
 . obtain ⟨rfl,rfl⟩:=zero i e q
   exact ⟨a,rfl,h0,zwh (List.mem_singleton.mpr rfl),ob⟩
 . obtain ⟨rfl,_⟩:=zero i e qi
   obtain ⟨rfl,_⟩:=zero j e' qj
   rfl
theorem fnU {P:Program} {w:World} {K:Frag} {mg:Str->Option Value} {base:Heap} {x qual:Str} {st:Stmt} {f:Addr} {fd:FuncData} {N ps:List Str} {k n kk:Nat} {g:DS->SR} (F:Fun K x qual st f fd) (S:FnScope N ps (z04 st)) (hps:ps.length=n) (hN:N.length=n+kk)
  (hbody:∀(cdv:Value) (A:Around) (outer:List Env) (s:Shared) (H:Hp) (E:XK),Room k (A.deeper (envOfC qual (z04 st) s.heap.objs.size f cdv)) ->
   QKB (zk4 (CX1 P w) P w K mg base N qual (z04 st) f cdv A outer s H E) F0 [0] (z1t st) g):FnOk P w K mg base (CX1 P w) (k+1) f fd ps (spU K (zys n kk g) n):=by
 refine F.okX S (fun vs H Q E h=>?_) (fun cdv A outer s H vs Q E hr h=>?_)
 . obtain ⟨d,ds,a,ws,H0,rfl,hn,_,_,_,r,_⟩:=h
   rw [List.length_cons,<-r.length,hn,hps]
 . refine ⟨_,(hbody cdv A outer s H E hr).h,?_⟩
   obtain ⟨d,ds,a,ws,H0,rfl,hn,s0,h0,ob,r,h⟩:=h
   have hl:=r.length
   have e:z57 N (.ref a::ws)=some (.ref a)::(ws.map some++List.replicate kk none):=by
    unfold z57
    rw [List.length_cons,hN,<-hl,show n+kk - (ds.length+1)=kk by omega]
    rfl
   rw [e]
   refine ⟨H0,hid [a] H,H0,Sl.ow d::(ds.map Sl.im++List.replicate kk Sl.em),F0.same _,(zx4 s0 h0 ob r kk:RS K H0 (hid [a] H) H0 (Sl.ow d::(ds.map Sl.im++List.replicate kk Sl.em)) (some (.ref a)::(ws.map some++List.replicate kk none)) H),?_⟩
   unfold zys at h
   simp only at h
   rw [if_pos hn] at h
   cases q:g (Sl.ow d::(ds.map Sl.im++List.replicate kk Sl.em)) with
   | nx ρ=>
    rw [q] at h
    intro σ' H' H0' RR kp
    match ρ,h,RR with
    | .ow d'::r',h,RR=>
     obtain ⟨a',z1,z2,z3,z4⟩:=RR.ow 0 d' rfl
     have:=kp 0 (List.mem_singleton.mpr rfl)
     rw [z1] at this
     cases this
     exact h H' H0' RR.sb RR.ext z2 z4
    | [],h,_=>exact h.elim
    | .im _::_,h,_=>exact h.elim
    | .em::_,h,_=>exact h.elim
   | rt d=>rw [q] at h;exact h.elim
   | er x=>rw [q] at h;exact h.elim
   | bk ρ=>rw [q] at h;exact h.elim
   | ct ρ=>rw [q] at h;exact h.elim
   | st=>rw [q] at h;exact h.elim
noncomputable def znu (i:Nat) (m:List Bool) (mU:List D->R D) (n:Nat) (fs:DE->R (List D)):DS->SR:=fun ρ=>match ρ[i]? with
 | some (.ow _)=>(fs (vis m ρ)).toS fun ds=>match (z4b (z2g ds) m ρ)[i]? with
  | some (.ow d)=>if ds.length+1=n then (match mU (d::ds) with
   | .ok d'=>.nx ((z4b (z2g ds) m ρ).set i (.ow d'))
   | _=>.st) else .st
  | _=>.st
 | _=>.st
section
variable {K:Frag} {EX:XW} {fr:Bool} {De:Ends} {U:St} {H:Hp} {m:List Bool}
theorem RS.hidden {Hc Hb H0 H0' H':Hp} {ρ:DS} {i:Nat} {d d':D} {a:Addr} (R:RS K Hc Hb H0 ρ U H) (q:ρ[i]?=some (.ow d)) (h1:U[i]?=some (some (.ref a))) (s':Same (hid [a] H) H') (e':Ext H0 (hid [a] H) H0' H') (n':H0' a=none) (ob:OB K H0' H' a d'):RS K Hc Hb H0' (ρ.set i (.ow d')) U H':=by
 obtain ⟨a',z1,z2,z3,z4⟩:=R.ow i d q
 rw [h1] at z1;cases z1
 have sbh:Same Hb (hid [a] H):=fun b o hb=>by
  rw [zi5 fun hm=>by rw [List.mem_singleton.mp hm,z3] at hb;cases hb];exact R.sb b o hb
 refine ⟨sbh.trans s',⟨R.ext.1.trans e'.1,e'.2.1,fun b hb hc=>e'.2.2 b (sbh.ne hb) (R.ext.2.2 b hb hc)⟩,by simp [R.len],fun j e qj=>?_,fun j e qj=>?_,fun j k e1 e2 b q1 q2 s1 s2=>?_⟩
 . rcases zch qj with ⟨_,z⟩ | ⟨_,qj⟩
   . cases z
   . obtain ⟨v,v1,v2⟩:=R.im j e qj
     exact ⟨v,v1,v2.mono e'.1⟩
 . rcases zch qj with ⟨e0,z⟩ | ⟨ne,qj⟩
   . subst e0;cases z;exact ⟨a,h1,n',z3,ob⟩
   . obtain ⟨b,b1,b2,b3,b4⟩:=R.ow j e qj
     have na:b∉[a]:=fun hm=>ne (R.ap i j _ _ _ q qj h1 (by rw [b1,List.mem_singleton.mp hm]))
     obtain ⟨o,ho,_⟩:=b4.some
     have hh:hid [a] H b=some o:=by rw [zi5 na];exact ho
     refine ⟨b,b1,e'.2.2 b (by rw [hh];exact fun z=>nomatch z) b2,b3,?_⟩
     exact (b4.at (by rw [ho];exact s' b o hh)).mono e'.1 (Same.refl _)
 . have back:∀(j:Nat) e,(ρ.set i (.ow d'))[j]?=some (.ow e)->∃e0,ρ[j]?=some (.ow e0):=fun j e qj=>by
    rcases zch qj with ⟨e0,_⟩ | ⟨_,qj⟩
    . subst e0;exact ⟨_,q⟩
    . exact ⟨_,qj⟩
   obtain ⟨x1,y1⟩:=back j e1 q1
   obtain ⟨x2,y2⟩:=back k e2 q2
   exact R.ap j k _ _ b y1 y2 s1 s2
theorem y1i {i n:Nat} {mU:List D->R D} {fs:DE->R (List D)} {E:XK} (h:TSd K EX fr (znu i m mU n fs) De U H) :
  za2 (zal (spU K mU n) E (z67 (z7j i) (TAd K EX fs))) De U H:=by
 obtain ⟨Hc,Hb,H0,ρ,sb,R,h⟩:=h
 unfold znu at h
 split at h
 . rename_i d0 q0
   rw [SK.toS] at h
   obtain ⟨a,h1,h2,h3,h4⟩:=R.ow i d0 q0
   unfold za2 zal z67 z7j
   rw [h1]
   refine ⟨sb.trans R.sb,vis m ρ,HeOf m ρ U H0 H,R.heH m,R.re m,h.mono fun ds h vs H' H0' s e rds=>?_⟩
   obtain ⟨H0n,R',rd'⟩:=R.outs s e rds
   split at h
   . rename_i d q
     split at h
     . rename_i hn
       split at h
       . rename_i d' qm
         obtain ⟨a',z1,z2,z3,z4⟩:=R'.ow i d q
         rw [h1] at z1;cases z1
         refine ⟨d,ds,a,vs,H0n,rfl,hn,R'.ext.2.1,z2,z4,rd',?_⟩
         rw [qm]
         exact fun H2 H02 s2 e2 n2 ob=>h U H2 H02 (R'.hidden q h1 s2 e2 n2 ob)
       . exact h.elim
     . exact h.elim
   . exact h.elim
 . exact h.elim
end
section
variable {X:Cx} {EX:XW} {fr:Bool}
theorem zre {i n kl jj:Nat} {fn:Str} {fp cp pos:Pos} {e1:Expr} {es:List Expr} {ps:List Str} {mU:List D->R D} {fs:DE->R (List D)} {m:List Bool} (G:z6a X.prog X.w X.K X.mg X.base fn ps kl (spU X.K mU n)) (hr:Room jj X.A) (hg:Gl X fn) (h1:PE X e1 (z7j i)) (h2:QA X EX es fs) (hkj:kl<=jj:=by omega) (hdb:(fn==("__debug__":Str))=false:=by decide)
  (he:starEach (e1::es) X.env=(false,eval e1 X.env)::starEach es X.env:=by rfl) (hpl:(backTo cp (starEach es X.env)).any (·.1)=false:=by rfl)
  (hsw:swapsWith (.Call (.Name fn fp) (e1::es) [] cp) none pos.line X.env=pure false:=by rfl) :
  QS X EX fr (.Expr (.Call (.Name fn fp) (e1::es) [] cp) pos) (znu i m mU n fs):=
 ⟨(z89 (zh1 G (zyp (X:=X)).on hr hg (z34 h1 h2.h he) hkj hdb he hpl) hsw).imp fun _ _ _ q=>y1i q⟩
end
section
theorem y1j (qs:List (NK×Addr)) (vs:List Value) (h:qs.length=vs.length) (k:NK):(atKey (z3 qs vs) k).isSome=decide (k∈qs.map (·.1)):=by
 have e:=zi8 (z3 qs vs) k
 rw [ze6 qs vs h] at e
 exact e
theorem zim {k:NK}:∀{qs:List (NK×Addr)} {xs:List V} {vs:List Value} {w:V},Vals xs vs->qs.length=vs.length->valN (qs.map (·.1)) xs k=some w->∃p:Addr×Value,atKey (z3 qs vs) k=some p/\RelV w p.2
 | [],xs,vs,w,r,hl,h=>by
  unfold valN at h;rw [List.map_nil,List.zip_nil_left] at h;cases h
 | q::qs,_,_,w,.nil,hl,h=>by simp at hl
 | q::qs,_,_,w,.cons (a:=x) (b:=v) (l₁:=xs) (l₂:=vs) r rr,hl,hw=>by
  by_cases h:q.1=k
  . unfold valN at hw
    rw [List.map_cons,List.zip_cons_cons,List.find?_cons_of_pos (by simpa using h)] at hw
    cases hw
    refine ⟨(q.2,v),?_,r⟩
    show ((z3 (q::qs) (v::vs)).find? fun x=>decide (x.1=k)).map (·.2)=_
    unfold z3
    rw [List.zip_cons_cons,List.map_cons,List.find?_cons_of_pos (by simpa using h)];rfl
  . unfold valN at hw
    rw [List.map_cons,List.zip_cons_cons,List.find?_cons_of_neg (by simpa using h)] at hw
    obtain ⟨p,e,rp⟩:=zim (qs:=qs) rr (by simpa using hl) hw
    refine ⟨p,?_,rp⟩
    show ((z3 (q::qs) (v::vs)).find? fun x=>decide (x.1=k)).map (·.2)=_
    unfold z3
    rw [List.zip_cons_cons,List.map_cons,List.find?_cons_of_neg (by simpa using h)]
    exact e
end
noncomputable def y3y:Value->Value->Bool
 | .int a _,.int b _=>a==b
 | _,_=>false
noncomputable def hit1 (ys:List (NK×Addr×Value)) (x:NK×Addr×Value):Bool:=match atKey ys x.1 with
 | some p=>y3y x.2.2 p.2
 | none=>false
theorem zin {prog:Program} {w:World} {A:Around} {E:Value->Shared->Prop} {s:Shared} {p:Nat->Bool} {g:Nat->Option Bool×PUnit->Sem (ForInStep (Option Bool×PUnit))} {Q:Option Bool×PUnit->Shared->Prop} :
  ∀(m i:Nat),(∀j,i<=j->j<i+m->∀R,R (bif p j then .yield (none,()) else .done (some false,())) s->wpAny (model prog w) A (g j (none,())) R E s) ->
   Q (bif (List.range' i m).all p then (none,()) else (some false,())) s->wpAny (model prog w) A (forIn (List.range' i m) (none,()) g) Q E s
 | 0,i,_,h=>by
  rw [show List.range' i 0=[] from rfl,List.forIn_nil]
  exact wpAny_pure h
 | m+1,i,st,h=>by
  rw [List.range'_succ,List.all_cons] at h
  rw [List.range'_succ,List.forIn_cons]
  refine wpAny_bind (st i (Nat.le_refl i) (by omega) _ ?_)
  cases e:p i
  . rw [e] at h;exact wpAny_pure h
  . rw [e] at h;exact zin m (i+1) (fun j h1 h2=>st j (by omega) (by omega)) h
noncomputable def hitAt (xs ys:List (NK×Addr×Value)) (j:Nat):Bool:=match xs[j]? with
 | some x=>hit1 ys x
 | none=>true
theorem zrf (xs ys:List (NK×Addr×Value)):(List.range' 0 xs.length).all (hitAt xs ys)=xs.all (hit1 ys):=by
 rw [Bool.eq_iff_iff,List.all_eq_true,List.all_eq_true]
 constructor
 . intro h x hx
   obtain ⟨j,hj,e⟩:=List.mem_iff_getElem.mp hx
   have:=h j (List.mem_range'_1.mpr ⟨Nat.zero_le _,by omega⟩)
   unfold hitAt at this
   rw [List.getElem?_eq_getElem hj,e] at this
   exact this
 . intro h j hj
   have lt:j<xs.length:=by have:=(List.mem_range'_1.mp hj).2;omega
   unfold hitAt
   rw [List.getElem?_eq_getElem lt]
   exact h _ (List.getElem_mem lt)
section
variable {prog:Program} {w:World} {A:Around} {E:Value->Shared->Prop} {s:Shared}
theorem zio {nm:String} {a b:Addr} {xs ys:List (NK×Addr×Value)} {Q:Bool->Shared->Prop} (hu:(deepKind prog w).room A) (ha:(a==sysModules)=false) (hb:(b==sysModules)=false)
  (da:Heap.DictOfH (deepKind prog w) s.heap a xs) (db:Heap.DictOfH (deepKind prog w) s.heap b ys) (ix:∀x∈xs,∃n t,x.2.2=.int n t) (iy:∀y∈ys,∃n t,y.2.2=.int n t)
  (h:Q (xs.length==ys.length&&xs.all (hit1 ys)) s):wpAny (model prog w) A (Builtin.Dict.samePairs nm a b) Q E s:=by
 obtain ⟨oa,ea,pa,ga,_,ka,na,ia,_⟩:=da
 obtain ⟨ob,eb,pb,gb,_,kb,nb,ib,ub⟩:=db
 have rd:∀{α:Type} {k:_->Sem α} {R:α->Shared->Prop},wpAny (model prog w) A (k ea) R E s->wpAny (model prog w) A (dictEntries a >>= k) R E s:=fun z=>wpAny_bind (wpAny_dictEntries ga ka z)
 have rb:∀{α:Type} {k:_->Sem α} {R:α->Shared->Prop},wpAny (model prog w) A (k eb) R E s->wpAny (model prog w) A (dictEntries b >>= k) R E s:=fun z=>wpAny_bind (wpAny_dictEntries gb kb z)
 have ep:∀{α:Type} {k:_->Sem α} {R:α->Shared->Prop},wpAny (model prog w) A (k pa) R E s->wpAny (model prog w) A (dictEpoch a >>= k) R E s:=fun z=>wpAny_bind (wpAny_dictEpoch ga ka z)
 simp only [Builtin.Dict.samePairs,Builtin.Dict.showsAll,ha,hb,Bool.false_eq_true,if_false,pure_bind,Std.Legacy.Range.forIn_eq_forIn_range',Std.Legacy.Range.size,Nat.sub_zero,Nat.add_sub_cancel,Nat.div_one]
 refine rd (rb ?_)
 rw [size_of_entries na,size_of_entries nb]
 cases hl:xs.length==ys.length
 . rw [hl] at h
   rw [if_pos (by simpa using hl)]
   exact wpAny_bind (wpAny_rule (wpAny_pure h))
 rw [hl,Bool.true_and,<-zrf] at h
 rw [if_neg (by simpa using hl)]
 refine ep (wpAny_bind (zin (p:=hitAt xs ys) xs.length 0 (fun j _ lt R r=>rd ?_) ?_))
 . have gx:xs[j]?=some xs[j]:=List.getElem?_eq_getElem (by omega)
   have mx:=List.mem_of_getElem? gx
   rw [show hitAt xs ys j=hit1 ys xs[j] by unfold hitAt;rw [gx]] at r
   rw [entry_at na j,gx]
   generalize xs[j]=x at *
   refine wpAny_bind (wpAny_holding (wpAny_bind (wpAny_dictFind_heap (k:=x.1) hu (ia _ mx) gb kb nb ib ub (fun no=>?_) fun i p hp=>rb ?_)))
   . rw [show hit1 ys x=false by unfold hit1;rw [atKey_none_of_get no]] at r
     exact wpAny_pure (wpAny_pure r)
   . rw [entry_at nb i,hp]
     refine wpAny_holding ?_
     obtain ⟨m,t',e'⟩:=iy _ (List.mem_of_getElem? hp)
     obtain ⟨n,t,e⟩:=ix _ mx
     dsimp only at e'
     have e1:hit1 ys x=(n==m):=by
      unfold hit1
      rw [atKey_of_get ub hp,e]
      dsimp only
      rw [e'];rfl
     show wpAny _ _ (eqBool x.2.2 p.2) _ _ _
     rw [e,e']
     refine SeqAt.EqAt.int_int n t m t' prog w _ _ ?_
     rw [e1] at r
     cases hh:n==m
     . rw [hh] at r;exact wpAny_pure r
     . rw [hh] at r
       refine ep ?_
       rw [if_neg (by simp)]
       exact wpAny_pure r
 . cases hh:(List.range' 0 xs.length).all (hitAt xs ys)
   . rw [hh] at h;exact wpAny_pure h
   . rw [hh] at h;exact wpAny_pure h
end
theorem z9i {α:Type} {k:NK}:∀{ks:List NK} {xs:List α},ks.length=xs.length->k∈ks->∃w,valN ks xs k=some w
 | k'::ks,[],e,h=>by simp at e
 | k'::ks,x::xs,e,h=>by
  unfold valN
  rw [List.zip_cons_cons]
  by_cases q:k'=k
  . rw [List.find?_cons_of_pos (by simpa using q)];exact ⟨x,rfl⟩
  . rw [List.find?_cons_of_neg (by simpa using q)]
    exact z9i (by simpa using e) ((List.mem_cons.mp h).resolve_left fun z=>q z.symm)
noncomputable def iV:V->V->Bool
 | .int a,.int b=>a==b
 | _,_=>false
noncomputable def hitV (ks:List NK) (ys:List V) (p:NK×V):Bool:=match valN ks ys p.1 with
 | some v=>iV p.2 v
 | none=>false
noncomputable def rEqN (neg:Bool):R2:=fun x y H Q=>∃(a:Addr) (qs:List (NK×Addr)) (xs:List V) (ob:Obj) (b:Addr) (qs':List (NK×Addr)) (ys:List V) (ob':Obj),x=.ref a/\y=.ref b/\H a=some (.ext (dnP a qs xs ob))/\DN H a qs/\H b=some (.ext (dnP b qs' ys ob'))/\DN H b qs' /\
 (∀v∈xs,∃i,v=.int i)/\(∀v∈ys,∃i,v=.int i)/\Q (.bl (Bool.xor neg (qs.length==qs'.length&&((qs.map (·.1)).zip xs).all (hitV (qs'.map (·.1)) ys)))) H
theorem Vals.ints:∀{xs:List V} {vs:List Value},Vals xs vs->(∀v∈xs,∃i,v=.int i)->∀u∈vs,∃n t,u=.int n t
 | _,_,.nil,_,u,hu=>by cases hu
 | _,_,.cons r rr,h,u,hu=>by
  obtain ⟨i,rfl⟩:=h _ List.mem_cons_self
  rcases List.mem_cons.mp hu with rfl | hu
  . obtain ⟨t,rfl⟩:=r;exact ⟨_,_,rfl⟩
  . exact Vals.ints rr (fun v hv=>h v (List.mem_cons_of_mem _ hv)) u hu
theorem zec {qs:List (NK×Addr)} {vs:List Value} (h:∀u∈vs,∃n t,u=.int n t):∀x∈z3 qs vs,∃n t,x.2.2=.int n t:=fun x hx=>by
 obtain ⟨q,hq,rfl⟩:=List.mem_map.mp hx
 exact h _ (List.of_mem_zip hq).2
theorem ziq {qs':List (NK×Addr)} {ys:List V} {us:List Value} (r':Vals ys us) (l':qs'.length=us.length) (iy:∀v∈ys,∃i,v=.int i):∀{qs:List (NK×Addr)} {xs:List V} {vs:List Value},Vals xs vs->qs.length=vs.length->(∀v∈xs,∃i,v=.int i) ->
  (z3 qs vs).all (hit1 (z3 qs' us))=((qs.map (·.1)).zip xs).all (hitV (qs'.map (·.1)) ys)
 | [],_,_,r,_,_=>rfl
 | q::qs,_,_,.nil,hl,_=>by simp at hl
 | q::qs,_,_,.cons (a:=x) (b:=v) (l₁:=xs) (l₂:=vs) r rr,hl,ix=>by
  have ih:=ziq r' l' iy (qs:=qs) rr (by simpa using hl) fun v hv=>ix v (List.mem_cons_of_mem _ hv)
  obtain ⟨i,rfl⟩:=ix _ List.mem_cons_self
  obtain ⟨t,rfl⟩:=r
  show (hit1 _ _&&_)=_
  rw [List.map_cons,List.zip_cons_cons,List.all_cons]
  refine congr (congrArg _ ?_) ih
  unfold hit1 hitV
  cases e:valN (qs'.map (·.1)) ys q.1 with
  | some w=>
   obtain ⟨p,e2,rp⟩:=zim r' l' e
   rw [e2]
   obtain ⟨j,rfl⟩:∃j,w=.int j:=by
    unfold valN at e
    obtain ⟨z,hz,rfl⟩:=Option.map_eq_some_iff.mp e
    exact iy _ (List.of_mem_zip (List.mem_of_find?_eq_some hz)).2
   obtain ⟨pa,pv⟩:=p
   simp only at rp ⊢
   obtain ⟨t',rfl⟩:=rp
   rfl
  | none=>
   cases e2:atKey (z3 qs' us) q.1 with
   | none=>rfl
   | some p=>
    have m:=y1j qs' us l' q.1
    rw [e2] at m
    obtain ⟨w,hw⟩:=z9i (xs:=ys) (by rw [List.length_map,l',r'.length]) (of_decide_eq_true m.symm)
    rw [e] at hw;cases hw
section
variable {X:Cx}
theorem zb5 {A:Around} {E:Value->Shared->Prop} {s:Shared} {a b:Addr} {nm:String} {α:Type} {k:Value×Value->Sem α} {R:α->Shared->Prop} {xs:List (NK×Addr×Value)} (da:Heap.DictOfH (deepKind X.prog X.w) s.heap a xs)
  (h:wpAny (model X.prog X.w) A (k (.ref a,.ref b)) R E s):wpAny (model X.prog X.w) A (Builtin.Dict.dictSlotArgs nm ⟨[.ref a,.ref b],[]⟩ >>= k) R E s:=by
 simp only [Builtin.Dict.dictSlotArgs,bind_assoc]
 exact wpAny_bind (wpAny_notOrdered_dict da.typeIs (wpAny_bind (wpAny_pure (wpAny_bind (wpAny_pure h)))))
theorem zb6 {A:Around} {E:Value->Shared->Prop} {s:Shared} {a b:Addr} {nm:String} {no:Sem Fin} {k:Bool->Sem Fin} {R:Fin->Shared->Prop} {xs ys:List (NK×Addr×Value)} (hu:(deepKind X.prog X.w).room A) (ha:(a==sysModules)=false) (hb:(b==sysModules)=false)
  (da:Heap.DictOfH (deepKind X.prog X.w) s.heap a xs) (db:Heap.DictOfH (deepKind X.prog X.w) s.heap b ys) (ix:∀x∈xs,∃n t,x.2.2=.int n t) (iy:∀y∈ys,∃n t,y.2.2=.int n t)
  (h:wpAny (model X.prog X.w) A (k (xs.length==ys.length&&xs.all (hit1 ys))) R E s) :
  wpAny (model X.prog X.w) A (isInstance (.ref b) (.type "dict") >>= fun r=>if (!r)=true then no else Builtin.Dict.addrOf (.ref a) >>= fun p=>Builtin.Dict.addrOf (.ref b) >>= fun q=>Builtin.Dict.samePairs nm p q >>= k) R E s:=by
 have go:wpAny (model X.prog X.w) A (Builtin.Dict.samePairs nm a b >>= k) R E s:=wpAny_bind (zio hu ha hb da db ix iy h)
 exact wpAny_bind (wpAny_isInstance db.typeIs PySem.F.sub_dict_dict (wpAny_bind (wpAny_pure (wpAny_bind (wpAny_pure go)))))
theorem y1k (hu:X.A.units+64<cLine):OpR X (compareOp .Eq) (rEqN false):=by
 rintro pins s U H _ _ v u Q I rx ry ⟨a,qs,xs,ob,b,qs',ys,ob',rfl,rfl,e,n,e',n',ix,iy,q⟩
 obtain ⟨_,vs,p1,p2,da⟩:=z4h I e n
 obtain ⟨_,us,p1',p2',db⟩:=z4h I e' n'
 cases rx;cases ry
 rw [<-ziq p1' p2' iy p1 p2 ix,<-z7y _ _ p2,<-z7y _ _ p2'] at q
 refine wpAny_richCompare_same_room (op:=.Eq) da.typeIs db.typeIs PySem.F.slot_dict_eq (wpAny_call_entry PySem.F.slot_dict_eq da.typeIs PySem.F.entry_dict_eq (zb5 da (zb6 (by show X.A.units+1+8<cLine;omega) n.2.2.1 n'.2.2.1 da db (zec (p1.ints ix)) (zec (p1'.ints iy)) ?_)) (PySem.F.args_dict_eq_2 _ _)) (by omega)
 cases hc:(z3 qs vs).length==(z3 qs' us).length&&(z3 qs vs).all (hit1 (z3 qs' us))<;>rw [hc] at q
 . exact wpAny_pure ⟨_,rfl,nofun,.bl false,H,I,rfl,q⟩
 . exact wpAny_pure ⟨_,rfl,nofun,.bl true,H,I,rfl,q⟩
theorem y1l (hu:X.A.units+64<cLine):OpR X (compareOp .NotEq) (rEqN true):=by
 rintro pins s U H _ _ v u Q I rx ry ⟨a,qs,xs,ob,b,qs',ys,ob',rfl,rfl,e,n,e',n',ix,iy,q⟩
 obtain ⟨_,vs,p1,p2,da⟩:=z4h I e n
 obtain ⟨_,us,p1',p2',db⟩:=z4h I e' n'
 cases rx;cases ry
 rw [<-ziq p1' p2' iy p1 p2 ix,<-z7y _ _ p2,<-z7y _ _ p2'] at q
 refine wpAny_richCompare_same_room (op:=.NotEq) da.typeIs db.typeIs PySem.F.slot_dict_ne (wpAny_call_entry PySem.F.slot_dict_ne da.typeIs PySem.F.entry_dict_ne (zb5 da (zb6 (by show X.A.units+1+8<cLine;omega) n.2.2.1 n'.2.2.1 da db (zec (p1.ints ix)) (zec (p1'.ints iy)) ?_)) (PySem.F.args_dict_ne_2 _ _)) (by omega)
 cases hc:(z3 qs vs).length==(z3 qs' us).length&&(z3 qs vs).all (hit1 (z3 qs' us))<;>rw [hc] at q
 . exact wpAny_pure ⟨_,rfl,nofun,.bl true,H,I,rfl,q⟩
 . exact wpAny_pure ⟨_,rfl,nofun,.bl false,H,I,rfl,q⟩
end
theorem z9j {α β:Type} (f:α->β) (k:NK):∀(ks:List NK) (xs:List α),valN ks (xs.map f) k=(valN ks xs k).map f
 | [],xs=>rfl
 | k'::ks,[]=>rfl
 | k'::ks,x::xs=>by
  have ih:=z9j f k ks xs
  unfold valN at ih ⊢
  rw [List.map_cons,List.zip_cons_cons,List.zip_cons_cons]
  by_cases q:k'=k
  . rw [List.find?_cons_of_pos (by simpa using q),List.find?_cons_of_pos (by simpa using q)];rfl
  . rw [List.find?_cons_of_neg (by simpa using q),List.find?_cons_of_neg (by simpa using q)];exact ih
theorem z9k {K:Frag} {H:Hp}:∀{ds:List D} {xs:List V},RDs K H ds xs->ds.all isI=true->∃ns:List Int,ds=ns.map D.int/\xs=ns.map V.int
 | [],xs,r,_=>by simp only [RDs] at r;exact ⟨[],rfl,r⟩
 | d::ds,xs,r,h=>by
  simp only [RDs] at r
  obtain ⟨x,xs',rfl,r1,r2⟩:=r
  rw [List.all_cons,Bool.and_eq_true] at h
  obtain ⟨ns,e1,e2⟩:=z9k r2 h.2
  cases d<;>simp only [isI] at h<;>first | exact absurd h.1 Bool.false_ne_true | skip
  rename_i n
  cases r1.int
  exact ⟨n::ns,by rw [e1];rfl,by rw [e2];rfl⟩
noncomputable def hitE (ks:List NK) (es:List D) (p:NK×D):Bool:=match valN ks es p.1,p.2 with
 | some (.int a),.int b=>b==a
 | _,_=>false
noncomputable def dEqN (neg:Bool):D->D->Option D
 | .dn ks ds,.dn ks' es=>if (ds.all isI&&es.all isI)=true then some (.bl (Bool.xor neg (ks.length==ks'.length&&(ks.zip ds).all (hitE ks' es)))) else none
 | _,_=>none
theorem znv (ks':List NK) (ms:List Int):∀(ks:List NK) (ns:List Int),(ks.zip (ns.map V.int)).all (hitV ks' (ms.map V.int))=(ks.zip (ns.map D.int)).all (hitE ks' (ms.map D.int))
 | [],_=>rfl
 | _::_,[]=>rfl
 | k::ks,n::ns=>by
  rw [List.map_cons,List.map_cons,List.zip_cons_cons,List.zip_cons_cons,List.all_cons,List.all_cons,znv ks' ms ks ns]
  congr 1
  unfold hitV hitE
  dsimp only
  rw [z9j,z9j]
  cases valN ks' ms k<;>rfl
theorem znw {K:Frag} {neg:Bool}:OpD K false (dEqN neg) (rEqN neg):=by
 intro H0 H x y d e z Q s rx ry ho k
 cases d<;>simp only [dEqN] at ho<;>first | (cases ho;done) | skip
 cases e<;>simp only [dEqN] at ho<;>first | (cases ho;done) | skip
 rename_i ks ds ks' es
 split at ho<;>first | (cases ho;done) | skip
 rename_i hi
 cases ho
 rw [Bool.and_eq_true] at hi
 simp only [RD] at rx ry
 obtain ⟨a,qs,xs,ob,rfl,h1,hk,n,ra⟩:=rx
 obtain ⟨b,qs',ys,ob',rfl,h1',hk',n',ra'⟩:=ry
 obtain ⟨ns,rfl,rfl⟩:=z9k ra hi.1
 obtain ⟨ms,rfl,rfl⟩:=z9k ra' hi.2
 refine ⟨a,qs,_,ob,b,qs',_,ob',rfl,rfl,s _ _ h1,n.tk fun b zs q=>s _ _ q,s _ _ h1',n'.tk fun b zs q=>s _ _ q,fun v hv=>?_,fun v hv=>?_,?_⟩
 . obtain ⟨i,_,rfl⟩:=List.mem_map.mp hv;exact ⟨i,rfl⟩
 . obtain ⟨i,_,rfl⟩:=List.mem_map.mp hv;exact ⟨i,rfl⟩
 . rw [hk,hk',znv,show qs.length=ks.length by rw [<-hk,List.length_map],show qs'.length=ks'.length by rw [<-hk',List.length_map]]
   exact k _ H (.pure s (.mkBl _))
noncomputable def zir (i j:Nat) (m:List Bool) (fs:DE->R (List D)):DS->SR:=fun ρ=>match ρ[i]?,ρ[j]? with
 | some (.ow (.lst _)),some (.ow (.lst _))=>(fs (vis m ρ)).toS fun ds=>match (z4b (z2g ds) m ρ)[i]?,(z4b (z2g ds) m ρ)[j]?,ds with
  | some (.ow (.lst xs)),some (.ow (.lst ys)),[.int k]=>if i≠j/\xs.length<100000/\0<=k/\k<ys.length/\k<2 ^ 63 then .nx (((z4b (z2g ds) m ρ).set j (.ow (.lst (ys.eraseIdx k.toNat)))).set i (.ow (.lst (xs++[ys.getD k.toNat (.int 0)])))) else .st
  | _,_,_=>.st
 | _,_=>.st
section
variable {K:Frag} {EX:XW} {fr:Bool} {De:Ends} {U:St} {H:Hp} {m:List Bool}
theorem zx5 {i j:Nat} {fs:DE->R (List D)} (h:TSd K EX fr (zir i j m fs) De U H) :
  za2 (tBM K "list" zbt (z7j i) (z67 (tBM K "list" zmq (z7j j) (TAd K EX fs)) zp1)) De U H:=by
 obtain ⟨Hc,Hb,H0,ρ,sb,R,h⟩:=h
 unfold zir at h
 split at h
 . rename_i x0 y0 qi qj
   rw [SK.toS] at h
   obtain ⟨ai,i1,i2,i3,i4⟩:=R.ow i _ qi
   obtain ⟨aj,j1,j2,j3,j4⟩:=R.ow j _ qj
   unfold za2 tBM z7j
   rw [i1]
   refine ⟨z4e H0 H ai _ i4 rfl,?_⟩
   unfold z67
   dsimp only
   rw [j1]
   refine ⟨z4e H0 H aj _ j4 rfl,sb.trans R.sb,vis m ρ,HeOf m ρ U H0 H,R.heH m,R.re m,h.mono fun ds h vs H' H0' s e rds=>?_⟩
   obtain ⟨H0n,R',rd'⟩:=R.outs s e rds
   split at h
   . rename_i xs ys k qi' qj'
     split at h
     . rename_i hk
       obtain ⟨nij,hx,k0,k1,k2⟩:=hk
       obtain ⟨ai',z1,z2,z3,z4⟩:=R'.ow i _ qi'
       rw [i1] at z1;cases z1
       obtain ⟨aj',w1,w2,w3,w4⟩:=R'.ow j _ qj'
       rw [j1] at w1;cases w1
       have hij:ai≠aj:=fun e=>nij (R'.ap i j _ _ ai qi' qj' i1 (by rw [e];exact j1))
       have oi:=z4
       have oj:=w4
       simp only [OB] at oi oj
       obtain ⟨us,hu,ru⟩:=oi
       obtain ⟨ws,hw,rw'⟩:=oj
       obtain ⟨v0,rfl,q1⟩:=rd'.uno
       cases q1.int
       have hlen:k.toNat<ws.length:=by rw [<-rw'.length];omega
       refine ⟨aj,ws,k,k.toNat,ws[k.toNat],rfl,rfl,hw,by omega,k2,?_,List.getElem?_eq_getElem hlen,ai,us,ws[k.toNat],rfl,rfl,?_,by rw [<-ru.length];exact z1m hx,?_⟩
       . unfold seqIndex?
         have e:(if k<0 then k+(ws.length:Int) else k)=k:=if_neg (by omega)
         simp only [e]
         rw [if_pos]
         simp only [Bool.and_eq_true,decide_eq_true_eq]
         omega
       . rw [z0a hij];exact hu
       . have R1:=R'.mutate (d':=.lst (ys.eraseIdx k.toNat)) (o:=.lst (ws.eraseIdx k.toNat)) qj' j1 (by simp only [OB];exact ⟨_,z0c,by rw [List.eraseIdx_eq_take_drop_succ,List.eraseIdx_eq_take_drop_succ];exact (rw'.take _).append (rw'.drop _)⟩)
         have g:RD K H0n (ys.getD k.toNat (.int 0)) ws[k.toNat]:=by
          obtain ⟨d,h1,h2⟩:=rw'.get (List.getElem?_eq_getElem hlen)
          rw [List.getD_eq_getElem?_getD,h1];exact h2
         refine h U _ H0n (R1.mutate (d:=.lst xs) (by rw [List.getElem?_set_ne (Ne.symm nij)];exact qi') i1 ?_)
         simp only [OB]
         exact ⟨_,z0c,ru.append (.one g)⟩
     . exact h.elim
   . exact h.elim
 . exact h.elim
end
section
variable {X:Cx} {EX:XW} {fr:Bool} {m:List Bool}
theorem zx6 {i j:Nat} {x y:Str} {xp yp apos bpos cp cpos pos:Pos} {e:Expr} {fs:DE->R (List D)} (hx:PE X (.Name x xp) (z7j i)) (hy:PE X (.Name y yp) (z7j j)) (ha:QA X EX [e] fs)
  (hb1:attributeBase (.Name y yp) "pop" X.env (eval (.Name y yp) X.env)=eval (.Name y yp) X.env:=by rfl)
  (hf1:((backTo cp (starEach [e] X.env)).all (fun x=>!x.1)&&(backToKw cp (keywordEach [] X.env)).all (fun x=>x.1.isSome)
   && decide ([e].length+([]:List Keyword).length+(if ([]:List Keyword).isEmpty then 0 else 1)<30))=true:=by rfl)
  (hl1:(bpos.endLine==cp.line)=true:=by rfl) (hs1:starEach [e] X.env=(false,eval e X.env)::starEach [] X.env:=by rfl) (hp1:(backTo cp (starEach [] X.env)).any (·.1)=false:=by rfl)
  (hbase:attributeBase (.Name x xp) "append" X.env (eval (.Name x xp) X.env)=eval (.Name x xp) X.env:=by rfl)
  (hfew:((backTo cpos (starEach [.Call (.Attribute (.Name y yp) "pop" bpos) [e] [] cp] X.env)).all (fun x=>!x.1)&&(backToKw cpos (keywordEach [] X.env)).all (fun x=>x.1.isSome)
   && decide ([Expr.Call (.Attribute (.Name y yp) "pop" bpos) [e] [] cp].length+([]:List Keyword).length+(if ([]:List Keyword).isEmpty then 0 else 1)<30))=true:=by rfl)
  (hline:(apos.endLine==cpos.line)=true:=by rfl) (hs:starEach [.Call (.Attribute (.Name y yp) "pop" bpos) [e] [] cp] X.env=(false,eval (.Call (.Attribute (.Name y yp) "pop" bpos) [e] [] cp) X.env)::starEach [] X.env:=by rfl) (hplain:(backTo cpos (starEach [] X.env)).any (·.1)=false:=by rfl)
  (hsw:swapsWith (.Call (.Attribute (.Name x xp) "append" apos) [.Call (.Attribute (.Name y yp) "pop" bpos) [e] [] cp] [] cpos) none pos.line X.env=pure false:=by rfl) :
  QS X EX fr (.Expr (.Call (.Attribute (.Name x xp) "append" apos) [.Call (.Attribute (.Name y yp) "pop" bpos) [e] [] cp] [] cpos) pos) (zir i j m fs):=
 ⟨(z89 (zkh PySem.F.plainAttrs_list PySem.F.slot_list_append PySem.F.type_list_append z35 hx (z34 (zkh PySem.F.plainAttrs_list PySem.F.slot_list_pop PySem.F.type_list_pop zkj hy ha.h hb1 hf1 hl1 hs1 hp1) pa_nil hs) hbase hfew hline hs hplain) hsw).imp fun _ _ _ q=>zx5 q⟩
end
section
variable {hp:Heap} {z TI TO i1 i2 l1 l2:Addr} {a b x y:Value} {k:Nat}
theorem zm3 (D:ZipApart z TI TO i1 i2 l1 l2) (hz:hp.get? z=some (z32 TI TO .none)) (hTO:hp.get? TO=some (z05 a b)) (h1:hp.get? i1=some (z03 l1 k)) (h2:hp.get? i2=some (z03 l2 k)) :
  (zHF hp z TO i1 i2 x y (up1 k) (up1 k)).get? z=some (z32 TI TO (rawInt hp.objs.size))/\(zHF hp z TO i1 i2 x y (up1 k) (up1 k)).get? TO=some (z05 x y)/\(zHF hp z TO i1 i2 x y (up1 k) (up1 k)).get? hp.objs.size=some (z05 x y) /\
  (zHF hp z TO i1 i2 x y (up1 k) (up1 k)).get? i1=some (z03 l1 (k+1))/\(zHF hp z TO i1 i2 x y (up1 k) (up1 k)).get? i2=some (z03 l2 (k+1)) /\
  ∀c o,c≠z->c≠TO->c≠i1->c≠i2->hp.get? c=some o->(zHF hp z TO i1 i2 x y (up1 k) (up1 k)).get? c=some o:=by
 have z1:(zH1 hp z).get? z=some (z32 TI TO .ellipsis):=by unfold zH1;rw [Heap.get?_update_self _ hz rfl];rfl
 have zn:∀{c},c≠z->(zH1 hp z).get? c=hp.get? c:=fun n=>z0g n
 have t2:((zH1 hp z).update i1 (up1 k)).get? TO=some (z05 a b):=by rw [z0g D.TOi1,zn D.TOz];exact hTO
 have t3:(((zH1 hp z).update i1 (up1 k)).update TO (Obj.mapSeq (·.setIfInBounds 0 x))).get? TO=some (z05 x b):=by rw [Heap.get?_update_self _ t2 rfl];rfl
 have i2':(((zH1 hp z).update i1 (up1 k)).update TO (Obj.mapSeq (·.setIfInBounds 0 x))).get? i2=some (z03 l2 k):=by rw [z0g D.TOi2.symm,z0g D.i12.symm,zn D.i2z];exact h2
 have u2:(zH4 hp z TO i1 i2 x (up1 k) (up1 k)).get? i2=some (z03 l2 (k+1)):=by
  unfold zH4;rw [Heap.get?_update_self _ i2' rfl];simp [z03,Obj.mapFields,rawInt]
 have u1:(zH4 hp z TO i1 i2 x (up1 k) (up1 k)).get? i1=some (z03 l1 (k+1)):=by
  unfold zH4
  rw [z0g D.i12,z0g D.TOi1.symm,Heap.get?_update_self _ (show (zH1 hp z).get? i1=some (z03 l1 k) by rw [zn D.i1z];exact h1) rfl]
  simp [z03,Obj.mapFields,rawInt]
 have u3:(zH4 hp z TO i1 i2 x (up1 k) (up1 k)).get? TO=some (z05 x b):=by unfold zH4;rw [z0g D.TOi2];exact t3
 have u4:(zH4 hp z TO i1 i2 x (up1 k) (up1 k)).get? z=some (z32 TI TO .ellipsis):=by unfold zH4;rw [z0g D.i2z.symm,z0g D.TOz.symm,z0g D.i1z.symm];exact z1
 have u5:∀c o,c≠z->c≠TO->c≠i1->c≠i2->hp.get? c=some o->(zH4 hp z TO i1 i2 x (up1 k) (up1 k)).get? c=some o:=fun c o c1 c2 c3 c4 e=>by
  unfold zH4;rw [z0g c4,z0g c2,z0g c3,zn c1];exact e
 have sz:((zH4 hp z TO i1 i2 x (up1 k) (up1 k)).update TO (Obj.mapSeq (·.setIfInBounds 1 y))).objs.size=hp.objs.size:=by
  unfold zH4 zH1;rw [Heap.size_update,Heap.size_update,Heap.size_update,Heap.size_update,Heap.size_update]
 have nz:hp.objs.size≠z:=Nat.ne_of_gt (Heap.lt_size hz)
 exact zwp D u1 u2 u3 u4 u5 sz nz
end
section
variable {prog:Program} {w:World} {A:Around} {E:Value->Shared->Prop} {s:Shared} {z TI TO i1 i2 l1 l2:Addr} {a b x y:Value} {k:Nat} {xs ys:Array Value}
theorem zfe {Q:Option Value->Shared->Prop} (D:ZipApart z TI TO i1 i2 l1 l2) (hz:s.heap.get? z=some (z32 TI TO .none)) (hTI:s.heap.get? TI=some (z05 (.ref i1) (.ref i2))) (hTO:s.heap.get? TO=some (z05 a b))
  (h1:s.heap.get? i1=some (z03 l1 k)) (h2:s.heap.get? i2=some (z03 l2 k)) (hl1:s.heap.IsTuple l1 xs) (hl2:s.heap.IsTuple l2 ys) (hx:xs[k]?=some x) (hy:ys[k]?=some y)
  (hQ:Q (some (.ref s.heap.objs.size)) { s with heap:=zHF s.heap z TO i1 i2 x y (up1 k) (up1 k) }):wpAny (model prog w) A (pyNext (.ref z)) Q E s:=by
 have hT:s.TypeIs (.ref z) "zip":=⟨_,hz,rfl⟩
 have k1:∀{c o},c≠z->s.heap.get? c=some o->(zH1 s.heap z).get? c=some o:=fun n e=>by unfold zH1;rw [z0g n];exact e
 have g1:zb2 i1 x (up1 k) A.in1 { s with heap:=zH1 s.heap z }:=z76 (k1 D.i1z h1) (let ⟨o,ho,r⟩:=hl1;⟨o,k1 D.l1z ho,r⟩) hx
 have k3:∀{c o},c≠z->c≠i1->c≠TO->s.heap.get? c=some o->(((zH1 s.heap z).update i1 (up1 k)).update TO (Obj.mapSeq (·.setIfInBounds 0 x))).get? c=some o:=fun n1 n2 n3 e=>by rw [z0g n3,z0g n2];exact k1 n1 e
 have g2:zb2 i2 y (up1 k) A.in1 { s with heap:=((zH1 s.heap z).update i1 (up1 k)).update TO (Obj.mapSeq (·.setIfInBounds 0 x)) }:=z76 (k3 D.i2z D.i12.symm D.TOi2.symm h2) (let ⟨o,ho,r⟩:=hl2;⟨o,k3 D.l2z D.l2i1 D.l2TO ho,r⟩) hy
 unfold pyNext
 exact wpAny_bind (wpAny_attempt (wpAny_callSpecial?_slot (name:=Str.ofString "__next__") hT F.slot_zip_next
  (call_meets F.slot_zip_next hT F.entry_zip_next (F.args_zip_next_1 _) (zb3 z TI TO i1 i2 a b x y (up1 k) (up1 k) D.TOz D.TOi1 D.TOi2 D.i1z D.i2z) ⟨hz,hTI,hTO,g1,g2,wpAny_pure hQ⟩)))
theorem zis {Q:Option Value->Shared->Prop} (hh:A.handled=none) (D:ZipApart z TI TO i1 i2 l1 l2) (hz:s.heap.get? z=some (z32 TI TO .none)) (hTI:s.heap.get? TI=some (z05 (.ref i1) (.ref i2))) (hTO:s.heap.get? TO=some (z05 a b))
  (h1:s.heap.get? i1=some (z03 l1 k)) (hl1:s.heap.IsTuple l1 xs) (hx:xs[k]?=none) (hQ:∀h',(∀c o,c≠z->c≠i1->s.heap.get? c=some o->h'.get? c=some o)->Q none { s with heap:=h' }):wpAny (model prog w) A (pyNext (.ref z)) Q E s:=by
 have hT:s.TypeIs (.ref z) "zip":=⟨_,hz,rfl⟩
 have k1:∀{c o},c≠z->s.heap.get? c=some o->(zH1 s.heap z).get? c=some o:=fun n e=>by unfold zH1;rw [z0g n];exact e
 have g1:zib i1 A.in1 { s with heap:=zH1 s.heap z }:=zlu hh (k1 D.i1z h1) (let ⟨o,ho,r⟩:=hl1;⟨o,k1 D.l1z ho,r⟩) hx
 unfold pyNext
 refine wpAny_bind (wpAny_attempt (wpAny_callSpecial?_slot (name:=Str.ofString "__next__") hT F.slot_zip_next
  (call_meets F.slot_zip_next hT F.entry_zip_next (F.args_zip_next_1 _) (ze8 z TI TO i1 i2 a b D.i1z) ⟨hz,hTI,hTO,g1,fun h' e kp he=>?_⟩)))
 obtain ⟨o,ho,hc⟩:=he
 exact wpAny_bind (wpAny_isInstance (T:="StopIteration") (b:=true) ⟨o,ho,hc⟩ isSubtype_stop (wpAny_pure (hQ h' kp)))
end
theorem zff {P:Program} {w:World} {K:Frag} {elts:List Expr} {k:Nat} {pos:Pos} {z TI TO i1 i2 l1 l2:Addr} {xs ys:List V} (D:ZipApart z TI TO i1 i2 l1 l2) (hlen:xs.length=ys.length) :
  Turn P w K (.Tuple elts k pos) (ItP (fun H=>Rd H l1 (.tup xs)/\Rd H l2 (.tup ys)) (xs.zip ys)) [z,TI,TO,i1,i2] z
   (fun i h=>h.get? z=some (z32 TI TO .none)/\h.get? TI=some (z05 (.ref i1) (.ref i2))/\(∃a b,h.get? TO=some (z05 a b))/\h.get? i1=some (z03 l1 i)/\h.get? i2=some (z03 l2 i)) where
 mem:=by simp
 obj:=fun i h ⟨hz,hTI,⟨a,b,hTO⟩,h1,h2⟩ c hc=>by
  have hc':c=z\/c=TI\/c=TO\/c=i1\/c=i2:=by simpa using hc
  rcases hc' with rfl | rfl | rfl | rfl | rfl
  . exact ⟨_,hz,fun v e=>by cases e⟩
  . exact ⟨_,hTI,fun v e=>by cases e⟩
  . exact ⟨_,hTO,fun v e=>by cases e⟩
  . exact ⟨_,h1,fun v e=>by cases e⟩
  . exact ⟨_,h2,fun v e=>by cases e⟩
 keep:=fun i h h' ⟨hz,hTI,⟨a,b,hTO⟩,h1,h2⟩ kp=>⟨kp z (by simp) _ hz,kp TI (by simp) _ hTI,⟨a,b,kp TO (by simp) _ hTO⟩,kp i1 (by simp) _ h1,kp i2 (by simp) _ h2⟩
 item:=by
  intro X hP hw hK hc i pins s U H E I hf st hg
  subst hP hw hK
  obtain ⟨⟨hS1,hS2⟩,hlt⟩:=hg
  obtain ⟨hz,hTI,⟨a0,b0,hTO⟩,h1,h2⟩:=st
  obtain ⟨its1,r1,p1,z1⟩:=I.tuple (.inl hS1)
  obtain ⟨its2,r2,p2,z2⟩:=I.tuple (.inl hS2)
  have le1:=r1.length
  have le2:=r2.length
  rw [List.length_zip] at hlt
  obtain ⟨a,ea⟩:∃a,xs[i]?=some a:=⟨xs[i]'(by omega),by simp⟩
  obtain ⟨b,eb⟩:∃b,ys[i]?=some b:=⟨ys[i]'(by omega),by simp⟩
  obtain ⟨x,q1,ru1⟩:=r1.get ea
  obtain ⟨y,q2,ru2⟩:=r2.get eb
  obtain ⟨f1,f2,f3,f4,f5,f6⟩:=zm3 (x:=x) (y:=y) D hz hTO h1 h2
  refine zfe D hz hTI hTO h1 h2 p1 p2 (by simpa using q1) (by simpa using q2) ⟨.ref s.heap.objs.size,rfl,?_⟩
  generalize zHF s.heap z TO i1 i2 x y (up1 i) (up1 i)=HF at f1 f2 f3 f4 f5 f6
  refine wpAny_letOwnedTupleGo_zip (TI:=TI) (TO:=TO) f1 fun h' hz' hs'=>?_
  have nT:∀{c o},s.heap.get? c=some o->s.heap.objs.size≠c:=fun e=>Nat.ne_of_gt (Heap.lt_size e)
  have up:∀{c o},c≠z->HF.get? c=some o->h'.get? c=some o:=fun n e=>hs'.extBut _ _ n e
  have ht:IsTp h' s.heap.objs.size ([x,y]:List Value).toArray:=.mk' (up (nT hz) f3)
  have sub:∀c∈[z,TO,i1,i2],z8b X pins H c:=fun c hc'=>hf c (by
   have:c=z\/c=TO\/c=i1\/c=i2:=by simpa using hc'
   rcases this with rfl | rfl | rfl | rfl<;>simp)
  have I2:=I.turnedT (tk:=s.toks) (h':=h') (xs:=[a,b]) (its:=[x,y]) sub (fun c o hcw e=>by
   have hc':c≠z/\c≠TO/\c≠i1/\c≠i2:=by simpa using hcw
   exact up hc'.1 (f6 c o hc'.1 hc'.2.1 hc'.2.2.1 hc'.2.2.2 e)) (Nat.le_refl _) ht (.cons ru1 (.cons ru2 .nil)) zdg
  have HT:H s.heap.objs.size=none:=I.hok.fresh (Nat.le_refl _)
  refine ⟨.ref s.heap.objs.size,upd H s.heap.objs.size (.tup [a,b]),I2,rfl,⟨s.heap.objs.size,a,b,rfl,HT,rfl,?_⟩,⟨hz',up D.TIz (f6 _ _ D.TIz D.TITO D.TIi1 D.TIi2 hTI),⟨x,y,up D.TOz f2⟩,up D.i1z f4,up D.i2z f5⟩,fun c hc'=>?_⟩
  . rw [List.getElem?_zip_eq_some];exact ⟨ea,eb⟩
  . rw [z0a]
    . exact (hf c hc').1
    . intro e
      have hc'':c=z\/c=TI\/c=TO\/c=i1\/c=i2:=by simpa using hc'
      rcases hc'' with q | q | q | q | q<;>rw [q] at e
      . exact nT hz e.symm
      . exact nT hTI e.symm
      . exact nT hTO e.symm
      . exact nT h1 e.symm
      . exact nT h2 e.symm
 done:=by
  intro X hP hw hK hc i pins s U H E I hf st hg
  subst hP hw hK
  obtain ⟨⟨hS1,hS2⟩,hle⟩:=hg
  obtain ⟨hz,hTI,⟨a0,b0,hTO⟩,h1,h2⟩:=st
  obtain ⟨its1,r1,p1,z1⟩:=I.tuple (.inl hS1)
  have le1:=r1.length
  rw [List.length_zip] at hle
  have sub:∀c∈[z,i1],z8b X pins H c:=fun c hc'=>hf c (by
   have:c=z\/c=i1:=by simpa using hc'
   rcases this with rfl | rfl<;>simp)
  refine zis (I.ok.hd hc) D hz hTI hTO h1 p1 (by simp;omega) fun h' kp=>⟨rfl,?_⟩
  exact I.turnedN (tk:=s.toks) sub fun c o hcw e=>by
   have hc':c≠z/\c≠i1:=by simpa using hcw
   exact kp c o hc'.1 hc'.2 e
 self:=fun A i s Q E st h=>wpAny_pyIter_zip (TI:=TI) (TO:=TO) (f0:=.none) st.1 h
noncomputable def zx7 (n:Nat) (l1 l2:Addr):List Obj:=[z03 l1 0,z03 l2 0,z05 (.ref n) (.ref (n+1)),z05 .none .none,z32 (n+2) (n+3) .none]
section
open PySem.SeqAt
open PySem.AutoSeq1 (wpAny_loadPart')
theorem zfg (l1 l2:Addr) (xs ys:Array Value) :
  Meets (Builtin.«zip.__new__» ⟨[.type "zip",.ref l1,.ref l2],[]⟩) (fun _ R s=>s.heap.IsTuple l1 xs/\s.heap.IsTuple l2 ys/\R (.ok (.ret (.ref (s.heap.objs.size+4)))) { s with heap:=zN s.heap (zx7 s.heap.objs.size l1 l2) }):=
 .of_wp fun prog w A R s h=>by
  obtain ⟨hp,g,dr,tk,os⟩:=s;obtain ⟨q1,q2,h⟩:=h
  have f0:=sub_zip
  have a1:Heap.IsTuple (Shared.heap ⟨hp,g,dr,tk,os⟩) l1 xs:=q1
  have a2:Heap.IsTuple (Shared.heap ⟨hp.push { cls:=.type "tuple_iterator",data:=.fields #[.ref l1,.int 0 0] },g,dr,tk,os⟩) l2 ys:=Heap.IsTuple.push q2 _
  wp_walk using wpAny_pyIter_tuple a1,wpAny_pyIter_tuple a2
  refine ⟨_,rfl,?_⟩
  have s1:(hp.push (z03 l1 0)).objs.size=hp.objs.size+1:=Heap.size_push ..
  have s2:((hp.push (z03 l1 0)).push (z03 l2 0)).objs.size=hp.objs.size+2:=by rw [Heap.size_push,s1]
  have s3:(((hp.push (z03 l1 0)).push (z03 l2 0)).push (z05 (.ref hp.objs.size) (.ref (hp.push (z03 l1 0)).objs.size))).objs.size=hp.objs.size+3:=by rw [Heap.size_push,s2]
  have s4:((((hp.push (z03 l1 0)).push (z03 l2 0)).push (z05 (.ref hp.objs.size) (.ref (hp.push (z03 l1 0)).objs.size))).push (z05 .none .none)).objs.size=hp.objs.size+4:=by rw [Heap.size_push,s3]
  show R (.ok (.ret (.ref ((((hp.push (z03 l1 0)).push (z03 l2 0)).push (z05 (.ref hp.objs.size) (.ref (hp.push (z03 l1 0)).objs.size))).push (z05 .none .none)).objs.size))) { heap:=((((hp.push (z03 l1 0)).push (z03 l2 0)).push (z05 (.ref hp.objs.size) (.ref (hp.push (z03 l1 0)).objs.size))).push (z05 .none .none)).push (z32 ((hp.push (z03 l1 0)).push (z03 l2 0)).objs.size (((hp.push (z03 l1 0)).push (z03 l2 0)).push (z05 (.ref hp.objs.size) (.ref (hp.push (z03 l1 0)).objs.size))).objs.size .none),gens:=g,drawn:=dr,toks:=tk,os:=os }
  rw [s4,s3,s2,s1]
  exact h
end
noncomputable def zx8 (ta:TA):TI:=fun U H R=>ta U H fun vs H1=>match vs with
 | [.ref l1,.ref l2]=>∃xs ys,Rd H1 l1 (.tup xs)/\Rd H1 l2 (.tup ys)/\xs.length=ys.length/\R (ItP (fun H=>Rd H l1 (.tup xs)/\Rd H l2 (.tup ys)) (xs.zip ys)) H1
 | _=>False
section
variable {X:Cx} {a b:Expr} {ta:TA} {p pos tpos:Pos} {elts:List Expr} {k:Nat}
theorem zm4 (hg:Gl X "zip") (hm:X.mg "zip"=none) (ha:PA X [a,b] ta) (hs:starEach [a,b] X.env=[(false,eval a X.env),(false,eval b X.env)]:=by rfl) (hs2:starEach [b] X.env=[(false,eval b X.env)]:=by rfl) :
  PI X (.Tuple elts k tpos) (.Call (.Name "zip" p) [a,b] [] pos) (zx8 ta):=by
 intro pins s U H R I h
 refine Call_ (z3y I hg hm boot_zip (PyProof.Rows.callWith_type1 (thn (ha pos pins s U H _ I h) fun us s1 ⟨vs,H1,I1,r1,q1⟩=>?_) (by rw [hs,hs2]) (by rw [hs2];rfl)))
 dsimp only at q1
 split at q1
 . rename_i l1 l2
   obtain ⟨xs,ys,e1,e2,hlen,q⟩:=q1
   obtain ⟨u,w',rfl,ru,rw'⟩:=zoz r1
   cases ru;cases rw'
   obtain ⟨its1,rr1,p1,_⟩:=I1.tuple (.inl e1)
   obtain ⟨its2,rr2,p2,_⟩:=I1.tuple (.inl e2)
   have lt1:l1<s1.heap.objs.size:=by obtain ⟨o,ho,_⟩:=p1;exact Heap.lt_size ho
   have lt2:l2<s1.heap.objs.size:=by obtain ⟨o,ho,_⟩:=p2;exact Heap.lt_size ho
   refine callType_new F.called_zip (by decide) (F.typeCall_zip_2 _ _) (F.newCall_zip_2 _ _) (fun obj=>F.args_object_init_3 obj _ _) F.entry_zip_new (zfg l1 l2 its1.toArray its2.toArray) ⟨p1,p2,?_⟩
   have g4:=z7m [z03 l1 0,z03 l2 0,z05 (.ref s1.heap.objs.size) (.ref (s1.heap.objs.size+1)),z05 .none .none] (z32 (s1.heap.objs.size+2) (s1.heap.objs.size+3) .none) [] s1.heap rfl
   have g3:=z7m [z03 l1 0,z03 l2 0,z05 (.ref s1.heap.objs.size) (.ref (s1.heap.objs.size+1))] (z05 .none .none) [z32 (s1.heap.objs.size+2) (s1.heap.objs.size+3) .none] s1.heap rfl
   have g2:=z7m [z03 l1 0,z03 l2 0] (z05 (.ref s1.heap.objs.size) (.ref (s1.heap.objs.size+1))) [z05 .none .none,z32 (s1.heap.objs.size+2) (s1.heap.objs.size+3) .none] s1.heap rfl
   have g1:=z7m [z03 l1 0] (z03 l2 0) [z05 (.ref s1.heap.objs.size) (.ref (s1.heap.objs.size+1)),z05 .none .none,z32 (s1.heap.objs.size+2) (s1.heap.objs.size+3) .none] s1.heap rfl
   have g0:=z7m [] (z03 l1 0) [z03 l2 0,z05 (.ref s1.heap.objs.size) (.ref (s1.heap.objs.size+1)),z05 .none .none,z32 (s1.heap.objs.size+2) (s1.heap.objs.size+3) .none] s1.heap rfl
   have kp:∀c o,s1.heap.get? c=some o->(zN s1.heap (zx7 s1.heap.objs.size l1 l2)).get? c=some o:=fun c o e=>z9e _ e
   refine ⟨⟨_,g4,rfl⟩,?_⟩
   refine wpAny_pyIter_zip (TI:=s1.heap.objs.size+2) (TO:=s1.heap.objs.size+3) (f0:=.none) g4 ⟨s1.heap.objs.size+4,[s1.heap.objs.size+4,s1.heap.objs.size+2,s1.heap.objs.size+3,s1.heap.objs.size,s1.heap.objs.size+1],_,_,H1,rfl,I1.kept (t':=s1.toks) kp,zff (zaj lt1 lt2) hlen,⟨g4,g2,⟨_,_,g3⟩,g0,g1⟩,fun c hc=>?_,q⟩
   have hc':s1.heap.objs.size<=c:=by
    have:c=s1.heap.objs.size+4\/c=s1.heap.objs.size+2\/c=s1.heap.objs.size+3\/c=s1.heap.objs.size\/c=s1.heap.objs.size+1:=by simpa using hc
    rcases this with q | q | q | q | q<;>rw [q]<;>first | exact Nat.le_add_right _ _ | exact Nat.le_refl _
   exact I1.fpOk hc' (I1.hok.fresh hc')
 . exact q1.elim
end
noncomputable def z9l (fs:DE->R (List D)):DE->R (List D):=fun ρ=>(fs ρ).bind fun ds=>R.of (match ds with
 | [.tup es,.tup gs]=>if es.length=gs.length then some ((es.zip gs).map fun p=>D.tup [p.1,p.2]) else none
 | _=>none)
theorem zx9 {X:Cx} {EX:XW} {elts:List Expr} {k:Nat} {a b:Expr} {p pos tpos:Pos} {fs:DE->R (List D)} (hg:Gl X "zip") (hm:X.mg "zip"=none) (ha:QA X EX [a,b] fs) (hs:starEach [a,b] X.env=[(false,eval a X.env),(false,eval b X.env)]:=by rfl) (hs2:starEach [b] X.env=[(false,eval b X.env)]:=by rfl) :
  QI X EX false (.Tuple elts k tpos) (.Call (.Name "zip" p) [a,b] [] pos) (z9l fs):=⟨(zm4 hg hm ha.h hs hs2).imp fun U H Q ⟨sx,ρ,H0,s,e,h⟩=>by
 unfold z9l at h
 rw [Rk.bind] at h
 refine TAd.go sx s e h fun ds h vs H1 H1' s1 e1 r1=>?_
 obtain ⟨es,hd,h⟩:=h.of
 split at hd<;>first | cases hd | skip
 split at hd<;>cases hd
 rename_i hl0
 obtain ⟨x,y,rfl,q1,q2⟩:=r1.duo
 obtain ⟨l,xs,rfl,hl,rl⟩:=q1.tup
 obtain ⟨l',ys,rfl,hl',rl'⟩:=q2.tup
 exact ⟨xs,ys,.inl (e1.2.1 _ _ hl),.inl (e1.2.1 _ _ hl'),by rw [<-rl.length,<-rl'.length];exact hl0,h _ H1 H1' s1 e1 (zdq (fun H s=>⟨.inl (s _ _ hl),.inl (s _ _ hl')⟩) rl rl')⟩⟩
end L2
namespace L2
open PySem PySem.Spec PyProof.Rows
open PySem.W in
noncomputable def z9m (tb:String->Option Builtin) (p:Program) (w:World) (m:Nat) (ann:Option Value):Nat->SharedT->Thread->Option SharedT
 | 0,_,_=>none
 | n+1,s,t=>match through t with
  | true=>some s
  | false=>match stepOk m ann t with
   | false=>none
   | true=>match stepT (denote tb) p w s t with
    | some (s',t')=>z9m tb p w m ann n s' t'
    | none=>none
open PySem.W in
theorem z7z {tb:String->Option Builtin} {p:Program} {w:World} {m:Nat} {ann:Option Value}:∀(n:Nat) {s s':SharedT} {t:Thread},z9m tb p w m ann n s t=some s'->topRun tb p w m ann n s.abs t=some s'.abs
 | 0,_,_,_,h=>nomatch h
 | n+1,s,s',t,h=>by
  unfold z9m at h
  unfold topRun
  cases a:through t with
  | true=>rw [a] at h;cases h;rfl
  | false=>
   rw [a] at h
   cases b:stepOk m ann t with
   | false=>rw [b] at h;cases h
   | true=>
    rw [b] at h
    cases c:stepT (denote tb) p w s t with
    | none=>rw [c] at h;cases h
    | some z=>
     obtain ⟨s2,t2⟩:=z
     rw [c] at h
     rw [stepT_spec c]
     exact z7z n h
open PySem.W in
noncomputable def znx:List Obj->Nat->BT->BT
 | [],_,t=>t
 | o::l,i,t=>znx l (i+1) (t.ins i o)
open PySem.W in
noncomputable def bootS (w:World) (os:OsState):SharedT:=⟨znx (boot_heap w.params).objs.toList 0 .nil,(boot_heap w.params).objs.size,(boot_heap w.params).life,Array.mk [],boot_drawn,boot_toks,os⟩
open PySem.W in
noncomputable def seenAt (p q:Program) (loose:List Str) (Xt:Shared->Bool) {α:Type} (Yf:Shared->α) (w:World) (t:Shared):=
 (staticsOk (importedModules p.main.body) (boot_heap w.params) t.heap&&namesBound p t.heap&&gensDone t&&laidKept (boot_heap w.params) t.heap,openSeen q loose (importedModules p.main.body) Xt true t,Yf t)
open PySem.W in
noncomputable def outAt (p q:Program) (loose:List Str) (Xt:Shared->Bool) {α:Type} (Yf:Shared->α) (N:Nat) (w:World) (os:OsState):=
 (z9m treeTable p w (boot_heap w.params).objs.size ((boot_heap w.params).nsMap mainGlobals "__annotations__") N (bootS w os) (topStub p)).map fun s=>seenAt p q loose Xt Yf w s.abs
open PySem.W in
theorem zm5:∀(w:World) (os:OsState),(bootS w os).abs=⟨boot_heap w.params,Array.mk [],boot_drawn,boot_toks,os⟩:=fun _ _=>by kernel_rfl
open PySem.W in
theorem zrg:∀w:World,(boot_heap w.params).isNs mainGlobals=true:=fun _=>by kernel_rfl
open PySem.W in
theorem zrh {p q:Program} {loose:List Str} {Xt:Shared->Bool} {α:Type} {Yf:Shared->α} {Ya:World->α} {N:Nat} (e:opening p=plainProg p.main.scope.names) (hN:Nat.ble 600 N=true)
  (f:∀s,fenceModules? p s=some s) (h:∀w os,outAt p q loose Xt Yf N w os=some (true,openGood q loose,Ya w)):LeftO p q loose Xt Yf Ya N:=fun w=>by
 obtain ⟨⟨hp,gs,d,k,os⟩,a,b⟩:=Option.map_eq_some_iff.mp (boot_open e hN f w)
 obtain ⟨rfl,rfl,rfl,rfl⟩:hp=boot_heap w.params/\gs=Array.mk []/\d=boot_drawn/\k=boot_toks:=by simpa using b
 obtain ⟨s,r,c⟩:=Option.map_eq_some_iff.mp (h w os)
 have r2:=z7z N r
 rw [zm5] at r2
 obtain ⟨l1,l2,l3⟩:_/\_/\_:=by simpa only [seenAt,Prod.mk.injEq] using c
 have t:topFrom treeTable p w N ⟨boot_heap w.params,Array.mk [],boot_drawn,boot_toks,os⟩=some s.abs:=by
  unfold topFrom
  dsimp only
  rw [zrg,r2]
  show (match staticsOk (importedModules p.main.body) (boot_heap w.params) s.abs.heap&&namesBound p s.abs.heap&&gensDone s.abs&&laidKept (boot_heap w.params) s.abs.heap with | true=>_ | false=>_)=_
  rw [l1]
 unfold openEnds
 rw [a]
 show (topFrom treeTable p w N _).map _=_
 rw [t]
 exact congrArg some (Prod.ext l2 l3)
abbrev vs (x:String) (t:Nat):Value:=.str (Str.ofString x) t
abbrev en (P:Params) (x:String) (t:Nat) (v:Value):DictEntry:=⟨PyData.keyHash P (Str.ofString x),.str (Str.ofString x) t,v⟩
abbrev oT (l:List Value):Obj:={ cls:=.type "tuple",data:=.seq l.toArray }
abbrev oD (l:List DictEntry) (n:Nat):Obj:={ cls:=.type "dict",data:=.dict l.toArray n }
abbrev oF (st:Stmt) (x q:String) (dV kV doc pm:Value) (an:Option Addr) (cd ct:Value):Obj:={ cls:=.type "function",data:=.func (PySem.W.fnOf (Str.ofString x) (Str.ofString q) (z36 st) (z1t st) (z04 st) dV kV doc pm an cd ct) }
end L2
namespace Bd
abbrev Vc:=Int×Int
def dt (u v:Vc):Int:=u.1 * v.2 - u.2 * v.1
theorem z4i (a:Vc):dt a a=0:=by simp only [dt];grind
def ad (u v:Vc):Vc:=(u.1+v.1,u.2+v.2)
def ng (u:Vc):Vc:=(-u.1,-u.2)
theorem z9n (a b c:Vc):dt (ad a b) c=dt a c+dt b c:=by simp only [dt,ad];grind
theorem z77 (a b c:Vc):dt c (ad a b)=dt c a+dt c b:=by simp only [dt,ad];grind
theorem zri (a c:Vc):dt c (ng a)=- dt c a:=by simp only [dt,ng];grind
theorem y1m (a c:Vc):dt c a=- dt a c:=by simp only [dt];grind
structure Fr (n:Nat) (R:Nat->Int) (v:Nat->Vc):Prop where
 per:∀k,v (k+n)=ng (v k)
 ini:dt (v 0) (v 1)=1
 rc1:∀k,(v (k+2)).1=R ((k+1) % n) * (v (k+1)).1 - (v k).1
 rc2:∀k,(v (k+2)).2=R ((k+1) % n) * (v (k+1)).2 - (v k).2
 pos:∀i j,i<j->j<i+n->0<dt (v i) (v j)
variable {n:Nat} {R:Nat->Int} {v:Nat->Vc}
theorem Fr.turn (F:Fr n R v) (i j:Nat):dt (v i) (v (j+n))=- dt (v i) (v j):=by
 rw [F.per,zri]
theorem Fr.nn (F:Fr n R v) (i j:Nat) (h:i<=j) (h2:j<=i+n):0<=dt (v i) (v j):=by
 by_cases e:i=j
 . subst e;rw [z4i];lia
 by_cases e2:j=i+n
 . subst e2;rw [F.turn,z4i];lia
 have:=F.pos i j (by lia) (by lia);lia
def gR (n c:Nat) (R:Nat->Int) (k:Nat):Int:=
 if k=c+1 then 1 else
 let o:=if k<=c then k else k - 1
 R o+(if o=c then 1 else 0)+(if o=(c+1) % n then 1 else 0)
def gq (n c:Nat) (v:Nat->Vc) (q r:Nat):Vc:=
 if r<=c then v (q * n+r) else if r=c+1 then ad (v (q * n+c)) (v (q * n+c+1)) else v (q * n+(r - 1))
def gV (n c:Nat) (v:Nat->Vc) (k:Nat):Vc:=gq n c v (k / (n+1)) (k % (n+1))
theorem z33 (n c:Nat) (v:Nat->Vc) (q r:Nat) (h:r<=n):gV n c v (q * (n+1)+r)=gq n c v q r:=by
 unfold gV
 rw [show (q * (n+1)+r) / (n+1)=q by
   rw [Nat.mul_comm,Nat.mul_add_div (by lia),Nat.div_eq_of_lt (by lia)];lia,
  show (q * (n+1)+r) % (n+1)=r by
   rw [Nat.mul_comm,Nat.mul_add_mod];exact Nat.mod_eq_of_lt (by lia)]
theorem zfh (n k:Nat):∃q r,k=q * (n+1)+r/\r<=n:=
 ⟨k / (n+1),k % (n+1),by rw [Nat.mul_comm];exact (Nat.div_add_mod k (n+1)).symm,by have:=Nat.mod_lt k (show n+1 > 0 by lia);lia⟩
theorem sm (q n:Nat):(q+1) * n=q * n+n:=Nat.succ_mul q n
theorem mdn (q n s:Nat) (h:s<n):(q * n+s) % n=s:=by
 rw [Nat.mul_comm,Nat.mul_add_mod];exact Nat.mod_eq_of_lt h
theorem zxa (F:Fr n R v) (c:Nat) (k:Nat):gV n c v (k+(n+1))=ng (gV n c v k):=by
 obtain ⟨q,r,rfl,h⟩:=zfh n k
 rw [show q * (n+1)+r+(n+1)=(q+1) * (n+1)+r by rw [sm q (n+1)];lia,z33 _ _ _ _ _ h,z33 _ _ _ _ _ h]
 unfold gq
 split
 . rw [show (q+1)*n+r=q * n+r+n by rw [sm];lia,F.per]
 split
 . rw [show (q+1)*n+c=q * n+c+n by rw [sm];lia,show q * n+c+n+1=q * n+c+1+n by lia,F.per,F.per]
   simp only [ng,ad];ext<;>simp<;>lia
 . rw [show (q+1)*n+(r-1)=q * n+(r-1)+n by rw [sm];lia,F.per]
def lin (x:Int) (b a:Vc):Vc:=(x * b.1 - a.1,x * b.2 - a.2)
theorem Fr.rv (F:Fr n R v) (k:Nat):v (k+2)=lin (R ((k+1) % n)) (v (k+1)) (v k):=by
 have h1:=F.rc1 k;have h2:=F.rc2 k
 exact Prod.ext h1 h2
theorem Fr.rvq (F:Fr n R v) (q s:Nat) (h:s+1<n):v (q * n+s+2)=lin (R (s+1)) (v (q * n+s+1)) (v (q * n+s)):=by
 rw [F.rv,show q * n+s+1=q * n+(s+1) by lia,mdn q n (s+1) h]
theorem Fr.rv0 (F:Fr n R v) (q:Nat) (h:1<=n):v (q * n+n+1)=lin (R 0) (v (q * n+n)) (v (q * n+(n - 1))):=by
 have:=F.rv (q * n+(n - 1))
 rw [show q * n+(n-1)+2=q * n+n+1 by lia,show q * n+(n-1)+1=(q+1) * n+0 by rw [sm];lia,mdn (q+1) n 0 (by lia)] at this
 rw [this];congr 2;rw [sm];rfl
theorem z51 (n c:Nat) (v:Nat->Vc) (q r:Nat) (h:r<=c):gq n c v q r=v (q * n+r):=by
 unfold gq;rw [if_pos h]
theorem z40 (n c:Nat) (v:Nat->Vc) (q:Nat):gq n c v q (c+1)=ad (v (q * n+c)) (v (q * n+c+1)):=by
 unfold gq;rw [if_neg (by lia),if_pos rfl]
theorem z6b (n c:Nat) (v:Nat->Vc) (q r:Nat) (h:c+1<=r):gq n c v q (r+1)=v (q * n+r):=by
 unfold gq;rw [if_neg (by lia),if_neg (by lia)];rfl
theorem zxb (x:Int) (a b:Vc):ad b (lin x b a)=lin (x+1) b a:=by
 simp only [ad,lin,Prod.mk.injEq];constructor<;>grind
theorem zxc (a b:Vc):b=lin 1 (ad a b) a:=by
 apply Prod.ext<;>simp only [ad,lin]<;>grind
theorem zrj (x:Int) (a b:Vc):lin x b a=lin (x+1) b (ad a b):=by
 simp only [ad,lin,Prod.mk.injEq];constructor<;>grind
theorem zny (F:Fr n R v) (c:Nat) (hc:c<n) (hn:3<=n) (k:Nat) :
  gV n c v (k+2)=lin (gR n c R ((k+1) % (n+1))) (gV n c v (k+1)) (gV n c v k):=by
 obtain ⟨q,r,rfl,h⟩:=zfh n k
 by_cases h2:r+2<=n
 . rw [show q * (n+1)+r+2=q * (n+1)+(r+2) by lia,show q * (n+1)+r+1=q * (n+1)+(r+1) by lia,
    mdn q (n+1) (r+1) (by lia),z33 _ _ _ _ _ h2,z33 _ _ _ _ _ (by lia),z33 _ _ _ _ _ h]
   by_cases e1:r+2<=c
   . rw [z51 _ _ _ _ _ e1,z51 _ _ _ _ _ (by lia),z51 _ _ _ _ _ (by lia),show gR n c R (r+1)=R (r+1) by
      have:¬(r+1=(c+1) % n):=by
       by_cases z:c+1=n
       . rw [z,Nat.mod_self];lia
       . rw [Nat.mod_eq_of_lt (by lia)];lia
      simp only [gR,if_neg (show ¬(r+1=c+1) by lia),if_pos (show r+1<=c by lia),if_neg (show ¬(r+1=c) by lia),if_neg this];lia]
     exact F.rvq q r (by lia)
   by_cases e2:r+1=c
   . subst e2
     rw [z51 _ _ _ _ r (by lia),z51 _ _ _ _ (r+1) (by lia),show r+2=(r+1)+1 by rfl,z40,
      show gR n (r+1) R (r+1)=R (r+1)+1 by
      have:¬(r+1=(r+1+1) % n):=by
       by_cases z:r+1+1=n
       . rw [z,Nat.mod_self];lia
       . rw [Nat.mod_eq_of_lt (by lia)];lia
      simp only [gR,if_neg (show ¬(r+1=r+1+1) by lia),if_pos (Nat.le_refl (r+1)),if_neg this,if_true];lia]
     have:=F.rvq q r (by lia)
     rw [show q * n+(r+1)+1=q * n+r+2 by lia,this,<-zxb];rfl
   by_cases e3:r=c
   . subst e3
     rw [z51 _ _ _ _ r (by lia),z40,z6b _ _ _ _ (r+1) (by lia),show gR n r R (r+1)=1 by simp only [gR,if_true]]
     exact zxc _ _
   by_cases e4:r=c+1
   . subst e4
     rw [z40,z6b _ _ _ _ _ (by lia),z6b _ _ _ _ _ (by lia),show gR n c R (c+1+1)=R (c+1)+1 by
      have:(c+1) % n=c+1:=Nat.mod_eq_of_lt (by lia)
      simp only [gR,if_neg (show ¬(c+1+1=c+1) by lia),if_neg (show ¬(c+1+1<=c) by lia),this]
      rw [show c+1+1 - 1=c+1 by lia,if_neg (by lia),if_pos rfl];lia]
     have:=F.rvq q c (by lia)
     rw [show q * n+(c+1+1)=q * n+c+2 by lia,this,zrj];rfl
   . obtain ⟨s,rfl⟩:∃s,r=s+1:=⟨r - 1,by lia⟩
     rw [z6b _ _ _ _ s (by lia),show s+1+2=(s+2)+1 by rfl,z6b _ _ _ _ (s+2) (by lia),z6b _ _ _ _ (s+1) (by lia),show gR n c R (s+1+1)=R (s+1) by
      have:¬(s+1=(c+1) % n):=by
       rw [Nat.mod_eq_of_lt (by lia)];lia
      simp only [gR,if_neg (show ¬(s+1+1=c+1) by lia),if_neg (show ¬(s+1+1<=c) by lia),show s+1+1 - 1=s+1 by lia,if_neg (show ¬(s+1=c) by lia),if_neg this];lia]
     exact F.rvq q s (by lia)
 by_cases h3:r+1=n
 . subst h3
   rw [show q * (r+1+1)+r+2=(q+1) * (r+1+1)+0 by rw [sm q];lia,show q * (r+1+1)+r+1=q * (r+1+1)+(r+1) by lia,
    mdn q (r+1+1) (r+1) (by lia),z33 _ _ _ _ _ (by lia),z33 _ _ _ _ _ (by lia),z33 _ _ _ _ _ h,z51 _ _ _ _ 0 (by lia)]
   rw [show (q+1) * (r+1)+0=q * (r+1)+r+1 by rw [sm q];lia]
   by_cases e:r=c
   . subst e
     rw [z51 _ _ _ _ r (by lia),z40,show gR (r+1) r R (r+1)=1 by simp only [gR,if_true]]
     exact zxc _ _
   by_cases e4:r=c+1
   . subst e4
     rw [z40,z6b _ _ _ _ _ (by lia),show gR (c+1+1) c R (c+1+1)=R (c+1)+1 by
      have:(c+1) % (c+1+1)=c+1:=Nat.mod_eq_of_lt (by lia)
      simp only [gR,if_neg (show ¬(c+1+1=c+1) by lia),if_neg (show ¬(c+1+1<=c) by lia),this]
      rw [show c+1+1 - 1=c+1 by lia,if_neg (by lia),if_pos rfl];lia]
     have:=F.rvq q c (by lia)
     rw [show q * (c+1+1)+(c+1)+1=q * (c+1+1)+c+2 by lia,this,zrj];rfl
   . obtain ⟨s,rfl⟩:∃s,r=s+1:=⟨r - 1,by lia⟩
     rw [z6b _ _ _ _ _ (by lia),z6b _ _ _ _ _ (by lia),show gR (s+1+1) c R (s+1+1)=R (s+1) by
      have:¬(s+1=(c+1) % (s+1+1)):=by
       rw [Nat.mod_eq_of_lt (by lia)];lia
      simp only [gR,if_neg (show ¬(s+1+1=c+1) by lia),if_neg (show ¬(s+1+1<=c) by lia),show s+1+1 - 1=s+1 by lia,if_neg (show ¬(s+1=c) by lia),if_neg this];lia]
     exact F.rvq q s (by lia)
 . obtain rfl:r=n:=by lia
   rw [show q * (r+1)+r+2=(q+1) * (r+1)+1 by rw [sm q];lia,show q * (r+1)+r+1=(q+1) * (r+1)+0 by rw [sm q];lia,
    mdn (q+1) (r+1) 0 (by lia),z33 _ _ _ _ _ (by lia),z33 _ _ _ _ _ (by lia),z33 _ _ _ _ _ h,z51 _ _ _ _ 0 (by lia)]
   rw [show (q+1) * r+0=q * r+r by rw [sm q];lia]
   have key:=F.rv0 q (by lia)
   by_cases e0:c=0
   . subst e0
     obtain ⟨s,rfl⟩:∃s,r=s+1:=⟨r - 1,by lia⟩
     rw [show gq (s+1) 0 v (q+1) 1=ad (v ((q+1) * (s+1)+0)) (v ((q+1) * (s+1)+0+1)) from z40 _ _ _ _,z6b _ _ _ _ _ (by lia),show gR (s+1) 0 R 0=R 0+1 by
      have:¬(0=(0+1) % (s+1)):=by rw [Nat.mod_eq_of_lt (by lia)];lia
      simp only [gR,if_neg (show ¬(0=0+1) by lia),if_pos (Nat.le_refl 0),if_true,if_neg this];lia]
     rw [show (q+1) * (s+1)+0=q * (s+1)+(s+1) by rw [sm q];lia,key,zxb];rfl
   rw [z51 _ _ _ _ 1 (by lia)]
   by_cases e1:c+1=r
   . subst e1
     rw [z40,show gR (c+1) c R 0=R 0+1 by
      simp only [gR,if_neg (show ¬(0=c+1) by lia),if_pos (Nat.zero_le c),if_neg (show ¬(0=c) by lia),Nat.mod_self,if_true];lia]
     rw [show (q+1) * (c+1)+1=q * (c+1)+(c+1)+1 by rw [sm q],key,zrj];rfl
   . obtain ⟨s,rfl⟩:∃s,r=s+1:=⟨r - 1,by lia⟩
     rw [z6b _ _ _ _ _ (by lia),show gR (s+1) c R 0=R 0 by
      have:¬(0=(c+1) % (s+1)):=by rw [Nat.mod_eq_of_lt (by lia)];lia
      simp only [gR,if_neg (show ¬(0=c+1) by lia),if_pos (Nat.zero_le c),if_neg (show ¬(0=c) by lia),if_neg this];lia]
     rw [show (q+1) * (s+1)+1=q * (s+1)+(s+1)+1 by rw [sm q],key];rfl
theorem z28 (n c:Nat) (hc:c<n) (v:Nat->Vc) (q r:Nat) (h:r<=n) :
  (r≠c+1/\gq n c v q r=v (q * n+(if r<=c then r else r - 1))) \/
  (r=c+1/\gq n c v q r=ad (v (q * n+c)) (v (q * n+c+1))):=by
 by_cases e:r=c+1
 . right;subst e;exact ⟨rfl,z40 _ _ _ _⟩
 . left;refine ⟨e,?_⟩
   by_cases e2:r<=c
   . rw [if_pos e2,z51 _ _ _ _ _ e2]
   . rw [if_neg e2];unfold gq;rw [if_neg e2,if_neg e]
theorem Fr.new_l (F:Fr n R v) (hn:3<=n) (p p':Nat) (h1:p+1<=p') (h2:p'<=p+n) :
  0<dt (ad (v p) (v (p+1))) (v p')/\(p+1<p'->p'<p+n->1<dt (ad (v p) (v (p+1))) (v p')):=by
 rw [z9n]
 have a:=F.nn p p' (by omega) h2
 have b:=F.nn (p+1) p' h1 (by omega)
 have a':=fun z=>F.pos p p' (by omega) z
 have b':=fun z=>F.pos (p+1) p' z (by omega)
 constructor
 . by_cases z:p'<p+n
   . have:=a' z;omega
   . have:=b' (by omega);omega
 . intro z z';have:=a' z';have:=b' z;omega
theorem Fr.new_r (F:Fr n R v) (hn:3<=n) (i p:Nat) (h1:i<=p) (h2:p+1<=i+n) :
  0<dt (v i) (ad (v p) (v (p+1)))/\(i<p->p+1<i+n->1<dt (v i) (ad (v p) (v (p+1)))):=by
 rw [z77]
 have a:=F.nn i p h1 (by omega)
 have b:=F.nn i (p+1) (by omega) h2
 have a':=fun z=>F.pos i p z (by omega)
 have b':=fun z=>F.pos i (p+1) (by omega) z
 constructor
 . by_cases z:i<p
   . have:=a' z;omega
   . have:=b' (by omega);omega
 . intro z z';have:=a' z;have:=b' z';omega
theorem zxd (F:Fr n R v) (c:Nat) (hc:c<n) (hn:3<=n) (i j:Nat) (h:i<j) (h2:j<i+(n+1)) :
  0<dt (gV n c v i) (gV n c v j):=by
 obtain ⟨q,r,rfl,hr⟩:=zfh n i
 obtain ⟨q',s,rfl,hs⟩:=zfh n j
 have hq:q'=q\/q'=q+1:=by
  by_cases a:q'<q
  . have:(q'+1) * (n+1)<=q * (n+1):=Nat.mul_le_mul_right _ a
    rw [sm] at this;lia
  by_cases b:q+1<q'
  . have:(q+1+1) * (n+1)<=q' * (n+1):=Nat.mul_le_mul_right _ b
    rw [sm,sm] at this;lia
  lia
 rw [z33 _ _ _ _ _ hr,z33 _ _ _ _ _ hs]
 rcases hq with rfl | rfl
 . rcases z28 n c hc v q' r hr with ⟨e,g⟩ | ⟨e,g⟩<;>rcases z28 n c hc v q' s hs with ⟨e',g'⟩ | ⟨e',g'⟩<;>rw [g,g']
   . exact F.pos _ _ (by split<;>split<;>lia) (by split<;>split<;>lia)
   . exact (F.new_r hn _ _ (by split<;>lia) (by split<;>lia)).1
   . exact (F.new_l hn _ _ (by split<;>lia) (by split<;>lia)).1
   . lia
 . rw [sm q (n+1)] at h h2
   rcases z28 n c hc v q r hr with ⟨e,g⟩ | ⟨e,g⟩<;>rcases z28 n c hc v (q+1) s hs with ⟨e',g'⟩ | ⟨e',g'⟩<;>rw [g,g',sm q n]
   . exact F.pos _ _ (by split<;>split<;>lia) (by split<;>split<;>lia)
   . exact (F.new_r hn _ _ (by split<;>lia) (by split<;>lia)).1
   . exact (F.new_l hn _ _ (by split<;>lia) (by split<;>lia)).1
   . lia
theorem Fr.grow (F:Fr n R v) (c:Nat) (hc:c<n) (hn:3<=n):Fr (n+1) (gR n c R) (gV n c v) where
 per:=zxa F c
 ini:=by
  have a0:gV n c v 0=v 0:=by
   have:=z33 n c v 0 0 (by lia);simp only [Nat.zero_mul,Nat.zero_add] at this
   rw [this,z51 _ _ _ _ _ (by lia)];simp
  have a1:=z33 n c v 0 1 (by lia);simp only [Nat.zero_mul,Nat.zero_add] at a1
  rw [a0,a1]
  by_cases e:c=0
  . subst e
    have:gq n 0 v 0 1=ad (v 0) (v 1):=by have:=z40 n 0 v 0;simpa using this
    rw [this,z77,z4i,F.ini];rfl
  . rw [z51 _ _ _ _ _ (by lia)];simp [F.ini]
 rc1:=fun k=>by rw [zny F c hc hn k];rfl
 rc2:=fun k=>by rw [zny F c hc hn k];rfl
 pos:=zxd F c hc hn
def v3 (k:Nat):Vc:=if k % 6=0 then (1,0) else if k % 6=1 then (0,1) else if k % 6=2 then (-1,1)
 else if k % 6=3 then (-1,0) else if k % 6=4 then (0,-1) else (1,-1)
theorem y36 (k:Nat):k % 6=0\/k % 6=1\/k % 6=2\/k % 6=3\/k % 6=4\/k % 6=5:=by
 have h:k % 6<6:=Nat.mod_lt _ (by decide)
 revert h
 generalize k % 6=m
 intro h
 rcases m with _ | _ | _ | _ | _ | _ | m
 . exact .inl rfl
 . exact .inr (.inl rfl)
 . exact .inr (.inr (.inl rfl))
 . exact .inr (.inr (.inr (.inl rfl)))
 . exact .inr (.inr (.inr (.inr (.inl rfl))))
 . exact .inr (.inr (.inr (.inr (.inr rfl))))
 . exact absurd h (Nat.not_lt_of_le (Nat.le_add_left 6 m))
theorem fr3:Fr 3 (fun _=>1) v3:=by
 have key:∀k,v3 k=v3 (k % 6):=fun k=>by simp only [v3,Nat.mod_mod]
 have ks:∀k a,v3 (k+a)=v3 ((k % 6+a) % 6):=fun k a=>by rw [key (k+a)];congr 1;lia
 have six:=y36
 refine ⟨fun k=>?_,rfl,fun k=>?_,fun k=>?_,fun i j h h2=>?_⟩
 . rw [ks k 3,key k];rcases six k with e | e | e | e | e | e<;>rw [e]<;>rfl
 . rw [ks k 2,ks k 1,key k];rcases six k with e | e | e | e | e | e<;>rw [e]<;>rfl
 . rw [ks k 2,ks k 1,key k];rcases six k with e | e | e | e | e | e<;>rw [e]<;>rfl
 . obtain rfl | rfl:j=i+1\/j=i+2:=by lia
   . rw [ks i 1,key i];rcases six i with e | e | e | e | e | e<;>rw [e]<;>decide
   . rw [ks i 2,key i];rcases six i with e | e | e | e | e | e<;>rw [e]<;>decide
theorem Fr.congr {n:Nat} {R R':Nat->Int} {v:Nat->Vc} (F:Fr n R v) (hn:1<=n) (h:∀k,k<n->R' k=R k):Fr n R' v where
 per:=F.per
 ini:=F.ini
 rc1:=fun k=>by rw [h _ (Nat.mod_lt _ (by lia))];exact F.rc1 k
 rc2:=fun k=>by rw [h _ (Nat.mod_lt _ (by lia))];exact F.rc2 k
 pos:=F.pos
theorem y1n {n:Nat} {R:Nat->Int} {v:Nat->Vc} {B:Int} (F:Fr n R v) (c:Nat) (hc:c<n) (hn:3<=n) (hB:∀i j,i<=j->j<=i+n->dt (v i) (v j)<=B) (i j:Nat) (h:i<j) (h2:j<i+(n+1)) :
  dt (gV n c v i) (gV n c v j)<=2 * B:=by
 obtain ⟨q,r,rfl,hr⟩:=zfh n i
 obtain ⟨q',s,rfl,hs⟩:=zfh n j
 have B0:0<=B:=by have:=hB 0 0 (by lia) (by lia);rw [z4i] at this;exact this
 have hq:q'=q\/q'=q+1:=by
  by_cases a:q'<q
  . have:(q'+1) * (n+1)<=q * (n+1):=Nat.mul_le_mul_right _ a
    rw [sm] at this;lia
  by_cases b:q+1<q'
  . have:(q+1+1) * (n+1)<=q' * (n+1):=Nat.mul_le_mul_right _ b
    rw [sm,sm] at this;lia
  lia
 rw [z33 _ _ _ _ _ hr,z33 _ _ _ _ _ hs]
 rcases hq with rfl | rfl
 . rcases z28 n c hc v q' r hr with ⟨e,g⟩ | ⟨e,g⟩<;>rcases z28 n c hc v q' s hs with ⟨e',g'⟩ | ⟨e',g'⟩<;>rw [g,g']
   . have:=hB (q' * n+(if r<=c then r else r - 1)) (q' * n+(if s<=c then s else s - 1)) (by split<;>split<;>lia) (by split<;>split<;>lia);lia
   . rw [z77]
     have a:=hB (q' * n+(if r<=c then r else r - 1)) (q' * n+c) (by split<;>lia) (by split<;>lia)
     have b:=hB (q' * n+(if r<=c then r else r - 1)) (q' * n+c+1) (by split<;>lia) (by split<;>lia);lia
   . rw [z9n]
     have a:=hB (q' * n+c) (q' * n+(if s<=c then s else s - 1)) (by split<;>lia) (by split<;>lia)
     have b:=hB (q' * n+c+1) (q' * n+(if s<=c then s else s - 1)) (by split<;>lia) (by split<;>lia);lia
   . lia
 . rw [sm q (n+1)] at h h2
   rcases z28 n c hc v q r hr with ⟨e,g⟩ | ⟨e,g⟩<;>rcases z28 n c hc v (q+1) s hs with ⟨e',g'⟩ | ⟨e',g'⟩<;>rw [g,g',sm q n]
   . have:=hB (q * n+(if r<=c then r else r - 1)) (q * n+n+(if s<=c then s else s - 1)) (by split<;>split<;>lia) (by split<;>split<;>lia);lia
   . rw [z77]
     have a:=hB (q * n+(if r<=c then r else r - 1)) (q * n+n+c) (by split<;>lia) (by split<;>lia)
     have b:=hB (q * n+(if r<=c then r else r - 1)) (q * n+n+c+1) (by split<;>lia) (by split<;>lia);lia
   . rw [z9n]
     have a:=hB (q * n+c) (q * n+n+(if s<=c then s else s - 1)) (by split<;>lia) (by split<;>lia)
     have b:=hB (q * n+c+1) (q * n+n+(if s<=c then s else s - 1)) (by split<;>lia) (by split<;>lia);lia
   . lia
def z3e (row:List Int) (c:Nat):List Int:=
 let m1:=row.set c (row.getD c 0+1)
 let m2:=m1.set ((c+1) % row.length) (m1.getD ((c+1) % row.length) 0+1)
 m2.take (c+1)++1::m2.drop (c+1)
theorem z22 (row:List Int) (c:Nat) (hc:c<row.length):(z3e row c).length=row.length+1:=by
 simp only [z3e,List.length_append,List.length_take,List.length_set,List.length_cons,List.length_drop];lia
theorem z78 (l:List Int) (i j:Nat) (x:Int) (hi:i<l.length):(l.set i x).getD j 0=if j=i then x else l.getD j 0:=by
 rw [List.getD_eq_getElem?_getD,List.getElem?_set,List.getD_eq_getElem?_getD]
 by_cases e:i=j
 . subst e;simp [hi]
 . rw [if_neg e,if_neg (Ne.symm e)]
theorem z6i (row:List Int) (c k:Nat) (hc:c<row.length) (hn:2<=row.length) (hk:k<row.length+1) :
  (z3e row c).getD k 0=gR row.length c (fun k=>row.getD k 0) k:=by
 have hm:(c+1) % row.length<row.length:=Nat.mod_lt _ (by lia)
 have hne:(c+1) % row.length≠c:=by
  by_cases z:c+1=row.length
  . rw [z,Nat.mod_self];lia
  . rw [Nat.mod_eq_of_lt (by lia)];lia
 have e2:∀j,((row.set c (row.getD c 0+1)).set ((c+1) % row.length) ((row.set c (row.getD c 0+1)).getD ((c+1) % row.length) 0+1)).getD j 0
   = row.getD j 0+(if j=c then 1 else 0)+(if j=(c+1) % row.length then 1 else 0):=fun j=>by
  rw [z78 _ _ _ _ (by rw [List.length_set];exact hm),z78 _ _ _ _ hc,z78 _ _ _ _ hc,if_neg hne]
  by_cases a:j=(c+1) % row.length
  . rw [if_pos a,if_pos a,if_neg (by lia),a];lia
  . rw [if_neg a,if_neg a]
    by_cases b:j=c
    . rw [if_pos b,if_pos b,b];lia
    . rw [if_neg b,if_neg b];lia
 simp only [z3e]
 generalize hm2:(row.set c (row.getD c 0+1)).set ((c+1) % row.length) ((row.set c (row.getD c 0+1)).getD ((c+1) % row.length) 0+1)=m2 at e2 ⊢
 have hl:m2.length=row.length:=by rw [<-hm2,List.length_set,List.length_set]
 have ht:(m2.take (c+1)).length=c+1:=by rw [List.length_take,hl];lia
 unfold gR
 by_cases a:k=c+1
 . rw [if_pos a,List.getD_eq_getElem?_getD,List.getElem?_append_right (by lia),ht,a];simp
 . rw [if_neg a]
   by_cases b:k<=c
   . rw [if_pos b]
     show _=row.getD k 0+(if k=c then 1 else 0)+(if k=(c+1) % row.length then 1 else 0)
     rw [<-e2,List.getD_eq_getElem?_getD,List.getElem?_append_left (by lia),List.getElem?_take,if_pos (by lia),List.getD_eq_getElem?_getD]
   . rw [if_neg b]
     show _=row.getD (k-1) 0+(if k-1=c then 1 else 0)+(if k-1=(c+1) % row.length then 1 else 0)
     obtain ⟨t,rfl⟩:∃t,k=c+1+(t+1):=⟨k - (c+2),by lia⟩
     rw [<-e2,List.getD_eq_getElem?_getD,List.getElem?_append_right (by lia),ht,List.getD_eq_getElem?_getD,
      show c+1+(t+1) - (c+1)=t+1 by lia,List.getElem?_cons_succ,List.getElem?_drop,show c+1+(t+1) - 1=c+1+t by lia]
structure Good (row:List Int) (v:Nat->Vc):Prop where
 len:3<=row.length
 fr:Fr row.length (fun k=>row.getD k 0) v
 bd:∀i j,i<=j->j<=i+row.length->dt (v i) (v j)<=2 ^ (row.length - 3)
 rb:∀k,0<=row.getD k 0/\row.getD k 0<=row.length
theorem y1o:Good [1,1,1] v3:=by
 refine ⟨by decide,fr3.congr (by decide) fun k hk=>?_,fun i j h h2=>?_,fun k=>?_⟩
 . have:k=0\/k=1\/k=2:=by have hk':k<3:=hk;lia
   rcases this with rfl | rfl | rfl<;>rfl
 . have key:∀k,v3 k=v3 (k % 6):=fun k=>by simp only [v3,Nat.mod_mod]
   have ks:∀k a,v3 (k+a)=v3 ((k % 6+a) % 6):=fun k a=>by rw [key (k+a)];congr 1;lia
   have six:=y36
   simp only [List.length_cons,List.length_nil] at h2
   have hj:j=i+0\/j=i+1\/j=i+2\/j=i+3:=by lia
   rcases hj with z | z | z | z<;>rw [z,ks i,key i]<;>rcases six i with e | e | e | e | e | e<;>rw [e]<;>decide
 . match k with
   | 0=>decide
   | 1=>decide
   | 2=>decide
   | k+3=>simp
theorem Good.grow {row:List Int} {v:Nat->Vc} (G:Good row v) (c:Nat) (hc:c<row.length):Good (z3e row c) (gV row.length c v):=by
 have hl:=z22 row c hc
 have h3:=G.len
 have F:=G.fr.grow c hc h3
 refine ⟨by lia,?_,?_,fun k=>?_⟩
 . rw [hl]
   exact F.congr (by lia) fun k hk=>z6i row c k hc (by lia) hk
 . rw [hl]
   intro i j h h2
   have e:(2:Int) ^ (row.length+1 - 3)=2 * 2 ^ (row.length - 3):=by
    rw [show row.length+1 - 3=(row.length - 3)+1 by lia,Int.pow_succ];lia
   have p:(0:Int)<2 ^ (row.length - 3):=Int.pow_pos (by decide)
   rw [e]
   by_cases z:i=j
   . subst z;rw [z4i];lia
   by_cases z2:j=i+(row.length+1)
   . subst z2;rw [F.turn,z4i];lia
   exact y1n G.fr c hc h3 G.bd i j (by lia) (by lia)
 . rw [hl]
   by_cases hk:k<row.length+1
   . rw [z6i row c k hc (by lia) hk]
     unfold gR
     by_cases a:k=c+1
     . rw [if_pos a];lia
     . rw [if_neg a]
       have:=G.rb (if k<=c then k else k - 1)
       generalize (if k<=c then k else k - 1)=o at this
       have hne:o=c->¬o=(c+1) % row.length:=by
        intro z z'
        by_cases y:c+1=row.length
        . rw [y,Nat.mod_self] at z';lia
        . rw [Nat.mod_eq_of_lt (by lia)] at z';lia
       show 0<=row.getD o 0+(if o=c then 1 else 0)+(if o=(c+1) % row.length then 1 else 0)/\row.getD o 0+(if o=c then 1 else 0)+(if o=(c+1) % row.length then 1 else 0)<=_
       by_cases z:o=c
       . rw [if_pos z,if_neg (hne z)];lia
       . rw [if_neg z];split<;>lia
   . rw [List.getD_eq_getElem?_getD,List.getElem?_eq_none (by lia)]
     simp only [Option.getD_none];lia
end Bd
namespace Cu
abbrev P2:=Int×Int
abbrev P3:=Int×Int×Int
def sh (at' x:Int):Int:=if x > at' then x+1 else x
def sh2 (c:Int) (p:P2):P2:=(sh c p.1,sh c p.2)
def sh3 (c:Int) (p:P3):P3:=(sh c p.1,sh c p.2.1,sh c p.2.2)
def outer (p:P3):P2:=(p.1,p.2.2)
def z1o (n c:Int):P2:=if c=n - 1 then (0,c) else (c,c+2)
def z1h (n c:Int):P3:=if c=n - 1 then (0,c,n) else (c,c+1,c+2)
structure CInv (n:Int) (ls:List P2) (T:List P3):Prop where
 n3:3<=n
 tri:∀a c b,(a,c,b)∈T->0<=a/\a<c/\c<b/\b<=n - 1/\((a,c)∈ls\/c=a+1)/\((c,b)∈ls\/b=c+1)
 lin:∀a b,(a,b)∈ls->0<=a/\a+2<=b/\b<=n - 1/\¬(a=0/\b=n - 1)
 nc:∀a b c d,(a,b)∈ls->(c,d)∈ls->¬(a<c/\c<b/\b<d)
 nd:ls.Nodup
 prm:(T.map outer).Perm ((0,n - 1)::ls)
theorem y3z:CInv 3 [] [(0,1,2)] where
 n3:=by omega
 tri:=fun a c b h=>by simp only [List.mem_cons,Prod.mk.injEq,List.not_mem_nil,or_false] at h;omega
 lin:=fun a b h=>by simp at h
 nc:=fun a b c d h=>by simp at h
 nd:=List.nodup_nil
 prm:=.refl _
theorem z5g {c:Int} {ls:List P2} {x y:Int} (h:(x,y)∈ls.map (sh2 c)):∃a b,(a,b)∈ls/\x=sh c a/\y=sh c b:=by
 obtain ⟨⟨a,b⟩,hm,e⟩:=List.mem_map.mp h
 simp only [sh2,Prod.mk.injEq] at e
 exact ⟨a,b,hm,e.1.symm,e.2.symm⟩
theorem zit {c:Int} {ls:List P2} {a b:Int} (h:(a,b)∈ls):(sh c a,sh c b)∈ls.map (sh2 c):=List.mem_map.mpr ⟨(a,b),h,rfl⟩
theorem ziu {c x y:Int} (h:sh c x=sh c y):x=y:=by
 unfold sh at h;split at h<;>split at h<;>lia
theorem CInv.grow {n:Int} {ls:List P2} {T:List P3} (I:CInv n ls T) (c:Int) (h0:0<=c) (h1:c<n):CInv (n+1) (ls.map (sh2 c)++[z1o n c]) (T.map (sh3 c)++[z1h n c]) where
 n3:=by have:=I.n3;lia
 tri:=fun x y z h=>by
  have h3:=I.n3
  rcases List.mem_append.mp h with h | h
  . obtain ⟨⟨a,m,b⟩,hm,e⟩:=List.mem_map.mp h
    simp only [sh3,Prod.mk.injEq] at e
    obtain ⟨rfl,rfl,rfl⟩:=e
    obtain ⟨g1,g2,g3,g4,g5,g6⟩:=I.tri a m b hm
    have k1:0<=sh c a:=by unfold sh;split<;>lia
    have k2:sh c a<sh c m:=by unfold sh;split<;>split<;>lia
    have k3:sh c m<sh c b:=by unfold sh;split<;>split<;>lia
    have k4:sh c b<=n+1 - 1:=by unfold sh;split<;>lia
    have side:∀u w,u+1=w->w<=n - 1->(sh c u,sh c w)∈ls.map (sh2 c)++[z1o n c]\/sh c w=sh c u+1:=fun u w e hw=>by
     by_cases q:u=c
     . left
       refine List.mem_append.mpr (.inr ?_)
       have e1:sh c u=c:=by unfold sh;split<;>lia
       have e2:sh c w=c+2:=by unfold sh;split<;>lia
       rw [e1,e2];unfold z1o;rw [if_neg (by lia)];simp
     . right;unfold sh;split<;>split<;>lia
    refine ⟨k1,k2,k3,k4,?_,?_⟩
    . rcases g5 with g5 | g5
      . exact .inl (List.mem_append.mpr (.inl (zit g5)))
      . exact side a m (by lia) (by lia)
    . rcases g6 with g6 | g6
      . exact .inl (List.mem_append.mpr (.inl (zit g6)))
      . exact side m b (by lia) (by lia)
  . simp only [List.mem_singleton] at h
    unfold z1h at h
    by_cases q:c=n - 1
    . rw [if_pos q] at h
      simp only [Prod.mk.injEq] at h
      obtain ⟨rfl,rfl,rfl⟩:=h
      refine ⟨by lia,by lia,by lia,by lia,.inl (List.mem_append.mpr (.inr ?_)),.inr (by lia)⟩
      unfold z1o;rw [if_pos q];simp
    . rw [if_neg q] at h
      simp only [Prod.mk.injEq] at h
      obtain ⟨rfl,rfl,rfl⟩:=h
      exact ⟨by lia,by lia,by lia,by lia,.inr rfl,.inr (by lia)⟩
 lin:=fun x y h=>by
  have h3:=I.n3
  rcases List.mem_append.mp h with h | h
  . obtain ⟨a,b,hm,rfl,rfl⟩:=z5g h
    obtain ⟨g1,g2,g3,g4⟩:=I.lin a b hm
    unfold sh;split<;>split<;>lia
  . simp only [List.mem_singleton] at h
    unfold z1o at h
    by_cases q:c=n - 1
    . rw [if_pos q] at h;simp only [Prod.mk.injEq] at h;lia
    . rw [if_neg q] at h;simp only [Prod.mk.injEq] at h;lia
 nc:=fun x y z w h h'=>by
  have h3:=I.n3
  rcases List.mem_append.mp h with h | h<;>rcases List.mem_append.mp h' with h' | h'
  . obtain ⟨a,b,hm,rfl,rfl⟩:=z5g h
    obtain ⟨a',b',hm',rfl,rfl⟩:=z5g h'
    have:=I.nc a b a' b' hm hm'
    unfold sh;split<;>split<;>split<;>split<;>lia
  . obtain ⟨a,b,hm,rfl,rfl⟩:=z5g h
    simp only [List.mem_singleton] at h'
    have:=I.lin a b hm
    unfold z1o at h'
    by_cases q:c=n - 1
    . rw [if_pos q] at h';simp only [Prod.mk.injEq] at h';unfold sh;split<;>split<;>lia
    . rw [if_neg q] at h';simp only [Prod.mk.injEq] at h';unfold sh;split<;>split<;>lia
  . obtain ⟨a,b,hm,rfl,rfl⟩:=z5g h'
    simp only [List.mem_singleton] at h
    have:=I.lin a b hm
    unfold z1o at h
    by_cases q:c=n - 1
    . rw [if_pos q] at h;simp only [Prod.mk.injEq] at h;unfold sh;split<;>split<;>lia
    . rw [if_neg q] at h;simp only [Prod.mk.injEq] at h;unfold sh;split<;>split<;>lia
  . simp only [List.mem_singleton] at h h'
    rw [<-h'] at h;simp only [Prod.mk.injEq] at h;lia
 nd:=by
  have h3:=I.n3
  rw [List.nodup_append]
  refine ⟨?_,by simp,fun p hp q hq=>?_⟩
  . refine (List.pairwise_map.mpr (I.nd.imp fun {p q} hne e=>hne ?_))
    simp only [sh2,Prod.mk.injEq] at e
    exact Prod.ext (ziu e.1) (ziu e.2)
  . simp only [List.mem_singleton] at hq
    subst hq
    obtain ⟨x,y⟩:=p
    obtain ⟨a,b,hm,rfl,rfl⟩:=z5g hp
    have:=I.lin a b hm
    intro e
    unfold z1o at e
    by_cases q:c=n - 1
    . rw [if_pos q] at e;simp only [Prod.mk.injEq] at e;unfold sh at e;split at e<;>split at e<;>lia
    . rw [if_neg q] at e;simp only [Prod.mk.injEq] at e;unfold sh at e;split at e<;>split at e<;>lia
 prm:=by
  have h3:=I.n3
  have e1:(T.map (sh3 c)++[z1h n c]).map outer=(T.map outer).map (sh2 c)++[outer (z1h n c)]:=by
   simp only [List.map_append,List.map_map,List.map_cons,List.map_nil];rfl
  have p1:((T.map outer).map (sh2 c)++[outer (z1h n c)]).Perm (((0,n - 1)::ls).map (sh2 c)++[outer (z1h n c)]):=(I.prm.map (sh2 c)).append_right _
  rw [e1]
  refine p1.trans ?_
  have e0:sh c 0=0:=by unfold sh;split<;>lia
  rw [List.map_cons]
  by_cases q:c=n - 1
  . have e2:sh2 c (0,n - 1)=z1o n c:=by
     unfold z1o sh2;rw [if_pos q];simp only [Prod.mk.injEq];exact ⟨e0,by unfold sh;split<;>lia⟩
    have e3:outer (z1h n c)=(0,n+1 - 1):=by unfold z1h outer;rw [if_pos q];simp
    rw [e2,e3]
    refine (List.perm_append_comm (l₁:=_::_) (l₂:=[_])).trans ?_
    refine List.Perm.cons _ ?_
    exact (List.perm_append_comm (l₁:=[z1o n c]) (l₂:=ls.map (sh2 c)))
  . have e2:sh2 c (0,n - 1)=(0,n+1 - 1):=by
     unfold sh2;simp only [Prod.mk.injEq];exact ⟨e0,by unfold sh;split<;>lia⟩
    have e3:outer (z1h n c)=z1o n c:=by unfold z1h z1o outer;rw [if_neg q,if_neg q]
    rw [e2,e3];exact .refl _
end Cu
namespace Cu
open L2 (mxD zi3 T2 T3 so3 z9c z0s)
def pk (x:Int) (p l:P2):Bool:=decide (l.1=x)&&(decide (l.2<=p.2)&&!(decide (l.1=p.1)&&decide (l.2=p.2)))
theorem zxe {x:Int} {p l:P2}:pk x p l=true↔l.1=x/\l.2<=p.2/\¬(l.1=p.1/\l.2=p.2):=by
 simp only [pk,Bool.and_eq_true,decide_eq_true_eq,Bool.not_eq_true',Bool.and_eq_false_iff,decide_eq_false_iff_not]
 constructor
 . rintro ⟨h1,h2,h3⟩;exact ⟨h1,h2,fun h=>by rcases h3 with z | z<;>lia⟩
 . rintro ⟨h1,h2,h3⟩
   refine ⟨h1,h2,?_⟩
   by_cases z:l.1=p.1
   . exact .inr fun w=>h3 ⟨z,w⟩
   . exact .inl z
def ends (x:Int) (p:P2) (ls:List P2):List Int:=(ls.filter (pk x p)).map (·.2)
theorem mem_ends {x:Int} {p:P2} {ls:List P2} {y:Int}:y∈ends x p ls↔(x,y)∈ls/\y<=p.2/\¬(x=p.1/\y=p.2):=by
 simp only [ends,List.mem_map,List.mem_filter,zxe]
 constructor
 . rintro ⟨⟨a,b⟩,⟨h1,h2,h3,h4⟩,rfl⟩
   simp only at h2 h3 h4 ⊢
   subst h2;exact ⟨h1,h3,h4⟩
 . rintro ⟨h1,h2,h3⟩;exact ⟨(x,y),⟨h1,rfl,h2,h3⟩,rfl⟩
section
variable {n:Int} {ls ls':List P2} {T:List P3} {a b c:Int}
theorem CInv.beh1 (I:CInv n ls T) (p:ls'.Perm ls) (h:(a,c,b)∈T):mxD (a+1) (ends a (a,b) ls')=c:=by
 obtain ⟨g1,g2,g3,g4,g5,g6⟩:=I.tri a c b h
 have key:∀y∈ends a (a,b) ls',y<=c:=fun y hy=>by
  obtain ⟨m1,m2,m3⟩:=mem_ends.mp hy
  have m1:=p.mem_iff.mp m1
  simp only at m2 m3
  have:¬y=b:=fun z=>m3 (by simpa using z)
  rcases g6 with g6 | g6
  . have:=I.nc a y c b m1 g6;lia
  . lia
 refine zi3 key ?_
 rcases g5 with g5 | g5
 . left;exact mem_ends.mpr ⟨p.mem_iff.mpr g5,by simp only;lia,by simp only;lia⟩
 . by_cases z:ends a (a,b) ls'=[]
   . exact .inr ⟨z,by lia⟩
   . obtain ⟨y,hy⟩:=List.exists_mem_of_ne_nil _ z
     have:=key y hy
     obtain ⟨m1,m2,m3⟩:=mem_ends.mp hy
     have:=I.lin a y (p.mem_iff.mp m1);lia
theorem CInv.beh2 (I:CInv n ls T) (p:ls'.Perm ls) (h:(a,c,b)∈T):mxD (c+1) (ends c (a,b) ls')=b:=by
 obtain ⟨g1,g2,g3,g4,g5,g6⟩:=I.tri a c b h
 refine zi3 (fun y hy=>(mem_ends.mp hy).2.1) ?_
 rcases g6 with g6 | g6
 . left;exact mem_ends.mpr ⟨p.mem_iff.mpr g6,by simp only;lia,by simp only;lia⟩
 . by_cases z:ends c (a,b) ls'=[]
   . exact .inr ⟨z,by lia⟩
   . obtain ⟨y,hy⟩:=List.exists_mem_of_ne_nil _ z
     obtain ⟨m1,m2,m3⟩:=mem_ends.mp hy
     have:=I.lin c y (p.mem_iff.mp m1);simp only at m2;lia
def thr (T:List P3) (p:P2):P3:=(T.find? fun t=>decide (outer t=p)).getD (0,0,0)
theorem znz {p:P2} (h:p∈T.map outer):thr T p∈T/\outer (thr T p)=p:=by
 obtain ⟨t,ht,e⟩:=List.mem_map.mp h
 unfold thr
 cases hf:T.find? fun t=>decide (outer t=p) with
 | none=>
  have:=List.find?_eq_none.mp hf t ht
  simp [e] at this
 | some u=>
  have h1:=List.mem_of_find?_eq_some hf
  have h2:=List.find?_some hf
  exact ⟨h1,by simpa using h2⟩
theorem CInv.thr_outer (I:CInv n ls T) {t:P3} (h:t∈T):thr T (outer t)=t:=by
 obtain ⟨h1,h2⟩:=znz (T:=T) (List.mem_map.mpr ⟨t,h,rfl⟩)
 obtain ⟨a,c,b⟩:=t
 generalize thr T (outer (a,c,b))=u at h1 h2
 obtain ⟨a',c',b'⟩:=u
 simp only [outer,Prod.mk.injEq] at h2
 obtain ⟨rfl,rfl⟩:=h2
 have e1:=I.beh1 (.refl _) h1
 have e2:=I.beh1 (.refl _) h
 rw [e1] at e2
 rw [e2]
theorem CInv.tops (I:CInv n ls T) (p:ls'.Perm ls):(((0,n - 1)::ls').map (thr T)).Perm T:=by
 have q:((0,n - 1)::ls').Perm (T.map outer):=(p.cons _).trans I.prm.symm
 refine (q.map (thr T)).trans ?_
 rw [List.map_map]
 have:T.map (thr T∘outer)=T:=by
  conv=>rhs;rw [<-List.map_id T]
  exact List.map_congr_left fun t ht=>I.thr_outer ht
 rw [this]
theorem CInv.top_in (I:CInv n ls T) (p:ls'.Perm ls) {q:P2} (h:q∈(0,n - 1)::ls'):thr T q∈T/\outer (thr T q)=q:=
 znz ((((p.cons _).trans I.prm.symm).mem_iff).mp h)
theorem CInv.len (I:CInv n ls T):T.length=ls.length+1:=by
 have:=I.prm.length_eq;simpa using this
end
open Classical in
noncomputable def ee (n:Int) (ls:List P2) (x y:Int):Nat:=(if (x,y)∈ls then 2 else 0)+(if y=x+1/\0<=x/\y<=n - 1 then 1 else 0)+(if x=0/\y=n - 1 then 1 else 0)
theorem sh_eq {c x y:Int}:(sh c x=sh c y)↔x=y:=⟨ziu,fun h=>by rw [h]⟩
end Cu
namespace Cu
open Bd (gR z3e z6i z22)
def ind (k:Int) (t:P3):Int:=(if k=t.1 then 1 else 0)+(if k=t.2.1 then 1 else 0)+(if k=t.2.2 then 1 else 0)
def c1 (k:Int):List P3->Int
 | []=>0
 | t::r=>ind k t+c1 k r
theorem zo0 (k:Int):∀(a b:List P3),c1 k (a++b)=c1 k a+c1 k b
 | [],b=>by simp [c1]
 | t::a,b=>by simp only [List.cons_append,c1,zo0 k a b];lia
theorem zxf (c o:Int) (t:P3):ind (sh c o) (sh3 c t)=ind o t:=by simp only [ind,sh3,sh_eq]
theorem zxg (c o:Int):∀T:List P3,c1 (sh c o) (T.map (sh3 c))=c1 o T
 | []=>rfl
 | t::T=>by simp only [List.map_cons,c1,zxf,zxg c o T]
theorem zo1 (c:Int):∀T:List P3,c1 (c+1) (T.map (sh3 c))=0
 | []=>rfl
 | t::T=>by
  have h:∀x,¬(c+1=sh c x):=fun x=>by unfold sh;split<;>lia
  simp only [List.map_cons,c1,ind,sh3,h,if_false,zo1 c T];rfl
def Rw (row:List Int) (T:List P3):Prop:=∀k,k<row.length->row.getD k 0=c1 (k:Int) T
theorem rw3:Rw [1,1,1] [(0,1,2)]:=by
 intro k hk
 match k,hk with
 | 0,_=>decide
 | 1,_=>decide
 | 2,_=>decide
theorem Rw.grow {row:List Int} {T:List P3} (h:Rw row T) (c:Nat) (hc:c<row.length) (hn:3<=row.length):Rw (z3e row c) (T.map (sh3 (c:Int))++[z1h (row.length:Int) (c:Int)]):=by
 intro k hk
 rw [z22 row c hc] at hk
 rw [z6i row c k hc (by lia) hk,zo0]
 unfold gR
 by_cases a:k=c+1
 . subst a
   rw [if_pos rfl,show ((c+1:Nat):Int)=(c:Int)+1 by lia,zo1]
   simp only [c1]
   by_cases q:(c:Int)=(row.length:Int) - 1
   . rw [show z1h (row.length:Int) (c:Int)=(0,(c:Int),(row.length:Int)) by unfold z1h;rw [if_pos q]]
     simp only [ind]
     rw [if_neg (by lia),if_neg (by lia),if_pos (by lia)];rfl
   . rw [show z1h (row.length:Int) (c:Int)=((c:Int),(c:Int)+1,(c:Int)+2) by unfold z1h;rw [if_neg q]]
     simp only [ind]
     rw [if_neg (by lia),if_pos (by first | trivial | rfl),if_neg (by lia)];rfl
 . rw [if_neg a]
   obtain ⟨o,ho,e⟩:∃o:Nat,(if k<=c then k else k - 1)=o/\((k:Int)=sh (c:Int) (o:Int)/\o<row.length):=by
    by_cases z:k<=c
    . exact ⟨k,by rw [if_pos z],by unfold sh;rw [if_neg (by lia)],by lia⟩
    . exact ⟨k - 1,by rw [if_neg z],by unfold sh;rw [if_pos (by lia)];lia,by lia⟩
   rw [ho]
   show row.getD o 0+(if o=c then 1 else 0)+(if o=(c+1) % row.length then 1 else 0)=_
   rw [h o e.2,e.1,zxg]
   simp only [c1]
   have e1:=e.1
   have e2:=e.2
   by_cases q:(c:Int)=(row.length:Int) - 1
   . have m0:(c+1) % row.length=0:=by rw [show c+1=row.length by lia,Nat.mod_self]
     rw [show z1h (row.length:Int) (c:Int)=(0,(c:Int),(row.length:Int)) by unfold z1h;rw [if_pos q],m0]
     simp only [ind]
     by_cases z1:o=c
     . rw [if_pos z1,if_neg (by lia),if_neg (by unfold sh;split<;>lia),if_pos (by unfold sh;split<;>lia),if_neg (by unfold sh;split<;>lia)];lia
     . by_cases z2:o=0
       . rw [if_neg z1,if_pos z2,if_pos (by unfold sh;split<;>lia),if_neg (by unfold sh;split<;>lia),if_neg (by unfold sh;split<;>lia)];lia
       . rw [if_neg z1,if_neg z2,if_neg (by unfold sh;split<;>lia),if_neg (by unfold sh;split<;>lia),if_neg (by unfold sh;split<;>lia)];lia
   . have m0:(c+1) % row.length=c+1:=Nat.mod_eq_of_lt (by lia)
     rw [show z1h (row.length:Int) (c:Int)=((c:Int),(c:Int)+1,(c:Int)+2) by unfold z1h;rw [if_neg q],m0]
     simp only [ind]
     by_cases z1:o=c
     . rw [if_pos z1,if_neg (by lia),if_pos (by unfold sh;split<;>lia),if_neg (by unfold sh;split<;>lia),if_neg (by unfold sh;split<;>lia)];lia
     . by_cases z2:o=c+1
       . rw [if_neg z1,if_pos z2,if_neg (by unfold sh;split<;>lia),if_neg (by unfold sh;split<;>lia),if_pos (by unfold sh;split<;>lia)];lia
       . rw [if_neg z1,if_neg z2,if_neg (by unfold sh;split<;>lia),if_neg (by unfold sh;split<;>lia),if_neg (by unfold sh;split<;>lia)];lia
end Cu
namespace Bd
def sc (s:Int) (u:Vc):Vc:=(s * u.1,s * u.2)
end Bd
namespace Cu
def e2 (x y a b:Int):Nat:=if x=a/\y=b then 1 else 0
open L2 (so3 z0s soI ze4 ltT L z74 z2k zyr zcg z2t)
end Cu
namespace Cu
open L2 (so2 z27 z9b ltT T2 Srt z2s z1b z2k zr0 z2t zno D)
def le2 (a b:P2):Prop:=a.1<b.1\/(a.1=b.1/\a.2<=b.2)
def un (e x:Int):Int:=if x > e then x - 1 else x
end Cu
namespace Cu
end Cu
namespace Cu
open L2 (so2 z27 ze5)
open Bd
open PySem (intBits_mul_le intBits_sub_le)
open PySem.Builtin.Int (intBits)
def bn (row:List Int) (i:Nat):Nat->Int
 | 0=>0
 | 1=>1
 | d+2=>row.getD ((i+(d+1)) % row.length) 0 * bn row i (d+1) - bn row i d
def st2 (a b:P2):Prop:=a.1<b.1\/(a.1=b.1/\a.2<b.2)
def shN (c p:Nat):Nat:=if p > c then p+1 else p
theorem zrk (n c:Nat) (v:Nat->Vc) (k:Nat) (h:k<=n):gV n c v k=gq n c v 0 k:=by
 have:=z33 n c v 0 k h
 rwa [Nat.zero_mul,Nat.zero_add] at this
theorem zed (n c:Nat) (v:Nat->Vc) (p:Nat) (hp:p<n):gV n c v (shN c p)=v p:=by
 unfold shN
 by_cases h:p > c
 . rw [if_pos h,zrk _ _ _ _ (by omega),z6b _ _ _ _ _ (by omega),Nat.zero_mul,Nat.zero_add]
 . rw [if_neg h,zrk _ _ _ _ (by omega),z51 _ _ _ _ _ (by omega),Nat.zero_mul,Nat.zero_add]
theorem zo2 (n c:Nat) (v:Nat->Vc) (hc:c<n):gV n c v (c+1)=ad (v c) (v (c+1)):=by
 rw [zrk _ _ _ _ (by omega),z40,Nat.zero_mul,Nat.zero_add]
end Cu
namespace Cu
open L2 (so2 z27 ze5 so3 z0s z9c z75 ltT T3 Srt z2s z1b z2k zhy z2t zi2 D)
open Bd
theorem zcj {α:Type} {r:α->α->Prop} (as:∀a b,r a b->¬r b a):∀{xs ys:List α},xs.Pairwise r->ys.Pairwise r->(∀x,x∈xs↔x∈ys)->xs=ys
 | [],[],_,_,_=>rfl
 | [],y::_,_,_,h=>by have:=(h y).mpr (by simp);cases this
 | x::_,[],_,_,h=>by have:=(h x).mp (by simp);cases this
 | x::xs,y::ys,hx,hy,h=>by
  rw [List.pairwise_cons] at hx hy
  have e:x=y:=by
   rcases List.mem_cons.mp ((h x).mp (by simp)) with e | e
   . exact e
   . rcases List.mem_cons.mp ((h y).mpr (by simp)) with e' | e'
     . exact e'.symm
     . exact absurd (hy.1 x e) (as _ _ (hx.1 y e'))
  subst e
  congr 1
  refine zcj as hx.2 hy.2 fun z=>⟨fun m=>?_,fun m=>?_⟩
  . rcases List.mem_cons.mp ((h z).mp (List.mem_cons_of_mem _ m)) with e | e
    . subst e;exact absurd (hx.1 z m) (as _ _ (hx.1 z m))
    . exact e
  . rcases List.mem_cons.mp ((h z).mpr (List.mem_cons_of_mem _ m)) with e | e
    . subst e;exact absurd (hy.1 z m) (as _ _ (hy.1 z m))
    . exact e
def le3 (a b:P3):Prop:=a.1<b.1\/(a.1=b.1/\(a.2.1<b.2.1\/(a.2.1=b.2.1/\a.2.2<=b.2.2)))
theorem zo3 (p q:P3):ltT (T3 p) (T3 q)=decide (p.1<q.1\/(p.1=q.1/\(p.2.1<q.2.1\/(p.2.1=q.2.1/\p.2.2<q.2.2)))):=by
 obtain ⟨a,b,c⟩:=p;obtain ⟨d,e,f⟩:=q
 simp only [T3,L2.ltT,L2.ltTs,L2.eqD]
 by_cases h1:a=d
 . subst h1
   by_cases h2:b=e
   . subst h2
     by_cases h3:c=f
     . simp [h3]
     . simp [h3]
   . simp [h2]
 . simp [h1]
theorem zck (xs:List P3):Srt (xs.map T3)↔xs.Pairwise le3:=by
 unfold Srt
 rw [List.pairwise_map]
 constructor
 . exact fun h=>h.imp fun {a b} h=>by
    rw [zo3,decide_eq_false_iff_not] at h;unfold le3;omega
 . exact fun h=>h.imp fun {a b} h=>by
    rw [zo3,decide_eq_false_iff_not];unfold le3 at h;omega
theorem ziv (ls:List P3):(so3 ls).Pairwise le3:=by
 rw [<-zck,<-z75];exact z1b (z2k ls T3 zhy)
theorem zo4 {xs ls:List P3} (h:xs.Pairwise le3) (p:xs.Perm ls):xs=so3 ls:=by
 have:=z2s (z2k xs T3 zhy) ((p.trans (z0s ls).symm).map T3) ((zck xs).mpr h) ((zck _).mpr (ziv ls))
 exact z2t (fun _ _=>zi2) this
theorem sh_lt {c x y:Int}:sh c x<sh c y↔x<y:=by unfold sh;split<;>split<;>omega
theorem zxh (c:Int) (T:List P3):so3 (T.map (sh3 c))=(so3 T).map (sh3 c):=by
 refine (zo4 ?_ ((z0s T).map _)).symm
 rw [List.pairwise_map]
 refine (ziv T).imp fun {a b} h=>?_
 have key:∀x y:Int,(sh c x<sh c y↔x<y)/\(sh c x=sh c y↔x=y):=fun x y=>⟨sh_lt,sh_eq⟩
 have l3:sh c a.2.2<=sh c b.2.2↔a.2.2<=b.2.2:=by have:=sh_lt (c:=c) (x:=b.2.2) (y:=a.2.2);omega
 unfold le3 at h ⊢
 simp only [sh3,(key _ _).1,(key _ _).2,l3]
 exact h
theorem zm6 {c:Int} {T:List P3} {t:P3} (ht:t∉T.map (sh3 c)):∃A B,so3 T=A++B/\so3 (T.map (sh3 c)++[t])=A.map (sh3 c)++t::B.map (sh3 c):=by
 have hm:t∈so3 (T.map (sh3 c)++[t]):=(z0s _).mem_iff.mpr (by simp)
 obtain ⟨A',B',e⟩:=List.append_of_mem hm
 have p1:(A'++t::B').Perm (t::T.map (sh3 c)):=by
  rw [<-e];exact (z0s _).trans (List.perm_append_comm (l₁:=T.map (sh3 c)) (l₂:=[t]))
 have p2:(A'++B').Perm (T.map (sh3 c)):=(List.perm_middle.symm.trans p1).cons_inv
 have pw:(A'++B').Pairwise le3:=by
  have:=ziv (T.map (sh3 c)++[t])
  rw [e] at this
  exact this.sublist (List.Sublist.append (List.Sublist.refl _) (List.sublist_cons_self _ _))
 have e2:=zo4 pw p2
 rw [zxh] at e2
 obtain ⟨A,B,h1,h2,h3⟩:=List.map_eq_append_iff.mp e2.symm
 exact ⟨A,B,h1,by rw [e,h2,h3]⟩
def lx:List Int->List Int->Prop
 | c::x,d::y=>c<d\/(c=d/\lx x y)
 | _,_=>False
theorem zrl:∀a b,lx a b->¬lx b a
 | [],[],h=>by simp [lx] at h
 | [],_::_,h=>by simp [lx] at h
 | _::_,[],h=>by simp [lx] at h
 | c::x,d::y,h=>by
  simp only [lx] at h ⊢
  rcases h with h | ⟨rfl,h⟩
  . omega
  . intro q
    rcases q with q | ⟨_,q⟩
    . omega
    . exact zrl x y h q
theorem zo5:∀{a b:List Int} (u w:List Int),lx a b->lx (a++u) (b++w)
 | [],[],u,w,h=>by simp [lx] at h
 | [],_::_,u,w,h=>by simp [lx] at h
 | _::_,[],u,w,h=>by simp [lx] at h
 | c::x,d::y,u,w,h=>by
  simp only [lx,List.cons_append] at h ⊢
  exact h.imp id fun ⟨e,q⟩=>⟨e,zo5 u w q⟩
theorem ziw:∀(g:List Int) {c d:Int},c<d->lx (g++[c]) (g++[d])
 | [],c,d,h=>by simp only [List.nil_append,lx];exact Or.inl h
 | a::g,c,d,h=>by simp only [List.cons_append,lx];exact Or.inr ⟨trivial,ziw g h⟩
theorem zo6 {f:Int->Int} (hf:∀x y,x<y->f x<f y):∀{a b:List Int},lx a b->lx (a.map f) (b.map f)
 | [],[],h=>by simp [lx] at h
 | [],_::_,h=>by simp [lx] at h
 | _::_,[],h=>by simp [lx] at h
 | c::x,d::y,h=>by
  simp only [lx,List.map_cons] at h ⊢
  rcases h with h | ⟨rfl,h⟩
  . exact Or.inl (hf _ _ h)
  . exact Or.inr ⟨rfl,zo6 hf h⟩
def cor (t:P3):List Int:=[t.1,t.2.1,t.2.2]
def xt (E:List Int) (t:P3) (g:List Int):List (List Int):=(((cor t).filter fun c=>decide (c∉E)).filter fun c=>decide (c∉g)).map fun c=>g++[c]
def Sg (E:List Int):List P3->List (List Int)->List (List Int)
 | [],B=>B
 | t::ts,B=>Sg E ts (B.flatMap (xt E t))
def Sh (E:List Int) (ts:List P3):List (List Int):=Sg E ts [[]]
def Al:List Int->List P3->Prop
 | [],[]=>True
 | c::x,t::ts=>c∈cor t/\Al x ts
 | _,_=>False
theorem Al.len:∀{x:List Int} {ts:List P3},Al x ts->x.length=ts.length
 | [],[],_=>rfl
 | [],_::_,h=>by simp [Al] at h
 | _::_,[],h=>by simp [Al] at h
 | c::x,t::ts,h=>by simp only [Al] at h;simp only [List.length_cons,h.2.len]
def Vd (E:List Int) (ts:List P3) (x:List Int):Prop:=Al x ts/\x.Nodup/\∀c∈x,c∉E
theorem mem_xt {E:List Int} {t:P3} {g x:List Int}:x∈xt E t g↔∃c∈cor t,c∉E/\c∉g/\x=g++[c]:=by
 unfold xt
 simp only [List.mem_map,List.mem_filter,decide_eq_true_eq]
 exact ⟨fun ⟨c,⟨⟨h1,h2⟩,h3⟩,e⟩=>⟨c,h1,h2,h3,e.symm⟩,fun ⟨c,h1,h2,h3,e⟩=>⟨c,⟨⟨h1,h2⟩,h3⟩,e.symm⟩⟩
theorem zo7 (E:List Int):∀(ts:List P3) (B:List (List Int)) (x:List Int),x∈Sg E ts B↔∃g∈B,∃y,x=g++y/\Al y ts/\y.Nodup/\(∀c∈y,c∉g)/\∀c∈y,c∉E
 | [],B,x=>by
  simp only [Sg]
  constructor
  . intro h
    exact ⟨x,h,[],by simp,trivial,List.nodup_nil,by simp,by simp⟩
  . rintro ⟨g,hg,y,rfl,ha,_⟩
    cases y with
    | nil=>simpa using hg
    | cons=>simp [Al] at ha
 | t::ts,B,x=>by
  simp only [Sg]
  rw [zo7 E ts]
  constructor
  . rintro ⟨g',hg',y,rfl,ha,hn,h1,h2⟩
    obtain ⟨g,hg,hx⟩:=List.mem_flatMap.mp hg'
    obtain ⟨c,hc,hE,hcg,rfl⟩:=mem_xt.mp hx
    refine ⟨g,hg,c::y,by simp,⟨hc,ha⟩,List.nodup_cons.mpr ⟨fun m=>h1 c m (by simp),hn⟩,fun d hd=>?_,fun d hd=>?_⟩
    . rcases List.mem_cons.mp hd with rfl | hd
      . exact hcg
      . exact fun m=>h1 d hd (by simp [m])
    . rcases List.mem_cons.mp hd with rfl | hd
      . exact hE
      . exact h2 d hd
  . rintro ⟨g,hg,y,rfl,ha,hn,h1,h2⟩
    cases y with
    | nil=>simp [Al] at ha
    | cons c y=>
     simp only [Al] at ha
     rw [List.nodup_cons] at hn
     refine ⟨g++[c],List.mem_flatMap.mpr ⟨g,hg,mem_xt.mpr ⟨c,ha.1,h2 c (by simp),h1 c (by simp),rfl⟩⟩,y,by simp,ha.2,hn.2,fun d hd m=>?_,fun d hd=>h2 d (by simp [hd])⟩
     rcases List.mem_append.mp m with m | m
     . exact h1 d (by simp [hd]) m
     . rw [List.mem_singleton] at m;subst m;exact hn.1 hd
theorem mem_Sh {E:List Int} {ts:List P3} {x:List Int}:x∈Sh E ts↔Vd E ts x:=by
 unfold Sh Vd
 rw [zo7]
 constructor
 . rintro ⟨g,hg,y,rfl,ha,hn,_,h2⟩
   rw [List.mem_singleton] at hg;subst hg
   exact ⟨ha,hn,h2⟩
 . rintro ⟨ha,hn,h2⟩
   exact ⟨[],by simp,x,rfl,ha,hn,by simp,h2⟩
def Asc (ts:List P3):Prop:=∀t∈ts,t.1<t.2.1/\t.2.1<t.2.2
theorem zxi (E:List Int):∀(ts:List P3) (B:List (List Int)) (m:Nat),Asc ts->(∀g∈B,g.length=m)->B.Pairwise lx->(Sg E ts B).Pairwise lx
 | [],B,m,_,_,h=>h
 | t::ts,B,m,ha,hl,h=>by
  have ht:=ha t (by simp)
  simp only [Sg]
  refine zxi E ts _ (m+1) (fun u hu=>ha u (by simp [hu])) (fun g' hg'=>?_) ?_
  . obtain ⟨g,hg,hx⟩:=List.mem_flatMap.mp hg'
    obtain ⟨c,_,_,_,rfl⟩:=mem_xt.mp hx
    rw [List.length_append,hl g hg,List.length_singleton]
  . rw [List.pairwise_flatMap]
    refine ⟨fun g hg=>?_,h.imp_of_mem fun {g g'} hg hg' q x hx y hy=>?_⟩
    . unfold xt
      rw [List.pairwise_map]
      have:(cor t).Pairwise (·<·):=by
       unfold cor
       simp only [List.pairwise_cons,List.mem_cons,List.not_mem_nil,or_false,forall_eq_or_imp,forall_eq,List.Pairwise.nil,and_true,false_imp_iff,implies_true]
       omega
      exact ((this.sublist List.filter_sublist).sublist List.filter_sublist).imp fun {c d} q=>ziw g q
    . obtain ⟨c,_,_,_,rfl⟩:=mem_xt.mp hx
      obtain ⟨d,_,_,_,rfl⟩:=mem_xt.mp hy
      exact zo5 _ _ q
theorem zm7 {E:List Int} {ts:List P3} (ha:Asc ts):(Sh E ts).Pairwise lx:=zxi E ts [[]] 0 ha (by simp) (List.pairwise_singleton _ _)
theorem zee {E E':List Int} (h:∀k,k∈E↔k∈E') {ts:List P3} (ha:Asc ts):Sh E ts=Sh E' ts:=
 zcj zrl (zm7 ha) (zm7 ha) fun x=>by rw [mem_Sh,mem_Sh];unfold Vd;simp only [h]
def z7n:Nat->Int->List Int->List Int
 | 0,w,y=>w::y
 | k+1,w,c::y=>c::z7n k w y
 | _+1,w,[]=>[w]
theorem z2u:∀(k:Nat) (w:Int) (y:List Int),(z7n k w y).Perm (w::y)
 | 0,w,y=>.refl _
 | k+1,w,c::y=>by simp only [z7n];exact ((z2u k w y).cons c).trans (List.Perm.swap w c y)
 | _+1,w,[]=>.refl _
theorem z80:∀(k:Nat) (w:Int) (y:List Int),k<=y.length->(z7n k w y).getD k 0=w
 | 0,w,y,_=>rfl
 | k+1,w,c::y,h=>by simp only [z7n,List.getD_cons_succ];exact z80 k w y (by simpa using h)
 | k+1,w,[],h=>by simp at h
theorem zo8:∀(k:Nat) (w:Int) {y z:List Int},lx y z->lx (z7n k w y) (z7n k w z)
 | 0,w,y,z,h=>by simp only [z7n,lx];exact Or.inr ⟨trivial,h⟩
 | k+1,w,[],[],h=>by simp [lx] at h
 | k+1,w,[],_::_,h=>by simp [lx] at h
 | k+1,w,_::_,[],h=>by simp [lx] at h
 | k+1,w,c::y,d::z,h=>by
  simp only [lx,z7n] at h ⊢
  exact h.imp id fun ⟨e,q⟩=>⟨e,zo8 k w q⟩
theorem zb7 (t:P3) (w:Int) (B:List P3):∀(A:List P3) (y:List Int),y.length=A.length+B.length->(Al (z7n A.length w y) (A++t::B)↔w∈cor t/\Al y (A++B))
 | [],y,_=>by simp only [List.length_nil,z7n,List.nil_append,Al]
 | a::A,[],h=>by simp at h;omega
 | a::A,c::y,h=>by
  simp only [List.length_cons,z7n,List.cons_append,Al]
  rw [zb7 t w B A y (by simp only [List.length_cons] at h;omega)]
  exact ⟨fun ⟨h1,h2,h3⟩=>⟨h2,h1,h3⟩,fun ⟨h2,h1,h3⟩=>⟨h1,h2,h3⟩⟩
theorem z52 (t:P3) (B:List P3):∀(A:List P3) (x:List Int),Al x (A++t::B)->∃w y,x=z7n A.length w y/\y.length=A.length+B.length
 | [],[],h=>by simp [Al] at h
 | [],w::y,h=>⟨w,y,rfl,by simp only [List.nil_append,Al] at h;simp [h.2.len]⟩
 | a::A,[],h=>by simp [Al] at h
 | a::A,c::x,h=>by
  simp only [List.cons_append,Al] at h
  obtain ⟨w,y,e,hl⟩:=z52 t B A x h.2
  exact ⟨w,c::y,by simp only [List.length_cons,z7n,e],by simp only [List.length_cons,hl];omega⟩
theorem zxj {c k:Int} {t:P3}:sh c k∈cor (sh3 c t)↔k∈cor t:=by
 unfold cor sh3
 simp only [List.mem_cons,List.not_mem_nil,or_false,sh_eq]
theorem zrm (c:Int):∀{y:List Int} {ts:List P3},Al (y.map (sh c)) (ts.map (sh3 c))↔Al y ts
 | [],[]=>Iff.rfl
 | [],_::_=>by simp [Al]
 | _::_,[]=>by simp [Al]
 | k::y,t::ts=>by simp only [List.map_cons,Al,zxj,zrm c]
theorem zcl (c:Int):∀{x:List Int} {ts:List P3},Al x (ts.map (sh3 c))->∃y:List Int,x=y.map (sh c)
 | [],[],_=>⟨[],rfl⟩
 | [],_::_,h=>by simp [Al] at h
 | _::_,[],h=>by simp [Al] at h
 | k::x,t::ts,h=>by
  simp only [List.map_cons,Al] at h
  obtain ⟨y,e⟩:=zcl c h.2
  have:∃j,k=sh c j:=by
   have:=h.1
   unfold cor sh3 at this
   simp only [List.mem_cons,List.not_mem_nil,or_false] at this
   rcases this with e | e | e<;>exact ⟨_,e⟩
  obtain ⟨j,e2⟩:=this
  exact ⟨j::y,by rw [e,e2];rfl⟩
theorem nd_map_sh {c:Int} {y:List Int}:(y.map (sh c)).Nodup↔y.Nodup:=by
 constructor
 . intro h
   exact (List.pairwise_map.mp h).imp fun {a b} q e=>q (by rw [e])
 . intro h
   exact List.pairwise_map.mpr (h.imp fun {a b} q e=>q (sh_eq.mp e))
theorem mem_map_sh {c k:Int} {y:List Int}:sh c k∈y.map (sh c)↔k∈y:=by
 rw [List.mem_map]
 exact ⟨fun ⟨j,hj,e⟩=>sh_eq.mp e ▸ hj,fun h=>⟨k,h,rfl⟩⟩
theorem Asc.sh {ts:List P3} (h:Asc ts) (c:Int):Asc (ts.map (sh3 c)):=fun t ht=>by
 obtain ⟨u,hu,rfl⟩:=List.mem_map.mp ht
 have:=h u hu
 simp only [sh3,sh_lt];exact this
section
variable {E E0:List Int} {c w:Int} {A B:List P3} {t:P3}
theorem zo9 (ha:Asc (A++B)) (htA:t.1<t.2.1/\t.2.1<t.2.2) (hw:w∈cor t) (hwE:w∉E) (hE:∀k,sh c k∈w::E↔k∈E0) :
  (Sh E (A.map (sh3 c)++t::B.map (sh3 c))).filter (fun x=>decide (x.getD A.length 0=w))=(Sh E0 (A++B)).map (fun (y:List Int)=>z7n A.length w (y.map (sh c))):=by
 have hA:Asc (A.map (sh3 c)++t::B.map (sh3 c)):=fun u hu=>by
  rcases List.mem_append.mp hu with h | h
  . exact Asc.sh (ts:=A) (fun t ht=>ha t (by simp [ht])) c u h
  . rcases List.mem_cons.mp h with rfl | h
    . exact htA
    . exact Asc.sh (ts:=B) (fun t ht=>ha t (by simp [ht])) c u h
 refine zcj zrl ((zm7 hA).sublist List.filter_sublist) ?_ fun x=>?_
 . rw [List.pairwise_map]
   exact (zm7 ha).imp fun {y z} q=>zo8 _ _ (zo6 (fun _ _=>sh_lt.mpr) q)
 . rw [List.mem_filter,List.mem_map,mem_Sh,decide_eq_true_eq]
   constructor
   . rintro ⟨⟨h1,h2,h3⟩,h4⟩
     obtain ⟨w',y',rfl,hl⟩:=z52 t _ _ x h1
     rw [List.length_map] at *
     rw [List.length_map] at hl
     rw [z80 _ _ _ (by omega)] at h4
     subst h4
     have pm:=z2u A.length w' y'
     have hal:=(zb7 t w' (B.map (sh3 c)) (A.map (sh3 c)) y' (by rw [List.length_map,List.length_map];exact hl)).mp (by rw [List.length_map];exact h1)
     rw [<-List.map_append] at hal
     obtain ⟨y,rfl⟩:=zcl c hal.2
     have nd:=pm.nodup_iff.mp h2
     rw [List.nodup_cons] at nd
     refine ⟨y,mem_Sh.mpr ⟨(zrm c).mp hal.2,nd_map_sh.mp nd.2,fun k hk hk0=>?_⟩,rfl⟩
     have m1:sh c k∈y.map (sh c):=mem_map_sh.mpr hk
     rcases List.mem_cons.mp ((hE k).mpr hk0) with e | e
     . exact nd.1 (e ▸ m1)
     . exact h3 _ (pm.mem_iff.mpr (by simp [m1])) e
   . rintro ⟨y,hy,rfl⟩
     obtain ⟨h1,h2,h3⟩:=mem_Sh.mp hy
     have hl:(y.map (sh c)).length=A.length+B.length:=by rw [List.length_map,h1.len,List.length_append]
     have pm:=z2u A.length w (y.map (sh c))
     refine ⟨⟨?_,pm.nodup_iff.mpr (List.nodup_cons.mpr ⟨fun m=>?_,nd_map_sh.mpr h2⟩),fun d hd=>?_⟩,z80 _ _ _ (by omega)⟩
     . have:=(zb7 t w (B.map (sh3 c)) (A.map (sh3 c)) (y.map (sh c)) (by rw [hl,List.length_map,List.length_map])).mpr ⟨hw,by rw [<-List.map_append];exact (zrm c).mpr h1⟩
       rw [List.length_map] at this
       exact this
     . obtain ⟨k,hk,e⟩:=List.mem_map.mp m
       exact h3 k hk ((hE k).mp (by rw [e];simp))
     . rcases List.mem_cons.mp (pm.mem_iff.mp hd) with rfl | hd
       . exact hwE
       . obtain ⟨k,hk,rfl⟩:=List.mem_map.mp hd
         exact fun m=>h3 k hk ((hE k).mp (by simp [m]))
theorem zrn (hwE:w∈E):(Sh E (A.map (sh3 c)++t::B.map (sh3 c))).filter (fun x=>decide (x.getD A.length 0=w))=[]:=by
 rw [List.filter_eq_nil_iff]
 intro x hx
 rw [decide_eq_true_eq]
 obtain ⟨h1,h2,h3⟩:=mem_Sh.mp hx
 obtain ⟨w',y',rfl,hl⟩:=z52 t _ _ x h1
 rw [List.length_map] at *
 rw [List.length_map] at hl
 rw [z80 _ _ _ (by omega)]
 rintro rfl
 exact h3 _ ((z2u A.length w' y').mem_iff.mpr (by simp)) hwE
theorem zxk {x:List Int} (hx:x∈Sh E (A.map (sh3 c)++t::B.map (sh3 c))):x.getD A.length 0∈cor t/\x.getD A.length 0∉E/\x.length=A.length+B.length+1:=by
 obtain ⟨h1,h2,h3⟩:=mem_Sh.mp hx
 obtain ⟨w',y',rfl,hl⟩:=z52 t _ _ x h1
 rw [List.length_map] at *
 rw [List.length_map] at hl
 rw [z80 _ _ _ (by omega)]
 have hal:=(zb7 t w' (B.map (sh3 c)) (A.map (sh3 c)) y' (by rw [List.length_map,List.length_map];exact hl)).mp (by rw [List.length_map];exact h1)
 refine ⟨hal.1,h3 _ ((z2u A.length w' y').mem_iff.mpr (by simp)),?_⟩
 rw [(z2u A.length w' y').length_eq,List.length_cons,hl]
end
theorem zoa:∀{xs ys:List Int},xs.Nodup->(∀x∈xs,x∈ys)->xs.length<=ys.length
 | [],_,_,_=>Nat.zero_le _
 | x::xs,ys,h,k=>by
  rw [List.nodup_cons] at h
  have hx:=k x (by simp)
  have:=zoa (ys:=ys.erase x) h.2 fun z hz=>(List.mem_erase_of_ne (fun e:z=x=>h.1 (by rw [<-e];exact hz))).mpr (k z (by simp [hz]))
  rw [List.length_erase_of_mem hx] at this
  have:0<ys.length:=List.length_pos_of_mem hx
  rw [List.length_cons];omega
theorem Al.mem:∀{x:List Int} {ts:List P3},Al x ts->∀k∈x,∃u∈ts,k∈cor u
 | [],_,_,k,hk=>by cases hk
 | _::_,[],h,_,_=>by simp [Al] at h
 | c::x,t::ts,h,k,hk=>by
  simp only [Al] at h
  rcases List.mem_cons.mp hk with rfl | hk
  . exact ⟨t,by simp,h.1⟩
  . obtain ⟨u,hu,hm⟩:=h.2.mem k hk
    exact ⟨u,by simp [hu],hm⟩
def en1 (n c:Int):Int:=if c=n - 1 then 0 else c
def en2 (n c:Int):Int:=if c=n - 1 then c else c+1
theorem z9o {n c k:Int} (hn:3<=n) (h0:0<=c) (h1:c<n):k∈cor (z1h n c)↔k=sh c (en1 n c)\/k=sh c (en2 n c)\/k=c+1:=by
 unfold z1h en1 en2 cor sh
 by_cases h:c=n - 1
 . simp only [if_pos h,List.mem_cons,List.not_mem_nil,or_false]
   rw [if_neg (by omega),if_neg (by omega)];omega
 . simp only [if_neg h,List.mem_cons,List.not_mem_nil,or_false]
   rw [if_neg (by omega),if_pos (by omega)];omega
theorem zxl {n c:Int} (hn:3<=n) (h0:0<=c) (h1:c<n):en1 n c≠en2 n c:=by
 unfold en1 en2;split<;>omega
theorem nsh {c k:Int}:sh c k≠c+1:=by unfold sh;split<;>omega
structure Gr (n:Nat) (c:Nat) (A B:List P3):Prop where
 n3:3<=n
 hc:c<n
 asc:Asc (A++B)
 bd:∀u∈A++B,∀k∈cor u,0<=k/\k<n
 len:A.length+B.length+2=n
section
variable {n c:Nat} {A B:List P3}
theorem Gr.tri (G:Gr n c A B):(z1h (n:Int) c).1<(z1h (n:Int) c).2.1/\(z1h (n:Int) c).2.1<(z1h (n:Int) c).2.2:=by
 have:=G.n3
 have:=G.hc
 unfold z1h;split<;>simp only<;>omega
def grw (n c:Nat) (A B:List P3):List P3:=A.map (sh3 (c:Int))++z1h (n:Int) (c:Int)::B.map (sh3 (c:Int))
theorem Gr.bd' (G:Gr n c A B):∀u∈grw n c A B,∀k∈cor u,0<=k/\k<=n:=by
 have hn:=G.n3
 have hc:=G.hc
 have aux:∀u∈A++B,∀k∈cor (sh3 (c:Int) u),0<=k/\k<=n:=fun u hu k hk=>by
  have:∃j,k=sh (c:Int) j/\j∈cor u:=by
   unfold cor sh3 at hk
   simp only [List.mem_cons,List.not_mem_nil,or_false] at hk
   rcases hk with e | e | e
   . exact ⟨_,e,by simp [cor]⟩
   . exact ⟨_,e,by simp [cor]⟩
   . exact ⟨_,e,by simp [cor]⟩
  obtain ⟨j,rfl,hj⟩:=this
  have:=G.bd u hu j hj
  unfold sh;split<;>omega
 intro u hu k hk
 unfold grw at hu
 rcases List.mem_append.mp hu with h | h
 . obtain ⟨w,hw,rfl⟩:=List.mem_map.mp h
   exact aux w (by simp [hw]) k hk
 . rcases List.mem_cons.mp h with rfl | h
   . unfold cor z1h at hk
     split at hk<;>simp only [List.mem_cons,List.not_mem_nil,or_false] at hk<;>omega
   . obtain ⟨w,hw,rfl⟩:=List.mem_map.mp h
     exact aux w (by simp [hw]) k hk
theorem Gr.new (G:Gr n c A B) {i j:Int} (hi:0<=i/\i<n) (hj:0<=j/\j<n) (hij:i≠j) {x:List Int} (hx:x∈Sh [sh (c:Int) i,sh (c:Int) j] (grw n c A B)):x.getD A.length 0=(c:Int)+1:=by
 have hn:=G.n3
 have hc:=G.hc
 have hlen:=G.len
 obtain ⟨h1,h2,h3⟩:=mem_Sh.mp hx
 have hm:((c:Int)+1)∈x:=by
  refine Classical.byContradiction fun hno=>?_
  have nd:(((c:Int)+1)::sh (c:Int) i::sh (c:Int) j::x).Nodup:=by
   simp only [List.nodup_cons,List.mem_cons,not_or]
   exact ⟨⟨fun e=>nsh e.symm,fun e=>nsh e.symm,hno⟩,⟨fun e=>hij (sh_eq.mp e),fun m=>h3 _ m (by simp)⟩,fun m=>h3 _ m (by simp),h2⟩
  have:=zoa (ys:=(List.range (n+1)).map fun (k:Nat)=>(k:Int)) nd fun z hz=>by
   rw [List.mem_map]
   have hz':0<=z/\z<=n:=by
    simp only [List.mem_cons] at hz
    rcases hz with rfl | rfl | rfl | hz
    . omega
    . unfold sh;split<;>omega
    . unfold sh;split<;>omega
    . obtain ⟨u,hu,hk⟩:=h1.mem z hz
      exact G.bd' u hu z hk
   exact ⟨z.toNat,by rw [List.mem_range];omega,by omega⟩
  rw [List.length_map,List.length_range] at this
  simp only [List.length_cons] at this
  have hl:=h1.len
  unfold grw at hl
  rw [List.length_append,List.length_cons,List.length_map,List.length_map] at hl
  omega
 unfold grw at h1
 obtain ⟨w,y,rfl,hl⟩:=z52 _ _ _ x h1
 rw [List.length_map] at *
 rw [List.length_map] at hl
 rw [z80 _ _ _ (by omega)]
 have hal:=(zb7 (z1h (n:Int) c) w (B.map (sh3 c)) (A.map (sh3 c)) y (by rw [List.length_map,List.length_map];exact hl)).mp (by rw [List.length_map];exact h1)
 rw [<-List.map_append] at hal
 obtain ⟨y',rfl⟩:=zcl (c:Int) hal.2
 rcases List.mem_cons.mp ((z2u A.length w _).mem_iff.mp hm) with e | e
 . exact e.symm
 . obtain ⟨k,_,e⟩:=List.mem_map.mp e
   exact absurd e nsh
theorem Gr.old (G:Gr n c A B) {i j:Int} (hi:0<=i/\i<n) (hj:0<=j/\j<n) (hij:i≠j) :
  Sh [sh (c:Int) i,sh (c:Int) j] (grw n c A B)=(Sh [i,j] (A++B)).map fun (y:List Int)=>z7n A.length ((c:Int)+1) (y.map (sh (c:Int))):=by
 have hn:=G.n3
 have hc:=G.hc
 have e:=zo9 (E:=[sh (c:Int) i,sh (c:Int) j]) (E0:=[i,j]) (c:=(c:Int)) (w:=(c:Int)+1) (t:=z1h (n:Int) c) G.asc G.tri ((z9o (by omega) (by omega) (by omega)).mpr (Or.inr (Or.inr rfl)))
  (by simp only [List.mem_cons,List.not_mem_nil,or_false];rintro (h | h)<;>exact nsh h.symm)
  (fun k=>by simp only [List.mem_cons,List.not_mem_nil,or_false,sh_eq];exact ⟨fun h=>h.elim (fun h=>absurd h nsh) id,Or.inr⟩)
 rw [<-e,List.filter_eq_self.mpr]
 . rfl
 . exact fun x hx=>decide_eq_true (G.new hi hj hij hx)
theorem Gr.at (G:Gr n c A B) {e j:Int} (he:e=en1 n c\/e=en2 n c) (hej:e≠j) :
  (Sh [(c:Int)+1,sh (c:Int) j] (grw n c A B)).filter (fun x=>decide (x.getD A.length 0=sh (c:Int) e))=(Sh [e,j] (A++B)).map fun (y:List Int)=>z7n A.length (sh (c:Int) e) (y.map (sh (c:Int))):=by
 have hn:=G.n3
 have hc:=G.hc
 refine zo9 (E:=[(c:Int)+1,sh (c:Int) j]) (E0:=[e,j]) (c:=(c:Int)) (w:=sh (c:Int) e) (t:=z1h (n:Int) c) G.asc G.tri ((z9o (by omega) (by omega) (by omega)).mpr ?_) ?_ fun k=>?_
 . rcases he with rfl | rfl
   . exact Or.inl rfl
   . exact Or.inr (Or.inl rfl)
 . simp only [List.mem_cons,List.not_mem_nil,or_false]
   rintro (h | h)
   . exact nsh h
   . exact hej (sh_eq.mp h)
 . simp only [List.mem_cons,List.not_mem_nil,or_false,sh_eq]
   exact ⟨fun h=>h.imp id fun h=>h.elim (fun h=>absurd h nsh) id,fun h=>h.imp id Or.inr⟩
theorem Gr.at0 (n c:Nat) (A B:List P3) (j:Int):(Sh [(c:Int)+1,sh (c:Int) j] (grw n c A B)).filter (fun x=>decide (x.getD A.length 0=sh (c:Int) j))=[]:=zrn (by simp)
theorem Gr.two (G:Gr n c A B) {j:Int} {x:List Int} (hx:x∈Sh [(c:Int)+1,sh (c:Int) j] (grw n c A B)):x.getD A.length 0=sh (c:Int) (en1 n c)\/x.getD A.length 0=sh (c:Int) (en2 n c):=by
 have hn:=G.n3
 have hc:=G.hc
 obtain ⟨h1,h2,_⟩:=zxk hx
 rcases (z9o (by omega) (by omega) (by omega)).mp h1 with h | h | h
 . exact Or.inl h
 . exact Or.inr h
 . exact absurd (by rw [h];simp) h2
theorem zix {α:Type} (p:α->Bool):∀l:List α,l.length=(l.filter p).length+(l.filter fun x=>!p x).length
 | []=>rfl
 | a::l=>by
  have:=zix p l
  cases h:p a
  . rw [List.filter_cons_of_neg (by simp [h]),List.filter_cons_of_pos (by simp [h]),List.length_cons,List.length_cons];omega
  . rw [List.filter_cons_of_pos h,List.filter_cons_of_neg (by simp [h]),List.length_cons,List.length_cons];omega
def cn (i j:Int) (ts:List P3):Nat:=if i=j then 0 else (Sh [i,j] ts).length
theorem y1p {i j:Int} {ts:List P3} (ha:Asc ts):cn i j ts=cn j i ts:=by
 unfold cn
 by_cases h:i=j
 . rw [if_pos h,if_pos h.symm]
 . rw [if_neg h,if_neg (fun e=>h e.symm),zee (E':=[j,i]) (fun k=>by simp only [List.mem_cons,List.not_mem_nil,or_false];exact Or.comm) ha]
theorem Gr.cold (G:Gr n c A B) {i j:Int} (hi:0<=i/\i<n) (hj:0<=j/\j<n):cn (sh (c:Int) i) (sh (c:Int) j) (grw n c A B)=cn i j (A++B):=by
 unfold cn
 by_cases h:i=j
 . rw [if_pos h,if_pos (by rw [h])]
 . rw [if_neg h,if_neg (fun e=>h (sh_eq.mp e)),G.old hi hj h,List.length_map]
theorem Gr.cnew (G:Gr n c A B) (j:Int):cn ((c:Int)+1) (sh (c:Int) j) (grw n c A B)=cn (en1 n c) j (A++B)+cn (en2 n c) j (A++B):=by
 have hn:=G.n3
 have hc:=G.hc
 have one:∀e,(e=en1 n c\/e=en2 n c)->((Sh [(c:Int)+1,sh (c:Int) j] (grw n c A B)).filter (fun x=>decide (x.getD A.length 0=sh (c:Int) e))).length=cn e j (A++B):=fun e he=>by
  unfold cn
  by_cases h:e=j
  . rw [if_pos h,h,Gr.at0];rfl
  . rw [if_neg h,G.at he h,List.length_map]
 rw [<-one _ (Or.inl rfl),<-one _ (Or.inr rfl)]
 show (if _ then _ else _)=_
 rw [if_neg (fun e=>nsh e.symm)]
 have hne:=zxl (n:=(n:Int)) (c:=(c:Int)) (by omega) (by omega) (by omega)
 generalize hl:Sh [(c:Int)+1,sh (c:Int) j] (grw n c A B)=l
 rw [zix (fun x=>decide (x.getD A.length 0=sh (c:Int) (en1 n c))) l]
 congr 2
 refine List.filter_congr fun x hx=>?_
 rw [<-hl] at hx
 rcases G.two hx with h | h
 . rw [h,decide_eq_true rfl,decide_eq_false fun e=>hne (sh_eq.mp e)];rfl
 . rw [h,decide_eq_false fun e=>hne (sh_eq.mp e).symm,decide_eq_true rfl];rfl
end
def mm (v:Nat->Vc) (p q:Nat):Int:=dt (v (min p q)) (v (max p q))
theorem y1q (v:Nat->Vc) (p q:Nat):mm v p q=mm v q p:=by unfold mm;rw [Nat.min_comm,Nat.max_comm]
theorem zxm (n c:Nat) (v:Nat->Vc) (p q:Nat) (hp:p<n) (hq:q<n):mm (gV n c v) (shN c p) (shN c q)=mm v p q:=by
 unfold mm
 rw [show min (shN c p) (shN c q)=shN c (min p q) by unfold shN;split<;>split<;>split<;>omega,show max (shN c p) (shN c q)=shN c (max p q) by unfold shN;split<;>split<;>split<;>omega,
  zed _ _ _ _ (by omega),zed _ _ _ _ (by omega)]
theorem zxn {n:Nat} {R:Nat->Int} {v:Nat->Vc} (F:Fr n R v) (hn:3<=n) (c p:Nat) (hc:c<n) (hp:p<n):mm (gV n c v) (c+1) (shN c p)=mm v c p+mm v ((c+1) % n) p:=by
 by_cases h:p<=c
 . have e:shN c p=p:=by unfold shN;rw [if_neg (by omega)]
   have:=zed n c v p hp
   rw [e] at this ⊢
   unfold mm
   rw [Nat.min_eq_right (show p<=c+1 by omega),Nat.max_eq_left (show p<=c+1 by omega),this,zo2 _ _ _ hc,z77,Nat.min_eq_right h,Nat.max_eq_left h]
   by_cases z:c+1=n
   . have t:=F.turn p 0
     rw [Nat.zero_add] at t
     rw [z,Nat.mod_self,Nat.min_eq_left (Nat.zero_le p),Nat.max_eq_right (Nat.zero_le p),t,y1m (v 0)];omega
   . rw [Nat.mod_eq_of_lt (show c+1<n by omega),Nat.min_eq_right (show p<=c+1 by omega),Nat.max_eq_left (show p<=c+1 by omega)]
 . have e:shN c p=p+1:=by unfold shN;rw [if_pos (by omega)]
   have:=zed n c v p hp
   rw [e] at this ⊢
   unfold mm
   rw [Nat.min_eq_left (show c+1<=p+1 by omega),Nat.max_eq_right (show c+1<=p+1 by omega),this,zo2 _ _ _ hc,z9n,Nat.min_eq_left (show c<=p by omega),Nat.max_eq_right (show c<=p by omega),
    Nat.mod_eq_of_lt (show c+1<n by omega),Nat.min_eq_left (show c+1<=p by omega),Nat.max_eq_right (show c+1<=p by omega)]
theorem CInv.asc {n:Int} {ls:List P2} {T:List P3} (I:CInv n ls T):Asc (so3 T):=fun t ht=>by
 obtain ⟨a,c,b⟩:=t
 have:=I.tri a c b ((z0s T).mem_iff.mp ht)
 exact ⟨this.2.1,this.2.2.1⟩
theorem CInv.tlen {n:Nat} {ls:List P2} {T:List P3} (I:CInv (n:Int) ls T) (hl:ls.length+3=n):T.length+2=n:=by
 have:=I.prm.length_eq
 rw [List.length_map,List.length_cons] at this
 omega
theorem Gr.of {n:Nat} {ls:List P2} {T:List P3} (I:CInv (n:Int) ls T) (hl:ls.length+3=n) (c:Nat) (hc:c<n) :
  ∃A B,so3 T=A++B/\so3 (T.map (sh3 (c:Int))++[z1h (n:Int) (c:Int)])=grw n c A B/\Gr n c A B:=by
 have h3:=I.n3
 have ht:z1h (n:Int) (c:Int)∉T.map (sh3 (c:Int)):=fun h=>by
  obtain ⟨u,_,e⟩:=List.mem_map.mp h
  have:((c:Int)+1)∈cor (sh3 (c:Int) u):=by rw [e];exact (z9o (by omega) (by omega) (by omega)).mpr (Or.inr (Or.inr rfl))
  unfold cor sh3 at this
  simp only [List.mem_cons,List.not_mem_nil,or_false] at this
  rcases this with e | e | e<;>exact nsh e.symm
 obtain ⟨A,B,h1,h2⟩:=zm6 ht
 refine ⟨A,B,h1,h2,by omega,hc,by rw [<-h1];exact I.asc,fun u hu k hk=>?_,?_⟩
 . rw [<-h1] at hu
   obtain ⟨a,d,b⟩:=u
   have:=I.tri a d b ((z0s T).mem_iff.mp hu)
   unfold cor at hk
   simp only [List.mem_cons,List.not_mem_nil,or_false] at hk
   omega
 . have:=I.tlen hl
   rw [<-(z0s T).length_eq,h1,List.length_append] at this
   exact this
def Sc (n:Nat) (T:List P3) (v:Nat->Vc):Prop:=∀i j:Nat,i<n->j<n->((cn (i:Int) (j:Int) (so3 T):Nat):Int)=mm v i j
theorem sc3:Sc 3 [(0,1,2)] v3:=by
 intro i j hi hj
 rw [show so3 [((0:Int),(1:Int),(2:Int))]=[(0,1,2)] from rfl]
 have h1:i=0\/i=1\/i=2:=by omega
 have h2:j=0\/j=1\/j=2:=by omega
 rcases h1 with rfl | rfl | rfl<;>rcases h2 with rfl | rfl | rfl<;>decide
theorem zef (c p:Nat):((shN c p:Nat):Int)=sh (c:Int) (p:Int):=by unfold shN sh;split<;>split<;>omega
theorem ziy {n c x:Nat} (hc:c<n) (hx:x<n+1):x=c+1\/∃y,y<n/\x=shN c y:=by
 by_cases h:x<=c
 . exact Or.inr ⟨x,by omega,by unfold shN;rw [if_neg (by omega)]⟩
 . by_cases h':x=c+1
   . exact Or.inl h'
   . exact Or.inr ⟨x - 1,by omega,by unfold shN;rw [if_pos (by omega)];omega⟩
theorem Sc.grow {n:Nat} {R:Nat->Int} {ls:List P2} {T:List P3} {v:Nat->Vc} (C:Sc n T v) (F:Fr n R v) (I:CInv (n:Int) ls T) (hl:ls.length+3=n) (c:Nat) (hc:c<n) :
  Sc (n+1) (T.map (sh3 (c:Int))++[z1h (n:Int) (c:Int)]) (gV n c v):=by
 have h3:3<=n:=by have:=I.n3;omega
 obtain ⟨A,B,h1,h2,G⟩:=Gr.of I hl c hc
 have ha:Asc (grw n c A B):=by
  rw [<-h2]
  have:=I.grow (c:Int) (by omega) (by omega)
  exact this.asc
 have new:∀q,q<n->((cn ((c:Int)+1) (sh (c:Int) (q:Int)) (grw n c A B):Nat):Int)=mm (gV n c v) (c+1) (shN c q):=fun q hq=>by
  rw [G.cnew,zxn F h3 c q hc hq,<-h1]
  have e1:=C c q hc hq
  have e2:=C ((c+1) % n) q (Nat.mod_lt _ (by omega)) hq
  rw [<-e1,<-e2]
  unfold en1 en2
  by_cases z:c+1=n
  . rw [if_pos (by omega),if_pos (by omega),z,Nat.mod_self]
    push_cast;omega
  . rw [if_neg (by omega),if_neg (by omega),Nat.mod_eq_of_lt (by omega)]
    push_cast;rfl
 intro i j hi hj
 rw [h2]
 rcases ziy hc hi with rfl | ⟨p,hp,rfl⟩
 . rcases ziy hc hj with rfl | ⟨q,hq,rfl⟩
   . unfold cn mm
     rw [if_pos rfl,Nat.min_self,Nat.max_self,z4i];rfl
   . rw [zef];exact new q hq
 . rcases ziy hc hj with rfl | ⟨q,hq,rfl⟩
   . rw [zef,y1p ha,y1q];exact new p hp
   . rw [zef,zef,G.cold (by omega) (by omega),<-h1,zxm _ _ _ _ _ hp hq]
     exact C p q hp hq
def pin (o:List Int) (k:Nat) (x:Int):List Int:=o.take k++x::o.drop k
end Cu
namespace Cu
def s3 (c:Int) (w:P2):P3:=if c<w.1 then (c,w.1,w.2) else if c<w.2 then (w.1,c,w.2) else (w.1,w.2,c)
section
open Bd
end
end Cu
namespace Cu
open L2 Bd
def bk (c p:Int):Int:=if p<=c then p else p - 1
def rt (c:Int) (t:P3):P3:=if c<=t.1\/t.2.2<c then t else if c<=t.2.1 then (t.2.1,t.2.2,t.1) else (t.2.2,t.1,t.2.1)
end Cu
namespace Cu
open Bd
open L2 (so3 z0s)
def opp (t:P3) (c:Int):P2:=if c=t.1 then (t.2.1,t.2.2) else if c=t.2.1 then (t.1,t.2.2) else (t.1,t.2.1)
def ab (ts:List P3) (x:List Int):List P2:=List.zipWith opp ts x
theorem zxo (c:Int) (t:P3) (k:Int):opp (sh3 c t) (sh c k)=sh2 c (opp t k):=by
 unfold opp sh3 sh2
 dsimp only
 simp only [sh_eq]
 repeat' split
 all_goals rfl
theorem zxp (c:Int):∀(ts:List P3) (y:List Int),ab (ts.map (sh3 c)) (y.map (sh c))=(ab ts y).map (sh2 c)
 | [],y=>by simp [ab]
 | t::ts,[]=>by simp [ab]
 | t::ts,k::y=>by
  have:=zxp c ts y
  unfold ab at this ⊢
  simp only [List.map_cons,List.zipWith_cons_cons,zxo,this]
theorem zob (t:P3) (w:Int) (B:List P3):∀(A:List P3) (y:List Int),y.length=A.length+B.length->(ab (A++t::B) (z7n A.length w y)).Perm (opp t w::ab (A++B) y)
 | [],y,_=>by
  cases y<;>exact .refl _
 | a::A,y,h=>by
  cases y with
  | nil=>exact absurd h (by simp;omega)
  | cons k y=>
   have ih:=zob t w B A y (by simp at h;omega)
   show (opp a k::ab (A++t::B) (z7n A.length w y)).Perm (opp t w::opp a k::ab (A++B) y)
   exact (ih.cons _).trans (.swap _ _ _)
theorem zm8 {c x n:Int} (h0:0<=x) (h1:x<=n) (hc:0<=c/\c<n):x=c+1\/∃y,0<=y/\y<n/\x=sh c y:=by
 by_cases h:x=c+1
 . exact .inl h
 . refine .inr ⟨if x > c then x - 1 else x,?_,?_,?_⟩
   . split<;>omega
   . split<;>omega
   . unfold sh;split<;>(try split)<;>omega
end Cu
set_option maxHeartbeats 400000
namespace Cu
open Bd
open L2 (so3 z0s)
def sF {α:Type} (f:α->Int):List α->Int
 | []=>0
 | x::l=>f x+sF f l
theorem ziz {α:Type} (f:α->Int):∀a b:List α,sF f (a++b)=sF f a+sF f b
 | [],b=>by simp [sF]
 | x::a,b=>by simp only [List.cons_append,sF,ziz f a b];omega
theorem z41 {α β:Type} (f:β->Int) (g:α->β):∀a:List α,sF f (a.map g)=sF (fun x=>f (g x)) a
 | []=>rfl
 | x::a=>by simp only [List.map_cons,sF,z41 f g a]
theorem z42 {α:Type} {f g:α->Int}:∀{a:List α},(∀x∈a,f x=g x)->sF f a=sF g a
 | [],_=>rfl
 | x::a,h=>by simp only [sF,h x List.mem_cons_self,z42 fun y hy=>h y (List.mem_cons_of_mem _ hy)]
theorem zj0 {α:Type} (f g:α->Int):∀a:List α,sF (fun x=>f x+g x) a=sF f a+sF g a
 | []=>rfl
 | x::a=>by simp only [sF,zj0 f g a];omega
theorem zj1 {α:Type}:∀a:List α,sF (fun _=>0) a=0
 | []=>rfl
 | x::a=>by simp only [sF,zj1 a];rfl
theorem zj2 {α β:Type} (f:α->β->Int) (b:List β):∀a:List α,sF (fun x=>sF (f x) b) a=sF (fun y=>sF (fun x=>f x y) a) b
 | []=>(zj1 b).symm
 | x::a=>by simp only [sF,zj2 f b a];exact (zj0 (f x) _ b).symm
theorem zoc {α:Type} (f:α->Int) (p:α->Bool):∀l:List α,sF f l=sF f (l.filter p)+sF f (l.filter fun x=>!p x)
 | []=>rfl
 | a::l=>by
  have:=zoc f p l
  cases h:p a
  . rw [List.filter_cons_of_neg (by simp [h]),List.filter_cons_of_pos (by simp [h])];simp only [sF];omega
  . rw [List.filter_cons_of_pos h,List.filter_cons_of_neg (by simp [h])];simp only [sF];omega
def Iv (f:List P2->Int):Prop:=∀x y,x.Perm y->f x=f y
def Sv (ts:List P3) (i j:Int):List (List P2):=if i=j then [] else (Sh [i,j] ts).map (ab ts)
def twF (f:List P2->Int) (X Y:List (List P2)):Int:=sF (fun x=>sF (fun y=>f (x++y)) Y) X
def Eqv (X Y:List (List P2)):Prop:=∀f,Iv f->sF f X=sF f Y
theorem z79 {f:List P2->Int} (hf:Iv f) (X Y:List (List P2)):twF f X Y=twF f Y X:=by
 unfold twF
 rw [zj2]
 exact z42 fun y _=>z42 fun x _=>hf _ _ List.perm_append_comm
theorem zro {f:List P2->Int} (hf:Iv f) {X X':List (List P2)} (h:Eqv X X') (Y:List (List P2)):twF f X Y=twF f X' Y:=
 h _ fun x x' p=>z42 fun y _=>hf _ _ (p.append_right y)
theorem zxq {f:List P2->Int} (hf:Iv f) (X:List (List P2)) {Y Y':List (List P2)} (h:Eqv Y Y'):twF f X Y=twF f X Y':=by
 rw [z79 hf,zro hf h,z79 hf]
theorem zrp (f:List P2->Int) (X Y Y':List (List P2)):twF f X (Y++Y')=twF f X Y+twF f X Y':=by
 unfold twF
 rw [<-zj0]
 exact z42 fun x _=>ziz _ _ _
theorem y1r (f:List P2->Int) (X:List (List P2)):twF f X []=0:=zj1 X
def hd (c:Int) (p:P2) (z:List P2):List P2:=p::z.map (sh2 c)
theorem zj3 {f:List P2->Int} (hf:Iv f) (c:Int) (p q:P2) (X Y:List (List P2)):twF f (X.map (hd c p)) (Y.map (hd c q))=twF (fun z=>f (p::q::z.map (sh2 c))) X Y:=by
 unfold twF
 rw [z41]
 refine z42 fun x _=>?_
 rw [z41]
 refine z42 fun y _=>hf _ _ ?_
 unfold hd
 rw [List.map_append,List.cons_append]
 exact .cons _ List.perm_middle
theorem Iv.hd2 {f:List P2->Int} (hf:Iv f) (c:Int) (p q:P2):Iv fun z=>f (p::q::z.map (sh2 c)):=fun x y h=>hf _ _ (((h.map _).cons _).cons _)
theorem zj4 {ts:List P3} (ha:Asc ts) (i j:Int):Sv ts i j=Sv ts j i:=by
 unfold Sv
 by_cases h:i=j
 . rw [if_pos h,if_pos h.symm]
 . rw [if_neg h,if_neg (fun e=>h e.symm),zee (E':=[j,i]) (fun k=>by simp only [List.mem_cons,List.not_mem_nil,or_false];exact Or.comm) ha]
theorem zrq (ts:List P3) (i:Int):Sv ts i i=[]:=if_pos rfl
section
variable {n c:Nat} {A B:List P3}
theorem Gr.asc' (G:Gr n c A B):Asc (grw n c A B):=fun u hu=>by
 unfold grw at hu
 rcases List.mem_append.mp hu with z | z
 . exact Asc.sh (ts:=A) (fun t ht=>G.asc t (by simp [ht])) _ u z
 . rcases List.mem_cons.mp z with rfl | z
   . exact G.tri
   . exact Asc.sh (ts:=B) (fun t ht=>G.asc t (by simp [ht])) _ u z
theorem Gr.ab (G:Gr n c A B) (w:Int) {E:List Int} {y:List Int} (hy:y∈Sh E (A++B)):(ab (grw n c A B) (z7n A.length w (y.map (sh (c:Int))))).Perm (hd c (opp (z1h (n:Int) c) w) (ab (A++B) y)):=by
 have hl:y.length=A.length+B.length:=by rw [(mem_Sh.mp hy).1.len,List.length_append]
 unfold grw hd
 have:=zob (z1h (n:Int) c) w (B.map (sh3 (c:Int))) (A.map (sh3 (c:Int))) (y.map (sh (c:Int))) (by simp only [List.length_map];exact hl)
 rw [List.length_map] at this
 refine this.trans (.cons _ ?_)
 rw [<-List.map_append,zxp]
theorem Gr.of_map (G:Gr n c A B) (w:Int) (E:List Int):Eqv (((Sh E (A++B)).map fun (y:List Int)=>z7n A.length w (y.map (sh (c:Int)))).map (Cu.ab (grw n c A B))) (((Sh E (A++B)).map (Cu.ab (A++B))).map (hd c (opp (z1h (n:Int) c) w))):=fun f hf=>by
 rw [List.map_map,List.map_map,z41,z41]
 exact z42 fun y hy=>hf _ _ (G.ab w hy)
theorem Gr.svo (G:Gr n c A B) {i j:Int} (hi:0<=i/\i<n) (hj:0<=j/\j<n):Eqv (Sv (grw n c A B) (sh c i) (sh c j)) ((Sv (A++B) i j).map (hd c (opp (z1h (n:Int) c) ((c:Int)+1)))):=by
 unfold Sv
 by_cases h:i=j
 . rw [if_pos h,if_pos (by rw [h])];exact fun _ _=>rfl
 . rw [if_neg h,if_neg (fun e=>h (sh_eq.mp e)),G.old hi hj h]
   exact G.of_map _ _
theorem Gr.svn (G:Gr n c A B) (j:Int):Eqv (Sv (grw n c A B) ((c:Int)+1) (sh c j)) ((Sv (A++B) (en1 n c) j).map (hd c (opp (z1h (n:Int) c) (sh c (en1 n c))))++(Sv (A++B) (en2 n c) j).map (hd c (opp (z1h (n:Int) c) (sh c (en2 n c))))):=by
 have hn:=G.n3
 have hc:=G.hc
 intro f hf
 have one:∀e,(e=en1 n c\/e=en2 n c)->sF f (((Sh [(c:Int)+1,sh (c:Int) j] (grw n c A B)).filter (fun x=>decide (x.getD A.length 0=sh (c:Int) e))).map (Cu.ab (grw n c A B)))=sF f ((Sv (A++B) e j).map (hd c (opp (z1h (n:Int) c) (sh c e)))):=fun e he=>by
  unfold Sv
  by_cases h:e=j
  . rw [if_pos h,h,Gr.at0];rfl
  . rw [if_neg h,G.at he h];exact G.of_map _ _ f hf
 rw [ziz,<-one _ (Or.inl rfl),<-one _ (Or.inr rfl)]
 unfold Sv
 rw [if_neg (fun e=>nsh e.symm)]
 have hne:=zxl (n:=(n:Int)) (c:=(c:Int)) (by omega) (by omega) (by omega)
 generalize hl:Sh [(c:Int)+1,sh (c:Int) j] (grw n c A B)=l
 rw [z41,z41,z41,zoc _ (fun x=>decide (x.getD A.length 0=sh (c:Int) (en1 n c))) l]
 congr 2
 refine List.filter_congr fun x hx=>?_
 rw [<-hl] at hx
 rcases G.two hx with h | h
 . rw [h,decide_eq_true rfl,decide_eq_false fun e=>hne (sh_eq.mp e)];rfl
 . rw [h,decide_eq_false fun e=>hne (sh_eq.mp e).symm,decide_eq_true rfl];rfl
end
def Pt (ts:List P3) (f:List P2->Int) (i j k l:Int):Prop:=twF f (Sv ts i k) (Sv ts j l)=twF f (Sv ts i j) (Sv ts k l)+twF f (Sv ts i l) (Sv ts j k)
theorem Pt.turn {ts:List P3} (ha:Asc ts) {f:List P2->Int} (hf:Iv f) {i j k l:Int} (h:Pt ts f i j k l):Pt ts f j k l i:=by
 unfold Pt at *
 rw [z79 hf,zj4 ha k i,zj4 ha l i,zj4 ha j i,h,z79 hf (Sv ts j k)];omega
theorem Pt.same {ts:List P3} (ha:Asc ts) {f:List P2->Int} (hf:Iv f) (i j k:Int):Pt ts f i j k k:=by
 unfold Pt
 rw [zrq,y1r];omega
def Pts (n:Nat) (ts:List P3):Prop:=∀f,Iv f->∀i j k l:Int,0<=i->i<j->j<k->k<l->l<n->Pt ts f i j k l
theorem Pts.weak {n:Nat} {ts:List P3} (P:Pts n ts) (ha:Asc ts) {f:List P2->Int} (hf:Iv f) {i j k l:Int} (h:0<=i/\i<=j/\j<=k/\k<=l/\l<n):Pt ts f i j k l:=by
 by_cases e1:i=j
 . subst e1;exact ((Pt.same ha hf k l i).turn ha hf).turn ha hf |>.turn ha hf |>.turn ha hf |>.turn ha hf |>.turn ha hf
 . by_cases e2:j=k
   . subst e2;exact (Pt.same ha hf l i j).turn ha hf
   . by_cases e3:k=l
     . subst e3;exact Pt.same ha hf i j k
     . exact P f hf i j k l (by omega) (by omega) (by omega) (by omega) (by omega)
theorem Pts.cyc {n:Nat} {ts:List P3} (P:Pts n ts) (ha:Asc ts) {f:List P2->Int} (hf:Iv f) {i j k l:Int} (b:0<=i/\i<n/\0<=j/\j<n/\0<=k/\k<n/\0<=l/\l<n) (h:(i<=j/\j<=k/\k<=l)\/(j<=k/\k<=l/\l<=i)\/(k<=l/\l<=i/\i<=j)\/(l<=i/\i<=j/\j<=k)):Pt ts f i j k l:=by
 rcases h with h | h | h | h
 . exact P.weak ha hf (by omega)
 . exact (P.weak (i:=j) (j:=k) (k:=l) (l:=i) ha hf (by omega)).turn ha hf |>.turn ha hf |>.turn ha hf
 . exact (P.weak (i:=k) (j:=l) (k:=i) (l:=j) ha hf (by omega)).turn ha hf |>.turn ha hf
 . exact (P.weak (i:=l) (j:=i) (k:=j) (l:=k) ha hf (by omega)).turn ha hf
section
variable {n c:Nat} {A B:List P3}
theorem Gr.twF_oo (G:Gr n c A B) {f:List P2->Int} (hf:Iv f) {i j k l:Int} (hi:0<=i/\i<n) (hj:0<=j/\j<n) (hk:0<=k/\k<n) (hl:0<=l/\l<n) :
  twF f (Sv (grw n c A B) (sh c i) (sh c j)) (Sv (grw n c A B) (sh c k) (sh c l))=twF (fun z=>f (opp (z1h (n:Int) c) ((c:Int)+1)::opp (z1h (n:Int) c) ((c:Int)+1)::z.map (sh2 c))) (Sv (A++B) i j) (Sv (A++B) k l):=by
 rw [zro hf (G.svo hi hj),zxq hf _ (G.svo hk hl),zj3 hf]
theorem Gr.twF_on (G:Gr n c A B) {f:List P2->Int} (hf:Iv f) {i j k:Int} (hi:0<=i/\i<n) (hj:0<=j/\j<n) :
  twF f (Sv (grw n c A B) (sh c i) (sh c j)) (Sv (grw n c A B) ((c:Int)+1) (sh c k))=twF (fun z=>f (opp (z1h (n:Int) c) ((c:Int)+1)::opp (z1h (n:Int) c) (sh c (en1 n c))::z.map (sh2 c))) (Sv (A++B) i j) (Sv (A++B) (en1 n c) k) +
   twF (fun z=>f (opp (z1h (n:Int) c) ((c:Int)+1)::opp (z1h (n:Int) c) (sh c (en2 n c))::z.map (sh2 c))) (Sv (A++B) i j) (Sv (A++B) (en2 n c) k):=by
 rw [zro hf (G.svo hi hj),zxq hf _ (G.svn k),zrp,zj3 hf,zj3 hf]
theorem Pts.new (G:Gr n c A B) (P:Pts n (A++B)) {f:List P2->Int} (hf:Iv f) {i j k:Int} (b:0<=i/\i<n/\0<=j/\j<n/\0<=k/\k<n)
  (h:∀e,(e=en1 n c\/e=en2 n c)->(i<=j/\j<=k/\k<=e)\/(j<=k/\k<=e/\e<=i)\/(k<=e/\e<=i/\i<=j)\/(e<=i/\i<=j/\j<=k)):Pt (grw n c A B) f (sh c i) (sh c j) (sh c k) ((c:Int)+1):=by
 have hn:=G.n3
 have hc:=G.hc
 have eb:∀e,(e=en1 n c\/e=en2 n c)->0<=e/\e<(n:Int):=fun e he=>by
  unfold en1 en2 at he
  split at he<;>omega
 have p:∀e,(e=en1 n c\/e=en2 n c)->∀g,Iv g->Pt (A++B) g i j k e:=fun e he g hg=>P.cyc G.asc hg (i:=i) (j:=j) (k:=k) (l:=e) (by have:=eb e he;omega) (h e he)
 have p1:=p _ (.inl rfl) _ (hf.hd2 c (opp (z1h (n:Int) c) ((c:Int)+1)) (opp (z1h (n:Int) c) (sh c (en1 n c))))
 have p2:=p _ (.inr rfl) _ (hf.hd2 c (opp (z1h (n:Int) c) ((c:Int)+1)) (opp (z1h (n:Int) c) (sh c (en2 n c))))
 unfold Pt at p1 p2 ⊢
 have q:∀t,Sv (grw n c A B) (sh c t) ((c:Int)+1)=Sv (grw n c A B) ((c:Int)+1) (sh c t):=fun t=>zj4 G.asc' _ _
 have r:∀e t,Sv (A++B) t e=Sv (A++B) e t:=fun e t=>zj4 G.asc _ _
 rw [q j,q k,q i,G.twF_on hf (by omega) (by omega),G.twF_on hf (by omega) (by omega),z79 hf (Sv (grw n c A B) _ (sh c i)),G.twF_on hf (by omega) (by omega)]
 rw [r (en1 n c) j,r (en1 n c) k,r (en1 n c) i,z79 (hf.hd2 _ _ _) (Sv (A++B) (en1 n c) i)] at p1
 rw [r (en2 n c) j,r (en2 n c) k,r (en2 n c) i,z79 (hf.hd2 _ _ _) (Sv (A++B) (en2 n c) i)] at p2
 omega
theorem Pts.grow (G:Gr n c A B) (P:Pts n (A++B)):Pts (n+1) (grw n c A B):=by
 have hn:=G.n3
 have hc:=G.hc
 have ha:=G.asc'
 intro f hf i j k l h0 h1 h2 h3 h4
 have cs:∀x:Int,0<=x->x<=n->x=c+1\/∃y,0<=y/\y<(n:Int)/\x=sh c y:=fun x x0 x1=>zm8 x0 x1 (by omega)
 have key:∀x y:Int,sh c x<sh c y->x<y:=fun x y=>sh_lt.mp
 have kl:∀x:Int,sh c x<(c:Int)+1->x<=c:=fun x h=>by unfold sh at h;split at h<;>omega
 have kg:∀x:Int,(c:Int)+1<sh c x->c<x:=fun x h=>by unfold sh at h;split at h<;>omega
 have en:∀e,(e=en1 n c\/e=en2 n c)->(((c:Int)=n - 1/\(e=0\/e=c))\/((c:Int)<n - 1/\(e=c\/e=c+1))):=fun e he=>by
  unfold en1 en2 at he
  split at he<;>omega
 rcases cs l (by omega) (by omega) with rfl | ⟨l',l0,l1,rfl⟩
 . obtain ⟨k',k0,k1,rfl⟩:=(cs k (by omega) (by omega)).resolve_left (by omega)
   obtain ⟨j',j0,j1,rfl⟩:=(cs j (by omega) (by omega)).resolve_left (by omega)
   obtain ⟨i',i0,i1,rfl⟩:=(cs i (by omega) (by omega)).resolve_left (by omega)
   have:=key _ _ h1;have:=key _ _ h2;have:=kl _ h3
   exact P.new G hf (by omega) fun e he=>by have:=en e he;omega
 . rcases cs k (by omega) (by omega) with rfl | ⟨k',k0,k1,rfl⟩
   . obtain ⟨j',j0,j1,rfl⟩:=(cs j (by omega) (by omega)).resolve_left (by omega)
     obtain ⟨i',i0,i1,rfl⟩:=(cs i (by omega) (by omega)).resolve_left (by omega)
     have:=key _ _ h1;have:=kl _ h2;have:=kg _ h3
     exact (P.new G hf (i:=l') (j:=i') (k:=j') (by omega) fun e he=>by have:=en e he;omega).turn ha hf
   . rcases cs j (by omega) (by omega) with rfl | ⟨j',j0,j1,rfl⟩
     . obtain ⟨i',i0,i1,rfl⟩:=(cs i (by omega) (by omega)).resolve_left (by omega)
       have:=key _ _ h3;have:=kl _ h1;have:=kg _ h2
       exact ((P.new G hf (i:=k') (j:=l') (k:=i') (by omega) fun e he=>by have:=en e he;omega).turn ha hf).turn ha hf
     . rcases cs i (by omega) (by omega) with rfl | ⟨i',i0,i1,rfl⟩
       . have:=key _ _ h3;have:=key _ _ h2;have:=kg _ h1
         exact (((P.new G hf (i:=j') (j:=k') (k:=l') (by omega) fun e he=>by have:=en e he;omega).turn ha hf).turn ha hf).turn ha hf
       . have:=key _ _ h3;have:=key _ _ h2;have:=key _ _ h1
         unfold Pt
         rw [G.twF_oo hf (by omega) (by omega) (by omega) (by omega),G.twF_oo hf (by omega) (by omega) (by omega) (by omega),G.twF_oo hf (by omega) (by omega) (by omega) (by omega)]
         exact P _ (hf.hd2 _ _ _) i' j' k' l' (by omega) (by omega) (by omega) (by omega) (by omega)
end
theorem y40 (ts:List P3):Pts 3 ts:=fun f _ i j k l=>by omega
end Cu
noncomputable section
namespace K67
open PySem PySem.Spec PyProof.Rows L2
def z81:DS->SR:=
 (z6w [true] (zmx (eUn (z8v "int") (z02 0)) (eUn (fun d=>(zk8 d).map fun b=>.bl (!b)) (eUn (z8v "bool") (z02 0)))))
def z1e:List D->R D:=mOf false 1 0 z81
def zod:DS->SR:=
 (z6w [true,true] (eIf (z4s asB (eOp zps (z02 0) (z02 1))) (z6f (z01 (z02 0) (z01 (z02 1) z09))) (z6f (z01 (z02 1) (z01 (z02 0) z09)))))
def zb8:List D->R D:=mOf false 2 0 zod
def z5u:DE->R Bool:=
 (z4s asB (eOp dNe (z02 0) (z02 1)))
def z5v:DE->R D:=
 (z02 0)
def z82:DS->SR:=
 (z6w [true,true] (eCB z2w (z01 (z14 (iL (z02 0)) b1 [1] z5u z5v) z09)))
def z1z:List D->R D:=mOf false 2 0 z82
def z2l:DE->R Bool:=
 (zpi (z4s asB (eOp dEq (eOp dIx (z02 0) (eC (.int 0))) (z02 1))) (zpi (z4s asB (eOp dLe (eOp dIx (z02 0) (eC (.int 1))) (eOp dIx (z02 2) (eC (.int 1))))) (z4s asB (eOp dNe (z02 0) (z02 2)))))
def z2m:DE->R D:=
 (eOp dIx (z02 0) (eC (.int 1)))
def z3f:DS->SR:=
 (z1u (z2p true 3 [true,true,true] (z14 (iL (z02 2)) b1 [0,1] z2l z2m))
  (z6w [true,false,false,true] (eCB zf5 (z01 (z02 3) (z01 (eOp z1v (z02 0) (eC (.int 1))) z09)))))
def z0x:List D->R D:=mOf false 3 1 z3f
def z43:DE->R Bool:=
 (z4s asB (eOp (dIn true) (z02 0) (z02 1)))
def z44:DE->R D:=
 (eOp zf7 (z02 1) (z6f (z01 (z02 0) z09)))
def z1i:DS->SR:=
 (zgx "list" zup 2 [false,true,false,true] (z01 (z14 (iL (z02 1)) b1 [3] z43 z44) z09))
def z5w:DS->SR:=
 (z1u (z2p true 2 [] (zbk z09))
  (z1u (zc2 false [true] (iL (z02 0)) (.n 3) z1i)
  (zew 2)))
def z1p:List D->R D:=mOf true 2 2 z5w
def z3g:DE->R Bool:=
 (z4s asB (eOp dNe (z02 1) (eC (.int 0))))
def z3h:DE->R D:=
 (z6f (z01 (z02 0) (z01 (z02 1) z09)))
def z5h:DS->SR:=
 (z6w [true] (eCB z0w (z01 (z14 (zr8 (z02 0)) (bT 2) [] z3g z3h) z09)))
def z1f:List D->R D:=mOf true 1 0 z5h
def z5x:DS->SR:=
 (z6w [true,true] (eCB zla (z01 (eSl dSl (z02 0) (oSo (z02 1)) (oSo (eOp z1v (z02 1) (eC (.int 1))))) z09)))
def z0y:List D->R D:=mOf false 2 0 z5x
def z2e:DE->R D:=
 (z6f (z01 (eOp z1v (z02 0) (eCB zsf (z01 (eOp zu0 (z02 0) (z02 2)) z09))) (z01 (eOp z1v (z02 1) (eCB zsf (z01 (eOp zu0 (z02 1) (z02 2)) z09))) z09)))
def z3i:DS->SR:=
 (z1u (z2p false 3 [true] (eCB zaq (z01 (z02 0) z09)))
  (z1u (z2p true 4 [false,true,true] (z14 (iL (z02 1)) (bT 2) [2] z8x z2e))
  (z1u (sIf (z4s asB (eOp dEq (z02 2) (eOp zl3 (z02 3) (eC (.int 1)))))
   (zgx "list" zhc 4 [false,false,true] (z01 (z6f (z01 (eC (.int 0)) (z01 (z02 2) z09))) z09))
   (zgx "list" zhc 4 [false,false,true] (z01 (z6f (z01 (z02 2) (z01 (eOp z1v (z02 2) (eC (.int 2))) z09))) z09)))
  (z1u (z2p true 5 [true] (eCB zar (z01 (z02 0) z09)))
  (z1u (zk6 zlc 5 [false,false,true,false,false,true] (z02 2) (eOp z1v (eOp dIx (z02 5) (z02 2)) (eC (.int 1))))
  (z1u (zk6 zlc 5 [false,false,true,true,false,true] (eOp zan (eOp z1v (z02 2) (eC (.int 1))) (z02 3)) (eOp z1v (eOp dIx (z02 5) (eOp zan (eOp z1v (z02 2) (eC (.int 1))) (z02 3))) (eC (.int 1))))
  (z1u (zgx "list" zun 5 [false,false,true] (z01 (eOp z1v (z02 2) (eC (.int 1))) (z01 (eC (.int 1)) z09)))
  (z6w [false,false,false,false,true,true] (z6f (z01 (z02 5) (z01 (z02 4) z09)))))))))))
def z0o:List D->R D:=mOf false 3 3 z3i
def z1x:DS->SR:=
 (z1u (z2p false 4 [false,false,false,false,true,true] (eOp zan (eOp z1v (eOp z1v (eOp z1v (eOp zh2 (z02 4) (z02 4)) (eOp zh2 (eC (.int 48271)) (z02 4))) (eOp zh2 (z02 5) (z02 5))) (eC (.int 3))) (eC (.int 2147483647))))
  (zir 3 2 [false,false,true,false,true] (z01 (eOp zan (eOp zl4 (z02 4) (eC (.int 7))) (eCB zaq (z01 (z02 2) z09))) z09)))
def z4j:DS->SR:=
 (z1u (z2p true 2 [false,true] (eLR (z01 (z02 1) z09)))
  (z1u (z2p true 3 [] (zbk z09))
  (z1u (z2p false 4 [true] (eOp zan (z02 0) (eC (.int 2147483647))))
  (z1u (zc2 true [] (zsh (z01 (eC (.int 4)) z09)) (.n 5) z1x)
  (z6w [false,false,false,true] (eCB z0w (z01 (z02 3) z09)))))))
def z23:List D->R D:=mOf true 2 4 z4j
def z29:DE->R D:=
 (eOp z1v (z02 0) (z02 1))
def z2a:DS->SR:=
 (z1u (z2p false 7 [false,false,false,true,false,true] (eCB z2w (z01 (z14 (z9l (z01 (z02 3) (z01 (z02 5) z09))) (bT 2) [] z8x z29) z09)))
  (zk6 dSetN 0 [true,false,false,false,true,false,true,true] (z02 7) (eOp z1v (eGetN (z02 0) (z02 7) (eC (.int 0))) (eOp zh2 (z02 4) (z02 6)))))
def z2b:DS->SR:=
 (zc2 false [false,false,true] (iL (z02 2)) (.t [5,6]) z2a)
def z5i:DS->SR:=
 (zc2 false [false,true] (iL (z02 1)) (.t [3,4]) z2b)
def z16:List D->R D:=zys 3 5 z5i
def zeg:DS->SR:=
 (z6w [true] (zmx (eUn (z8v "tuple") (z02 0)) (zmx (eOp dEq (eCB zaq (z01 (z02 0) z09)) (eC (.int 2))) (zmx (z0i z1e (z01 (eOp dIx (z02 0) (eC (.int 0))) z09)) (z0i z1e (z01 (eOp dIx (z02 0) (eC (.int 1))) z09))))))
def z53:List D->R D:=mOf false 1 0 zeg
def z45:DS->SR:=
 (sIf (bOr (zmw (z4s zk8 (z0i z1e (z01 (z02 1) z09)))) (zmw (zsd (eC (.int 0)) (z6v dLe (z02 1) (z7s zps (z02 0))))))
  sNo
  sNx)
def z0k:List D->R D:=mOf false 2 0 z45
def z4k:DE->R D:=
 (z0i zb8 (z01 (z02 0) (z01 (eOp zan (eOp z1v (z02 0) (eC (.int 1))) (z02 1)) z09)))
def zb9:DS->SR:=
 (z1u (z2p false 1 [true] (eOp dIx (z02 0) (eC (.int 0))))
  (z1u (z2p true 2 [false,true] (z14 (zsh (z01 (z02 1) z09)) b1 [1] z8x z4k))
  (z6w [true,false,true] (eCB z0w (z01 (eOp zc4 (z02 2) (eCB zar (z01 (eOp dIx (z02 0) (eC (.int 1))) z09))) z09)))))
def z2n:List D->R D:=mOf true 1 2 zb9
def z1j:DE->R Bool:=
 (z4s asB (eOp zps (eOp dIx (z02 2) (eUn zu1 (eC (.int 1)))) (eOp dIx (z02 0) (eC (.int 1)))))
def z1k:DS->SR:=
 (zgx "list" zhc 2 [true,true,true] (z01 (z0i z0x (z01 (eOp dIx (z02 2) (eUn zu1 (eC (.int 1)))) (z01 (z02 0) (z01 (z02 1) z09)))) z09))
def z5y:DS->SR:=
 (z1u (z2p true 2 [true] (zbk (z01 (eOp dIx (z02 0) (eC (.int 0))) z09)))
  (z1u (zak 1000 z1j z1k)
  (z6w [false,false,true] (eCB z2w (z01 (z02 2) z09)))))
def z1q:List D->R D:=mOf false 2 1 z5y
def z1l:DS->SR:=
 (z1u (z2p false 6 [false,false,true,false,false,true] (eOp zan (z02 5) (eCB zaq (z01 (z02 2) z09))))
  (z1u (sIf (z4s asB (eOp dEq (eOp zan (z02 0) (eC (.int 3))) (eC (.int 1))))
   (z2p false 6 [false,false,false,false,true] (eOp z1v (eC (.int 1)) (eOp zl4 (z02 4) (eC (.int 2)))))
   sNx)
  (zk7 (.t [2,3]) [false,false,true,true,false,false,true] (z0i z0o (z01 (z02 2) (z01 (z02 3) (z01 (z02 6) z09)))))))
def z3j:DS->SR:=
 (z1u (zk7 (.t [2,3]) [true] (z0i z0o (z01 (zbk (z01 (eC (.int 1)) (z01 (eC (.int 1)) (z01 (eC (.int 1)) z09)))) (z01 (zbk z09) (z01 (eOp zan (eOp zl4 (z02 0) (eC (.int 3))) (eC (.int 3))) z09)))))
  (z1u (zc2 false [false,true] (iEn (z01 (z02 1) z09)) (.t [4,5]) z1l)
  (z6w [false,false,true,true] (z6f (z01 (z02 2) (z01 (eCB z0w (z01 (z02 3) z09)) z09))))))
def z1r:List D->R D:=mOf false 2 5 z3j
def zba:DE->R D:=
 (z0i z1q (z01 (z02 0) (z01 (z02 1) z09)))
def zj5:DS->SR:=
 (z1u (z2p true 2 [true,true] (eOp zc4 (zbk (z01 (z6f (z01 (eC (.int 0)) (z01 (eOp zl3 (z02 0) (eC (.int 1))) z09))) z09)) (eCB zar (z01 (z02 1) z09))))
  (z6w [false,true,true] (eCB z0w (z01 (z14 (iL (z02 2)) b1 [1] z8x zba) z09))))
def z7a:List D->R D:=mOf true 2 1 zj5
def z3k:DS->SR:=
 (sIf (bOr (zmw (z4s zk8 (z0i z53 (z01 (z02 1) z09)))) (zmw (zsd (eC (.int 0)) (z6v dLe (eOp dIx (z02 1) (eC (.int 0))) (z6v zps (eOp dIx (z02 1) (eC (.int 1))) (z7s zps (z02 0)))))))
  sNo
  sNx)
def z0z:List D->R D:=mOf false 2 0 z3k
def z7b:DS->SR:=
 (z6w [true] (z0i z7a (z01 (eOp dIx (z02 0) (eC (.int 0))) (z01 (eOp dIx (z02 0) (eC (.int 1))) z09))))
def z0l:List D->R D:=mOf true 1 0 z7b
def z5z:DE->R Bool:=
 (zpi (z4s asB (eOp dNe (z02 0) (z02 1))) (z4s asB (eOp dNe (z02 0) (z02 2))))
def z60:DE->R D:=
 (z02 0)
def z3l:DS->SR:=
 (z2p true 3 [false,true,true,true,true] (z0i z1p (z01 (z02 3) (z01 (z14 (iL (z02 4)) b1 [1,2] z5z z60) z09))))
def z5j:DS->SR:=
 (z1u (z8q (z0i z0k (z01 (eOp dIx (z02 0) (eC (.int 0))) (z01 (z02 1) z09))))
  (z1u (z8q (z0i z0k (z01 (eOp dIx (z02 0) (eC (.int 0))) (z01 (z02 2) z09))))
  (z1u (sIf (z4s asB (eOp zu0 (eOp dIx (z02 0) (eC (.int 0))) (eC (.int 12))))
   sNo
   sNx)
  (z1u (sIf (z4s asB (eOp dEq (z02 1) (z02 2)))
   (z6w [] (zbk z09))
   sNx)
  (z1u (z2p true 3 [] (zbk (z01 (z6f z09) z09)))
  (z1u (zc2 false [true] (iL (z0i z0l (z01 (z02 0) z09))) (.n 4) z3l)
  (zew 3)))))))
def z1g:List D->R D:=mOf true 3 2 z5j
def z1y:DE->R D:=
 (z0i z1z (z01 (z02 0) (z01 (z02 1) z09)))
def z54:DE->R D:=
 (eOp zl3 (z9f (z02 1) (z02 0)) (z9g (eOp dIx (z02 2) (eC (.int 1))) (z02 0)))
def z4l:DS->SR:=
 (z1u (z2p true 2 [true,true] (z14 (zf9 (z01 (z0i z0l (z01 (z02 0) z09)) (z01 (z02 1) z09))) (bT 2) [] z8x z1y))
  (z6w [true,false,true] (eCB z2w (z01 (z14 (iL (z0i z2n (z01 (z02 0) z09))) b1 [2,0] z8x z54) z09))))
def z24:List D->R D:=mOf false 2 1 z4l
def z2c:DS->SR:=
 (z1u (z2p false 4 [true,false,false,true] (z0i z24 (z01 (z02 0) (z01 (z02 3) z09))))
  (zk6 dSetN 2 [false,false,true,false,true] (z02 4) (eOp z1v (eGetN (z02 2) (z02 4) (eC (.int 0))) (eC (.int 1)))))
def z5k:DS->SR:=
 (z1u (z8q (z0i z0z (z01 (eOp dIx (z02 0) (eC (.int 0))) (z01 (z02 1) z09))))
  (z1u (z2p true 2 [] z9d)
  (z1u (zc2 false [true,true] (iL (z0i z1g (z01 (z02 0) (z01 (eOp dIx (z02 1) (eC (.int 0))) (z01 (eOp dIx (z02 1) (eC (.int 1))) z09))))) (.n 3) z2c)
  (z6w [false,false,true] (z0i z1f (z01 (z02 2) z09))))))
def z0n:List D->R D:=mOf true 2 3 z5k
def z9p:DS->SR:=
 (z1u (zk7 (.t [5,6,7,8]) [false,true,false,false,true] (z0i z23 (z01 (z02 4) (z01 (eCB zaq (z01 (z02 1) z09)) z09))))
  (z1u (z2p true 9 [] z9d)
  (z1u (znu 9 [false,false,false,true,false,true,true,true,true] z16 3 (z01 (z0i z0n (z01 (z02 3) (z01 (z6f (z01 (z02 5) (z01 (z02 7) z09))) z09))) (z01 (z0i z0n (z01 (z02 3) (z01 (z6f (z01 (z02 6) (z01 (z02 8) z09))) z09))) z09)))
  (z1u (z2p true 10 [] z9d)
  (z1u (znu 10 [false,false,false,true,false,true,true,true,true] z16 3 (z01 (z0i z0n (z01 (z02 3) (z01 (z6f (z01 (z02 5) (z01 (z02 6) z09))) z09))) (z01 (z0i z0n (z01 (z02 3) (z01 (z6f (z01 (z02 7) (z01 (z02 8) z09))) z09))) z09)))
  (z1u (znu 10 [false,false,false,true,false,true,true,true,true] z16 3 (z01 (z0i z0n (z01 (z02 3) (z01 (z6f (z01 (z02 5) (z01 (z02 8) z09))) z09))) (z01 (z0i z0n (z01 (z02 3) (z01 (z6f (z01 (z02 6) (z01 (z02 7) z09))) z09))) z09)))
  (sIf (bOr (z4s asB (eOp (dEqN false) (z02 9) z9d)) (z4s asB (eOp (dEqN true) (z02 9) (z02 10))))
   (z6w [] (eC (.bl false)))
   sNx)))))))
def zrr:DS->SR:=
 (z1u (zk7 (.t [1,2]) [true] (z0i z1r (z01 (z0i z0y (z01 (z02 0) (z01 (eC (.int 0)) z09))) (z01 (eSl dSl (z02 0) (oSo (eC (.int 1))) (oSo (eC (.int 5)))) z09))))
  (z1u (z2p false 3 [false,true,true] (z6f (z01 (eCB zaq (z01 (z02 1) z09)) (z01 (eCB z2w (z01 (z02 2) z09)) z09))))
  (z1u (zc2 false [true] (iL (eOp zc4 (zbk (z01 (z0i z0y (z01 (z02 0) (z01 (eC (.int 5)) z09))) z09)) (eSl dSl (z02 0) (oSo (eC (.int 6))) (oSo (eC (.int 8)))))) (.n 4) z9p)
  (z6w [] (eC (.bl true))))))
def zfi:List D->R D:=mOf false 1 10 zrr
def top (i:Nat):Stmt:=PySem.Challenge.pw_friezeyard_k67_four_corners.main.body.getD i (.Pass ⟨0,0,0,0⟩)
abbrev z5l:Stmt:=top 6
abbrev zj6:Stmt:=top 7
abbrev z9q:Stmt:=top 9
abbrev z2f:Stmt:=top 10
abbrev z5m:Stmt:=top 11
abbrev z7c:Stmt:=top 13
abbrev zcm:Stmt:=top 15
abbrev z3m:Stmt:=top 16
abbrev z25:Stmt:=top 17
abbrev z4m:Stmt:=top 18
abbrev z5n:Stmt:=top 20
abbrev z3n:Stmt:=top 21
abbrev z5o:Stmt:=top 23
abbrev z5p:Stmt:=top 25
abbrev z26:Stmt:=top 26
abbrev z4n:Stmt:=top 27
abbrev z3o:Stmt:=top 29
abbrev z3p:Stmt:=top 30
abbrev z3q:Stmt:=top 31
abbrev z4o:Stmt:=top 32
abbrev z5q:Stmt:=top 33
abbrev zrs:Stmt:=top 34
structure Txt (mg:Str->Option Value):Prop where
 bool:mg "bool"=none
 enumerate:mg "enumerate"=none
 int:mg "int"=none
 isinstance:mg "isinstance"=none
 len:mg "len"=none
 list:mg "list"=none
 «max»:mg "max"=none
 range:mg "range"=none
 sorted:mg "sorted"=none
 sum:mg "sum"=none
 tuple:mg "tuple"=none
 zip:mg "zip"=none
theorem zcn:FnScope ["thing"] ["thing"] (z04 z5l):=fsc
theorem zrt:FnScope ["a","b"] ["a","b"] (z04 zj6):=fsc
theorem zj7:FnScope ["thing"] ["thing"] (z04 z9q):=fsc
theorem z7d:FnScope ["n","thing"] ["n","thing"] (z04 z2f):=fsc
theorem zco:FnScope ["corners","corner"] ["corners","corner"] (z04 z5m):=fsc
theorem sc_letters:FnScope ["cut","n","sides"] ["cut"] (z04 z7c):=fsc
theorem sc_rooms:FnScope ["n","lines","tops"] ["n","lines"] (z04 zcm):=fsc
theorem sc_room_under:FnScope ["top","lines","room"] ["top","lines"] (z04 z3m):=fsc
theorem sc_corner_behind:FnScope ["corner","top","lines","ends"] ["corner","top","lines"] (z04 z25):=fsc
theorem zbb:FnScope ["cut"] ["cut"] (z04 z4m):=fsc
theorem sc_sharings:FnScope ["cut","i","j","begun","corners"] ["cut","i","j"] (z04 z5n):=fsc
theorem sc_carried_on:FnScope ["begun","corners","found","given"] ["begun","corners"] (z04 z3n):=fsc
theorem zcp:FnScope ["found"] ["found"] (z04 z5o):=fsc
theorem sc_fraction:FnScope ["cut","p","found","given","powers"] ["cut","p"] (z04 z5p):=fsc
theorem z6c:FnScope ["n","p"] ["n","p"] (z04 z26):=fsc
theorem sc_powers_of:FnScope ["cut","given","above"] ["cut","given"] (z04 z4n):=fsc
theorem z9r:FnScope ["_law_script","_law_at"] ["_law_script","_law_at"] (z04 z3o):=fsc
theorem sc__law_grown:FnScope ["_law_row","_law_lines","_law_at","_law_size","_law_some","_law_made"] ["_law_row","_law_lines","_law_at"] (z04 z3p):=fsc
theorem sc__law_floor:FnScope ["_law_way","_law_cells","_law_row","_law_lines","_law_k","_law_cell","_law_at"] ["_law_way","_law_cells"] (z04 z3q):=fsc
theorem sc__law_four:FnScope ["_law_cell","_law_size","_law_left","_law_found","_law_number","_law_k"] ["_law_cell","_law_size"] (z04 z4o):=fsc
theorem sc__law_put:FnScope ["_law_found","_law_one","_law_other","_law_powers","_law_times","_law_also","_law_many","_law_at"] ["_law_found","_law_one","_law_other"] (z04 z5q):=fsc
theorem sc_law:FnScope ["_law_script","_law_row","_law_lines","_law_cut","_law_cell","_law_a","_law_b","_law_c","_law_d","_law_left","_law_right"] ["_law_script"] (z04 zrs):=fsc
abbrev z5r (P:Program) (w:World) (K:Frag) (mg:Str->Option Value) (base:Heap):Prop:=z6a P w K mg base "is_whole" ["thing"] 1 (spD K mg false z1e 1)
abbrev zoe (P:Program) (w:World) (K:Frag) (mg:Str->Option Value) (base:Heap):Prop:=z6a P w K mg base "pair" ["a","b"] 1 (spD K mg false zb8 2)
abbrev z83 (P:Program) (w:World) (K:Frag) (mg:Str->Option Value) (base:Heap):Prop:=z6a P w K mg base "opposite" ["corners","corner"] 1 (spD K mg false z1z 2)
abbrev z3r (P:Program) (w:World) (K:Frag) (mg:Str->Option Value) (base:Heap):Prop:=z6a P w K mg base "corner_behind" ["corner","top","lines"] 1 (spD K mg false z0x 3)
abbrev z61 (P:Program) (w:World) (K:Frag) (mg:Str->Option Value) (base:Heap):Prop:=z6a P w K mg base "carried_on" ["begun","corners"] 1 (spD K mg true z1p 2)
abbrev z84 (P:Program) (w:World) (K:Frag) (mg:Str->Option Value) (base:Heap):Prop:=z6a P w K mg base "sum_from" ["found"] 1 (spD K mg true z1f 1)
abbrev z62 (P:Program) (w:World) (K:Frag) (mg:Str->Option Value) (base:Heap):Prop:=z6a P w K mg base "_law_drawn" ["_law_script","_law_at"] 1 (spD K mg false z0y 2)
abbrev z63 (P:Program) (w:World) (K:Frag) (mg:Str->Option Value) (base:Heap):Prop:=z6a P w K mg base "_law_grown" ["_law_row","_law_lines","_law_at"] 1 (spD K mg false z0o 3)
abbrev z7e (P:Program) (w:World) (K:Frag) (mg:Str->Option Value) (base:Heap):Prop:=z6a P w K mg base "_law_four" ["_law_cell","_law_size"] 1 (spD K mg true z23 2)
abbrev z85 (P:Program) (w:World) (K:Frag) (mg:Str->Option Value) (base:Heap):Prop:=z6a P w K mg base "_law_put" ["_law_found","_law_one","_law_other"] 1 (spU K z16 3)
abbrev zeh (P:Program) (w:World) (K:Frag) (mg:Str->Option Value) (base:Heap):Prop:=z6a P w K mg base "is_two" ["thing"] 2 (spD K mg false z53 1)
abbrev z46 (P:Program) (w:World) (K:Frag) (mg:Str->Option Value) (base:Heap):Prop:=z6a P w K mg base "check_corner" ["n","thing"] 2 (spD K mg false z0k 2)
abbrev zbc (P:Program) (w:World) (K:Frag) (mg:Str->Option Value) (base:Heap):Prop:=z6a P w K mg base "letters" ["cut"] 2 (spD K mg true z2n 1)
abbrev z64 (P:Program) (w:World) (K:Frag) (mg:Str->Option Value) (base:Heap):Prop:=z6a P w K mg base "room_under" ["top","lines"] 2 (spD K mg false z1q 2)
abbrev z65 (P:Program) (w:World) (K:Frag) (mg:Str->Option Value) (base:Heap):Prop:=z6a P w K mg base "_law_floor" ["_law_way","_law_cells"] 2 (spD K mg false z1r 2)
abbrev zj8 (P:Program) (w:World) (K:Frag) (mg:Str->Option Value) (base:Heap):Prop:=z6a P w K mg base "rooms" ["n","lines"] 3 (spD K mg true z7a 2)
abbrev z3s (P:Program) (w:World) (K:Frag) (mg:Str->Option Value) (base:Heap):Prop:=z6a P w K mg base "check_corners" ["n","p"] 3 (spD K mg false z0z 2)
abbrev z4p (P:Program) (w:World) (K:Frag) (mg:Str->Option Value) (base:Heap):Prop:=z6a P w K mg base "triangles" ["cut"] 4 (spD K mg true z0l 1)
abbrev z86 (P:Program) (w:World) (K:Frag) (mg:Str->Option Value) (base:Heap):Prop:=z6a P w K mg base "sharings" ["cut","i","j"] 5 (spD K mg true z1g 3)
abbrev z7f (P:Program) (w:World) (K:Frag) (mg:Str->Option Value) (base:Heap):Prop:=z6a P w K mg base "powers_of" ["cut","given"] 5 (spD K mg false z24 2)
abbrev z87 (P:Program) (w:World) (K:Frag) (mg:Str->Option Value) (base:Heap):Prop:=z6a P w K mg base "fraction" ["cut","p"] 6 (spD K mg true z0n 2)
section
variable {P:Program} {w:World} {K:Frag} {mg:Str->Option Value} {base:Heap} {f:Addr} {fd:FuncData}
theorem zcq (F:Fun K "is_whole" "is_whole" z5l f fd) (T:Txt mg)  : FnOk P w K mg base (CX1 P w) 1 f fd ["thing"] (spD K mg false z1e 1):=
 fnD (k:=0) F zcn rfl rfl fun cdv A outer s H E hr=>
  (z0t (z2q (zl8 (zq3 rfl T.isinstance boot_isinstance (qv 0) (zbn (v:=.ty "int") rfl T.int boot_int rfl)) (zu6 (zu7 (zq3 rfl T.isinstance boot_isinstance (qv 0) (zbn (v:=.ty "bool") rfl T.bool boot_bool rfl)))))))
theorem zru (F:Fun K "pair" "pair" zj6 f fd) (T:Txt mg)  : FnOk P w K mg base (CX1 P w) 1 f fd ["a","b"] (spD K mg false zb8 2):=
 fnD (k:=0) F zrt rfl rfl fun cdv A outer s H E hr=>
  (z0t (z2q (y0a (z8u zt7 zao (qv 0) (qv 1) (z1d _)) (z30 (z00 (qv 0) (z00 (qv 1) z06))) (z30 (z00 (qv 1) (z00 (qv 0) z06))))))
theorem zcr (F:Fun K "opposite" "opposite" z5m f fd) (T:Txt mg)  : FnOk P w K mg base (CX1 P w) 1 f fd ["corners","corner"] (spD K mg false z1z 2):=
 fnD (k:=0) F zco rfl rfl fun cdv A outer s H E hr=>
  (z0t (z2q (z7l z4v z4w rfl T.tuple boot_tuple (z00 (QE.wk (zuf (z0v (caps:=["corner"]) (ix:=[1]) rfl rfl) (by decide +kernel) rfl (z5d (qv 0)) (.one fun _ _ _=>(tN hr (qv 0) (qv 1) (z1d _))) (fun _ _ _=>(qv 0)))) z06))))
theorem z6d (F:Fun K "corner_behind" "corner_behind" z25 f fd) (T:Txt mg)  : FnOk P w K mg base (CX1 P w) 1 f fd ["corner","top","lines"] (spD K mg false z0x 3):=
 fnD (k:=0) F sc_corner_behind rfl rfl fun cdv A outer s H E hr=>
  (z07 (y32 sc_corner_behind.nd (k:=3) rfl rfl (z0v (caps:=["corner","top"]) (ix:=[0,1]) rfl rfl) (by decide +kernel) rfl (z5d (qv 2)) (.one fun _ _ _=>(QW.pt (zq0 (tE hr (qI hr (qv 0) z08) (qv 1) (z1d _)) (zq0 (z8u zzb zpt (qI hr (qv 0) z08) (qI hr (qv 2) z08) (z1d _)) (zn1 (tN hr (qv 0) (qv 2) (z1d _))))))) (fun _ _ _=>(qI hr (qv 0) z08)))
   (z0t (z2q (zur rfl rfl T.«max» boot_max (qv 3) (z0m z2z z0r (qv 0) z08)))))
theorem z9s (F:Fun K "carried_on" "carried_on" z3n f fd) (T:Txt mg)  : FnOk P w K mg base (CX1 P w) 1 f fd ["begun","corners"] (spD K mg true z1p 2):=
 fnD (k:=0) F sc_carried_on rfl rfl fun cdv A outer s H E hr=>
  (z07 (sA 2 sc_carried_on.nd (z8t z06))
   (z07 (zf0 PassesOwn.leaving rfl (z5d (qv 0)) (g_n (i:=3) sc_carried_on.nd rfl (Or.inr rfl))
    (z0t (zhe PySem.F.plainAttrs_list PySem.F.slot_list_extend PySem.F.type_list_extend zg2 zuq z4e (pw 2) (z00 (QE.wk (zuf (z0v (caps:=["given"]) (ix:=[3]) rfl rfl) (by decide +kernel) rfl (z5d (qv 1)) (.one fun _ _ _=>(z8u (zl7 hr.units) y08 (qv 0) (qv 1) (by with_unfolding_all rfl))) (fun _ _ _=>(z0m zr3 zr4 (qv 1) (z30 (z00 (qv 0) z06)))))) z06))))
   (z0t (zn4 (i:=2)))))
theorem zcs (F:Fun K "sum_from" "sum_from" z5o f fd) (T:Txt mg)  : FnOk P w K mg base (CX1 P w) 1 f fd ["found"] (spD K mg true z1f 1):=
 fnD (k:=0) F zcp rfl rfl fun cdv A outer s H E hr=>
  (z0t (z2q (zq1 (z3b rfl hr.units) z3a rfl T.sorted boot_sorted (z00 (QE.wk (y0g (z0v (caps:=[]) (ix:=[]) rfl rfl) (by decide +kernel) rfl rfl (zr9 (qv 0)) (.one fun _ _ _=>(tN hr (qv 1) z08 (z1d _))) (fun _ _ _=>(z30 (z00 (qv 0) (z00 (qv 1) z06)))))) z06))))
theorem z9t (F:Fun K "_law_drawn" "_law_drawn" z3o f fd) (T:Txt mg)  : FnOk P w K mg base (CX1 P w) 1 f fd ["_law_script","_law_at"] (spD K mg false z0y 2):=
 fnD (k:=0) F z9r rfl rfl fun cdv A outer s H E hr=>
  (z0t (z2q (zq1 (zzh rfl) zud rfl T.sum boot_sum (z00 (QE.wk (y0f zbs zcd (qv 0) (zsg (qv 1)) (zsg (z0m z2z z0r (qv 1) z08)))) z06))))
theorem z9u (F:Fun K "_law_grown" "_law_grown" z3p f fd) (T:Txt mg)  : FnOk P w K mg base (CX1 P w) 1 f fd ["_law_row","_law_lines","_law_at"] (spD K mg false z0o 3):=
 fnD (k:=0) F sc__law_grown rfl rfl fun cdv A outer s H E hr=>
  (z07 (sA 3 sc__law_grown.nd (qL T.len (qv 0)))
   (z07 (y3q sc__law_grown.nd (k:=4) rfl rfl (z0v (caps:=["_law_at"]) (ix:=[2]) rfl rfl) (by decide +kernel) rfl rfl (z5d (qv 1)) .nil (fun _ _ _=>(z30 (z00 (z0m z2z z0r (qv 0) (z7l ztj zn2 rfl T.int boot_int (z00 (zpy zzc zh5 (qv 0) (qv 2) (z1d _)) z06))) (z00 (z0m z2z z0r (qv 1) (z7l ztj zn2 rfl T.int boot_int (z00 (zpy zzc zh5 (qv 1) (qv 2) (z1d _)) z06))) z06)))))
   (z07 (zq4 (tE hr (qv 2) (z0m zp6 zh3 (qv 3) z08) (z1d _))
    (z0t (zhe PySem.F.plainAttrs_list PySem.F.slot_list_append PySem.F.type_list_append z35 zhd z4e (pw 4) (z00 (z30 (z00 z08 (z00 (qv 2) z06))) z06)))
    (z0t (zhe PySem.F.plainAttrs_list PySem.F.slot_list_append PySem.F.type_list_append z35 zhd z4e (pw 4) (z00 (z30 (z00 (qv 2) (z00 (z0m z2z z0r (qv 2) z08) z06))) z06))))
   (z07 (sA 5 sc__law_grown.nd (z7l zcb zcc rfl T.list boot_list (z00 (qv 0) z06)))
   (z07 (zui hr.units (pw 5) (qv 2) (z0m z2z z0r (qI hr (qv 5) (qv 2)) z08))
   (z07 (zui hr.units (pw 5) (z0m z8h z4u (z0m z2z z0r (qv 2) z08) (qv 3)) (z0m z2z z0r (qI hr (qv 5) (z0m z8h z4u (z0m z2z z0r (qv 2) z08) (qv 3))) z08))
   (z07 (zhe PySem.F.plainAttrs_list PySem.F.slot_list_insert PySem.F.type_list_insert zhs zuo z4e (pw 5) (z00 (z0m z2z z0r (qv 2) z08) (z00 z08 z06)))
   (z0t (z2q (z30 (z00 (qv 5) (z00 (qv 4) z06))))))))))))
theorem zbd (F:Fun K "_law_four" "_law_four" z4o f fd) (T:Txt mg)  : FnOk P w K mg base (CX1 P w) 1 f fd ["_law_cell","_law_size"] (spD K mg true z23 2):=
 fnD (k:=0) F sc__law_four rfl rfl fun cdv A outer s H E hr=>
  (z07 (sA 2 sc__law_four.nd (y3x rfl rfl T.list rfl T.range (z00 (qv 1) z06)))
   (z07 (sA 3 sc__law_four.nd (z8t z06))
   (z07 (sA 4 sc__law_four.nd (z0m z8h z4u (qv 0) z08))
   (z07 (zf0 PassesOwn.leaving rfl (y31 rfl T.range (z00 z08 z06)) (g_n (i:=5) sc__law_four.nd rfl (Or.inl rfl))
    (z07 (sA 4 sc__law_four.nd (z0m z8h z4u (z0m z2z z0r (z0m z2z z0r (z0m z2z z0r (z0m zkn zdn (qv 4) (qv 4)) (z0m zkn zdn z08 (qv 4))) (z0m zkn zdn (qv 5) (qv 5))) z08) z08))
   (z0t (zx6 (pw 3) (pw 2) (z00 (z0m z8h z4u (z0m zgc zh4 (qv 4) z08) (qL T.len (qv 2))) z06)))))
   (z0t (z2q (zq1 (z3b rfl hr.units) z3a rfl T.sorted boot_sorted (z00 (qv 3) z06))))))))
theorem zct (F:Fun K "_law_put" "_law_put" z5q f fd) (T:Txt mg)  : FnOk P w K mg base (CX1 P w) 1 f fd ["_law_found","_law_one","_law_other"] (spU K z16 3):=
 fnU (k:=0) F sc__law_put rfl rfl fun cdv A outer s H E hr=>
  (zil (zx3 PassesOwn.leaving rfl (z5d (qv 1)) (y35 (by decide) rfl (z13 (i:=3) sc__law_put.nd rfl (Or.inl rfl) (z13 (i:=4) sc__law_put.nd rfl (Or.inl rfl) z6z)))
    (zil (zx3 PassesOwn.leaving rfl (z5d (qv 2)) (y35 (by decide) rfl (z13 (i:=5) sc__law_put.nd rfl (Or.inl rfl) (z13 (i:=6) sc__law_put.nd rfl (Or.inl rfl) z6z)))
    (zrd (y1h (i:=7) (by decide) sc__law_put.nd rfl (Or.inl rfl) (z7l z4v z4w rfl T.tuple boot_tuple (z00 (QE.wk (y0g (z0v (caps:=[]) (ix:=[]) rfl rfl) (by decide +kernel) rfl rfl (zx9 rfl T.zip (z00 (qv 3) (z00 (qv 5) z06))) .nil (fun _ _ _=>(z0m z2z z0r (qv 0) (qv 1))))) z06)))
   (zil (zx2 hr.units (pw 0) (qv 7) (z0m z2z z0r (zns hr.units (qv 0) (qv 7) z08) (z0m zkn zdn (qv 4) (qv 6))))))))))
theorem zj9 (F:Fun K "is_two" "is_two" z9q f fd) (T:Txt mg) (G_is_whole:z5r P w K mg base):FnOk P w K mg base (CX1 P w) 2 f fd ["thing"] (spD K mg false z53 1):=
 fnD (k:=1) F zj7 rfl rfl fun cdv A outer s H E hr=>
  (z0t (z2q (zl8 (zq3 rfl T.isinstance boot_isinstance (qv 0) (zbn (v:=.ty "tuple") rfl T.tuple boot_tuple rfl)) (zl8 (zpy (zu2 hr.units) zu3 (qL T.len (qv 0)) z08 (z1d _)) (zl8 (z15 z56 G_is_whole hr rfl (z00 (qI hr (qv 0) z08) z06)) (zu6 (z15 z56 G_is_whole hr rfl (z00 (qI hr (qv 0) z08) z06))))))))
theorem z7g (F:Fun K "check_corner" "check_corner" z2f f fd) (T:Txt mg) (G_is_whole:z5r P w K mg base):FnOk P w K mg base (CX1 P w) 2 f fd ["n","thing"] (spD K mg false z0k 2):=
 fnD (k:=1) F z7d rfl rfl fun cdv A outer s H E hr=>
  (z0t (zq4 (QW.pt (y0b (zl9 (zu8 (z15 z56 G_is_whole hr rfl (z00 (qv 1) z06)))) (zpz (zl9 (zu9 z08 (zca zzb zpt (qv 1) (zh8 zt7 zao (qv 0))))))))
   (z0t zce)
   zez))
theorem zfj (F:Fun K "letters" "letters" z7c f fd) (T:Txt mg) (G_pair:zoe P w K mg base):FnOk P w K mg base (CX1 P w) 2 f fd ["cut"] (spD K mg true z2n 1):=
 fnD (k:=1) F sc_letters rfl rfl fun cdv A outer s H E hr=>
  (z07 (sA 1 sc_letters.nd (qI hr (qv 0) z08))
   (z07 (y32 sc_letters.nd (k:=2) rfl rfl (z0v (caps:=["n"]) (ix:=[1]) rfl rfl) (by decide +kernel) rfl (y31 rfl T.range (z00 (qv 1) z06)) .nil (fun _ _ _=>(z15 zyp G_pair hr rfl (z00 (qv 0) (z00 (z0m z8h z4u (z0m z2z z0r (qv 0) z08) (qv 1)) z06)))))
   (z0t (z2q (zq1 (z3b rfl hr.units) z3a rfl T.sorted boot_sorted (z00 (QE.wk (z0m zg3 zh6 (qv 2) (QE.wk (z7l zcb zcc rfl T.list boot_list (z00 (qI hr (qv 0) z08) z06))))) z06))))))
theorem z9v (F:Fun K "room_under" "room_under" z3m f fd) (T:Txt mg) (G_corner_behind:z3r P w K mg base):FnOk P w K mg base (CX1 P w) 2 f fd ["top","lines"] (spD K mg false z1q 2):=
 fnD (k:=1) F sc_room_under rfl rfl fun cdv A outer s H E hr=>
  (z07 (sA 2 sc_room_under.nd (z8t (z00 (qI hr (qv 0) z08) z06)))
   (z07 (zq5 (n:=1000) PassesOwn.leaving (z8u zt7 zao (qI hr (qv 2) (y30 zt8 zmz z08)) (qI hr (qv 0) z08) (z1d _))
    (z0t (zhe PySem.F.plainAttrs_list PySem.F.slot_list_append PySem.F.type_list_append z35 zhd z4e (pw 2) (z00 (z15 z56 G_corner_behind hr rfl (z00 (qI hr (qv 2) (y30 zt8 zmz z08)) (z00 (qv 0) (z00 (qv 1) z06)))) z06))))
   (z0t (z2q (z7l z4v z4w rfl T.tuple boot_tuple (z00 (qv 2) z06))))))
theorem z9w (F:Fun K "_law_floor" "_law_floor" z3q f fd) (T:Txt mg) (G__law_grown:z63 P w K mg base):FnOk P w K mg base (CX1 P w) 2 f fd ["_law_way","_law_cells"] (spD K mg false z1r 2):=
 fnD (k:=1) F sc__law_floor rfl rfl fun cdv A outer s H E hr=>
  (z07 (zlb (z15 z56 G__law_grown hr rfl (z00 (QE.wk (z8t (z00 z08 (z00 z08 (z00 z08 z06))))) (z00 (QE.wk (z8t z06)) (z00 (z0m z8h z4u (z0m zgc zh4 (qv 0) z08) z08) z06)))) (g_t rfl (z13 (i:=2) sc__law_floor.nd rfl (Or.inl rfl) (z13 (i:=3) sc__law_floor.nd rfl (Or.inl rfl) z6z))))
   (z07 (zf0 PassesOwn.leaving rfl (y3p rfl T.enumerate (z00 (qv 1) z06)) (g_t rfl (z13 (i:=4) sc__law_floor.nd rfl (Or.inl rfl) (z13 (i:=5) sc__law_floor.nd rfl (Or.inl rfl) z6z)))
    (z07 (sA 6 sc__law_floor.nd (z0m z8h z4u (qv 5) (qL T.len (qv 2))))
   (z07 (zq4 (tE hr (z0m z8h z4u (qv 0) z08) z08 (z1d _))
    (z0t (sA 6 sc__law_floor.nd (z0m z2z z0r z08 (z0m zgc zh4 (qv 4) z08))))
    zez)
   (z0t (zlb (z15 z56 G__law_grown hr rfl (z00 (qv 2) (z00 (qv 3) (z00 (qv 6) z06)))) (g_t rfl (z13 (i:=2) sc__law_floor.nd rfl (Or.inl rfl) (z13 (i:=3) sc__law_floor.nd rfl (Or.inl rfl) z6z))))))))
   (z0t (z2q (z30 (z00 (qv 2) (z00 (QE.wk (zq1 (z3b rfl hr.units) z3a rfl T.sorted boot_sorted (z00 (qv 3) z06))) z06)))))))
theorem zm9 (F:Fun K "rooms" "rooms" zcm f fd) (T:Txt mg) (G_room_under:z64 P w K mg base):FnOk P w K mg base (CX1 P w) 3 f fd ["n","lines"] (spD K mg true z7a 2):=
 fnD (k:=2) F sc_rooms rfl rfl fun cdv A outer s H E hr=>
  (z07 (sA 2 sc_rooms.nd (z0m zg3 zh6 (QE.wk (z8t (z00 (z30 (z00 z08 (z00 (z0m zp6 zh3 (qv 0) z08) z06))) z06))) (QE.wk (z7l zcb zcc rfl T.list boot_list (z00 (qv 1) z06)))))
   (z0t (z2q (zq1 (z3b rfl hr.units) z3a rfl T.sorted boot_sorted (z00 (QE.wk (zuf (z0v (caps:=["lines"]) (ix:=[1]) rfl rfl) (by decide +kernel) rfl (z5d (qv 2)) .nil (fun _ _ _=>(z15 zyp G_room_under hr rfl (z00 (qv 0) (z00 (qv 1) z06)))))) z06)))))
theorem z6e (F:Fun K "check_corners" "check_corners" z26 f fd) (T:Txt mg) (G_is_two:zeh P w K mg base):FnOk P w K mg base (CX1 P w) 3 f fd ["n","p"] (spD K mg false z0z 2):=
 fnD (k:=2) F z6c rfl rfl fun cdv A outer s H E hr=>
  (z0t (zq4 (QW.pt (y0b (zl9 (zu8 (z15 z56 G_is_two hr rfl (z00 (qv 1) z06)))) (zpz (zl9 (zu9 z08 (zca zzb zpt (qI hr (qv 1) z08) (zca zt7 zao (qI hr (qv 1) z08) (zh8 zt7 zao (qv 0)))))))))
   (z0t zce)
   zez))
theorem zbe (F:Fun K "triangles" "triangles" z4m f fd) (T:Txt mg) (G_rooms:zj8 P w K mg base):FnOk P w K mg base (CX1 P w) 4 f fd ["cut"] (spD K mg true z0l 1):=
 fnD (k:=3) F zbb rfl rfl fun cdv A outer s H E hr=>
  (z0t (z2q (z15 z56 G_rooms hr rfl (z00 (qI hr (qv 0) z08) (z00 (qI hr (qv 0) z08) z06)))))
theorem zcu (F:Fun K "sharings" "sharings" z5n f fd) (T:Txt mg) (G_carried_on:z61 P w K mg base) (G_check_corner:z46 P w K mg base) (G_triangles:z4p P w K mg base):FnOk P w K mg base (CX1 P w) 5 f fd ["cut","i","j"] (spD K mg true z1g 3):=
 fnD (k:=4) F sc_sharings rfl rfl fun cdv A outer s H E hr=>
  (z07 (zhb (z15 z56 G_check_corner hr rfl (z00 (qI hr (qv 0) z08) (z00 (qv 1) z06))))
   (z07 (zhb (z15 z56 G_check_corner hr rfl (z00 (qI hr (qv 0) z08) (z00 (qv 2) z06))))
   (z07 (zq4 (z8u zzc zh5 (qI hr (qv 0) z08) z08 (z1d _))
    (z0t zce)
    zez)
   (z07 (zq4 (tE hr (qv 1) (qv 2) (z1d _))
    (z0t (z2q (z8t z06)))
    zez)
   (z07 (sA 3 sc_sharings.nd (z8t (z00 (z30 z06) z06)))
   (z07 (zf0 PassesOwn.leaving rfl (z5d (QE.wk (z15 z56 G_triangles hr rfl (z00 (qv 0) z06)))) (g_n (i:=4) sc_sharings.nd rfl (Or.inl rfl))
    (z0t (sA 3 sc_sharings.nd (z15 z56 G_carried_on hr rfl (z00 (qv 3) (z00 (QE.wk (zuf (z0v (caps:=["i","j"]) (ix:=[1,2]) rfl rfl) (by decide +kernel) rfl (z5d (qv 4)) (.one fun _ _ _=>(QW.pt (zq0 (tN hr (qv 0) (qv 1) (z1d _)) (zn1 (tN hr (qv 0) (qv 2) (z1d _)))))) (fun _ _ _=>(qv 0)))) z06))))))
   (z0t (zn4 (i:=3)))))))))
theorem zbf (F:Fun K "powers_of" "powers_of" z4n f fd) (T:Txt mg) (G_letters:zbc P w K mg base) (G_opposite:z83 P w K mg base) (G_triangles:z4p P w K mg base):FnOk P w K mg base (CX1 P w) 5 f fd ["cut","given"] (spD K mg false z24 2):=
 fnD (k:=4) F sc_powers_of rfl rfl fun cdv A outer s H E hr=>
  (z07 (sA 2 sc_powers_of.nd (y0g (z0v (caps:=[]) (ix:=[]) rfl rfl) (by decide +kernel) rfl rfl (zwr rfl T.zip (z00 (QE.wk (z15 z56 G_triangles hr rfl (z00 (qv 0) z06))) (z00 (qv 1) z06))) .nil (fun _ _ _=>(z15 zyp G_opposite hr rfl (z00 (qv 0) (z00 (qv 1) z06))))))
   (z0t (z2q (z7l z4v z4w rfl T.tuple boot_tuple (z00 (QE.wk (zuf (z0v (caps:=["above","cut"]) (ix:=[2,0]) rfl rfl) (by decide +kernel) rfl (z5d (QE.wk (z15 z56 G_letters hr rfl (z00 (qv 0) z06)))) .nil (fun _ _ _=>(z0m zp6 zh3 (zwz hr.units (qv 1) (qv 0)) (zx0 hr.units (qI hr (qv 2) z08) (qv 0)))))) z06)))))
theorem zcv (F:Fun K "fraction" "fraction" z5p f fd) (T:Txt mg) (G_check_corners:z3s P w K mg base) (G_powers_of:z7f P w K mg base) (G_sharings:z86 P w K mg base) (G_sum_from:z84 P w K mg base):FnOk P w K mg base (CX1 P w) 6 f fd ["cut","p"] (spD K mg true z0n 2):=
 fnD (k:=5) F sc_fraction rfl rfl fun cdv A outer s H E hr=>
  (z07 (zhb (z15 z56 G_check_corners hr rfl (z00 (qI hr (qv 0) z08) (z00 (qv 1) z06))))
   (z07 (sA 2 sc_fraction.nd ze7)
   (z07 (zf0 PassesOwn.leaving rfl (z5d (QE.wk (z15 z56 G_sharings hr rfl (z00 (qv 0) (z00 (qI hr (qv 1) z08) (z00 (qI hr (qv 1) z08) z06)))))) (g_n (i:=3) sc_fraction.nd rfl (Or.inl rfl))
    (z07 (sA 4 sc_fraction.nd (z15 z56 G_powers_of hr rfl (z00 (qv 0) (z00 (qv 3) z06))))
   (z0t (zwl hr.units (pw 2) (qv 4) (z0m z2z z0r (zns hr.units (qv 2) (qv 4) z08) z08)))))
   (z0t (z2q (z15 z56 G_sum_from hr rfl (z00 (qv 2) z06)))))))
theorem zxr (F:Fun K "law" "law" zrs f fd) (T:Txt mg) (G__law_drawn:z62 P w K mg base) (G__law_floor:z65 P w K mg base) (G__law_four:z7e P w K mg base) (G__law_put:z85 P w K mg base) (G_fraction:z87 P w K mg base):FnOk P w K mg base (CX1 P w) 7 f fd ["_law_script"] (spD K mg false zfi 1):=
 fnD (k:=6) F sc_law rfl rfl fun cdv A outer s H E hr=>
  (z07 (zlb (z15 z56 G__law_floor hr rfl (z00 (z15 z56 G__law_drawn hr rfl (z00 (qv 0) (z00 z08 z06))) (z00 (QE.wk (y0f zbs zcd (qv 0) (zsg z08) (zsg z08))) z06))) (g_t rfl (z13 (i:=1) sc_law.nd rfl (Or.inl rfl) (z13 (i:=2) sc_law.nd rfl (Or.inl rfl) z6z))))
   (z07 (sA 3 sc_law.nd (z30 (z00 (qL T.len (qv 1)) (z00 (z7l z4v z4w rfl T.tuple boot_tuple (z00 (qv 2) z06)) z06))))
   (z07 (zf0 PassesOwn.leaving rfl (z5d (QE.wk (z0m zg3 zh6 (QE.wk (z8t (z00 (z15 z56 G__law_drawn hr rfl (z00 (qv 0) (z00 z08 z06))) z06))) (QE.wk (y0f zbs zcd (qv 0) (zsg z08) (zsg z08)))))) (g_n (i:=4) sc_law.nd rfl (Or.inl rfl))
    (z07 (zlb (QE.wk (z15 z56 G__law_four hr rfl (z00 (qv 4) (z00 (qL T.len (qv 1)) z06)))) (g_t rfl (z13 (i:=5) sc_law.nd rfl (Or.inl rfl) (z13 (i:=6) sc_law.nd rfl (Or.inl rfl) (z13 (i:=7) sc_law.nd rfl (Or.inl rfl) (z13 (i:=8) sc_law.nd rfl (Or.inl rfl) z6z))))))
   (z07 (sA 9 sc_law.nd ze7)
   (z07 (zre (i:=9) G__law_put hr rfl (pw 9) (z00 (QE.wk (z15 z56 G_fraction hr rfl (z00 (qv 3) (z00 (z30 (z00 (qv 5) (z00 (qv 7) z06))) z06)))) (z00 (QE.wk (z15 z56 G_fraction hr rfl (z00 (qv 3) (z00 (z30 (z00 (qv 6) (z00 (qv 8) z06))) z06)))) z06)))
   (z07 (sA 10 sc_law.nd ze7)
   (z07 (zre (i:=10) G__law_put hr rfl (pw 10) (z00 (QE.wk (z15 z56 G_fraction hr rfl (z00 (qv 3) (z00 (z30 (z00 (qv 5) (z00 (qv 6) z06))) z06)))) (z00 (QE.wk (z15 z56 G_fraction hr rfl (z00 (qv 3) (z00 (z30 (z00 (qv 7) (z00 (qv 8) z06))) z06)))) z06)))
   (z07 (zre (i:=10) G__law_put hr rfl (pw 10) (z00 (QE.wk (z15 z56 G_fraction hr rfl (z00 (qv 3) (z00 (z30 (z00 (qv 5) (z00 (qv 8) z06))) z06)))) (z00 (QE.wk (z15 z56 G_fraction hr rfl (z00 (qv 3) (z00 (z30 (z00 (qv 6) (z00 (qv 7) z06))) z06)))) z06)))
   (z0t (zq4 (QW.pt (y0b (z8u (y1k hr.units) znw (qv 9) (QE.wk ze7) (z1d _)) (zpz (z8u (y1l hr.units) znw (qv 9) (qv 10) (z1d _)))))
    (z0t (z2q y2z))
    zez)))))))))
   (z0t (z2q y2z)))))
end
theorem all_mk {l:PySem.W.OpenLaw} {w:World} {K:Frag} {h:Heap} {mg:Str->Option Value} {fa:Addr} (X:K.In h) (G:h.Ns mainGlobals mg) (hfa:mg "law"=some (.ref fa))
  {f0 f1 f2 f3 f4 f5 f6 f7 f8 f9 f10 f11 f12 f13 f14 f15 f16 f17 f18 f19 f20 f21:Addr}
  (A0:FnAt K "is_whole" z5l f0)
  (A1:FnAt K "pair" zj6 f1)
  (A2:FnAt K "opposite" z5m f2)
  (A3:FnAt K "corner_behind" z25 f3)
  (A4:FnAt K "carried_on" z3n f4)
  (A5:FnAt K "sum_from" z5o f5)
  (A6:FnAt K "_law_drawn" z3o f6)
  (A7:FnAt K "_law_grown" z3p f7)
  (A8:FnAt K "_law_four" z4o f8)
  (A9:FnAt K "_law_put" z5q f9)
  (A10:FnAt K "is_two" z9q f10)
  (A11:FnAt K "check_corner" z2f f11)
  (A12:FnAt K "letters" z7c f12)
  (A13:FnAt K "room_under" z3m f13)
  (A14:FnAt K "_law_floor" z3q f14)
  (A15:FnAt K "rooms" zcm f15)
  (A16:FnAt K "check_corners" z26 f16)
  (A17:FnAt K "triangles" z4m f17)
  (A18:FnAt K "sharings" z5n f18)
  (A19:FnAt K "powers_of" z4n f19)
  (A20:FnAt K "fraction" z5p f20)
  (A21:FnAt K "law" zrs f21)
  (T:Txt mg) :
  ∃fd:FuncData,(∀(s:Shared) (v:Value),BindsTo s fd ⟨[v],[]⟩ [("_law_script",v)])/\∀base:Heap,K.In base->base.Ns mainGlobals mg->FnOk l.prog w K mg base (CX1 l.prog w) 7 fa fd ["_law_script"] (spL K false zfi 1):=by
 refine zww X G hfa A21 (fun _ _ _ _ _ _ _ _=>.of_eq rfl) fun base kb nb fd F=>?_
 have G_is_whole:z5r l.prog w K mg base:=got X G A0 fun F=>zcq F T 
 have G_pair:zoe l.prog w K mg base:=got X G A1 fun F=>zru F T 
 have G_opposite:z83 l.prog w K mg base:=got X G A2 fun F=>zcr F T 
 have G_corner_behind:z3r l.prog w K mg base:=got X G A3 fun F=>z6d F T 
 have G_carried_on:z61 l.prog w K mg base:=got X G A4 fun F=>z9s F T 
 have G_sum_from:z84 l.prog w K mg base:=got X G A5 fun F=>zcs F T 
 have G__law_drawn:z62 l.prog w K mg base:=got X G A6 fun F=>z9t F T 
 have G__law_grown:z63 l.prog w K mg base:=got X G A7 fun F=>z9u F T 
 have G__law_four:z7e l.prog w K mg base:=got X G A8 fun F=>zbd F T 
 have G__law_put:z85 l.prog w K mg base:=got X G A9 fun F=>zct F T 
 have G_is_two:zeh l.prog w K mg base:=got X G A10 fun F=>zj9 F T G_is_whole
 have G_check_corner:z46 l.prog w K mg base:=got X G A11 fun F=>z7g F T G_is_whole
 have G_letters:zbc l.prog w K mg base:=got X G A12 fun F=>zfj F T G_pair
 have G_room_under:z64 l.prog w K mg base:=got X G A13 fun F=>z9v F T G_corner_behind
 have G__law_floor:z65 l.prog w K mg base:=got X G A14 fun F=>z9w F T G__law_grown
 have G_rooms:zj8 l.prog w K mg base:=got X G A15 fun F=>zm9 F T G_room_under
 have G_check_corners:z3s l.prog w K mg base:=got X G A16 fun F=>z6e F T G_is_two
 have G_triangles:z4p l.prog w K mg base:=got X G A17 fun F=>zbe F T G_rooms
 have G_sharings:z86 l.prog w K mg base:=got X G A18 fun F=>zcu F T G_carried_on G_check_corner G_triangles
 have G_powers_of:z7f l.prog w K mg base:=got X G A19 fun F=>zbf F T G_letters G_opposite G_triangles
 have G_fraction:z87 l.prog w K mg base:=got X G A20 fun F=>zcv F T G_check_corners G_powers_of G_sharings G_sum_from
 exact (zxr F T G__law_drawn G__law_floor G__law_four G__law_put G_fraction).imp fun _ _ _ _ z=>z.spD
abbrev kO (n:String) (t1:Nat) (q:String) (t2 t3:Nat) (a b c d e:Int) (r1:Nat) (g:Int) (r2 r3 r4 r5:Nat) (k l:Int) (t4:Nat):Obj:=⟨.type "code",none,.fields [vs n t1,vs q t2,vs "/claim/cut.py" t3,.int a 0,.int b 0,.int c 0,.int d 0,.int e 0,.ref r1,.bool true,.int g 0,.ref r2,.none,.ref r3,.ref r4,.ref r5,.int k 0,.int l 0,vs "/claim/cut.py" t4].toArray,#[]⟩
abbrev kCo (n:String) (t1:Nat) (q:String) (t2 t3:Nat) (a b c d e:Int) (r1:Nat) (g:Int) (r2 r5:Nat) (k l:Int) (t4:Nat):Obj:=⟨.type "code",none,.fields [vs n t1,vs q t2,vs "/claim/cut.py" t3,.int a 0,.int b 0,.int c 0,.int d 0,.int e 0,.ref r1,.bool true,.int g 0,.ref r2,.none,.none,.none,.ref r5,.int k 0,.int l 0,vs "/claim/cut.py" t4].toArray,#[]⟩
abbrev fO (i:Nat) (n m:String) (t r:Nat):Obj:=oF (top i) n n .none .none .none (vs m t) none (.ref r) .none
abbrev cO (n:String) (b a ns r t1 t2:Nat):Obj:=⟨.type "type",none,.cls { name:=Str.ofString n,bases:=[.ref b],mro:=[.ref a,.ref b,.type "ValueError",.type "Exception",.type "BaseException",.type "object"],ns:=ns,qualname:=Str.ofString n,hasDict:=true,slotNames:=[],subclasses:=[],abstract:=false,collection:=none,hasDel:=false },#[some (.ref r),none,some (vs n t1),some (vs n t2),some (.builtin "ValueError.__new__"),some (.bool true)]⟩
noncomputable def K:Params->Frag:=fun P=>
 (nat_lit 2,⟨.none,none,(.dict [].toArray 0),#[]⟩) ::
 (nat_lit 3,oD [en P "__name__" 165 (vs "law_friezeyard_k67_four_corners" 382),en P "__doc__" 166 .none,en P "__package__" 167 .none,en P "__loader__" 168 (.builtin "__main__.__loader__#opaque"),en P "__spec__" 169 .none,en P "__annotations__" 170 (.ref 6),en P "__builtins__" 171 (.ref 4),en P "__file__" 173 (vs "/claim/cut.py" 172),en P "__cached__" 174 .none,en P "FloorError" 206 (.ref 24),en P "NoLine" 222 (.ref 37),en P "NoCorner" 238 (.ref 49),en P "TooMany" 254 (.ref 61),en P "is_whole" 263 (.ref 70),en P "pair" 271 (.ref 77),en P "is_two" 280 (.ref 84),en P "check_corner" 288 (.ref 91),en P "opposite" 294 (.ref 96),en P "letters" 302 (.ref 101),en P "rooms" 310 (.ref 106),en P "room_under" 319 (.ref 113),en P "corner_behind" 325 (.ref 118),en P "triangles" 332 (.ref 125),en P "sharings" 340 (.ref 130),en P "carried_on" 346 (.ref 135),en P "sum_from" 354 (.ref 140),en P "fraction" 367 (.ref 147),en P "check_corners" 375 (.ref 154),en P "powers_of" 381 (.ref 159),en P "_law_drawn" 391 (.ref 166),en P "_law_grown" 397 (.ref 171),en P "_law_floor" 410 (.ref 178),en P "_law_four" 422 (.ref 185),en P "_law_put" 428 (.ref 190),en P "law" 445 (.ref 197)] 35) ::
 (nat_lit 15,oT [(.type "ValueError")]) ::
 (nat_lit 22,oT []) ::
 (nat_lit 23,oD [en P "__module__" 196 (vs "friezeyard.errors" 187),en P "__firstlineno__" 200 (.int 2 199),en P "__static_attributes__" 201 (.ref 22),en P "__weakref__" 203 (.ref 25),en P "__doc__" 204 .none] 3) ::
 (nat_lit 24,⟨(.type "type"),none,(.cls { name:=Str.ofString "FloorError",bases:=[(.type "ValueError")],mro:=[(.ref 24),(.type "ValueError"),(.type "Exception"),(.type "BaseException"),(.type "object")],ns:=23,qualname:=Str.ofString "FloorError",hasDict:=true,slotNames:=[],subclasses:=[(.ref 37),(.ref 49),(.ref 61)],abstract:=false,collection:=none,hasDel:=false }),#[some (.ref 15),none,some (vs "FloorError" 189),some (vs "FloorError" 197),some (.builtin "ValueError.__new__"),some (.bool true)]⟩) ::
 (nat_lit 25,⟨(.type "getset_descriptor"),none,(.fields [(vs "__weakref__" 202),(.ref 24),(.builtin "ExceptionGroup.__weakref__"),.none].toArray),#[]⟩) ::
 (nat_lit 28,oT [(.ref 24)]) ::
 (nat_lit 35,oT []) ::
 (nat_lit 36,oD [en P "__module__" 214 (vs "friezeyard.errors" 187),en P "__firstlineno__" 218 (.int 4 217),en P "__static_attributes__" 219 (.ref 35),en P "__doc__" 220 .none] 2) ::
 (nat_lit 37,(cO "NoLine" 24 37 36 28 207 215)) ::
 (nat_lit 40,oT [(.ref 24)]) ::
 (nat_lit 47,oT []) ::
 (nat_lit 48,oD [en P "__module__" 230 (vs "friezeyard.errors" 187),en P "__firstlineno__" 234 (.int 6 233),en P "__static_attributes__" 235 (.ref 47),en P "__doc__" 236 .none] 2) ::
 (nat_lit 49,(cO "NoCorner" 24 49 48 40 223 231)) ::
 (nat_lit 52,oT [(.ref 24)]) ::
 (nat_lit 59,oT []) ::
 (nat_lit 60,oD [en P "__module__" 246 (vs "friezeyard.errors" 187),en P "__firstlineno__" 250 (.int 8 249),en P "__static_attributes__" 251 (.ref 59),en P "__doc__" 252 .none] 2) ::
 (nat_lit 61,(cO "TooMany" 24 61 60 52 239 247)) ::
 (nat_lit 64,oT []) ::
 (nat_lit 66,oT [(vs "thing" 260)]) ::
 (nat_lit 67,oT []) ::
 (nat_lit 69,(kO "is_whole" 257 "is_whole" 258 259 11 1 0 0 3 64 181 65 66 67 68 261 11 262)) ::
 (nat_lit 70,(fO 6 "is_whole" "friezeyard.pairs" 255 69)) ::
 (nat_lit 71,oT []) ::
 (nat_lit 73,oT [(vs "a" 267),(vs "b" 268)]) ::
 (nat_lit 74,oT []) ::
 (nat_lit 76,(kO "pair" 264 "pair" 265 266 13 2 0 0 3 71 181 72 73 74 75 269 13 270)) ::
 (nat_lit 77,(fO 7 "pair" "friezeyard.pairs" 255 76)) ::
 (nat_lit 78,oT []) ::
 (nat_lit 80,oT [(vs "thing" 277)]) ::
 (nat_lit 81,oT []) ::
 (nat_lit 83,(kO "is_two" 274 "is_two" 275 276 16 1 0 0 3 78 181 79 80 81 82 278 16 279)) ::
 (nat_lit 84,(fO 9 "is_two" "friezeyard.common" 272 83)) ::
 (nat_lit 85,oT []) ::
 (nat_lit 87,oT [(vs "n" 284),(vs "thing" 285)]) ::
 (nat_lit 88,oT []) ::
 (nat_lit 90,(kO "check_corner" 281 "check_corner" 282 283 18 2 0 0 3 85 181 86 87 88 89 286 18 287)) ::
 (nat_lit 91,(fO 10 "check_corner" "friezeyard.common" 272 90)) ::
 (nat_lit 92,oT []) ::
 (nat_lit 95,(kCo "opposite" 289 "opposite" 290 291 21 2 0 0 3 92 181 93 94 292 21 293)) ::
 (nat_lit 96,(fO 11 "opposite" "friezeyard.common" 272 95)) ::
 (nat_lit 97,oT []) ::
 (nat_lit 100,(kCo "letters" 297 "letters" 298 299 24 1 0 0 3 97 181 98 99 300 24 301)) ::
 (nat_lit 101,(fO 13 "letters" "friezeyard.letters" 295 100)) ::
 (nat_lit 102,oT []) ::
 (nat_lit 105,(kCo "rooms" 305 "rooms" 306 307 29 2 0 0 3 102 181 103 104 308 29 309)) ::
 (nat_lit 106,(fO 15 "rooms" "friezeyard.rooms" 303 105)) ::
 (nat_lit 107,oT []) ::
 (nat_lit 109,oT [(vs "top" 314),(vs "lines" 315),(vs "room" 316)]) ::
 (nat_lit 110,oT []) ::
 (nat_lit 112,(kO "room_under" 311 "room_under" 312 313 32 2 0 0 3 107 181 108 109 110 111 317 32 318)) ::
 (nat_lit 113,(fO 16 "room_under" "friezeyard.rooms" 303 112)) ::
 (nat_lit 114,oT []) ::
 (nat_lit 117,(kCo "corner_behind" 320 "corner_behind" 321 322 37 3 0 0 3 114 181 115 116 323 37 324)) ::
 (nat_lit 118,(fO 17 "corner_behind" "friezeyard.rooms" 303 117)) ::
 (nat_lit 119,oT []) ::
 (nat_lit 121,oT [(vs "cut" 329)]) ::
 (nat_lit 122,oT []) ::
 (nat_lit 124,(kO "triangles" 326 "triangles" 327 328 40 1 0 0 3 119 181 120 121 122 123 330 40 331)) ::
 (nat_lit 125,(fO 18 "triangles" "friezeyard.rooms" 303 124)) ::
 (nat_lit 126,oT []) ::
 (nat_lit 129,(kCo "sharings" 335 "sharings" 336 337 43 3 0 0 3 126 181 127 128 338 43 339)) ::
 (nat_lit 130,(fO 20 "sharings" "friezeyard.sharings" 333 129)) ::
 (nat_lit 131,oT []) ::
 (nat_lit 134,(kCo "carried_on" 341 "carried_on" 342 343 54 2 0 0 3 131 181 132 133 344 54 345)) ::
 (nat_lit 135,(fO 21 "carried_on" "friezeyard.sharings" 333 134)) ::
 (nat_lit 136,oT []) ::
 (nat_lit 139,(kCo "sum_from" 349 "sum_from" 350 351 60 1 0 0 3 136 181 137 138 352 60 353)) ::
 (nat_lit 140,(fO 23 "sum_from" "friezeyard.sums" 347 139)) ::
 (nat_lit 141,oT []) ::
 (nat_lit 143,oT [(vs "cut" 360),(vs "p" 361),(vs "found" 362),(vs "given" 363),(vs "powers" 364)]) ::
 (nat_lit 144,oT []) ::
 (nat_lit 146,(kO "fraction" 357 "fraction" 358 359 63 2 0 0 3 141 181 142 143 144 145 365 63 366)) ::
 (nat_lit 147,(fO 25 "fraction" "friezeyard.fractions" 355 146)) ::
 (nat_lit 148,oT []) ::
 (nat_lit 150,oT [(vs "n" 371),(vs "p" 372)]) ::
 (nat_lit 151,oT []) ::
 (nat_lit 153,(kO "check_corners" 368 "check_corners" 369 370 70 2 0 0 3 148 181 149 150 151 152 373 70 374)) ::
 (nat_lit 154,(fO 26 "check_corners" "friezeyard.fractions" 355 153)) ::
 (nat_lit 155,oT []) ::
 (nat_lit 158,(kCo "powers_of" 376 "powers_of" 377 378 73 2 0 0 3 155 181 156 157 379 73 380)) ::
 (nat_lit 159,(fO 27 "powers_of" "friezeyard.fractions" 355 158)) ::
 (nat_lit 160,oT []) ::
 (nat_lit 162,oT [(vs "_law_script" 387),(vs "_law_at" 388)]) ::
 (nat_lit 163,oT []) ::
 (nat_lit 165,(kO "_law_drawn" 384 "_law_drawn" 385 386 77 2 0 0 3 160 181 161 162 163 164 389 77 390)) ::
 (nat_lit 166,(fO 29 "_law_drawn" "law_friezeyard_k67_four_corners" 382 165)) ::
 (nat_lit 167,oT []) ::
 (nat_lit 170,(kCo "_law_grown" 392 "_law_grown" 393 394 79 3 0 0 3 167 181 168 169 395 79 396)) ::
 (nat_lit 171,(fO 30 "_law_grown" "law_friezeyard_k67_four_corners" 382 170)) ::
 (nat_lit 172,oT []) ::
 (nat_lit 174,oT [(vs "_law_way" 401),(vs "_law_cells" 402),(vs "_law_row" 403),(vs "_law_lines" 404),(vs "_law_k" 405),(vs "_law_cell" 406),(vs "_law_at" 407)]) ::
 (nat_lit 175,oT []) ::
 (nat_lit 177,(kO "_law_floor" 398 "_law_floor" 399 400 91 2 0 0 3 172 181 173 174 175 176 408 91 409)) ::
 (nat_lit 178,(fO 31 "_law_floor" "law_friezeyard_k67_four_corners" 382 177)) ::
 (nat_lit 179,oT []) ::
 (nat_lit 181,oT [(vs "_law_cell" 414),(vs "_law_size" 415),(vs "_law_left" 416),(vs "_law_found" 417),(vs "_law_number" 418),(vs "_law_k" 419)]) ::
 (nat_lit 182,oT []) ::
 (nat_lit 184,(kO "_law_four" 411 "_law_four" 412 413 99 2 0 0 3 179 181 180 181 182 183 420 99 421)) ::
 (nat_lit 185,(fO 32 "_law_four" "law_friezeyard_k67_four_corners" 382 184)) ::
 (nat_lit 186,oT []) ::
 (nat_lit 189,(kCo "_law_put" 423 "_law_put" 424 425 107 3 0 0 3 186 181 187 188 426 107 427)) ::
 (nat_lit 190,(fO 33 "_law_put" "law_friezeyard_k67_four_corners" 382 189)) ::
 (nat_lit 191,oT []) ::
 (nat_lit 193,oT [(vs "_law_script" 432),(vs "_law_row" 433),(vs "_law_lines" 434),(vs "_law_cut" 435),(vs "_law_cell" 436),(vs "_law_a" 437),(vs "_law_b" 438),(vs "_law_c" 439),(vs "_law_d" 440),(vs "_law_left" 441),(vs "_law_right" 442)]) ::
 (nat_lit 194,oT []) ::
 (nat_lit 196,(kO "law" 429 "law" 430 431 112 1 0 0 3 191 181 192 193 194 195 443 112 444)) ::
 (nat_lit 197,(fO 34 "law" "law_friezeyard_k67_four_corners" 382 196))::[]
noncomputable def places:List Addr:=[2,3,15,22,23,24,25,28,35,36,37,40,47,48,49,52,59,60,61,64,66,67,69,70,71,73,74,76,77,78,80,81,83,84,85,87,88,90,91,92,95,96,97,100,101,102,105,106,107,109,110,112,113,114,117,118,119,121,122,124,125,126,129,130,131,134,135,136,139,140,141,143,144,146,147,148,150,151,153,154,155,158,159,160,162,163,165,166,167,170,171,172,174,175,177,178,179,181,182,184,185,186,189,190,191,193,194,196,197]
theorem zma:∀P,places=(K P).map (·.1):=fun _=>by kernel_rfl
noncomputable def hook:PySem.W.Hook:=PySem.W.kHook K places zma
noncomputable def q:Program:=PySem.W.view PySem.Challenge.pw_friezeyard_k67_four_corners [1,2,3,4,6,7,9,10,11,13,15,16,17,18,20,21,23,25,26,27,29,30,31,32,33,34]
noncomputable def xtH (s:Shared):Bool:=PySem.W.xlAt q [] s&&PySem.W.recOk (PySem.W.RowW.records PySem.Challenge.rw_friezeyard_k67_four_corners.row.toRowW) s
noncomputable def out (w:World) (os:OsState):=outAt PySem.Challenge.pw_friezeyard_k67_four_corners q [] xtH (fun s=>places.map s.heap.get?) 3216 w os
noncomputable def good:=PySem.W.openGood q []
example:((fun (_:Params->Obj) (_:Str)=>true) PySem.W.boot_o_0 (Str.ofString "dull"))=true:=by k_qdec
lay_quick out good
theorem zxs:∀w os,out w os=some (true,good,(K w.params).map fun p=>some p.2):=fun w os=>(congrFun (congrFun PySem.W.Fast.te16008269241402756355 w) os).trans (by rw [PySem.W.Fast.te1045117244025670899];kernel_rfl)
theorem left:PySem.W.LeftO PySem.Challenge.pw_friezeyard_k67_four_corners q [] xtH (PySem.W.Hook.obs hook) (PySem.W.Hook.val hook) 3216:=zrh (by kernel_rfl) (by kernel_rfl) (fun _=>by kernel_rfl) zxs
end K67
namespace K67
open L2 Bd Cu
local macro_rules | `(tactic| walk_at "dz")=>do
 let a:=("z96,zng,y0k,zni,z7x,zzu,zew,sNx,zk7,zgx,zzy,y1a,zk6,zc2,z8q,z2x,zv1,zv2,zqh,znh,zus,zut,zuw,zuu,zuv,zqf,zux,zuy,zuz,zv0,zqg,zqi,zdy,y0l,y0m,y0n,zlh,zli,zv3,zdz,z97,zqj,zv4,zvz,y11,y12,y13,zw0,zw1,zqt,zqu,zlj,zqk,zlk,zll,z6h,z4z,zvt,zax,zqz,zv5,ze0,z4f,zv6,zql,zqm,zqn,z98,zmy,zdl,Option.bind_some,Bool.and_true,Bool.true_and,y0o,y0p,y0q,y0r,y3r,y3s,eC,eOp,eUn,z09,z01,z0i,eCB,z6f,zbk,eIf,eSl,oSo,oNo,zw2,zpi,bOr,zmw,z4s,zmx,eOr,y3h,zsd,zzp,zzq,z7s,z6v,z14,iL,zqx,zqy,zqs,zqq,zqr,L2.R.bind_ok,L2.R.of_some,z1v,zl3,zps,dLe,zu0,dGe,y0s,zu1,y0t,znj,zv7,zv8,zv9,zva,zvb,zvc,zvd,ze1,zhu,zve,zvf,zvg,zvi,znk,zvj,y0v,zvu,y0w,y10,y15,zw8,zw9,zr1,zr2,zlq,zlr,y3t,zvx,y0z,y3u,y3v,y0e,y0d,y16,y17,zwb,zwc,zwd,zwe,zwf,y18,y19,zls,zaz,znn,y0u,zvk,zvl,zqo,zvm,zvn,zvo,zhv,znl,zvp,zhw,zvq,zvr,zvs,zqp,List.map_cons,List.map_nil,List.length_cons,List.length_nil,List.cons_append,List.nil_append,List.replicate_succ,List.replicate_zero,List.getElem?_cons_zero,List.getElem?_cons_succ,List.set_cons_zero,List.set_cons_succ,Option.map_some,Option.getD_some,if_true,if_false,Bool.false_eq_true,Bool.not_true,Bool.not_false,Bool.and_false,Bool.false_and,Bool.or_true,Bool.true_or,Bool.or_false,Bool.false_or,Nat.reduceAdd,Nat.reduceLeDiff,Nat.reduceEqDiff,reduceCtorEq,decide_true,decide_false,Int.reduceEq".splitOn ",").toArray.map fun s=>Lean.mkIdent s.toName
 `(tactic| try simp (implicitDefEqProofs:=false) only [$[$a:term],*])
def drw (ns:List Int) (k:Int):Int:=(z8w ns (some k) (some (k+1))).sum
theorem zja (ns:List Int) (k:Int):z0y [.scr ns,.int k]=.ok (.int (drw ns k)):=by
 unfold z0y z5x drw
 walk_at "dz"
structure Flr (row:List Int) (ls:List P2) (T:List P3) (v:Nat->Vc):Prop where
 good:Good row v
 inv:CInv (row.length:Int) ls T
 rw':Rw row T
 len:ls.length+3=row.length
theorem y41:Flr [1,1,1] [] [(0,1,2)] v3:=⟨y1o,y3z,rw3,rfl⟩
theorem Flr.grow {row:List Int} {ls:List P2} {T:List P3} {v:Nat->Vc} (F:Flr row ls T v) (c:Nat) (hc:c<row.length) :
  Flr (z3e row c) (ls.map (sh2 (c:Int))++[z1o (row.length:Int) (c:Int)]) (T.map (sh3 (c:Int))++[z1h (row.length:Int) (c:Int)]) (gV row.length c v):=by
 have hl:=z22 row c hc
 refine ⟨F.good.grow c hc,?_,F.rw'.grow c hc F.good.len,?_⟩
 . have:=F.inv.grow (c:Int) (by omega) (by omega)
   rw [hl];exact this
 . rw [hl,List.length_append,List.length_map,List.length_singleton];have:=F.len;omega
theorem y37 (c x:Int):x+(if decide (c<x)=true then 1 else 0)=sh c x:=by
 unfold sh;by_cases h:c<x
 . rw [decide_eq_true h,if_pos rfl,if_pos h]
 . rw [decide_eq_false h,if_neg Bool.false_ne_true,if_neg h];omega
theorem z0h {a r:DS->SR} {ρ ρ':DS} (h:a ρ=.nx ρ'):z1u a r ρ=r ρ':=by rw [zng,h,znh]
theorem zjb (row:List Int) (ls:List P2) (c:Int) (h0:0<=c) (h1:c<row.length) (h3:row.length<1000) (hl:ls.length<1000) :
  z0o [L row,.lst (ls.map T2),.int c]=.ok (.tup [L (z3e row c.toNat),.lst ((ls.map (sh2 c)++[z1o (row.length:Int) c]).map T2)]):=by
 have hm0:0<=(c+1) % (row.length:Int):=Int.emod_nonneg _ (by omega)
 have hm1:(c+1) % (row.length:Int)<row.length:=Int.emod_lt_of_pos _ (by omega)
 have hm2:((c+1) % (row.length:Int)).toNat=(c.toNat+1) % row.length:=by
  have:c+1=((c.toNat+1:Nat):Int):=by omega
  rw [this];rfl
 have s2:∀(ρ:DS),ρ=[.im (L row),.im (.lst (ls.map T2)),.im (.int c),.im (.int (row.length:Int)),.em,.em] ->
   z2p true 4 [false,true,true] (z14 (iL (z02 1)) (bT 2) [2] z8x z2e) ρ=.nx [.im (L row),.im (.lst (ls.map T2)),.im (.int c),.im (.int (row.length:Int)),.ow (.lst ((ls.map (sh2 c)).map T2)),.em]:=fun ρ hρ=>by
  subst hρ
  walk_at "dz"
  rw [if_pos (by rw [List.length_map];omega),z2i (en:=T2) (bs:=fun q=>[D.int q.1,D.int q.2]) (g:=fun q=>T2 (sh2 c q)) ls (fun x _=>rfl) (fun q _=>by
   unfold z2e
   walk_at "dz"
   rw [y37,y37];rfl)]
  simp only [R.bind_ok]
  rw [show ls.map (fun q=>T2 (sh2 c q))=(ls.map (sh2 c)).map T2 by rw [List.map_map];rfl]
  generalize ls.map (sh2 c)=ls'
  walk_at "dz"
 have s3:∀(ls':List P2),ls'.length<1000->sIf (z4s asB (eOp dEq (z02 2) (eOp zl3 (z02 3) (eC (.int 1)))))
   (zgx "list" zhc 4 [false,false,true] (z01 (z6f (z01 (eC (.int 0)) (z01 (z02 2) z09))) z09))
   (zgx "list" zhc 4 [false,false,true] (z01 (z6f (z01 (z02 2) (z01 (eOp z1v (z02 2) (eC (.int 2))) z09))) z09))
   [.im (L row),.im (.lst (ls.map T2)),.im (.int c),.im (.int (row.length:Int)),.ow (.lst (ls'.map T2)),.em]=.nx [.im (L row),.im (.lst (ls.map T2)),.im (.int c),.im (.int (row.length:Int)),.ow (.lst ((ls'++[z1o (row.length:Int) c]).map T2)),.em]:=fun ls' hl'=>by
  walk_at "dz"
  by_cases q:c=(row.length:Int) - 1
  . rw [decide_eq_true q]
    walk_at "dz"
    rw [znp (by omega)]
    walk_at "dz"
    unfold z1o;rw [if_pos q]
  . rw [decide_eq_false q]
    walk_at "dz"
    rw [znp (by omega)]
    walk_at "dz"
    unfold z1o;rw [if_neg q]
 have s1:z2p false 3 [true] (eCB zaq (z01 (z02 0) z09)) [.im (L row),.im (.lst (ls.map T2)),.im (.int c),.em,.em,.em]=.nx [.im (L row),.im (.lst (ls.map T2)),.im (.int c),.im (.int (row.length:Int)),.em,.em]:=by walk_at "dz"
 unfold z0o
 rw [z96,if_pos (show [L row,D.lst (ls.map T2),D.int c].length=3 from rfl)]
 show SR.out false (z3i [.im (L row),.im (.lst (ls.map T2)),.im (.int c),.em,.em,.em])=_
 unfold z3i
 rw [z0h s1,z0h (s2 _ rfl),z0h (s3 _ (by rw [List.length_map];exact hl))]
 generalize (ls.map (sh2 c)++[z1o (row.length:Int) c])=xs
 walk_at "dz"
 rw [y33 h0 (by omega)]
 walk_at "dz"
 rw [zvw h0 h1]
 walk_at "dz"
 rw [z99 (by omega)]
 walk_at "dz"
 rw [y33 hm0 (by rw [List.length_set];omega)]
 walk_at "dz"
 rw [z99 (by omega)]
 walk_at "dz"
 rw [zvw hm0 (by rw [List.length_set];omega)]
 walk_at "dz"
 rw [y0y (by omega) (by rw [List.length_set,List.length_set];omega) (by rw [List.length_set,List.length_set];omega)]
 walk_at "dz"
 rw [show (c+1).toNat=c.toNat+1 by omega,hm2];rfl
def own (b:Bool) (d:D):Sl:=if b then .ow d else .im d
theorem zjc (b:Bool) (d:D):Sl.see true (own b d)=some d:=by cases b<;>rfl
theorem zxt (d:Int) (ns:List Int):zf5 [L ns,.int d]=some (.int (mxD d ns)):=by simp only [L,zf5,z3w,Option.map_some]
theorem zmb (c:Int) (p:P2) (ls:List P2) (hl:ls.length<=1000):z0x [.int c,T2 p,.tup (ls.map T2)]=.ok (.int (mxD (c+1) (ends c p ls))):=by
 unfold z0x z3f
 walk_at "dz"
 rw [if_pos (by rw [List.length_map];omega),z3c (en:=T2) (bs:=fun l=>[T2 l]) (p:=pk c p) (g:=fun l=>D.int l.2) ls (fun x _=>rfl) (fun l _=>by
  unfold z2l
  simp only [T2]
  walk_at "dz"
  rfl) (fun l _ _=>by
  unfold z2m
  simp only [T2]
  walk_at "dz")]
 simp only [R.bind_ok]
 rw [show D.lst ((ls.filter (pk c p)).map fun l=>D.int l.2)=L (ends c p ls) by unfold L ends;rw [List.map_map];rfl]
 walk_at "dz"
 rw [zxt]
 walk_at "dz"
theorem z9x (t:DE->R Bool) (g:DS->SR) (n:Nat) (ρ:DS):z4t t g (n+1) ρ=(t (see ρ)).toS fun b=>if b=true then (g ρ).itr (z4t t g n) else .nx ρ:=by
 rw [z4t];congr 1
theorem zof (xs:List Int) (v:Int):dIx (L (xs++[v])) (.int (-1))=some (.int v):=by
 have:(xs++[v]).map D.int=xs.map D.int++[D.int v]:=by simp
 simp only [L,dIx,dOr,zdp,this,zkf]
theorem zcw (ls:List P2) (p:P2) (xs:List Int) (v:Int):z1j [some (T2 p),some (.tup (ls.map T2)),some (L (xs++[v]))]=.ok (decide (v<p.2)):=by
 unfold z1j
 simp only [T2]
 walk_at "dz"
 rw [zof]
 walk_at "dz"
theorem zjd (ls:List P2) (hl:ls.length<=1000) (p:P2) (xs:List Int) (v:Int) (hx:xs.length<1000):z1k [.im (T2 p),.im (.tup (ls.map T2)),.ow (L (xs++[v]))]=.nx [.im (T2 p),.im (.tup (ls.map T2)),.ow (L (xs++[v]++[mxD (v+1) (ends v p ls)]))]:=by
 unfold z1k
 walk_at "dz"
 rw [zof]
 walk_at "dz"
 rw [zmb _ _ _ hl]
 walk_at "dz"
 rw [y0x (by simp;omega)]
 walk_at "dz"
theorem zrv {n:Int} {ls ls':List P2} {T:List P3} (I:CInv n ls T) (p:ls'.Perm ls) (hl:ls'.length<=1000) (a c b:Int) (h:(a,c,b)∈T) :
  z1q [T2 (a,b),.tup (ls'.map T2)]=.ok (T3 (a,c,b)):=by
 obtain ⟨g1,g2,g3,g4,_⟩:=I.tri a c b h
 unfold z1q z5y
 walk_at "dz"
 have w:zak 1000 z1j z1k [.im (T2 (a,b)),.im (.tup (ls'.map T2)),.ow (L [a])]=.nx [.im (T2 (a,b)),.im (.tup (ls'.map T2)),.ow (L [a,c,b])]:=by
  have t1:=zcw ls' (a,b) [] a
  have t2:=zcw ls' (a,b) [a] c
  have t3:=zcw ls' (a,b) [a,c] b
  have b1:=zjd ls' hl (a,b) [] a (by simp)
  have b2:=zjd ls' hl (a,b) [a] c (by simp)
  rw [I.beh1 p h] at b1
  rw [I.beh2 p h] at b2
  simp only [List.nil_append,List.cons_append] at t1 t2 t3 b1 b2
  unfold zak
  rw [show (1000:Nat)=997+1+1+1 from rfl,z9x]
  simp only [zli,zdz,z97,zlh]
  rw [t1,z2x,decide_eq_true (show a<b by omega),if_pos rfl,b1,zhw,z9x]
  simp only [zli,zdz,z97,zlh]
  rw [t2,z2x,decide_eq_true (show c<b by omega),if_pos rfl,b2,zhw,z9x]
  simp only [zli,zdz,z97,zlh]
  rw [t3,z2x,decide_eq_false (show ¬b<b by omega),if_neg Bool.false_ne_true]
 rw [show D.lst [D.int a]=L [a] from rfl,w]
 walk_at "dz"
 rfl
theorem zrw {n:Int} {ls ls':List P2} {T:List P3} (I:CInv n ls T) (p:ls'.Perm ls) (hl:ls.length<=60) :
  z7a [.int n,.tup (ls'.map T2)]=.ok (.lst ((so3 T).map T3)):=by
 have hl':ls'.length<=60:=by rw [p.length_eq];exact hl
 unfold z7a zj5
 walk_at "dz"
 rw [show zc4 (D.lst [D.tup [D.int 0,D.int (n - 1)]]) (D.lst (ls'.map T2))=some (.lst (((0,n - 1)::ls').map T2)) by
  simp only [zc4];rw [if_pos (by simp;omega)];rfl]
 obtain ⟨tops,ht⟩:∃tops:List P2,tops=(0,n - 1)::ls':=⟨_,rfl⟩
 have hlt:tops.length<=61:=by rw [ht,List.length_cons];omega
 rw [<-ht]
 have kp:keeps true (D.lst (tops.map T2))=true:=by rw [z4z];exact z12 _ _ fun x _=>zaz x
 simp only [R.of_some,z2x,kp]
 walk_at "dz"
 rw [if_pos (by rw [List.length_map];omega),z2i (en:=T2) (bs:=fun q=>[T2 q]) (g:=fun q=>T3 (thr T q)) tops (fun x _=>rfl) (fun q hq=>by
  obtain ⟨m1,m2⟩:=I.top_in p (by rw [<-ht];exact hq)
  unfold zba
  walk_at "dz"
  generalize thr T q=u at m1 m2
  obtain ⟨a,c,b⟩:=u
  rw [<-m2]
  exact zrv I p (by omega) a c b m1)]
 walk_at "dz"
 have e1:tops.map (fun q=>T3 (thr T q))=(tops.map (thr T)).map T3:=by rw [List.map_map];rfl
 have pm:(tops.map (thr T)).Perm T:=by rw [ht];exact I.tops p
 rw [e1,zi1 _ (by rw [List.length_map];omega),z9c pm]
 walk_at "dz"
theorem z7h {n:Int} {ls ls':List P2} {T:List P3} (I:CInv n ls T) (p:ls'.Perm ls) (hl:ls.length<=60) :
  z0l [.tup [.int n,.tup (ls'.map T2)]]=.ok (.lst ((so3 T).map T3)):=by
 unfold z0l z7b
 walk_at "dz"
 rw [zrw I p hl]
 walk_at "dz"
theorem zcx (i:Int):z1e [.int i]=.ok (.bl true):=by
 unfold z1e z81
 walk_at "dz"
theorem zmc (n c:Int) (h:0<=c/\c<n):z0k [.int n,.int c]=.ok .non:=by
 unfold z0k z45
 walk_at "dz"
 rw [zcx]
 walk_at "dz"
 rw [decide_eq_true h.1,decide_eq_true h.2]
 walk_at "dz"
theorem zrx (k:Int) (xs:List Int):dIn true (.int k) (TuI xs)=some (.bl (!decide (k∈xs))):=by
 have e:(xs.map D.int).any (fun e=>eqD e (.int k))=decide (k∈xs):=by
  rw [List.any_map,Bool.eq_iff_iff,List.any_eq_true,decide_eq_true_eq]
  constructor
  . rintro ⟨x,hx,h⟩
    simp only [Function.comp,eqD,beq_iff_eq] at h
    rw [<-h];exact hx
  . intro h;exact ⟨k,h,by simp [eqD]⟩
 have h1:z4a (xs.map D.int)<=0:=z4g xs D.int 0 fun x=>by simp [D.dep]
 have h2:pls (xs.map D.int)=true:=pls_of xs D.int fun x=>rfl
 unfold dIn dOr zyq
 simp only [TuI,D.pl,h2,true_and,if_pos (show z4a (xs.map D.int)<=20 by omega),e,if_true]
theorem zxu (g:List Int) (c:Int) (h:g.length<=1000):zf7 (TuI g) (.tup [.int c])=some (TuI (g++[c])):=by
 simp only [TuI,zf7,List.length_map,List.length_cons,List.length_nil]
 rw [if_pos (by omega),List.map_append];rfl
def xt1 (cs:List Int) (g:List Int):List (List Int):=(cs.filter fun c=>decide (c∉g)).map fun c=>g++[c]
theorem zje (cs g:List Int):(xt1 cs g).length<=cs.length:=by
 unfold xt1;rw [List.length_map];exact List.length_filter_le _ _
theorem zry (g:List Int):(TuI g).noL=true:=by
 unfold TuI;simp only [D.noL];exact z12 _ _ fun x _=>z4f x
theorem zjf (B0:Sl) (cs:List Int) (hc:cs.length<=100) (F:List (List Int)) (g:List Int) (hg:g.length<=1000) (hF:F.length<=99000) :
  z1i [B0,.im (L cs),.ow (.lst (F.map TuI)),.im (TuI g)]=.nx [B0,.im (L cs),.ow (.lst ((F++xt1 cs g).map TuI)),.im (TuI g)]:=by
 unfold z1i
 walk_at "dz"
 rw [if_pos (by rw [List.length_map];omega),z3c (en:=D.int) (bs:=fun x=>[D.int x]) (p:=fun c=>decide (c∉g)) (g:=fun c=>TuI (g++[c])) cs (fun x _=>rfl) (fun c _=>by
  unfold z43
  walk_at "dz"
  rw [zrx]
  walk_at "dz"
  congr 1
  by_cases h:c∈g<;>simp [h]) (fun c _ _=>by
  unfold z44
  walk_at "dz"
  rw [zxu g c hg]
  walk_at "dz")]
 have hl:=zje cs g
 rw [show List.map (fun c=>TuI (g++[c])) (cs.filter fun c=>decide (c∉g))=(xt1 cs g).map TuI by unfold xt1;rw [List.map_map];rfl]
 generalize xt1 cs g=X at hl
 walk_at "dz"
 rw [show zup (.lst (F.map TuI)) [.lst (X.map TuI)]=some (.lst ((F++X).map TuI)) by
  simp only [zup,List.length_map]
  rw [if_pos (by omega),List.map_append]]
 walk_at "dz"
 try rw [Sl.frz_false]
theorem zjg (B:List (List Int)) (cs:List Int) (hc:cs.length<=3) (hB:B.length<=20000) (hg:∀g∈B,g.length<=1000):z1p [.lst (B.map TuI),L cs]=.ok (.lst ((B.flatMap (xt1 cs)).map TuI)):=by
 unfold z1p z5w
 walk_at "dz"
 obtain ⟨ρ',e,F,s3,h1,h2,hr⟩:=z3x (tg:=.n 3) (g:=z1i) (en:=TuI)
  (fun r ρ=>∃(F:List (List Int)) (s3:Sl),F++r.flatMap (xt1 cs)=B.flatMap (xt1 cs)/\(F.length+3 * r.length<=60000/\∀g∈r,g.length<=1000)/\ρ=[.im (.lst (B.map TuI)),.im (L cs),.ow (.lst (F.map TuI)),s3])
  B [.im (.lst (B.map TuI)),.im (L cs),.ow (.lst []),.em] ⟨[],.em,rfl,⟨by simp;omega,hg⟩,rfl⟩ (by
   rintro g r ρ ⟨F,s3,h1,⟨h2,h3⟩,rfl⟩
   simp only [List.length_cons] at h2
   have hl:=zje cs g
   refine ⟨_,_,rfl,Or.inl (zjf _ cs (by omega) F g (h3 g (by simp)) (by omega)),⟨_,_,?_,⟨?_,fun u hu=>h3 u (by simp [hu])⟩,rfl⟩⟩
   . rw [<-h1,List.flatMap_cons,List.append_assoc]
   . rw [List.length_append];omega)
 rw [e,hr]
 rw [List.flatMap_nil,List.append_nil] at h1
 walk_at "dz"
 rw [h1]
theorem zog (E:List Int):∀(ts:List P3) (B:List (List Int)),(Sg E ts B).length<=B.length * 3 ^ ts.length
 | [],B=>by simp [Sg]
 | t::ts,B=>by
  have h:=zog E ts (B.flatMap (xt E t))
  have h2:(B.flatMap (xt E t)).length<=3 * B.length:=by
   clear h
   induction B with
   | nil=>simp
   | cons g B ih=>
    have:(xt E t g).length<=3:=by
     unfold xt
     rw [List.length_map]
     exact Nat.le_trans (List.length_filter_le _ _) (Nat.le_trans (List.length_filter_le _ _) (Nat.le_refl 3))
    rw [List.flatMap_cons,List.length_append,List.length_cons];omega
  rw [List.length_cons,Nat.pow_succ]
  show (Sg E ts (B.flatMap (xt E t))).length<=_
  calc (Sg E ts (B.flatMap (xt E t))).length<=(B.flatMap (xt E t)).length * 3 ^ ts.length:=h
   _<=(3 * B.length) * 3 ^ ts.length:=Nat.mul_le_mul_right _ h2
   _=B.length * (3 ^ ts.length * 3):=by rw [Nat.mul_comm 3,Nat.mul_assoc,Nat.mul_comm 3]
def shr (i j:Int) (ts:List P3):List (List Int):=if i=j then [] else Sh [i,j] ts
theorem zfk {n:Int} {ls:List P2} {T:List P3} (I:CInv n ls T) (hl:(ls.length:Int)+3=n) (h12:n<=12) (i j:Int) (hi:0<=i/\i<n) (hj:0<=j/\j<n) :
  z1g [.tup [.int n,.tup ((so2 ls).map T2)],.int i,.int j]=.ok (.lst ((shr i j (so3 T)).map TuI)):=by
 have et:=z7h I (z27 ls) (by omega)
 have hT:(so3 T).length<=10:=by
  have:=I.prm.length_eq
  rw [List.length_map,List.length_cons] at this
  rw [(z0s T).length_eq];omega
 generalize hcut:(D.tup [.int n,.tup ((so2 ls).map T2)])=cut at et
 have c0:dIx cut (.int 0)=some (.int n):=by rw [<-hcut];exact ze1 _ _
 generalize so3 T=ts at et hT
 have s1:∀k (hk:0<=k/\k<n) (v:Nat) (ρ:DS),see ρ=[some cut,some (.int i),some (.int j),none,none]->z02 v [some cut,some (.int i),some (.int j),none,none]=.ok (.int k)->z8q (z0i z0k (z01 (eOp dIx (z02 0) (eC (.int 0))) (z01 (z02 v) z09))) ρ=.nx ρ:=fun k hk v ρ hs hv=>by
  simp only [z8q,hs,z0i,z01,eOp,z09,hv]
  walk_at "dz"
  rw [c0]
  walk_at "dz"
  rw [zmc n k hk]
  walk_at "dz"
 unfold z1g
 rw [z96,if_pos (show [cut,D.int i,.int j].length=3 from rfl)]
 show SR.out true (z5j [.im cut,.im (.int i),.im (.int j),.em,.em])=_
 unfold z5j
 rw [z0h (s1 i hi 1 _ rfl rfl),z0h (s1 j hj 2 _ rfl rfl)]
 rw [z0h (ρ':=[.im cut,.im (.int i),.im (.int j),.em,.em]) (by
  walk_at "dz"
  rw [c0]
  walk_at "dz"
  rw [decide_eq_false (by first | exact Int.not_lt.mpr h12 | omega)]
  walk_at "dz")]
 by_cases hij:i=j
 . subst hij
   walk_at "dz"
   unfold shr
   rw [if_pos rfl]
   rfl
 . rw [z0h (ρ':=[.im cut,.im (.int i),.im (.int j),.em,.em]) (by
    walk_at "dz"
    rw [decide_eq_false hij]
    walk_at "dz")]
   rw [z0h (ρ':=[.im cut,.im (.int i),.im (.int j),.ow (.lst ([[]].map TuI)),.em]) (by
    walk_at "dz"
    rfl)]
   walk_at "dz"
   rw [et]
   walk_at "dz"
   obtain ⟨ρ',e,B,s4,h1,h2,hr⟩:=z3x (tg:=.n 4) (g:=z3l) (en:=T3)
    (fun r ρ=>∃(B:List (List Int)) (s4:Sl),Sg [i,j] r B=Sh [i,j] ts/\(B.length * 3 ^ r.length<=59049/\∀g∈B,g.length+r.length<=10)/\ρ=[.im cut,.im (.int i),.im (.int j),.ow (.lst (B.map TuI)),s4])
    ts [.im cut,.im (.int i),.im (.int j),.ow (.lst ([[]].map TuI)),.em] ⟨[[]],.em,rfl,⟨by
     show 1 * 3 ^ ts.length<=3 ^ 10
     rw [Nat.one_mul];exact Nat.pow_le_pow_right (by decide) hT,by simp;omega⟩,rfl⟩ (by
     rintro t r ρ ⟨B,s4,h1,⟨h2,h3⟩,rfl⟩
     have hB:B.length<=19683:=by
      rw [List.length_cons,Nat.pow_succ] at h2
      exact Nat.le_of_mul_le_mul_right (Nat.le_trans (Nat.mul_le_mul_left _ (Nat.le_mul_of_pos_left 3 (Nat.pow_pos (by decide)))) h2:B.length * 3<=19683 * 3) (by decide)
     have hcs:((cor t).filter fun c=>decide (c∉[i,j])).length<=3:=Nat.le_trans (List.length_filter_le _ _) (Nat.le_refl 3)
     refine ⟨_,[.im cut,.im (.int i),.im (.int j),.ow (.lst ((B.flatMap (xt [i,j] t)).map TuI)),.im (T3 t)],rfl,Or.inl ?_,⟨_,_,h1,⟨?_,fun g hg=>?_⟩,rfl⟩⟩
     . unfold z3l
       walk_at "dz"
       rw [show [D.int t.1,D.int t.2.1,D.int t.2.2]=(cor t).map D.int from rfl,z3c (en:=D.int) (bs:=fun x=>[D.int x]) (p:=fun c=>decide (c∉[i,j])) (g:=fun c=>D.int c) (cor t) (fun x _=>rfl) (fun c _=>by
        unfold z5z
        walk_at "dz"
        congr 1
        rw [Bool.eq_iff_iff]
        simp only [Bool.and_eq_true,Bool.not_eq_true',decide_eq_false_iff_not,decide_eq_true_eq,List.mem_cons,List.not_mem_nil,or_false,not_or]) (fun c _ _=>by
        unfold z60
        walk_at "dz")]
       simp only [R.bind_ok]
       have hg':∀g∈B,g.length<=1000:=fun g hg=>Nat.le_trans (Nat.le_add_right _ _) (Nat.le_trans (h3 g hg) (by decide))
       have e1:=zjg B ((cor t).filter fun c=>decide (c∉[i,j])) hcs (Nat.le_trans hB (by decide)) hg'
       rw [show (D.lst (List.map (fun c=>D.int c) ((cor t).filter fun c=>decide (c∉[i,j]))))=L ((cor t).filter fun c=>decide (c∉[i,j])) from rfl,e1]
       rw [show xt1 ((cor t).filter fun c=>decide (c∉[i,j]))=xt [i,j] t from rfl]
       rw [z2x,show keeps true (D.lst ((B.flatMap (xt [i,j] t)).map TuI))=true by rw [z4z];exact z12 _ _ fun x _=>zry x]
       walk_at "dz"
     . have:=zog [i,j] [t] B
       have e3:(B.flatMap (xt [i,j] t)).length<=B.length * 3:=this
       rw [List.length_cons,Nat.pow_succ] at h2
       calc (B.flatMap (xt [i,j] t)).length * 3 ^ r.length<=(B.length * 3) * 3 ^ r.length:=Nat.mul_le_mul_right _ e3
        _=B.length * (3 ^ r.length * 3):=by rw [Nat.mul_assoc,Nat.mul_comm 3]
        _<=59049:=h2
     . obtain ⟨g0,hg0,hx⟩:=List.mem_flatMap.mp hg
       obtain ⟨c,_,_,_,rfl⟩:=mem_xt.mp hx
       have:=h3 g0 hg0
       rw [List.length_cons] at this
       rw [List.length_append,List.length_singleton];omega)
   simp only [List.map_cons,List.map_nil] at e
   rw [e,hr]
   have h1':B=Sh [i,j] ts:=h1
   walk_at "dz"
   unfold shr
   rw [if_neg hij,<-h1']
abbrev Tm:=List Int×Int
def TM (t:Tm):D:=.tup [.tup (t.1.map D.int),.int t.2]
def z0e (l:List Tm):List (List Int):=l.map (·.1)
def z2o (l:List Tm) (k:List Int):Int:=((l.find? fun t=>decide (t.1=k)).map (·.2)).getD 0
def z6j (l:List Tm) (k:List Int) (v:Int):List Tm:=if k∈z0e l then l.map (fun t=>if t.1=k then (k,v) else t) else l++[(k,v)]
def z0f (a b:List Tm):List Tm:=b.foldl (fun d t=>z6j d t.1 (z2o d t.1+t.2)) a
def tot:List Tm->List Int->Int
 | [],_=>0
 | t::r,k=>(if t.1=k then t.2 else 0)+tot r k
theorem zjh (k:List Int):z2o [] k=0:=rfl
theorem z1c (t:Tm) (l:List Tm) (k:List Int):z2o (t::l) k=if t.1=k then t.2 else z2o l k:=by
 unfold z2o
 by_cases h:t.1=k
 . rw [List.find?_cons_of_pos (by simpa using h),if_pos h];rfl
 . rw [List.find?_cons_of_neg (by simpa using h),if_neg h]
theorem zmd {l:List Tm} {k:List Int} (h:k∉z0e l):z2o l k=0:=by
 induction l with
 | nil=>rfl
 | cons t l ih=>
  simp only [z0e,List.map_cons,List.mem_cons,not_or] at h
  rw [z1c,if_neg (fun z=>h.1 z.symm)]
  exact ih h.2
theorem zji {l:List Tm} {t:Tm} (hn:(z0e l).Nodup) (h:t∈l):z2o l t.1=t.2:=by
 induction l with
 | nil=>cases h
 | cons x l ih=>
  simp only [z0e,List.map_cons,List.nodup_cons] at hn
  rw [z1c]
  rcases List.mem_cons.mp h with rfl | h
  . rw [if_pos rfl]
  . rw [if_neg (fun z=>hn.1 (by rw [z];exact List.mem_map.mpr ⟨t,h,rfl⟩))]
    exact ih hn.2 h
theorem zjj {l:List Tm} {k:List Int} (h:z2o l k≠0):(k,z2o l k)∈l:=by
 induction l with
 | nil=>exact absurd rfl h
 | cons x l ih=>
  rw [z1c] at h ⊢
  by_cases z:x.1=k
  . rw [if_pos z]
    exact List.mem_cons.mpr (.inl (by rw [<-z]))
  . rw [if_neg z] at h ⊢
    exact List.mem_cons.mpr (.inr (ih h))
theorem zbg {k:List Int} (v:Int) {j:List Int} (hj:j≠k):∀l:List Tm,z2o (l.map (fun t=>if t.1=k then (k,v) else t)) j=z2o l j
 | []=>rfl
 | t::l=>by
  rw [List.map_cons,z1c,z1c,zbg v hj l]
  by_cases h:t.1=k
  . rw [if_pos h,if_neg (fun z=>hj z.symm),if_neg (fun z=>hj (by rw [<-z,h]))]
  . rw [if_neg h]
theorem zbh {k:List Int} (v:Int):∀l:List Tm,k∈z0e l->z2o (l.map (fun t=>if t.1=k then (k,v) else t)) k=v
 | [],h=>by cases h
 | t::l,h=>by
  rw [List.map_cons,z1c]
  by_cases z:t.1=k
  . rw [if_pos z,if_pos rfl]
  . rw [if_neg z,if_neg z]
    refine zbh v l ?_
    rcases List.mem_cons.mp h with q | q
    . exact absurd q.symm z
    . exact q
theorem zfl (l:List Tm) (k:List Int) (v:Int) (j:List Int) (h:k∉z0e l):z2o (l++[(k,v)]) j=if j=k then v else z2o l j:=by
 induction l with
 | nil=>
  rw [List.nil_append,z1c,zjh]
  by_cases hj:j=k
  . rw [if_pos hj.symm,if_pos hj]
  . rw [if_neg (fun z=>hj z.symm),if_neg hj]
 | cons t l ih=>
  simp only [z0e,List.map_cons,List.mem_cons,not_or] at h
  rw [List.cons_append,z1c,z1c,ih h.2]
  by_cases hj:j=k
  . subst hj
    rw [if_neg (fun z=>h.1 z.symm),if_pos rfl,if_pos rfl]
  . rw [if_neg hj,if_neg hj]
theorem zrz (l:List Tm) (k:List Int) (v:Int) (j:List Int):z2o (z6j l k v) j=if j=k then v else z2o l j:=by
 unfold z6j
 by_cases h:k∈z0e l
 . rw [if_pos h]
   by_cases hj:j=k
   . rw [if_pos hj,hj];exact zbh v l h
   . rw [if_neg hj];exact zbg v hj l
 . rw [if_neg h];exact zfl l k v j h
theorem z6k (l:List Tm) (k:List Int) (v:Int):z0e (z6j l k v)=if k∈z0e l then z0e l else z0e l++[k]:=by
 unfold z6j
 by_cases h:k∈z0e l
 . rw [if_pos h,if_pos h]
   unfold z0e
   rw [List.map_map]
   apply List.map_congr_left
   intro t _
   show (if t.1=k then (k,v) else t).1=t.1
   split
   . rename_i z;exact z.symm
   . rfl
 . rw [if_neg h,if_neg h]
   simp [z0e]
theorem zbi {l:List Tm} (k:List Int) (v:Int) (h:(z0e l).Nodup):(z0e (z6j l k v)).Nodup:=by
 rw [z6k]
 split
 . exact h
 . rename_i hk
   exact List.nodup_append.mpr ⟨h,by simp,fun x hx y hy e=>hk (by rw [List.mem_singleton.mp hy] at e;rw [<-e];exact hx)⟩
theorem z10 (a:List Tm) (t:Tm) (b:List Tm):z0f a (t::b)=z0f (z6j a t.1 (z2o a t.1+t.2)) b:=rfl
theorem z9y:∀(b a:List Tm) (j:List Int),z2o (z0f a b) j=z2o a j+tot b j
 | [],a,j=>by simp [z0f,tot]
 | t::b,a,j=>by
  rw [z10,z9y b,zrz,tot]
  by_cases h:j=t.1
  . subst h
    rw [if_pos rfl,if_pos rfl];omega
  . rw [if_neg h,if_neg (fun z=>h z.symm)];omega
theorem z55:∀(b a:List Tm),(z0e a).Nodup->(z0e (z0f a b)).Nodup
 | [],a,h=>h
 | t::b,a,h=>by rw [z10];exact z55 b _ (zbi _ _ h)
theorem zei:∀(b a:List Tm) (k:List Int),k∈z0e (z0f a b)->k∈z0e a\/k∈z0e b
 | [],a,k,h=>.inl h
 | t::b,a,k,h=>by
  rw [z10] at h
  simp only [z0e,List.map_cons,List.mem_cons]
  rcases zei b _ k h with h | h
  . rw [z6k] at h
    split at h
    . exact .inl h
    . rcases List.mem_append.mp h with h | h
      . exact .inl h
      . exact .inr (.inl (List.mem_singleton.mp h))
  . exact .inr (.inr h)
theorem zej (l:List Tm):(z0e l).length=l.length:=List.length_map _
def soM (ls:List Tm):List Tm:=z9a (fun a b=>ltT (TM a) (TM b)) ls
theorem zs0 (ls:List Tm):z2r (ls.map TM)=(soM ls).map TM:=z3d _ _
theorem zek (ls:List Tm):(soM ls).Perm ls:=z2j _ _
theorem y1s (a:Tm):(TM a).oi=true:=by
 simp only [TM,D.oi,ois,Bool.and_true]
 exact z2k _ _ zyr
def nz (t:Tm):Bool:=decide (t.2≠0)
def Cn (l:List Tm):List Tm:=soM (l.filter nz)
theorem zxv {l:List Tm} {t:Tm}:t∈Cn l↔t∈l/\t.2≠0:=by
 unfold Cn
 rw [(zek _).mem_iff,List.mem_filter]
 simp [nz]
def kN (ps:List Int):NK:=.t (ps.map NK.i)
theorem zjk:∀ps:List Int,znq (ps.map D.int)=some (ps.map NK.i)
 | []=>by simp only [List.map_nil,znq]
 | p::ps=>by simp only [List.map_cons,znq,nkD,zjk ps]
theorem zoh (ps:List Int):nkD (.tup (ps.map D.int))=some (kN ps):=by simp only [nkD,zjk,Option.map_some,kN]
theorem zel:∀ps:List Int,z2v (ps.map NK.i)=0
 | []=>by simp only [List.map_nil,z2v]
 | p::ps=>by simp only [List.map_cons,z2v,zel ps,NK.dep,Nat.max_self]
theorem zoi (ps:List Int):(kN ps).dep<=8:=by simp only [kN,NK.dep,zel];decide
theorem zoj:∀ps:List Int,z5t (ps.map NK.i)=ps.map D.int
 | []=>by simp only [List.map_nil,z5t]
 | p::ps=>by simp only [List.map_cons,z5t,z50,zoj ps]
theorem y42 (ps:List Int):z50 (kN ps)=.tup (ps.map D.int):=by simp only [kN,z50,zoj]
theorem zok:∀a b:List Int,(z1n (a.map D.int) (b.map D.int)).isSome=true
 | [],[]=>by simp [z1n]
 | [],_::_=>by simp [z1n]
 | _::_,[]=>by simp [z1n]
 | x::a,y::b=>by
  simp only [List.map_cons,z1n]
  split
  . exact zok a b
  . exact zw7 x y
theorem zxw (a b:List Int×Int):(z1s (TM a) (TM b)).isSome=true:=by
 simp only [TM,z1s,z1n]
 split
 . split
   . rfl
   . rfl
 . exact zok a.1 b.1
theorem zxx (a:List Int×Int):(TM a).dep<=3:=by
 have:=z4g a.1 D.int 0 (fun x=>by simp [D.dep])
 simp only [TM,D.dep,z4a];omega
theorem zjl (ls:List (List Int×Int)) (h:ls.length<64):z39 (ls.map TM)=true:=by
 unfold z39
 rw [List.length_map,decide_eq_true h,z2k _ _ y1s,decide_eq_true (Nat.le_trans (z4g ls TM 3 zxx) (by decide)),z2y ls TM (fun d=>(ls.map TM).all fun e=>(z1s d e).isSome) (fun x=>z2y _ _ _ fun y=>zxw x y),z2y ls TM zq7 (fun x=>rfl)]
 simp
theorem zbj:∀{a b:List Int},a.map NK.i=b.map NK.i->a=b
 | [],[],_=>rfl
 | [],_::_,h=>by simp at h
 | _::_,[],h=>by simp at h
 | x::a,y::b,h=>by
  simp only [List.map_cons,List.cons.injEq,NK.i.injEq] at h
  rw [h.1,zbj h.2]
theorem zjm {a b:List Int} (h:kN a=kN b):a=b:=zbj (NK.t.inj h)
def dnA (l:List Tm):D:=.dn (l.map fun t=>kN t.1) (l.map fun t=>.int t.2)
theorem kmem {k:List Int} {l:List Tm}:kN k∈(l.map fun t=>kN t.1)↔k∈z0e l:=by
 unfold z0e
 rw [List.mem_map,List.mem_map]
 constructor
 . rintro ⟨t,h,e⟩;exact ⟨t,h,zjm e⟩
 . rintro ⟨t,h,e⟩;exact ⟨t,h,by rw [e]⟩
theorem zs1 (k:List Int):∀l:List Tm,(valN (l.map fun t=>kN t.1) (l.map fun t=>D.int t.2) (kN k)).getD (.int 0)=.int (z2o l k)
 | []=>rfl
 | t::l=>by
  rw [z1c,List.map_cons,List.map_cons]
  unfold valN
  rw [List.zip_cons_cons]
  by_cases h:t.1=k
  . rw [List.find?_cons_of_pos (by simp [h]),if_pos h];rfl
  . rw [List.find?_cons_of_neg (by simpa using fun e=>h (zjm e)),if_neg h]
    exact zs1 k l
theorem zxy (l:List Tm) (k:List Int):dGetN (dnA l) (.tup (k.map D.int)) (.int 0)=some (.int (z2o l k)):=by
 simp only [dnA,dGetN,zoh]
 rw [if_pos (zoi k),zs1]
theorem zxz (k:List Int) (v:Int):∀l:List Tm,List.zipWith (fun k' d'=>if k'=kN k then D.int v else d') (l.map fun t=>kN t.1) (l.map fun t=>D.int t.2)=(l.map fun t=>if t.1=k then (k,v) else t).map fun t=>D.int t.2
 | []=>rfl
 | t::l=>by
  rw [List.map_cons,List.map_cons,List.map_cons,List.map_cons,List.zipWith_cons_cons,zxz k v l]
  congr 1
  by_cases h:t.1=k
  . rw [if_pos (by rw [h]),if_pos h]
  . rw [if_neg (fun e=>h (zjm e)),if_neg h]
theorem zy0 {l:List Tm} (hl:l.length<=9000) (k:List Int) (v:Int):dSetN (dnA l) (.tup (k.map D.int)) (.int v)=some (dnA (z6j l k v)):=by
 simp only [dnA,dSetN,zoh]
 rw [if_pos ⟨by rw [List.length_map];omega,zoi k⟩]
 have ek:z6y (l.map fun t=>kN t.1) (kN k)=(z6j l k v).map fun t=>kN t.1:=by
  have:=congrArg (List.map kN) (z6k l k v)
  have e2:∀x:List Tm,(z0e x).map kN=x.map fun t=>kN t.1:=fun x=>by unfold z0e;rw [List.map_map];rfl
  rw [e2] at this
  rw [this]
  unfold z6y
  by_cases h:k∈z0e l
  . rw [if_pos (kmem.mpr h),if_pos h,e2]
  . rw [if_neg (fun z=>h (kmem.mp z)),if_neg h,List.map_append,e2];rfl
 have ev:z7w (l.map fun t=>kN t.1) (l.map fun t=>D.int t.2) (kN k) (.int v)=(z6j l k v).map fun t=>D.int t.2:=by
  unfold z7w z6j
  by_cases h:k∈z0e l
  . rw [if_pos (kmem.mpr h),if_pos h,zxz]
  . rw [if_neg (fun z=>h (kmem.mp z)),if_neg h,List.map_append];rfl
 rw [ek,ev]
theorem zme (l:List Tm) (h:l.length<64):z0w [.lst (l.map TM)]=some (.lst ((soM l).map TM)):=by
 simp only [z0w,zjl l h,if_true,zs0]
theorem zy1:∀l:List Tm,(((l.map fun t=>kN t.1).zip (l.map fun t=>D.int t.2)).map fun p=>D.tup [z50 p.1,p.2])=l.map TM
 | []=>rfl
 | t::l=>by
  rw [List.map_cons,List.map_cons,List.zip_cons_cons,List.map_cons,List.map_cons,zy1 l]
  show D.tup [z50 (kN t.1),.int t.2]::_=TM t::_
  rw [y42];rfl
theorem zs2 {l:List Tm} {f:DE->R D} {ρ:DE} (h:f ρ=.ok (dnA l)):zr8 f ρ=.ok (l.map TM):=by
 unfold zr8
 rw [h,R.bind_ok]
 show (if (l.map fun t=>kN t.1).length=(l.map fun t=>D.int t.2).length then R.ok (((l.map fun t=>kN t.1).zip (l.map fun t=>D.int t.2)).map fun p=>D.tup [z50 p.1,p.2]) else .st)=_
 rw [if_pos (by rw [List.length_map,List.length_map]),zy1]
theorem y1t {l:List Tm} {f:DE->R D} {ρ:DE} {t1:DE->R Bool} {f2:DE->R D} (h:f ρ=.ok (dnA l)) (hl:l.length<64) (h1:∀t:Tm,t1 [some (.tup (t.1.map D.int)),some (.int t.2)]=.ok (nz t)) (h2:∀t:Tm,f2 [some (.tup (t.1.map D.int)),some (.int t.2)]=.ok (TM t)) :
  eCB z0w (z01 (z14 (zr8 f) (bT 2) [] t1 f2) z09) ρ=.ok (.lst ((Cn l).map TM)):=by
 have hc:z14 (zr8 f) (bT 2) [] t1 f2 ρ=.ok (.lst ((l.filter nz).map TM)):=by
  unfold z14
  rw [zs2 h,R.bind_ok,if_pos (by rw [List.length_map];omega)]
  show ((z4c (bT 2) t1 f2 [] (l.map TM)).bind fun ys=>R.ok (D.lst ys))=_
  rw [z3c (bn:=bT 2) (en:=TM) (bs:=fun t=>[.tup (t.1.map D.int),.int t.2]) (p:=nz) (g:=TM) l (fun x _=>rfl) (fun t _=>h1 t) (fun t _ _=>h2 t)];rfl
 unfold eCB z01
 rw [hc,R.bind_ok]
 show R.of (z0w [_])=_
 rw [zme _ (Nat.lt_of_le_of_lt (List.length_filter_le _ _) hl)];rfl
theorem zol {fd fk fz:DE->R D} {ρ:DE} {ks:List NK} {ds:List D} {es:List D} {v:Int} (h1:fd ρ=.ok (.dn ks ds)) (h2:fk ρ=.ok (.tup es)) (h3:fz ρ=.ok (.int 0)) (h:dGetN (.dn ks ds) (.tup es) (.int 0)=some (.int v)):eGetN fd fk fz ρ=.ok (.int v):=by
 unfold eGetN
 rw [h1,R.bind_ok]
 show ((fk ρ).bind fun k=>(fz ρ).bind fun z=>R.of (dGetN (.dn ks ds) k z))=_
 rw [h2,R.bind_ok,h3,R.bind_ok,h];rfl
theorem zcy (l:List Tm) (k:List Int) (v:Int):(z6j l k v).length<=l.length+1:=by
 unfold z6j
 split
 . rw [List.length_map];omega
 . rw [List.length_append];exact Nat.le_refl _
theorem zcz:∀(b a:List Tm),(z0f a b).length<=a.length+b.length
 | [],a=>Nat.le_refl _
 | t::b,a=>by
  rw [z10]
  have:=zcz b (z6j a t.1 (z2o a t.1+t.2))
  have:=zcy a t.1 (z2o a t.1+t.2)
  rw [List.length_cons];omega
theorem zy2 (t:Tm):z3g [some (.tup (t.1.map D.int)),some (.int t.2)]=.ok (nz t):=by
 unfold z3g
 walk_at "dz"
 simp [nz]
theorem zy3 (t:Tm):z3h [some (.tup (t.1.map D.int)),some (.int t.2)]=.ok (TM t):=by
 unfold z3h
 walk_at "dz"
 rfl
theorem zy4 (l:List Tm) (hl:l.length<64):z1f [dnA l]=.ok (.lst ((Cn l).map TM)):=by
 unfold z1f
 rw [z96,if_pos (show [dnA l].length=1 from rfl)]
 show SR.out true (z5h [.im (dnA l)])=_
 unfold z5h
 rw [z7x,y1t (l:=l) rfl hl zy2 zy3]
 rfl
theorem zy5 (t:Tm):(TM t).noL=true:=by
 simp only [TM,D.noL,z2g,Bool.and_true]
 exact z12 D.int t.1 fun x _=>z4f x
def zd0 (a b:List Int):List Int:=List.zipWith (·+·) a b
theorem zjn (a b:List Int):zd0 a b=zd0 b a:=by
 unfold zd0
 induction a generalizing b with
 | nil=>cases b<;>rfl
 | cons x a ih=>cases b with
  | nil=>rfl
  | cons y b=>rw [List.zipWith_cons_cons,List.zipWith_cons_cons,ih,Int.add_comm]
def z47 (t u:Tm):Tm:=(zd0 u.1 t.1,u.2 * t.2)
def prs (A B:List Tm):List Tm:=A.flatMap fun t=>B.map (z47 t)
theorem z9z (t:Tm) (A B:List Tm):prs (t::A) B=B.map (z47 t)++prs A B:=by unfold prs;rw [List.flatMap_cons]
theorem zd1:∀A B:List Tm,(prs A B).length=A.length * B.length
 | [],B=>by simp [prs]
 | t::A,B=>by rw [z9z,List.length_append,List.length_map,zd1 A B,List.length_cons,Nat.add_mul];omega
theorem za0 (t:Tm) (b:List Tm) (j:List Int):tot (t::b) j=(if t.1=j then t.2 else 0)+tot b j:=by
 simp only [tot]
theorem z88:∀(a b:List Tm) (j:List Int),tot (a++b) j=tot a j+tot b j
 | [],b,j=>by rw [List.nil_append,show tot [] j=0 from rfl,Int.zero_add]
 | t::a,b,j=>by rw [List.cons_append,za0,za0,z88 a b j,Int.add_assoc]
theorem zjo:∀a b:List Int,(a.zip b).map (fun p=>D.int (p.1+p.2))=(zd0 a b).map D.int
 | [],_=>rfl
 | _::_,[]=>rfl
 | x::a,y::b=>by rw [List.zip_cons_cons,List.map_cons,zjo a b];rfl
theorem y43 {fi:DE->R (List D)} {ρ:DE} {f:DE->R D} {a b:List Int} (hi:fi ρ=.ok [.tup (a.map D.int),.tup (b.map D.int)]) (hl:a.length=b.length) (h5:a.length<=1000) (hf:∀x y:Int,f [some (.int x),some (.int y)]=.ok (.int (x+y))) :
  eCB z2w (z01 (z14 (z9l fi) (bT 2) [] z8x f) z09) ρ=.ok (.tup ((zd0 a b).map D.int)):=by
 have hz:z9l fi ρ=.ok ((a.zip b).map fun p=>D.tup [.int p.1,.int p.2]):=by
  unfold z9l
  rw [hi,R.bind_ok]
  show R.of (if (a.map D.int).length=(b.map D.int).length then some (((a.map D.int).zip (b.map D.int)).map fun p=>D.tup [p.1,p.2]) else none)=_
  rw [if_pos (by rw [List.length_map,List.length_map];exact hl),R.of_some,List.zip_map,List.map_map]
  rfl
 have hc:z14 (z9l fi) (bT 2) [] z8x f ρ=.ok (.lst ((zd0 a b).map D.int)):=by
  unfold z14
  rw [hz,R.bind_ok,if_pos (by rw [List.length_map,List.length_zip];omega)]
  show ((z4c (bT 2) z8x f [] ((a.zip b).map fun p=>D.tup [.int p.1,.int p.2])).bind fun ys=>R.ok (D.lst ys))=_
  rw [z2i (bn:=bT 2) (en:=fun p:Int×Int=>D.tup [.int p.1,.int p.2]) (bs:=fun p=>[.int p.1,.int p.2]) (g:=fun p=>D.int (p.1+p.2)) (a.zip b) (fun x _=>rfl) (fun p _=>hf p.1 p.2)]
  rw [R.bind_ok]
  rw [zjo]
 unfold eCB z01
 rw [hc,R.bind_ok]
 rfl
theorem zs3 (l a b:List Tm):z0f (z0f l a) b=z0f l (a++b):=by unfold z0f;rw [List.foldl_append]
structure Fy (row:List Int) (ls:List P2) (T:List P3) (v:Nat->Vc):Prop where
 f:Flr row ls T v
 sc:Sc row.length T v
 pt:Pts row.length (so3 T)
theorem fy3:Fy [1,1,1] [] [(0,1,2)] v3:=⟨y41,sc3,y40 _⟩
theorem Fy.grow {row:List Int} {ls:List P2} {T:List P3} {v:Nat->Vc} (F:Fy row ls T v) (c:Nat) (hc:c<row.length) :
  Fy (z3e row c) (ls.map (sh2 (c:Int))++[z1o (row.length:Int) (c:Int)]) (T.map (sh3 (c:Int))++[z1h (row.length:Int) (c:Int)]) (gV row.length c v):=by
 have hl:=z22 row c hc
 obtain ⟨A,B,h1,h2,G⟩:=Gr.of F.f.inv F.f.len c hc
 refine ⟨F.f.grow c hc,?_,?_⟩
 . rw [hl];exact F.sc.grow F.f.good.fr F.f.inv F.f.len c hc
 . rw [hl,h2]
   exact Pts.grow G (by rw [<-h1];exact F.pt)
theorem zs4 (way:Int) (cells:List Int) (row:List Int) (ls:List P2) (b2 b3:Bool) (i cell:Int) (s6:Sl) (hi:0<=i/\i<900) (hn:(row.length:Int)=i+4) (hl:ls.length<1000) :
  ∃c:Nat,c<row.length/\∃s,z1l [.im (.int way),.im (L cells),own b2 (L row),own b3 (.lst (ls.map T2)),.im (.int i),.im (.int cell),s6] =
   .nx [.im (.int way),.im (L cells),.im (L (z3e row c)),.im (.lst ((ls.map (sh2 (c:Int))++[z1o (row.length:Int) (c:Int)]).map T2)),.im (.int i),.im (.int cell),s]:=by
 have m0:0<=cell % (row.length:Int):=Int.emod_nonneg _ (by omega)
 have m1:cell % (row.length:Int)<row.length:=Int.emod_lt_of_pos _ (by omega)
 have fin:∀(c:Int),0<=c->c<row.length->zk7 (.t [2,3]) [false,false,true,true,false,false,true] (z0i z0o (z01 (z02 2) (z01 (z02 3) (z01 (z02 6) z09)))) [.im (.int way),.im (L cells),own b2 (L row),own b3 (.lst (ls.map T2)),.im (.int i),.im (.int cell),.im (.int c)] =
   .nx [.im (.int way),.im (L cells),.im (L (z3e row c.toNat)),.im (.lst ((ls.map (sh2 c)++[z1o (row.length:Int) c]).map T2)),.im (.int i),.im (.int cell),.im (.int c)]:=fun c c0 c1=>by
  walk_at "dz"
  simp only [zjc]
  walk_at "dz"
  rw [zjb row ls c c0 c1 (by omega) hl]
  simp only [z2x]
  rw [show keeps false (D.tup [L (z3e row c.toNat),.lst ((ls.map (sh2 c)++[z1o (row.length:Int) c]).map T2)])=false by rw [z6h,ze0];simp only [L,z98,Bool.false_and]]
  walk_at "dz"
 have s1:z2p false 6 [false,false,true,false,false,true] (eOp zan (z02 5) (eCB zaq (z01 (z02 2) z09))) [.im (.int way),.im (L cells),own b2 (L row),own b3 (.lst (ls.map T2)),.im (.int i),.im (.int cell),s6] =
   .nx [.im (.int way),.im (L cells),own b2 (L row),own b3 (.lst (ls.map T2)),.im (.int i),.im (.int cell),.im (.int (cell % (row.length:Int)))]:=by
  walk_at "dz"
  simp only [zjc]
  walk_at "dz"
  rw [z99 (by omega)]
  walk_at "dz"
 have s2:∀c:Int,sIf (z4s asB (eOp dEq (eOp zan (z02 0) (eC (.int 3))) (eC (.int 1)))) (z2p false 6 [false,false,false,false,true] (eOp z1v (eC (.int 1)) (eOp zl4 (z02 4) (eC (.int 2))))) sNx [.im (.int way),.im (L cells),own b2 (L row),own b3 (.lst (ls.map T2)),.im (.int i),.im (.int cell),.im (.int c)] =
   .nx [.im (.int way),.im (L cells),own b2 (L row),own b3 (.lst (ls.map T2)),.im (.int i),.im (.int cell),.im (.int (if way % 3=1 then 1+i / 2 else c))]:=fun c=>by
  walk_at "dz"
  rw [z99 (by omega)]
  walk_at "dz"
  by_cases w:way % 3=1
  . rw [decide_eq_true w,if_pos w]
    walk_at "dz"
    rw [zqv (by omega)]
    walk_at "dz"
  . rw [decide_eq_false w,if_neg w]
    walk_at "dz"
 unfold z1l
 rw [z0h s1,z0h (s2 _)]
 obtain ⟨c,hc⟩:∃c:Int,c=(if way % 3=1 then 1+i / 2 else cell % (row.length:Int)):=⟨_,rfl⟩
 have c0:0<=c/\c<row.length:=by rw [hc];split<;>omega
 rw [<-hc,fin c c0.1 c0.2]
 exact ⟨c.toNat,by omega,_,by rw [show ((c.toNat:Nat):Int)=c by omega]⟩
theorem zs5 (way:Int) (C:D):∃c:Nat,c<3/\zk7 (.t [2,3]) [true] (z0i z0o (z01 (zbk (z01 (eC (.int 1)) (z01 (eC (.int 1)) (z01 (eC (.int 1)) z09)))) (z01 (zbk z09) (z01 (eOp zan (eOp zl4 (z02 0) (eC (.int 3))) (eC (.int 3))) z09)))) [.im (.int way),.im C,.em,.em,.em,.em,.em] =
  .nx [.im (.int way),.im C,.im (L (z3e [1,1,1] c)),.im (.lst ((([]:List P2).map (sh2 (c:Int))++[z1o ([1,1,1]:List Int).length (c:Int)]).map T2)),.em,.em,.em]:=by
 obtain ⟨c,hc⟩:∃c:Int,c=way / 3 % 3:=⟨_,rfl⟩
 have c0:0<=c:=by omega
 have c1:c<3:=by omega
 refine ⟨c.toNat,by omega,?_⟩
 rw [show ((c.toNat:Nat):Int)=c by omega]
 have g:=zjb [1,1,1] [] c c0 c1 (by decide) (by decide)
 unfold L at g ⊢
 generalize (z3e [1,1,1] c.toNat).map D.int=A at *
 generalize ((([]:List P2).map (sh2 c)++[z1o (([1,1,1]:List Int).length:Int) c]).map T2)=B at *
 walk_at "dz"
 rw [zqv (by decide)]
 walk_at "dz"
 rw [z99 (by decide),<-hc]
 walk_at "dz"
 rw [List.map_cons,List.map_cons,List.map_cons,List.map_nil,List.map_nil] at g
 rw [g]
 simp only [z2x]
 rw [show keeps false (D.tup [.lst A,.lst B])=false by rw [z6h,ze0];simp only [z98,Bool.false_and]]
 walk_at "dz"
theorem zs6 (way:Int) (cs:List Int) (hl:cs.length<=4):∃(row:List Int) (ls:List P2) (T:List P3) (v:Nat->Vc),Fy row ls T v/\4<=row.length/\row.length<=8/\z1r [.int way,L cs]=.ok (.tup [L row,.lst ((so2 ls).map T2)]):=by
 obtain ⟨c,hc,e0⟩:=zs5 way (L cs)
 have F0:=fy3.grow c hc
 have l0:(z3e [1,1,1] c).length=4:=z22 _ _ hc
 generalize z3e [1,1,1] c=row0 at *
 generalize ([]:List P2).map (sh2 (c:Int))++[z1o ([1,1,1]:List Int).length (c:Int)]=ls0 at *
 generalize [(0,1,2)].map (sh3 (c:Int))++[z1h ([1,1,1]:List Int).length (c:Int)]=T0 at *
 generalize gV ([1,1,1]:List Int).length c v3=v0 at *
 obtain ⟨ρ',e,row,ls,T,v,s4,s5,s6,F,hn,hr⟩:=ze2 (tg:=.t [4,5]) (g:=z1l) cs.length (fun (i:Nat)=>D.tup [.int (i:Int),(D.int∘fun i=>cs.getD i 0) i])
  (fun k ρ=>∃(row:List Int) (ls:List P2) (T:List P3) (v:Nat->Vc) (s4 s5 s6:Sl),Fy row ls T v/\row.length=k+4/\ρ=[.im (.int way),.im (L cs),.im (L row),.im (.lst (ls.map T2)),s4,s5,s6])
  [.im (.int way),.im (L cs),.im (L row0),.im (.lst (ls0.map T2)),.em,.em,.em] ⟨row0,ls0,T0,v0,.em,.em,.em,F0,l0,rfl⟩ (by
   rintro i hi ρ ⟨row,ls,T,v,s4,s5,s6,F,hn,rfl⟩
   have hll:=F.f.len
   obtain ⟨c,hc,s,e⟩:=zs4 way cs row ls false false (i:Int) (cs.getD i 0) s6 (by omega) (by omega) (by omega)
   refine ⟨_,_,rfl,Or.inl e,⟨_,_,_,_,_,_,_,F.grow c hc,?_,rfl⟩⟩
   rw [z22 _ _ hc,hn])
 have e2:((zD 0 (cs.map D.int).length).zip (cs.map D.int)).map (fun p=>D.tup [p.1,p.2])=(List.range cs.length).map (fun (i:Nat)=>D.tup [.int (i:Int),(D.int∘fun i=>cs.getD i 0) i]):=by
  conv=>lhs;rw [zvy cs 0,List.map_map,zlm]
 have hll:=F.f.len
 refine ⟨row,ls,T,v,F,by omega,by omega,?_⟩
 unfold z1r
 rw [z96,if_pos (show [D.int way,L cs].length=2 from rfl)]
 show SR.out false (z3j [.im (.int way),.im (L cs),.em,.em,.em,.em,.em])=_
 unfold z3j
 rw [z0h e0,z0h (ρ':=ρ') (by
  rw [<-e,<-e2];rfl),hr,z7x]
 have so:=zb0 ls (by omega)
 generalize ls.map T2=l' at *
 generalize (so2 ls).map T2=l2 at *
 walk_at "dz"
 rw [so]
 walk_at "dz"
def sd (n k:Nat):P2:=if k+1=n then (0,(k:Int)) else ((k:Int),(k:Int)+1)
def Sd (n:Nat):List P2:=(List.range n).map (sd n)
def Ls (n:Nat) (ls:List P2):List P2:=so2 (Sd n++so2 ls)
theorem zom (n:Nat) (ls:List P2):(Ls n ls).length=n+ls.length:=by
 unfold Ls Sd
 rw [(z27 _).length_eq,List.length_append,List.length_map,List.length_range,(z27 _).length_eq]
theorem zy6 (a b:Int):zb8 [.int a,.int b]=.ok (if a<b then T2 (a,b) else T2 (b,a)):=by
 unfold zb8 zod
 walk_at "dz"
 by_cases h:a<b
 . rw [decide_eq_true h,if_pos h];rfl
 . rw [decide_eq_false h,if_neg h];rfl
theorem y1u (n k:Nat) (hn:2<=n) (hk:k<n):z4k [some (.int (k:Int)),some (.int (n:Int))]=.ok (T2 (sd n k)):=by
 unfold z4k
 walk_at "dz"
 rw [z99 (by omega)]
 walk_at "dz"
 rw [zy6]
 unfold sd
 by_cases h:k+1=n
 . rw [if_pos h,show ((k:Int)+1) % (n:Int)=0 by rw [show (k:Int)+1=(n:Int) by omega];exact Int.emod_self,if_neg (by omega)]
 . rw [if_neg h,Int.emod_eq_of_lt (by omega) (by omega),if_pos (by omega)]
theorem y44 (n:Nat):zD 0 n=(List.range n).map fun (k:Nat)=>D.int (k:Int):=by
 unfold zD
 apply List.map_congr_left
 intro k _
 rw [Int.zero_add]
theorem cat_T2 {a b:List P2} (h:a.length+b.length<=1000):zc4 (.lst (a.map T2)) (.lst (b.map T2))=some (.lst ((a++b).map T2)):=by
 simp only [zc4,List.length_map]
 rw [if_pos (by omega),List.map_append]
theorem zjp (n:Nat) (hn:3<=n) (h60:n<=30) (ls:List P2) (hl:ls.length<=30):z2n [.tup [.int (n:Int),.tup ((so2 ls).map T2)]]=.ok (.lst ((Ls n ls).map T2)):=by
 have hl':(so2 ls).length<=30:=by rw [(z27 ls).length_eq];exact hl
 unfold z2n zb9
 walk_at "dz"
 rw [y14 (n:Int) (by omega) (by walk_at "dz")]
 walk_at "dz"
 rw [Int.toNat_natCast,y44,if_pos (by simp;omega),z2i (en:=fun (k:Nat)=>D.int (k:Int)) (bs:=fun k=>[D.int (k:Int)]) (g:=fun k=>T2 (sd n k)) (List.range n) (fun x _=>rfl) (fun k hk=>y1u n k (by omega) (List.mem_range.mp hk))]
 rw [show (List.range n).map (fun k=>T2 (sd n k))=(Sd n).map T2 by unfold Sd;rw [List.map_map];rfl]
 have hs:(Sd n).length=n:=by unfold Sd;rw [List.length_map,List.length_range]
 unfold Ls
 generalize Sd n=S at hs ⊢
 generalize so2 ls=l' at hl' ⊢
 walk_at "dz"
 rw [cat_T2 (by omega)]
 walk_at "dz"
 rw [zb0 _ (by rw [List.length_append];omega)]
 walk_at "dz"
theorem y1v (a b:Int):z53 [.tup [.int a,.int b]]=.ok (.bl true):=by
 unfold z53 zeg
 walk_at "dz"
 rw [zcx]
 walk_at "dz"
 rw [zcx]
 walk_at "dz"
 rfl
def z7o (n:Nat) (ls:List P2):D:=.tup [.int (n:Int),.tup ((so2 ls).map T2)]
theorem y1w (n:Nat) (ls:List P2):dIx (z7o n ls) (.int 0)=some (.int (n:Int)):=ze1 _ _
theorem y1x (n:Nat) (ls:List P2):dIx (z7o n ls) (.int 1)=some (.tup ((so2 ls).map T2)):=zhu _ _ _
theorem zy7 {n a b:Int} (h:0<=a/\a<b/\b<n):z0z [.int n,.tup [.int a,.int b]]=.ok .non:=by
 unfold z0z z3k
 walk_at "dz"
 rw [y1v]
 walk_at "dz"
 rw [decide_eq_true h.1,decide_eq_true h.2.1,decide_eq_true h.2.2]
 walk_at "dz"
theorem y1y {t:P3} (ht:t.1<t.2.1/\t.2.1<t.2.2) {c:Int} (hc:c∈cor t):((cor t).filter fun x=>decide (x≠c)).map D.int=[.int (opp t c).1,.int (opp t c).2]:=by
 obtain ⟨a,d,b⟩:=t
 simp only at ht
 simp only [cor,List.mem_cons,List.not_mem_nil,or_false] at hc
 unfold opp cor
 dsimp only
 rcases hc with rfl | rfl | rfl
 . rw [if_pos rfl,List.filter_cons_of_neg (by simp),List.filter_cons_of_pos (by simp;omega),List.filter_cons_of_pos (by simp;omega)];rfl
 . rw [if_neg (by omega),if_pos rfl,List.filter_cons_of_pos (by simp;omega),List.filter_cons_of_neg (by simp),List.filter_cons_of_pos (by simp;omega)];rfl
 . rw [if_neg (by omega),if_neg (by omega),List.filter_cons_of_pos (by simp;omega),List.filter_cons_of_pos (by simp;omega),List.filter_cons_of_neg (by simp)];rfl
theorem y1z {t:P3} (ht:t.1<t.2.1/\t.2.1<t.2.2) {c:Int} (hc:c∈cor t):z1z [T3 t,.int c]=.ok (T2 (opp t c)):=by
 have e:=y1y ht hc
 unfold z1z z82
 walk_at "dz"
 rw [show [D.int t.1,D.int t.2.1,D.int t.2.2]=(cor t).map D.int from rfl,z3c (en:=D.int) (bs:=fun x=>[D.int x]) (p:=fun x=>decide (x≠c)) (g:=fun x=>D.int x) (cor t) (fun x _=>rfl) (fun x _=>by
  unfold z5u
  walk_at "dz"
  congr 1
  by_cases h:x=c<;>simp [h]) (fun x _ _=>by
  unfold z5v
  walk_at "dz")]
 rw [show List.map (fun x=>D.int x) ((cor t).filter fun x=>decide (x≠c))=_ from e]
 walk_at "dz"
 rfl
theorem zon (S:List P2) (q:P2):znt (S.map T2) (T2 q)=some (.int ((S.count q:Nat):Int)):=by
 unfold znt
 have:=z4g S T2 1 znm
 rw [if_pos ⟨L2.pls_of S T2 zw4,zw4 q,by omega⟩,List.countP_map]
 congr 3
 apply List.countP_congr
 intro x _
 simp only [Function.comp,zwa,decide_eq_true_eq,beq_iff_eq]
def pw (L:List P2) (A l:List P2):List Int:=L.map fun q=>((A.count q:Nat):Int) - ((l.count q:Nat):Int)
theorem zoo:∀{ts:List P3} {x:List Int},Al x ts->Asc ts->(∀p∈ts.zip x,z1z [T3 p.1,.int p.2]=.ok (T2 (opp p.1 p.2)))/\(ts.zip x).map (fun p=>T2 (opp p.1 p.2))=(ab ts x).map T2
 | [],x,_,_=>by simp [ab]
 | t::ts,[],h,_=>by simp [ab]
 | t::ts,c::x,h,ha=>by
  unfold Cu.Al at h
  obtain ⟨h1,h2⟩:=zoo h.2 fun u hu=>ha u (by simp [hu])
  refine ⟨fun p hp=>?_,?_⟩
  . rw [List.zip_cons_cons,List.mem_cons] at hp
    rcases hp with rfl | hp
    . exact y1z (ha t (by simp)) h.1
    . exact h1 p hp
  . rw [List.zip_cons_cons,List.map_cons,h2];rfl
theorem zmf {n:Nat} (hn:3<=n) (h60:n<=12) {ls:List P2} (hl:ls.length<=9) {T:List P3} (I:CInv (n:Int) ls T) {x:List Int} (h:Al x (so3 T)) :
  z24 [z7o n ls,TuI x]=.ok (TuI (pw (Ls n ls) (ab (so3 T) x) (so2 ls))):=by
 have et:z0l [z7o n ls]=_:=z7h I (z27 ls) (by omega)
 have e1:=y1x n ls
 have e2:z2n [z7o n ls]=_:=zjp n hn (by omega) ls (by omega)
 have l1:(Ls n ls).length<=120:=by rw [zom];omega
 have hT:(so3 T).length<=60:=by
  have:=I.prm.length_eq
  rw [List.length_map,List.length_cons] at this
  rw [(z0s T).length_eq];omega
 obtain ⟨z1,z2⟩:=zoo h I.asc
 have hx:=h.len
 generalize so3 T=ts at *
 generalize Ls n ls=S at *
 generalize z7o n ls=cut at *
 have hz:zf9 (z01 (z0i z0l (z01 (z02 0) z09)) (z01 (z02 1) z09)) [some cut,some (TuI x),none]=.ok ((ts.zip x).map fun p=>D.tup [T3 p.1,.int p.2]):=by
  unfold zf9
  rw [show z01 (z0i z0l (z01 (z02 0) z09)) (z01 (z02 1) z09) [some cut,some (TuI x),none]=.ok [.lst (ts.map T3),TuI x] by
   walk_at "dz"
   rw [et]
   walk_at "dz",R.bind_ok]
  show R.of (if (ts.map T3).length=(x.map D.int).length then some (((ts.map T3).zip (x.map D.int)).map fun p=>D.tup [p.1,p.2]) else none)=_
  rw [if_pos (by rw [List.length_map,List.length_map,hx]),R.of_some,List.zip_map,List.map_map]
  rfl
 have hc:z14 (zf9 (z01 (z0i z0l (z01 (z02 0) z09)) (z01 (z02 1) z09))) (bT 2) [] z8x z1y [some cut,some (TuI x),none]=.ok (.lst ((ab ts x).map T2)):=by
  unfold z14
  rw [hz,R.bind_ok,if_pos (by rw [List.length_map,List.length_zip];omega)]
  show ((z4c (bT 2) z8x z1y [] ((ts.zip x).map fun p=>D.tup [T3 p.1,.int p.2])).bind fun ys=>R.ok (D.lst ys))=_
  rw [z2i (bn:=bT 2) (en:=fun p:P3×Int=>D.tup [T3 p.1,.int p.2]) (bs:=fun p=>[T3 p.1,.int p.2]) (g:=fun p=>T2 (opp p.1 p.2)) (ts.zip x) (fun x _=>rfl) (fun p hp=>by
   unfold z1y
   walk_at "dz"
   exact z1 p hp),z2]
  rfl
 unfold z24
 rw [z96,if_pos (show [cut,TuI x].length=2 from rfl)]
 show SR.out false (z4l [.im cut,.im (TuI x),.em])=_
 unfold z4l
 rw [z0h (ρ':=[.im cut,.im (TuI x),.ow (.lst ((ab ts x).map T2))]) (by
  rw [zni]
  show (z14 _ _ _ _ _ [some cut,some (TuI x),none]).toS _=_
  rw [hc,z2x,show keeps true (D.lst ((ab ts x).map T2))=true by rw [z4z];exact z12 _ _ fun x _=>zaz x]
  rfl)]
 generalize ab ts x=A at *
 generalize TuI x=X at *
 walk_at "dz"
 rw [e2]
 walk_at "dz"
 rw [if_pos (by rw [List.length_map];omega),z2i (en:=T2) (bs:=fun q=>[T2 q]) (g:=fun q=>D.int (((A.count q:Nat):Int) - (((so2 ls).count q:Nat):Int))) S (fun x _=>rfl) (fun q _=>by
  unfold z54
  show eOp zl3 (z9f (z02 1) (z02 0)) (z9g (eOp dIx (z02 2) (eC (.int 1))) (z02 0)) [some (T2 q),some (.lst (A.map T2)),some cut]=_
  have c1:z9f (z02 1) (z02 0) [some (T2 q),some (.lst (A.map T2)),some cut]=.ok (.int ((A.count q:Nat):Int)):=by
   unfold z9f
   show R.of (znt (A.map T2) (T2 q))=_
   rw [zon];rfl
  have c2:z9g (eOp dIx (z02 2) (eC (.int 1))) (z02 0) [some (T2 q),some (.lst (A.map T2)),some cut]=.ok (.int (((so2 ls).count q:Nat):Int)):=by
   unfold z9g
   rw [show eOp dIx (z02 2) (eC (.int 1)) [some (T2 q),some (.lst (A.map T2)),some cut]=.ok (.tup ((so2 ls).map T2)) by
    walk_at "dz"
    rw [e1];rfl,R.bind_ok]
   show R.of (znt ((so2 ls).map T2) (T2 q))=_
   rw [zon];rfl
  rw [show eOp zl3 (z9f (z02 1) (z02 0)) (z9g (eOp dIx (z02 2) (eC (.int 1))) (z02 0)) [some (T2 q),some (.lst (A.map T2)),some cut]=(z9f (z02 1) (z02 0) [some (T2 q),some (.lst (A.map T2)),some cut]).bind fun x=>(z9g (eOp dIx (z02 2) (eC (.int 1))) (z02 0) [some (T2 q),some (.lst (A.map T2)),some cut]).bind fun y=>R.of (zl3 x y) from rfl,c1,R.bind_ok,c2,R.bind_ok];rfl)]
 walk_at "dz"
 unfold pw TuI
 rw [List.map_map];rfl
def fr (L:List P2) (l:List P2) (ts:List P3) (x:List Int):Tm:=(pw L (ab ts x) l,1)
def frZ (L:List P2) (l:List P2) (ts:List P3) (S:List (List Int)):List Tm:=z0f [] (S.map (fr L l ts))
theorem zy8 {n:Nat} (hn:3<=n) (h60:n<=12) {ls:List P2} (hl:ls.length<=9) {T:List P3} (I:CInv (n:Int) ls T) (P:D) (l:List Tm) (h1:l.length<=1000) {x:List Int} (h:Al x (so3 T)) (s4:Sl) :
  z2c [.im (z7o n ls),.im P,.ow (dnA l),.im (TuI x),s4]=.nx [.im (z7o n ls),.im P,.ow (dnA (z6j l (fr (Ls n ls) (so2 ls) (so3 T) x).1 (z2o l (fr (Ls n ls) (so2 ls) (so3 T) x).1+1))),.im (TuI x),.im (.tup ((fr (Ls n ls) (so2 ls) (so3 T) x).1.map D.int))]:=by
 have ep:=zmf hn h60 hl I h
 rw [show TuI (pw (Ls n ls) (ab (so3 T) x) (so2 ls))=.tup ((fr (Ls n ls) (so2 ls) (so3 T) x).1.map D.int) from rfl] at ep
 generalize (fr (Ls n ls) (so2 ls) (so3 T) x).1=k at *
 have e1:=zxy l k
 have e2:=zy0 (l:=l) (by omega) k (z2o l k+1)
 have n1:z2g (k.map D.int)=true:=z12 D.int _ fun x _=>z4f x
 generalize hw:z2o l k=w at *
 generalize z6j l k (w+1)=l' at e2 ⊢
 unfold dnA at *
 generalize (l.map fun t=>kN t.1)=ks at *
 generalize (l.map fun t=>D.int t.2)=ds at *
 generalize (l'.map fun t=>kN t.1)=ks' at *
 generalize (l'.map fun t=>D.int t.2)=ds' at *
 generalize k.map D.int=es at *
 generalize z7o n ls=cut at *
 generalize TuI x=X at *
 unfold z2c
 walk_at "dz"
 rw [ep]
 walk_at "dz"
 rw [n1]
 walk_at "dz"
 rw [zol rfl rfl rfl e1]
 walk_at "dz"
 rw [n1]
 walk_at "dz"
 rw [e2]
 walk_at "dz"
theorem zs7 {n:Nat} (hn:3<=n) {ls:List P2} {T:List P3} (I:CInv (n:Int) ls T) (hl:ls.length+3=n) (h12:n<=12) {a b:Int} (h:0<=a/\a<b/\b<(n:Int)) (hS:(Sh [a,b] (so3 T)).length<=63) :
  z0n [z7o n ls,.tup [.int a,.int b]]=.ok (.lst ((Cn (frZ (Ls n ls) (so2 ls) (so3 T) (Sh [a,b] (so3 T)))).map TM)):=by
 have e0:=y1w n ls
 have es:z1g [z7o n ls,.int a,.int b]=_:=zfk I (by omega) (by omega) a b (by omega) (by omega)
 rw [show shr a b (so3 T)=Sh [a,b] (so3 T) by unfold shr;rw [if_neg (by omega)]] at es
 have hA:∀x∈Sh [a,b] (so3 T),Al x (so3 T):=fun x hx=>(mem_Sh.mp hx).1
 have fb:=fun (l:List Tm) (h1:l.length<=1000) (x:List Int) (hx:Al x (so3 T)) (s4:Sl)=>zy8 hn (by omega) (by omega) I (.tup [.int a,.int b]) l h1 hx s4
 unfold frZ
 have hf:∀x,(fr (Ls n ls) (so2 ls) (so3 T) x).2=1:=fun _=>rfl
 generalize Sh [a,b] (so3 T)=S at *
 generalize fr (Ls n ls) (so2 ls) (so3 T)=f at *
 generalize z7o n ls=cut at *
 unfold z0n
 rw [z96,if_pos (show [cut,D.tup [.int a,.int b]].length=2 from rfl)]
 show SR.out true (z5k [.im cut,.im (.tup [.int a,.int b]),.em,.em,.em])=_
 unfold z5k
 rw [z0h (ρ':=[.im cut,.im (.tup [.int a,.int b]),.em,.em,.em]) (by
  walk_at "dz"
  rw [e0]
  walk_at "dz"
  rw [zy7 h]
  walk_at "dz")]
 rw [z0h (ρ':=[.im cut,.im (.tup [.int a,.int b]),.ow (dnA []),.em,.em]) (by
  walk_at "dz"
  simp only [z9d]
  walk_at "dz"
  rw [show keeps true (D.dn [] [])=true from rfl]
  walk_at "dz"
  rfl)]
 obtain ⟨ρ',q,l',s3,s4,⟨h1,h2,_⟩,hr⟩:=z3x (tg:=.n 3) (g:=z2c) (en:=TuI)
  (fun r ρ=>∃(l':List Tm) (s3 s4:Sl),(z0f l' (r.map f)=z0f [] (S.map f)/\l'.length+r.length<=63/\∀x∈r,Al x (so3 T))/\ρ=[.im cut,.im (.tup [.int a,.int b]),.ow (dnA l'),s3,s4])
  S [.im cut,.im (.tup [.int a,.int b]),.ow (dnA []),.em,.em] ⟨[],.em,.em,⟨rfl,by simpa using hS,hA⟩,rfl⟩ (by
   rintro x r ρ ⟨l',s3,s4,⟨h1,h2,h3⟩,rfl⟩
   rw [List.length_cons] at h2
   refine ⟨_,_,rfl,Or.inl (fb l' (by omega) x (h3 x List.mem_cons_self) s4),⟨_,_,_,⟨?_,?_,fun u hu=>h3 u (List.mem_cons_of_mem _ hu)⟩,rfl⟩⟩
   . rw [<-h1,List.map_cons,z10]
     rw [show (f x).2=1 from hf x]
   . have:=zcy l' (f x).1 (z2o l' (f x).1+1)
     omega)
 rw [z0h (ρ':=ρ') (by
  rw [<-q]
  unfold zc2
  rw [show iL (z0i z1g (z01 (z02 0) (z01 (eOp dIx (z02 1) (eC (.int 0))) (z01 (eOp dIx (z02 1) (eC (.int 1))) z09)))) (vis [true,true] [.im cut,.im (.tup [.int a,.int b]),.ow (dnA []),.em,.em])=.ok (S.map TuI) by
   walk_at "dz"
   rw [es]
   walk_at "dz"]
  rfl)]
 have e':l'=z0f [] (S.map f):=h1
 have ll:l'.length<64:=by rw [List.length_nil] at h2;omega
 rw [hr,z7x]
 rw [show z0i z1f (z01 (z02 2) z09) (vis [false,false,true] [.im cut,.im (.tup [.int a,.int b]),.ow (dnA l'),s3,s4])=z1f [dnA l'] from rfl,zy4 _ ll,e']
 rfl
def lin (g:List Int->Int):List Tm->Int
 | []=>0
 | t::l=>t.2 * g t.1+lin g l
theorem zjq (g:List Int->Int):∀a b:List Tm,lin g (a++b)=lin g a+lin g b
 | [],b=>by simp [lin]
 | t::a,b=>by simp only [List.cons_append,lin,zjq g a b];omega
theorem zs8 (g:List Int->Int) (l:List Tm) (k:List Int) (v:Int) (hn:(z0e l).Nodup):lin g (z6j l k (z2o l k+v))=lin g l+v * g k:=by
 unfold z6j
 by_cases h:k∈z0e l
 . rw [if_pos h]
   induction l with
   | nil=>cases h
   | cons t l ih=>
    simp only [z0e,List.map_cons,List.nodup_cons] at hn
    rw [List.map_cons,z1c]
    by_cases z:t.1=k
    . rw [if_pos z,if_pos z]
      have:l.map (fun u=>if u.1=k then (k,t.2+v) else u)=l:=by
       conv=>rhs;rw [<-List.map_id l]
       apply List.map_congr_left
       intro u hu
       rw [if_neg (fun e=>hn.1 (by rw [z,<-e];exact List.mem_map.mpr ⟨u,hu,rfl⟩))];rfl
      rw [this]
      simp only [lin,z,Int.add_mul];omega
    . rw [if_neg z,if_neg z]
      have hk:k∈z0e l:=(List.mem_cons.mp h).resolve_left fun e=>z e.symm
      have:=ih hn.2 hk
      simp only [lin];omega
 . rw [if_neg h,zmd h,zjq]
   simp only [lin,Int.zero_add];omega
theorem zjr (g:List Int->Int):∀(b a:List Tm),(z0e a).Nodup->lin g (z0f a b)=lin g a+lin g b
 | [],a,_=>by simp [z0f,lin]
 | t::b,a,h=>by
  rw [z10,zjr g b _ (zbi _ _ h),zs8 g a t.1 t.2 h];simp only [lin];omega
theorem zmg (g:List Int->Int) {a b:List Tm} (p:a.Perm b):lin g a=lin g b:=by
 induction p with
 | nil=>rfl
 | cons x _ ih=>simp only [lin,ih]
 | swap x y l=>simp only [lin];omega
 | trans _ _ h1 h2=>exact h1.trans h2
theorem zjs (g:List Int->Int):∀l:List Tm,lin g (l.filter nz)=lin g l
 | []=>rfl
 | t::l=>by
  by_cases h:nz t=true
  . rw [List.filter_cons_of_pos h];simp only [lin,zjs g l]
  . rw [List.filter_cons_of_neg h,zjs g l]
    have:t.2=0:=by simpa [nz] using h
    simp only [lin,this,Int.zero_mul];omega
theorem zy9 (g:List Int->Int) (l:List Tm):lin g (Cn l)=lin g l:=by
 unfold Cn;rw [zmg g (zek _),zjs]
section
variable {L l:List P2} {ts:List P3} {S:List (List Int)}
theorem zjt (g:List Int->Int):lin g (Cn (frZ L l ts S))=sF (fun x=>g (pw L (ab ts x) l)) S:=by
 rw [zy9]
 unfold frZ
 rw [zjr g _ _ (by simp [z0e])]
 induction S with
 | nil=>rfl
 | cons x S ih=>
  rw [List.map_cons]
  simp only [lin,sF] at ih ⊢
  rw [<-ih]
  show 0+(1 * g (pw L (ab ts x) l)+_)=g (pw L (ab ts x) l)+_
  rw [Int.one_mul];omega
end
theorem zju (t:Tm) (j:List Int):∀B:List Tm,tot (B.map (z47 t)) j=t.2 * lin (fun k'=>if zd0 k' t.1=j then 1 else 0) B
 | []=>by simp [lin,tot]
 | u::B=>by
  rw [List.map_cons,za0,zju t j B]
  show (if zd0 u.1 t.1=j then u.2 * t.2 else 0)+_=t.2 * (u.2 * (if zd0 u.1 t.1=j then 1 else 0)+lin _ B)
  rw [Int.mul_add]
  by_cases h:zd0 u.1 t.1=j
  . rw [if_pos h,if_pos h,Int.mul_one,Int.mul_comm t.2 u.2]
  . rw [if_neg h,if_neg h,Int.mul_zero,Int.mul_zero]
theorem zjv (j:List Int) (B:List Tm):∀A,tot (prs A B) j=lin (fun k=>lin (fun k'=>if zd0 k' k=j then 1 else 0) B) A
 | []=>rfl
 | t::A=>by rw [z9z,z88,zjv j B A,zju];rfl
def pv (L z l:List P2):List Int:=L.map fun q=>((z.count q:Nat):Int) - 2 * ((l.count q:Nat):Int)
theorem zjw (x y l:List P2):∀L:List P2,zd0 (pw L y l) (pw L x l)=pv L (x++y) l
 | []=>rfl
 | q::L=>by
  have:=zjw x y l L
  unfold zd0 pw pv at *
  rw [List.map_cons,List.map_cons,List.map_cons,List.zipWith_cons_cons,this,List.count_append]
  congr 1
  rw [Int.natCast_add];omega
theorem y20 (L l:List P2) (j:List Int):Iv fun z=>if pv L z l=j then 1 else 0:=fun x y p=>by
 have:pv L x l=pv L y l:=by
  unfold pv
  exact List.map_congr_left fun q _=>by rw [p.count_eq]
 simp only [this]
def Fr (L l:List P2) (ts:List P3) (i k:Int):List Tm:=Cn (frZ L l ts (Sh [i,k] ts))
theorem zd2 (L l:List P2) (ts:List P3) {a b c d:Int} (h1:a≠b) (h2:c≠d) (j:List Int):tot (prs (Fr L l ts a b) (Fr L l ts c d)) j=twF (fun z=>if pv L z l=j then 1 else 0) (Sv ts a b) (Sv ts c d):=by
 unfold Fr Sv twF
 rw [zjv,zjt,if_neg h1,if_neg h2,z41]
 refine z42 fun x _=>?_
 rw [zjt,z41]
 refine z42 fun y _=>?_
 rw [zjw]
theorem zmh (L l:List P2) {ts:List P3} {n:Nat} (P:Pts n ts) {a b c d:Int} (h0:0<=a) (h1:a<b) (h2:b<c) (h3:c<d) (h4:d<n) (j:List Int) :
  tot (prs (Fr L l ts a c) (Fr L l ts b d)) j=tot (prs (Fr L l ts a b) (Fr L l ts c d)) j+tot (prs (Fr L l ts a d) (Fr L l ts b c)) j:=by
 rw [zd2 _ _ _ (by omega) (by omega),zd2 _ _ _ (by omega) (by omega),zd2 _ _ _ (by omega) (by omega)]
 exact P _ (y20 L l j) a b c d h0 h1 h2 h3 h4
def Ps (l:List Tm):Prop:=∀t∈l,0<t.2
theorem Ps.get {l:List Tm} (h:Ps l) (k:List Int):0<=z2o l k:=by
 by_cases z:z2o l k=0
 . omega
 . have:=h _ (zjj z);simp only at this;omega
theorem Ps.put {l:List Tm} (h:Ps l) (k:List Int) {v:Int} (hv:0<v):Ps (z6j l k (z2o l k+v)):=by
 have:=h.get k
 unfold z6j
 split
 . intro t ht
   obtain ⟨u,hu,rfl⟩:=List.mem_map.mp ht
   split
   . simp only;omega
   . exact h u hu
 . intro t ht
   rcases List.mem_append.mp ht with z | z
   . exact h t z
   . rw [List.mem_singleton.mp z];simp only;omega
theorem Ps.add:∀{b a:List Tm},Ps a->Ps b->Ps (z0f a b)
 | [],a,h,_=>h
 | t::b,a,h,k=>by rw [z10];exact Ps.add (h.put _ (k t List.mem_cons_self)) fun u hu=>k u (List.mem_cons_of_mem _ hu)
theorem zya (l:List Tm) (k:List Int) (v:Int):z6j l k v≠[]:=fun e=>by
 have:=congrArg z0e e
 rw [z6k] at this
 split at this
 . rename_i h;rw [this] at h;cases h
 . simp [z0e] at this
theorem zjx:∀{b a:List Tm},(a≠[]\/b≠[])->z0f a b≠[]
 | [],a,h=>h.resolve_right fun z=>z rfl
 | t::b,a,h=>by rw [z10];exact zjx (.inl (zya _ _ _))
theorem zjy:Ps []:=fun _ h=>by cases h
theorem zem (L l:List P2) (ts:List P3) (S:List (List Int)):Ps (frZ L l ts S):=Ps.add zjy fun t ht=>by
 obtain ⟨x,_,rfl⟩:=List.mem_map.mp ht
 show (0:Int)<1
 decide
theorem zjz {l:List Tm} (h:Ps l) {t:Tm}:t∈Cn l↔t∈l:=by
 rw [zxv]
 exact ⟨fun z=>z.1,fun z=>⟨z,by have:=h t z;omega⟩⟩
theorem zyb (L l:List P2) (ts:List P3) (i k:Int):Ps (Fr L l ts i k):=fun t ht=>zem _ _ _ _ t ((zjz (zem _ _ _ _)).mp ht)
theorem zyc (L l:List P2) {ts:List P3} {i k:Int} (h:Sh [i,k] ts≠[]):Fr L l ts i k≠[]:=fun e=>by
 have:frZ L l ts (Sh [i,k] ts)≠[]:=zjx (.inr fun z=>h (List.map_eq_nil_iff.mp z))
 cases hf:frZ L l ts (Sh [i,k] ts) with
 | nil=>exact this hf
 | cons t r=>
  have:=(zjz (zem L l ts (Sh [i,k] ts)) (t:=t)).mpr (by rw [hf];simp)
  unfold Fr at e
  rw [e] at this;cases this
theorem zk0 {A B:List Tm} (hA:Ps A) (hB:Ps B):Ps (prs A B):=fun t ht=>by
 unfold prs at ht
 obtain ⟨x,hx,ht⟩:=List.mem_flatMap.mp ht
 obtain ⟨y,hy,rfl⟩:=List.mem_map.mp ht
 exact Int.mul_pos (hB y hy) (hA x hx)
theorem zyd {A B:List Tm} (hA:A≠[]) (hB:B≠[]):prs A B≠[]:=fun e=>by
 have:=congrArg List.length e
 rw [zd1] at this
 rcases Nat.mul_eq_zero.mp this with z | z
 . exact hA (List.length_eq_zero_iff.mp z)
 . exact hB (List.length_eq_zero_iff.mp z)
theorem zye {l:List Tm} (h:Ps l) {t:Tm} (ht:t∈l):t.2<=lin (fun _=>1) l:=by
 have nn:∀{l:List Tm},Ps l->0<=lin (fun _=>1) l:=fun {l}=>by
  induction l with
  | nil=>exact fun _=>Int.le_refl 0
  | cons u l ih=>
   intro h
   have:=ih fun v hv=>h v (List.mem_cons_of_mem _ hv)
   have:=h u List.mem_cons_self
   simp only [lin];omega
 induction l with
 | nil=>cases ht
 | cons u l ih=>
  have h':Ps l:=fun v hv=>h v (List.mem_cons_of_mem _ hv)
  have:=nn h'
  have:=h u List.mem_cons_self
  simp only [lin]
  rcases List.mem_cons.mp ht with rfl | ht
  . omega
  . have:=ih h' ht;omega
theorem zop:∀{l:List Tm},Ps l->(l.length:Int)<=lin (fun _=>1) l
 | [],_=>Int.le_refl 0
 | u::l,h=>by
  have:=zop fun v hv=>h v (List.mem_cons_of_mem _ hv)
  have:=h u List.mem_cons_self
  simp only [lin,List.length_cons];omega
theorem zoq {α:Type}:∀l:List α,sF (fun _=>1) l=l.length
 | []=>rfl
 | x::l=>by simp only [sF,zoq l,List.length_cons];omega
theorem zor (L l:List P2) (ts:List P3) (i k:Int):((Fr L l ts i k).length:Int)<=(Sh [i,k] ts).length/\∀t∈Fr L l ts i k,0<t.2/\t.2<=(Sh [i,k] ts).length/\t.1.length=L.length:=by
 have e:lin (fun _=>1) (Fr L l ts i k)=(Sh [i,k] ts).length:=by unfold Fr;rw [zjt,zoq]
 have p:=zyb L l ts i k
 rw [<-e]
 refine ⟨zop p,fun t ht=>⟨p t ht,zye p ht,?_⟩⟩
 have ht':=(zjz (zem L l ts (Sh [i,k] ts))).mp ht
 rcases zei _ _ _ (List.mem_map.mpr ⟨t,ht',rfl⟩) with z | z
 . simp [z0e] at z
 . unfold z0e at z
   rw [List.map_map] at z
   obtain ⟨x,hx,e⟩:=List.mem_map.mp z
   rw [<-e]
   show (pw L (ab ts x) l).length=_
   unfold pw;rw [List.length_map]
theorem zk1 {l:List Tm} (h:Ps l) (hn:(z0e l).Nodup) (k:List Int):k∈z0e l↔z2o l k≠0:=by
 constructor
 . intro m
   obtain ⟨t,ht,rfl⟩:=List.mem_map.mp m
   rw [zji hn ht]
   have:=h t ht;omega
 . exact fun z=>List.mem_map.mpr ⟨_,zjj z,rfl⟩
theorem zmi {l:List Tm} {k:List Int} (h:k∈z0e l):valN (l.map fun t=>kN t.1) (l.map fun t=>D.int t.2) (kN k)=some (.int (z2o l k)):=by
 have e:=zs1 k l
 obtain ⟨w,hw⟩:=z9i (k:=kN k) (ks:=l.map fun t=>kN t.1) (xs:=l.map fun t=>D.int t.2) (by rw [List.length_map,List.length_map]) (by
  obtain ⟨t,ht,rfl⟩:=List.mem_map.mp h
  exact List.mem_map.mpr ⟨t,ht,rfl⟩)
 rw [hw] at e ⊢
 exact congrArg some e
theorem zs9 (l:List Tm):(l.map fun t=>D.int t.2).all isI=true:=by
 rw [List.all_map,List.all_eq_true];exact fun _ _=>rfl
theorem y21 {a b:List Tm} (na:(z0e a).Nodup) (nb:(z0e b).Nodup) (pa:Ps a) (pb:Ps b) (h:∀j,z2o a j=z2o b j) (neg:Bool):dEqN neg (dnA a) (dnA b)=some (.bl (!neg)):=by
 have kk:∀k,k∈z0e a↔k∈z0e b:=fun k=>by rw [zk1 pa na,zk1 pb nb,h]
 have hl:a.length=b.length:=by
  have:=((List.perm_ext_iff_of_nodup na nb).mpr fun k=>kk k).length_eq
  rwa [zej,zej] at this
 unfold dnA dEqN
 simp only
 rw [zs9,zs9,Bool.and_self,if_pos rfl]
 rw [List.length_map,List.length_map,show (a.length==b.length)=true by simpa using hl,Bool.true_and]
 have:((a.map fun t=>kN t.1).zip (a.map fun t=>D.int t.2)).all (hitE (b.map fun t=>kN t.1) (b.map fun t=>D.int t.2))=true:=by
  rw [List.zip_map',List.all_map,List.all_eq_true]
  intro t ht
  have m:t.1∈z0e a:=List.mem_map.mpr ⟨t,ht,rfl⟩
  show hitE _ _ (kN t.1,D.int t.2)=true
  unfold hitE
  rw [zmi ((kk _).mp m),<-h,zji na ht]
  simp
 rw [this,Bool.xor_true]
theorem y22 {a:List Tm} (h:a≠[]):dEqN false (dnA a) (.dn [] [])=some (.bl false):=by
 unfold dnA dEqN
 simp only
 rw [zs9,List.all_nil,Bool.and_self,if_pos rfl,List.length_map]
 have:(a.length==([]:List NK).length)=false:=by
  rw [beq_eq_false_iff_ne];exact fun z=>h (List.length_eq_zero_iff.mp z)
 rw [this];rfl
theorem y23 (A B:D) {m:Nat} (hm:m<=1000) (l:List Tm) (hl:l.length<=9000) (t u:Tm) (ht:t.1.length=m/\0<t.2/\t.2<=1000) (hu:u.1.length=m) (s7:Sl) :
  z2a [.ow (dnA l),.im A,.im B,.im (.tup (t.1.map D.int)),.im (.int t.2),.im (.tup (u.1.map D.int)),.im (.int u.2),s7] =
   .nx [.ow (dnA (z6j l (z47 t u).1 (z2o l (z47 t u).1+(z47 t u).2))),.im A,.im B,.im (.tup (t.1.map D.int)),.im (.int t.2),.im (.tup (u.1.map D.int)),.im (.int u.2),.im (.tup ((z47 t u).1.map D.int))]:=by
 have e1:=zxy l (z47 t u).1
 have e2:=zy0 hl (z47 t u).1 (z2o l (z47 t u).1+(z47 t u).2)
 have n1:z2g ((z47 t u).1.map D.int)=true:=z12 D.int _ fun x _=>z4f x
 have ez:∀X Y C:Option D,eCB z2w (z01 (z14 (z9l (z01 (z02 3) (z01 (z02 5) z09))) (bT 2) [] z8x z29) z09) [none,X,Y,some (.tup (t.1.map D.int)),some (.int t.2),some (.tup (u.1.map D.int)),some (.int u.2),C]=.ok (.tup ((z47 t u).1.map D.int)):=fun X Y C=>by
  rw [show (z47 t u).1=zd0 t.1 u.1 from zjn _ _]
  exact y43 (a:=t.1) (b:=u.1) rfl (by rw [ht.1,hu]) (by omega) fun x y=>by unfold z29;walk_at "dz"
 have em:zh2 (.int t.2) (.int u.2)=some (.int (z47 t u).2):=by
  rw [show (z47 t u).2=t.2 * u.2 from Int.mul_comm _ _]
  exact zln (by omega)
 generalize hw:z2o l (z47 t u).1=w at *
 generalize z6j l (z47 t u).1 (w+(z47 t u).2)=l' at e2 ⊢
 unfold dnA at *
 generalize (l.map fun t=>kN t.1)=ks at *
 generalize (l.map fun t=>D.int t.2)=ds at *
 generalize (l'.map fun t=>kN t.1)=ks' at *
 generalize (l'.map fun t=>D.int t.2)=ds' at *
 generalize (z47 t u).1.map D.int=es at *
 generalize t.1.map D.int=at' at *
 generalize u.1.map D.int=au at *
 generalize (z47 t u).2=v at *
 generalize t.2=tt at *
 generalize u.2=uu at *
 unfold z2a
 generalize (eCB z2w (z01 (z14 (z9l (z01 (z02 3) (z01 (z02 5) z09))) (bT 2) [] z8x z29) z09))=E at *
 walk_at "dz"
 rw [ez]
 walk_at "dz"
 rw [n1]
 walk_at "dz"
 rw [zol rfl rfl rfl e1]
 walk_at "dz"
 rw [em]
 walk_at "dz"
 rw [n1]
 walk_at "dz"
 rw [e2]
 walk_at "dz"
theorem y24 {m:Nat} (hm:m<=1000) (A:D) (l:List Tm) (B:List Tm) (hB:∀u∈B,u.1.length=m) (t:Tm) (ht:t.1.length=m/\0<t.2/\t.2<=1000) (hl:l.length+B.length<=9000) (s5 s6 s7:Sl):∃s5' s6' s7':Sl,
  z2b [.ow (dnA l),.im A,.im (.lst (B.map TM)),.im (.tup (t.1.map D.int)),.im (.int t.2),s5,s6,s7]=.nx [.ow (dnA (z0f l (B.map (z47 t)))),.im A,.im (.lst (B.map TM)),.im (.tup (t.1.map D.int)),.im (.int t.2),s5',s6',s7']:=by
 obtain ⟨ρ',q,l',s5',s6',s7',⟨h1,_⟩,hr⟩:=z3x (tg:=.t [5,6]) (g:=z2a) (en:=TM)
  (fun r ρ=>∃(l':List Tm) (s5 s6 s7:Sl),(z0f l' (r.map (z47 t))=z0f l (B.map (z47 t))/\l'.length+r.length<=9000/\∀u∈r,u.1.length=m)/\ρ=[.ow (dnA l'),.im A,.im (.lst (B.map TM)),.im (.tup (t.1.map D.int)),.im (.int t.2),s5,s6,s7])
  B [.ow (dnA l),.im A,.im (.lst (B.map TM)),.im (.tup (t.1.map D.int)),.im (.int t.2),s5,s6,s7] ⟨l,s5,s6,s7,⟨rfl,hl,hB⟩,rfl⟩ (by
   rintro u r ρ ⟨l',s5,s6,s7,⟨h1,h2,h3⟩,rfl⟩
   rw [List.length_cons] at h2
   have e:=y23 A (.lst (B.map TM)) hm l' (by omega) t u ht (h3 u List.mem_cons_self) s7
   refine ⟨_,_,rfl,Or.inl e,⟨z6j l' (z47 t u).1 (z2o l' (z47 t u).1+(z47 t u).2),_,_,_,⟨h1,?_,fun v hv=>h3 v (List.mem_cons_of_mem _ hv)⟩,rfl⟩⟩
   have:=zcy l' (z47 t u).1 (z2o l' (z47 t u).1+(z47 t u).2)
   omega)
 refine ⟨s5',s6',s7',?_⟩
 have e:z2b [.ow (dnA l),.im A,.im (.lst (B.map TM)),.im (.tup (t.1.map D.int)),.im (.int t.2),s5,s6,s7]=.nx ρ':=by rw [<-q];rfl
 rw [e,hr,show l'=z0f l (B.map (z47 t)) from h1]
theorem y25 {m:Nat} (hm:m<=1000) (l A B:List Tm) (hA:∀t∈A,t.1.length=m/\0<t.2/\t.2<=1000) (hB:∀u∈B,u.1.length=m) (hl:l.length+A.length * B.length<=9000) :
  z16 [dnA l,.lst (A.map TM),.lst (B.map TM)]=.ok (dnA (z0f l (prs A B))):=by
 obtain ⟨ρ',q,l',s3,s4,s5,s6,s7,⟨h1,h2,h3⟩,hr⟩:=z3x (tg:=.t [3,4]) (g:=z2b) (en:=TM)
  (fun r ρ=>∃(l':List Tm) (s3 s4 s5 s6 s7:Sl),(z0f l' (prs r B)=z0f l (prs A B)/\l'.length+r.length * B.length<=9000/\∀t∈r,t.1.length=m/\0<t.2/\t.2<=1000)/\ρ=[.ow (dnA l'),.im (.lst (A.map TM)),.im (.lst (B.map TM)),s3,s4,s5,s6,s7])
  A [.ow (dnA l),.im (.lst (A.map TM)),.im (.lst (B.map TM)),.em,.em,.em,.em,.em] ⟨l,.em,.em,.em,.em,.em,⟨rfl,hl,hA⟩,rfl⟩ (by
   rintro t r ρ ⟨l',s3,s4,s5,s6,s7,⟨h1,h2,h3⟩,rfl⟩
   rw [List.length_cons,Nat.add_mul] at h2
   obtain ⟨s5',s6',s7',e⟩:=y24 hm (.lst (A.map TM)) l' B hB t (h3 t List.mem_cons_self) (by omega) s5 s6 s7
   refine ⟨_,_,rfl,Or.inl e,⟨_,_,_,_,_,_,⟨?_,?_,fun v hv=>h3 v (List.mem_cons_of_mem _ hv)⟩,rfl⟩⟩
   . rw [zs3,<-z9z];exact h1
   . have:=zcz (B.map (z47 t)) l'
     rw [List.length_map] at this
     omega)
 have e:z5i [.ow (dnA l),.im (.lst (A.map TM)),.im (.lst (B.map TM)),.em,.em,.em,.em,.em]=.nx ρ':=by rw [<-q];rfl
 unfold z16 zys
 dsimp only
 rw [if_pos (show [D.lst (A.map TM),D.lst (B.map TM)].length+1=3 from rfl)]
 show (match z5i [.ow (dnA l),.im (.lst (A.map TM)),.im (.lst (B.map TM)),.em,.em,.em,.em,.em] with | .nx (.ow d'::_)=>R.ok d' | _=>.st)=_
 rw [e,hr,show l'=z0f l (prs A B) from h1]
theorem zyf (ls:List Int):(soI ls).Pairwise (·<=·):=by
 have:=z1b (z2k ls D.int zyr)
 rw [zcg] at this
 unfold Srt at this
 rw [List.pairwise_map] at this
 exact this.imp fun {a b} h=>by
  simp only [ltT,decide_eq_false_iff_not] at h;omega
theorem zen:∀(l:List Int) (j:Nat),j<l.length->(l.getD j 0::l.eraseIdx j).Perm l
 | [],j,h=>by simp at h
 | x::l,0,_=>.refl _
 | x::l,j+1,h=>by
  rw [List.eraseIdx_cons_succ,List.getD_cons_succ]
  exact (List.Perm.swap _ _ _).trans ((zen l j (by simpa using h)).cons x)
theorem zk2 {α β:Type} (f:α->β):∀(l:List α) (k:Nat),(l.map f).eraseIdx k=(l.eraseIdx k).map f
 | [],k=>by simp
 | x::l,0=>rfl
 | x::l,k+1=>by rw [List.map_cons,List.eraseIdx_cons_succ,List.eraseIdx_cons_succ,zk2 f l k];rfl
def rg (n:Nat):List Int:=(List.range n).map fun (k:Nat)=>(k:Int)
theorem zyg (C N:D) (left found:List Int) (num:Int) (hn:0<=num/\num<2147483647) (hl:0<left.length/\left.length<=60) (hf:found.length<=60) (k:Int) (hk:0<=k/\k<60) :
  ∃(j:Nat) (num':Int),j<left.length/\(0<=num'/\num'<2147483647)/\z1x [.im C,.im N,.ow (L left),.ow (L found),.im (.int num),.im (.int k)] =
   .nx [.im C,.im N,.ow (L (left.eraseIdx j)),.ow (L (found++[left.getD j 0])),.im (.int num'),.im (.int k)]:=by
 obtain ⟨num',h'⟩:∃x,x=(num * num+48271 * num+k * k+3) % 2147483647:=⟨_,rfl⟩
 have b0:0<=num':=by rw [h'];exact Int.emod_nonneg _ (by decide)
 have b1:num'<2147483647:=by rw [h'];exact Int.emod_lt_of_pos _ (by decide)
 have s1:z2p false 4 [false,false,false,false,true,true] (eOp zan (eOp z1v (eOp z1v (eOp z1v (eOp zh2 (z02 4) (z02 4)) (eOp zh2 (eC (.int 48271)) (z02 4))) (eOp zh2 (z02 5) (z02 5))) (eC (.int 3))) (eC (.int 2147483647))) [.im C,.im N,.ow (L left),.ow (L found),.im (.int num),.im (.int k)] =
   .nx [.im C,.im N,.ow (L left),.ow (L found),.im (.int num'),.im (.int k)]:=by
  generalize L left=A
  generalize L found=B
  walk_at "dz"
  rw [zln (by omega)]
  walk_at "dz"
  rw [zln (by omega)]
  walk_at "dz"
  rw [zln (by omega)]
  walk_at "dz"
  rw [z99 (by omega),<-h']
  walk_at "dz"
 obtain ⟨i,hi⟩:∃i,i=num' / 7 % (left.length:Int):=⟨_,rfl⟩
 have i0:0<=i:=by rw [hi];exact Int.emod_nonneg _ (by omega)
 have i1:i<left.length:=by rw [hi];exact Int.emod_lt_of_pos _ (by omega)
 refine ⟨i.toNat,num',by omega,⟨b0,b1⟩,?_⟩
 unfold z1x
 rw [z0h s1]
 have ee:z01 (eOp zan (eOp zl4 (z02 4) (eC (.int 7))) (eCB zaq (z01 (z02 2) z09))) z09 (vis [false,false,true,false,true] [.im C,.im N,.ow (.lst (left.map D.int)),.ow (.lst (found.map D.int)),.im (.int num'),.im (.int k)])=.ok [.int i]:=by
  have hlm:(left.map D.int).length=left.length:=List.length_map _
  generalize left.map D.int=A at *
  walk_at "dz"
  rw [zqv (by decide)]
  walk_at "dz"
  rw [hlm,z99 (by omega),<-hi]
  walk_at "dz"
 unfold zir L
 dsimp only [List.getElem?_cons_succ,List.getElem?_cons_zero]
 rw [ee,z2x,show z2g [D.int i]=true from rfl]
 show (if 3≠2/\(found.map D.int).length<100000/\0<=i/\i<((left.map D.int).length:Nat)/\i<2 ^ 63 then SR.nx [.im C,.im N,.ow (.lst ((left.map D.int).eraseIdx i.toNat)),.ow (.lst (found.map D.int++[(left.map D.int).getD i.toNat (.int 0)])),.im (.int num'),.im (.int k)] else .st)=_
 rw [if_pos ⟨by decide,by rw [List.length_map];omega,i0,by rw [List.length_map];exact i1,by omega⟩,List.map_append,zk2,List.getD_eq_getElem?_getD,List.getElem?_map,List.getD_eq_getElem?_getD,List.getElem?_eq_getElem (show i.toNat<left.length by omega)]
 rfl
theorem zyh (cell:Int) (n:Nat) (h4:4<=n) (h8:n<=8):∃a b c d:Int,0<=a/\a<b/\b<c/\c<d/\d<n/\z23 [.int cell,.int (n:Int)]=.ok (L [a,b,c,d]):=by
 obtain ⟨num,hnum⟩:∃x,x=cell % 2147483647:=⟨_,rfl⟩
 have lr:(rg n).length=n:=by unfold rg;rw [List.length_map,List.length_range]
 obtain ⟨ρ',e,left,found,num',s5,hp,hf,hn,hr⟩:=ze2 (tg:=.n 5) (g:=z1x) 4 (fun (i:Nat)=>D.int (i:Int))
  (fun k ρ=>∃(left found:List Int) (num':Int) (s5:Sl),(found++left).Perm (rg n)/\found.length=k/\(0<=num'/\num'<2147483647)/\ρ=[.im (.int cell),.im (.int (n:Int)),.ow (L left),.ow (L found),.im (.int num'),s5])
  [.im (.int cell),.im (.int (n:Int)),.ow (L (rg n)),.ow (L []),.im (.int num),.em] ⟨rg n,[],num,.em,.refl _,rfl,by omega,rfl⟩ (by
   rintro i hi ρ ⟨left,found,num',s5,hp,hf,hn,rfl⟩
   have:=hp.length_eq
   rw [List.length_append,lr] at this
   obtain ⟨j,num2,hj,hb,e⟩:=zyg (.int cell) (.int (n:Int)) left found num' hn (by omega) (by omega) (i:Int) (by omega)
   refine ⟨_,_,rfl,Or.inl e,⟨_,_,_,_,?_,by rw [List.length_append,hf];rfl,hb,rfl⟩⟩
   refine List.Perm.trans ?_ hp
   rw [List.append_assoc]
   refine List.Perm.append_left _ ?_
   exact zen left j hj)
 have nd:found.Nodup:=by
  have:(rg n).Nodup:=by
   unfold rg List.Nodup
   rw [List.pairwise_map]
   exact List.nodup_range.imp fun {a b} h e=>h (by omega)
  exact ((hp.nodup_iff.mpr this).sublist (List.sublist_append_left _ _))
 have mb:∀x∈found,0<=x/\x<n:=fun x hx=>by
  have:=hp.mem_iff.mp (List.mem_append_left left hx)
  unfold rg at this
  obtain ⟨k,hk,rfl⟩:=List.mem_map.mp this
  rw [List.mem_range] at hk;omega
 have sp:=ze4 found
 have sl:=zyf found
 have snd:=sp.nodup_iff.mpr nd
 have sm':∀x∈soI found,0<=x/\x<n:=fun x hx=>mb x (sp.mem_iff.mp hx)
 have sln:=sp.length_eq
 rw [hf] at sln
 have so:=zlp found (by omega)
 generalize soI found=q at *
 match q,sln with
 | [a,b,c,d],_=>
  simp only [List.pairwise_cons,List.nodup_cons,List.mem_cons,List.not_mem_nil,or_false,not_or,forall_eq_or_imp,forall_eq] at sl snd sm'
  refine ⟨a,b,c,d,by omega,by omega,by omega,by omega,by omega,?_⟩
  unfold z23
  rw [z96,if_pos (show [D.int cell,D.int (n:Int)].length=2 from rfl)]
  show SR.out true (z4j [.im (.int cell),.im (.int (n:Int)),.em,.em,.em,.em])=_
  unfold z4j
  rw [z0h (ρ':=[.im (.int cell),.im (.int (n:Int)),.ow (L (rg n)),.em,.em,.em]) (by
   walk_at "dz"
   rw [show eLR (z01 (z02 1) z09) [some (.int cell),some (.int (n:Int)),none,none,none,none]=.ok (L (rg n)) by
    unfold eLR
    walk_at "dz"
    rw [if_pos (by omega),Int.toNat_natCast]
    rfl]
   have:z2g ((rg n).map D.int)=true:=z12 D.int _ fun x _=>z4f x
   unfold L
   generalize (rg n).map D.int=A at *
   walk_at "dz"
   rw [this]
   rfl)]
  rw [z0h (ρ':=[.im (.int cell),.im (.int (n:Int)),.ow (L (rg n)),.ow (L []),.em,.em]) (by
   generalize L (rg n)=A
   walk_at "dz"
   rfl)]
  rw [z0h (ρ':=[.im (.int cell),.im (.int (n:Int)),.ow (L (rg n)),.ow (L []),.im (.int num),.em]) (by
   generalize L (rg n)=A
   walk_at "dz"
   rw [z99 (by decide),<-hnum]
   walk_at "dz")]
  rw [z0h (ρ':=ρ') (by rw [<-e];rfl),hr,z7x]
  generalize L left=A
  generalize L found=B at *
  walk_at "dz"
  rw [so]
  walk_at "dz"
theorem Fy.few {row:List Int} {ls:List P2} {T:List P3} {v:Nat->Vc} (F:Fy row ls T v) (h8:row.length<=8) {a b:Int} (h:0<=a/\a<b/\b<(row.length:Int)):(Sh [a,b] (so3 T)).length<=32/\Sh [a,b] (so3 T)≠[]:=by
 obtain ⟨a,rfl⟩:=Int.eq_ofNat_of_zero_le h.1
 obtain ⟨b,rfl⟩:=Int.eq_ofNat_of_zero_le (show 0<=b by omega)
 have h1:=F.sc a b (by omega) (by omega)
 unfold cn mm at h1
 rw [if_neg (by omega),Nat.min_eq_left (by omega),Nat.max_eq_right (by omega)] at h1
 have h2:=F.f.good.bd a b (by omega) (by omega)
 have h3:(2:Int) ^ (row.length - 3)<=2 ^ 5:=by
  have:2 ^ (row.length - 3)<=2 ^ 5:=Nat.pow_le_pow_right (by decide) (by omega)
  exact_mod_cast this
 have h4:(2:Int) ^ 5=32:=by decide
 have h5:=F.f.good.fr.pos a b (by omega) (by omega)
 refine ⟨by omega,fun e=>?_⟩
 rw [e] at h1
 simp at h1
 omega
section
variable {row:List Int} {ls:List P2} {T:List P3} {v:Nat->Vc}
theorem Fy.fr (F:Fy row ls T v) (h8:row.length<=8) {a b:Int} (h:0<=a/\a<b/\b<(row.length:Int)) :
  z0n [z7o row.length ls,.tup [.int a,.int b]]=.ok (.lst ((Fr (Ls row.length ls) (so2 ls) (so3 T) a b).map TM)):=
 zs7 F.f.good.len F.f.inv F.f.len (by omega) h (by have:=(F.few h8 h).1;omega)
theorem Fy.put (F:Fy row ls T v) (h8:row.length<=8) {a b c d:Int} (h:0<=a/\a<b/\b<(row.length:Int)) (k:0<=c/\c<d/\d<(row.length:Int)) (l:List Tm) (hl:l.length<=5000) :
  z16 [dnA l,.lst ((Fr (Ls row.length ls) (so2 ls) (so3 T) a b).map TM),.lst ((Fr (Ls row.length ls) (so2 ls) (so3 T) c d).map TM)]=.ok (dnA (z0f l (prs (Fr (Ls row.length ls) (so2 ls) (so3 T) a b) (Fr (Ls row.length ls) (so2 ls) (so3 T) c d)))) /\
   (prs (Fr (Ls row.length ls) (so2 ls) (so3 T) a b) (Fr (Ls row.length ls) (so2 ls) (so3 T) c d)).length<=1024:=by
 have f1:=zor (Ls row.length ls) (so2 ls) (so3 T) a b
 have f2:=zor (Ls row.length ls) (so2 ls) (so3 T) c d
 have g1:=(F.few h8 h).1
 have g2:=(F.few h8 k).1
 have hL:(Ls row.length ls).length<=1000:=by rw [zom];have:=F.f.len;omega
 have hm:(Fr (Ls row.length ls) (so2 ls) (so3 T) a b).length * (Fr (Ls row.length ls) (so2 ls) (so3 T) c d).length<=32 * 32:=Nat.mul_le_mul (by omega) (by omega)
 refine ⟨y25 hL l _ _ (fun t ht=>?_) (fun u hu=>(f2.2 u hu).2.2) (by omega),by rw [zd1];omega⟩
 have:=f1.2 t ht
 exact ⟨this.2.2,this.1,by omega⟩
theorem zsa {i:Nat} {m:List Bool} {mU:List D->R D} {fs:DE->R (List D)} {ρ:DS} {d d':D} {ds:List D} (h1:ρ[i]?=some (.ow d)) (hf:fs (vis m ρ)=.ok ds) (ht:z4b (z2g ds) m ρ=ρ) (hl:ds.length+1=3) (hm:mU (d::ds)=.ok d'):znu i m mU 3 fs ρ=.nx (ρ.set i (.ow d')):=by
 unfold znu
 rw [h1]
 dsimp only
 rw [hf,z2x,ht,h1]
 dsimp only
 rw [if_pos hl,hm]
theorem y26 (F:Fy row ls T v) (h4:4<=row.length) (h8:row.length<=8) (S M:D) (cell:Int) (s5 s6 s7 s8 s9 s10:Sl):∃s5' s6' s7' s8' s9' s10':Sl,
  z9p [.im S,.im (L row),.im M,.im (z7o row.length ls),.im (.int cell),s5,s6,s7,s8,s9,s10]=.nx [.im S,.im (L row),.im M,.im (z7o row.length ls),.im (.int cell),s5',s6',s7',s8',s9',s10']:=by
 obtain ⟨a,b,c,d,h0,h1,h2,h3,h5,ef⟩:=zyh cell row.length h4 h8
 have hab:=F.fr h8 (a:=a) (b:=b) (by omega)
 have hcd:=F.fr h8 (a:=c) (b:=d) (by omega)
 have hac:=F.fr h8 (a:=a) (b:=c) (by omega)
 have hbd:=F.fr h8 (a:=b) (b:=d) (by omega)
 have had:=F.fr h8 (a:=a) (b:=d) (by omega)
 have hbc:=F.fr h8 (a:=b) (b:=c) (by omega)
 have p1:=F.put h8 (a:=a) (b:=c) (c:=b) (d:=d) (by omega) (by omega) [] (by decide)
 have p2:=F.put h8 (a:=a) (b:=b) (c:=c) (d:=d) (by omega) (by omega) [] (by decide)
 have p3:=F.put h8 (a:=a) (b:=d) (c:=b) (d:=c) (by omega) (by omega) (z0f [] (prs (Fr (Ls row.length ls) (so2 ls) (so3 T) a b) (Fr (Ls row.length ls) (so2 ls) (so3 T) c d))) (by
  have:=zcz (prs (Fr (Ls row.length ls) (so2 ls) (so3 T) a b) (Fr (Ls row.length ls) (so2 ls) (so3 T) c d)) []
  rw [List.length_nil] at this
  omega)
 have pf:=zmh (Ls row.length ls) (so2 ls) F.pt h0 h1 h2 h3 h5
 have nn:prs (Fr (Ls row.length ls) (so2 ls) (so3 T) a c) (Fr (Ls row.length ls) (so2 ls) (so3 T) b d)≠[]:=zyd (zyc _ _ (F.few h8 (by omega)).2) (zyc _ _ (F.few h8 (by omega)).2)
 have q:∀i k,Ps (Fr (Ls row.length ls) (so2 ls) (so3 T) i k):=fun i k=>zyb _ _ _ i k
 have q1:=zk0 (q a c) (q b d)
 have q2:=zk0 (q a b) (q c d)
 have q3:=zk0 (q a d) (q b c)
 clear q
 have p1:=p1.1
 have p2:=p2.1
 have p3:=p3.1
 generalize prs (Fr (Ls row.length ls) (so2 ls) (so3 T) a c) (Fr (Ls row.length ls) (so2 ls) (so3 T) b d)=P1 at *
 generalize prs (Fr (Ls row.length ls) (so2 ls) (so3 T) a b) (Fr (Ls row.length ls) (so2 ls) (so3 T) c d)=P2 at *
 generalize prs (Fr (Ls row.length ls) (so2 ls) (so3 T) a d) (Fr (Ls row.length ls) (so2 ls) (so3 T) b c)=P3 at *
 have n0:(z0e ([]:List Tm)).Nodup:=List.nodup_nil
 have eN:=y21 (z55 P1 [] n0) (z55 P3 _ (z55 P2 [] n0)) (Ps.add zjy q1) (Ps.add (Ps.add zjy q2) q3) (fun j=>by
  rw [z9y,z9y,z9y,zjh,pf j];omega) true
 have e0:=y22 (zjx (a:=[]) (.inr nn))
 generalize z0f [] P1=X at *
 generalize z0f (z0f [] P2) P3=Y at *
 generalize z0f [] P2=Z at *
 have kL:∀l:List Tm,z2g (l.map TM)=true:=fun l=>z12 _ _ fun x _=>zy5 x
 generalize Fr (Ls row.length ls) (so2 ls) (so3 T) a b=Fab at *
 generalize Fr (Ls row.length ls) (so2 ls) (so3 T) c d=Fcd at *
 generalize Fr (Ls row.length ls) (so2 ls) (so3 T) a c=Fac at *
 generalize Fr (Ls row.length ls) (so2 ls) (so3 T) b d=Fbd at *
 generalize Fr (Ls row.length ls) (so2 ls) (so3 T) a d=Fad at *
 generalize Fr (Ls row.length ls) (so2 ls) (so3 T) b c=Fbc at *
 generalize z7o row.length ls=cut at *
 refine ⟨.im (.int a),.im (.int b),.im (.int c),.im (.int d),.ow (dnA X),.ow (dnA Y),?_⟩
 unfold z9p
 rw [z0h (ρ':=[.im S,.im (L row),.im M,.im cut,.im (.int cell),.im (.int a),.im (.int b),.im (.int c),.im (.int d),s9,s10]) (by
  walk_at "dz"
  rw [ef]
  walk_at "dz")]
 rw [z0h (ρ':=[.im S,.im (L row),.im M,.im cut,.im (.int cell),.im (.int a),.im (.int b),.im (.int c),.im (.int d),.ow (dnA []),s10]) (by
  generalize L row=r
  unfold z2p z9d
  rfl)]
 rw [z0h (ρ':=[.im S,.im (L row),.im M,.im cut,.im (.int cell),.im (.int a),.im (.int b),.im (.int c),.im (.int d),.ow (dnA X),s10]) (zsa (ds:=[.lst (Fac.map TM),.lst (Fbd.map TM)]) rfl (by
  walk_at "dz"
  rw [hac]
  walk_at "dz"
  rw [hbd]
  walk_at "dz") rfl rfl p1)]
 rw [z0h (ρ':=[.im S,.im (L row),.im M,.im cut,.im (.int cell),.im (.int a),.im (.int b),.im (.int c),.im (.int d),.ow (dnA X),.ow (dnA [])]) (by
  generalize L row=r
  unfold z2p z9d
  rfl)]
 rw [z0h (ρ':=[.im S,.im (L row),.im M,.im cut,.im (.int cell),.im (.int a),.im (.int b),.im (.int c),.im (.int d),.ow (dnA X),.ow (dnA Z)]) (zsa (ds:=[.lst (Fab.map TM),.lst (Fcd.map TM)]) rfl (by
  walk_at "dz"
  rw [hab]
  walk_at "dz"
  rw [hcd]
  walk_at "dz") rfl rfl p2)]
 rw [z0h (ρ':=[.im S,.im (L row),.im M,.im cut,.im (.int cell),.im (.int a),.im (.int b),.im (.int c),.im (.int d),.ow (dnA X),.ow (dnA Y)]) (zsa (ds:=[.lst (Fad.map TM),.lst (Fbc.map TM)]) rfl (by
  walk_at "dz"
  rw [had]
  walk_at "dz"
  rw [hbc]
  walk_at "dz") rfl rfl p3)]
 unfold dnA at *
 generalize L row=r at *
 walk_at "dz"
 simp only [z9d]
 walk_at "dz"
 rw [e0]
 walk_at "dz"
 rw [eN]
 walk_at "dz"
end
theorem zk3 (ns:List Int) (a b:Nat):(z8w ns (some (a:Int)) (some ((a+b:Nat):Int))).length<=b:=by
 unfold z8w
 rw [show HT.sIx ns.length ns.length (some ((a+b:Nat):Int))=min (a+b) ns.length by unfold HT.sIx;simp only;rw [if_neg (by omega)];omega,show HT.sIx ns.length 0 (some (a:Int))=min a ns.length by unfold HT.sIx;simp only;rw [if_neg (by omega)];omega]
 rw [List.length_take];omega
theorem zmj (ns:List Int) (hns:ns.length<=63):zfi [.scr ns]=.ok (.bl true):=by
 obtain ⟨row,ls,T,v,X,h4,h8,ef⟩:=zs6 (drw ns 0) (z8w ns (some 1) (some 5)) (zk3 ns 1 4)
 have h3:=X.f.good.len
 have hl:=X.f.len
 have hc2:(z8w ns (some 6) (some 8)).length<=2:=zk3 ns 6 2
 have kf:z2g ((so2 ls).map T2)=true:=z12 _ _ fun x _=>zaz x
 unfold zfi
 rw [z96,if_pos (show [D.scr ns].length=1 from rfl)]
 show SR.out false (zrr [.im (.scr ns),.em,.em,.em,.em,.em,.em,.em,.em,.em,.em])=_
 unfold zrr
 rw [z0h (ρ':=[.im (.scr ns),.im (L row),.im (.lst ((so2 ls).map T2)),.em,.em,.em,.em,.em,.em,.em,.em]) (by
  walk_at "dz"
  rw [zja]
  walk_at "dz"
  rw [ef]
  simp only [z2x]
  rw [show keeps false (D.tup [L row,.lst ((so2 ls).map T2)])=false by rw [z6h,ze0];simp only [L,z98,Bool.false_and]]
  walk_at "dz")]
 rw [z0h (ρ':=[.im (.scr ns),.im (L row),.im (.lst ((so2 ls).map T2)),.im (z7o row.length ls),.em,.em,.em,.em,.em,.em,.em]) (by
  unfold z7o
  generalize (so2 ls).map T2=l' at *
  walk_at "dz"
  rw [kf]
  walk_at "dz")]
 obtain ⟨ρ',q,s4,s5,s6,s7,s8,s9,s10,hr⟩:=z3x (tg:=.n 4) (g:=z9p) (en:=D.int)
  (fun r ρ=>∃s4 s5 s6 s7 s8 s9 s10:Sl,ρ=[.im (.scr ns),.im (L row),.im (.lst ((so2 ls).map T2)),.im (z7o row.length ls),s4,s5,s6,s7,s8,s9,s10])
  (drw ns 5::z8w ns (some 6) (some 8)) [.im (.scr ns),.im (L row),.im (.lst ((so2 ls).map T2)),.im (z7o row.length ls),.em,.em,.em,.em,.em,.em,.em] ⟨.em,.em,.em,.em,.em,.em,.em,rfl⟩ (by
   rintro cell r ρ ⟨s4,s5,s6,s7,s8,s9,s10,rfl⟩
   obtain ⟨t5,t6,t7,t8,t9,t10,e⟩:=y26 X h4 h8 (.scr ns) (.lst ((so2 ls).map T2)) cell s5 s6 s7 s8 s9 s10
   exact ⟨_,_,rfl,Or.inl e,⟨_,_,_,_,_,_,_,rfl⟩⟩)
 rw [z0h (ρ':=ρ') (by
  rw [<-q]
  unfold zc2
  rw [show iL (eOp zc4 (zbk (z01 (z0i z0y (z01 (z02 0) (z01 (eC (.int 5)) z09))) z09)) (eSl dSl (z02 0) (oSo (eC (.int 6))) (oSo (eC (.int 8))))) (vis [true] [.im (.scr ns),.im (L row),.im (.lst ((so2 ls).map T2)),.im (z7o row.length ls),.em,.em,.em,.em,.em,.em,.em])=.ok ((drw ns 5::z8w ns (some 6) (some 8)).map D.int) by
   walk_at "dz"
   rw [zja]
   walk_at "dz"
   rw [show zc4 (D.lst [D.int (drw ns 5)]) (L (z8w ns (some 6) (some 8)))=some (.lst (.int (drw ns 5)::(z8w ns (some 6) (some 8)).map D.int)) by
    simp only [zc4,L]
    rw [if_pos (by simp only [List.length_cons,List.length_nil,List.length_map];omega)]
    rfl]
   rfl]
  rfl),hr,z7x]
 rfl
end K67
namespace K67
open PySem PySem.Spec PyProof.Rows L2
theorem walk {l:PySem.W.OpenLaw} {q:Program} {loose:List Str} {XP:(Str->Option Value)->Heap->Prop} {YP:World->Heap->Prop} {d:DefRec} {K:Params->Frag} (hn:l.most=some 63) (hdf:d.params.defaults=[])
  (hY:∀(w:World) (h:Heap),YP w h->(K w.params).In h)
  (F:∀(w:World) (mg:Str->Option Value) (fa:Addr) (h:Heap),(K w.params).In h->h.Ns mainGlobals mg->mg d.name=some (.ref fa) ->
   ∃fd:FuncData,(∀(s:Shared) (u:Value),BindsTo s fd ⟨[u],[]⟩ [("_law_script",u)])/\∀base:Heap,(K w.params).In base->base.Ns mainGlobals mg->FnOk l.prog w (K w.params) mg base (CX1 l.prog w) 7 fa fd ["_law_script"] (spL (K w.params) false zfi 1)) :
  PySem.W.WalkO q loose XP YP l.row.toRowW d [] (fun f vs=>PySem.call f vs):=
 L2.walk_of (n:=63) (k:=7) (x:="_law_script") (CX:=fun w=>CX1 l.prog w) (sp:=fun w=>(spL (K w.params) false zfi 1)) hn (by decide) hdf ⟨rfl,by decide,by decide⟩ hY F (fun _ _ a ns hl hO hS=>zuj hO hS (zmj ns hl)) fun _ _ _ _ _ ⟨_,_,_,_,_,_,z⟩=>z
end K67
open PySem PySem.W PyProof.Rows
set_option maxRecDepth 100000 in
set_option maxHeartbeats 0 in
theorem PySem.Challenge.cw_friezeyard_k67_four_corners_holds : PySem.Challenge.rw_friezeyard_k67_four_corners.Holds := by
 w_on;o_law
 refine holds_open (q:=K67.q) (loose:=[]) (Xt:=K67.xtH) (XP:=XL K67.q []) (Yf:=K67.hook.obs) (Ya:=K67.hook.val)
  (YP:=K67.hook.says) (N:=3216) K67.left K67.hook.of K67.hook.keeps
  (fun s e=>xl_of s (Bool.and_eq_true_iff.mp e).1) XL.keeps (by rfl) (by rfl) (by rfl)
  (fun s e=>recFacts_of (Bool.and_eq_true_iff.mp e).2) (by rfl) (by assumption) (by decide +kernel)
  ⟨rfl,rfl,rfl,rfl,rfl,by decide +kernel⟩ ?hw ?hc
 (case hw=>w_witness2)
 refine K67.walk (l:=PySem.Challenge.rw_friezeyard_k67_four_corners) (K:=K67.K) rfl rfl (fun w h Y=>Y) ?F
 case F=>
  intro w mg fa h KX G hmg
  k_fill
  refine' K67.all_mk KX G hmg ?A0 ?A1 ?A2 ?A3 ?A4 ?A5 ?A6 ?A7 ?A8 ?A9 ?A10 ?A11 ?A12 ?A13 ?A14 ?A15 ?A16 ?A17 ?A18 ?A19 ?A20 ?A21 ?T
  (case A0=>apply L2.fat;k_is;k_is;k_is;k_is)
  (case A1=>apply L2.fat;k_is;k_is;k_is;k_is)
  (case A2=>apply L2.fat;k_is;k_is;k_is;k_is)
  (case A3=>apply L2.fat;k_is;k_is;k_is;k_is)
  (case A4=>apply L2.fat;k_is;k_is;k_is;k_is)
  (case A5=>apply L2.fat;k_is;k_is;k_is;k_is)
  (case A6=>apply L2.fat;k_is;k_is;k_is;k_is)
  (case A7=>apply L2.fat;k_is;k_is;k_is;k_is)
  (case A8=>apply L2.fat;k_is;k_is;k_is;k_is)
  (case A9=>apply L2.fat;k_is;k_is;k_is;k_is)
  (case A10=>apply L2.fat;k_is;k_is;k_is;k_is)
  (case A11=>apply L2.fat;k_is;k_is;k_is;k_is)
  (case A12=>apply L2.fat;k_is;k_is;k_is;k_is)
  (case A13=>apply L2.fat;k_is;k_is;k_is;k_is)
  (case A14=>apply L2.fat;k_is;k_is;k_is;k_is)
  (case A15=>apply L2.fat;k_is;k_is;k_is;k_is)
  (case A16=>apply L2.fat;k_is;k_is;k_is;k_is)
  (case A17=>apply L2.fat;k_is;k_is;k_is;k_is)
  (case A18=>apply L2.fat;k_is;k_is;k_is;k_is)
  (case A19=>apply L2.fat;k_is;k_is;k_is;k_is)
  (case A20=>apply L2.fat;k_is;k_is;k_is;k_is)
  (case A21=>apply L2.fat;k_is;k_is;k_is;k_is)
  (case T=>constructor<;>exact mg_none_of KX G (by k_is))
